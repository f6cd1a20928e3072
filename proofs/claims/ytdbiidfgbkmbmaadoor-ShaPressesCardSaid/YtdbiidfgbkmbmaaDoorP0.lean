/- The machine of this program: its tables and what it knows of functions. -/
import Derived.Test.YtdbiidfgbkmbmaaDoorT
import Derived.Test.YtdbiidfgbkmbmaaDoorE30
import Derived.Test.YtdbiidfgbkmbmaaDoorM0
namespace Go.Proofs.YtdbiidfgbkmbmaaDoor
open Go.RowKit
def TU8 : Ty := .int .u8
def gl : Nat → AV := nth .junk [.ipt (.agg true 8 fun _ => .int .u32) (.agg true 8 fun i => .u32 (at32 H0 i)), .ipt (.agg true 64 fun _ => .int .u32) (.agg true 64 fun i => .u32 (at32 KK i))]
abbrev PG (l : List (FuncId × Ctr)) : Pg := ⟨ty, gl, ctrOf l⟩
abbrev Gd (f : FuncId) (C : Ctr) : Prop := Good Tryd.prog ty gl f C
theorem gl_flat (g : Nat) : NoRow (gl g) := by
  match g with
  | 0 => exact fun _ _ => trivial
  | 1 => exact fun _ _ => trivial
  | (n + 2) => exact trivial
theorem pgOK {l : List (FuncId × Ctr)} (h : AllP (fun q => Gd q.1 q.2) l) : PgOK Tryd.prog (PG l) := ⟨gl_flat, tysOK, mxOK, ctrOK_of h⟩
/-- Bytes in a row, and words. -/
abbrev bys (b : Nat → BitVec 8) : Nat → AV := fun i => .u8 (b i)
abbrev wds (b : Nat → BitVec 32) : Nat → AV := fun i => .u32 (b i)
abbrev bsl (l : Nat) (b : Nat → BitVec 8) : AV := .imm false (.int .u8) l (bys b)
abbrev bsf (l : Nat) (b : Nat → BitVec 8) : AV := .imm true (.int .u8) l (bys b)
abbrev arr8 (l : Nat) (b : Nat → BitVec 8) : AV := .agg true l (bys b)
abbrev arr32 (l : Nat) (b : Nat → BitVec 32) : AV := .agg true l (wds b)
end Go.Proofs.YtdbiidfgbkmbmaaDoor
