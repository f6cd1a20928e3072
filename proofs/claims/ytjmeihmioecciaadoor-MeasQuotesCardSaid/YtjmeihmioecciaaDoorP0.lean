/- The machine of this program: its tables and what it knows of functions. -/
import Derived.Test.YtjmeihmioecciaaDoorT
import Derived.Test.YtjmeihmioecciaaDoorGF
import Derived.Test.YtjmeihmioecciaaDoorRows
import Derived.Test.YtjmeihmioecciaaDoorM0
namespace Go.Proofs.YtjmeihmioecciaaDoor
open Go.RowKit
def TU8 : Ty := .int .u8
def glT : List (Nat × AV) := [(0, .ipt (.agg true 8 fun _ => .int .u32) (.agg true 8 fun i => .u32 (at32 H0 i))), (1, .ipt (.agg true 64 fun _ => .int .u32) (.agg true 64 fun i => .u32 (at32 KK i)))]
def gl : Nat → AV := look glT .junk
abbrev PG (l : List (FuncId × Ctr)) : Pg := { ty := ty, gl := gl, ctr := ctrOf l }
abbrev Gd (f : FuncId) (C : Ctr) : Prop := Good Tryd.prog ty gl f C
theorem look_flat {l : List (Nat × AV)} (h : AllP (fun q => NoRow q.2) l) (g : Nat) : NoRow (look l .junk g) := by
  induction l with
  | nil => exact trivial
  | cons q l ih =>
    obtain ⟨k, v⟩ := q
    show NoRow (bif Nat.beq g k then v else look l .junk g)
    cases Nat.beq g k
    · exact ih h.2
    · exact h.1
theorem gl_flat (g : Nat) : NoRow (gl g) := look_flat (l := glT) (And.intro (fun _ _ => trivial) (And.intro (fun _ _ => trivial) trivial)) g
theorem pgOK {l : List (FuncId × Ctr)} (h : AllP (fun q => Gd q.1 q.2) l) : PgOK Tryd.prog (PG l) := ⟨gl_flat, tysOK, mxOK, ctrOK_of h, fun _ _ h => by cases h⟩
/-- Bytes in a row, and words. -/
abbrev bys (b : Nat → BitVec 8) : Nat → AV := fun i => .u8 (b i)
abbrev wds (b : Nat → BitVec 32) : Nat → AV := fun i => .u32 (b i)
abbrev bsl (l : Nat) (b : Nat → BitVec 8) : AV := .imm false (.int .u8) l (bys b)
abbrev bsf (l : Nat) (b : Nat → BitVec 8) : AV := .imm true (.int .u8) l (bys b)
abbrev arr8 (l : Nat) (b : Nat → BitVec 8) : AV := .agg true l (bys b)
abbrev arr32 (l : Nat) (b : Nat → BitVec 32) : AV := .agg true l (wds b)
end Go.Proofs.YtjmeihmioecciaaDoor
