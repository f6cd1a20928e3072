/- The machine of this program: what it knows of functions. -/
import Derived.Test.YtlbghllhcihjcaaT
import Derived.Test.YtlbghllhcihjcaaGH
namespace Go.Proofs.Ytlbghllhcihjcaa
open Go.RowKit
def gl : Nat → AV := fun _ => .junk
abbrev PG (l : List (FuncId × Ctr)) : Pg := { ty := ty, gl := gl, ctr := ctrOf l }
abbrev Gd (f : FuncId) (C : Ctr) : Prop := Good Try.prog ty gl f C
theorem gl_flat (g : Nat) : NoRow (gl g) := trivial
theorem pgOK {l : List (FuncId × Ctr)} (h : AllP (fun q => Gd q.1 q.2) l) : PgOK Try.prog (PG l) := ⟨gl_flat, tysOK, mxOK, ctrOK_of h, fun _ _ h => by cases h⟩
/-- Bytes in a row, and words. -/
abbrev bys (b : Nat → BitVec 8) : Nat → AV := fun i => .u8 (b i)
abbrev wds (b : Nat → BitVec 32) : Nat → AV := fun i => .u32 (b i)
abbrev bsl (l : Nat) (b : Nat → BitVec 8) : AV := .imm false (.int .u8) l (bys b)
abbrev bsf (l : Nat) (b : Nat → BitVec 8) : AV := .imm true (.int .u8) l (bys b)
abbrev arr8 (l : Nat) (b : Nat → BitVec 8) : AV := .agg true l (bys b)
abbrev arr32 (l : Nat) (b : Nat → BitVec 32) : AV := .agg true l (wds b)
theorem eqB_agg {u u' : Bool} {n : Nat} {F G : Nat → AV} (h : ∀ i, i < n → AEq (F i) (G i)) : eqB (.agg u n F) (.agg u' n G) = true := eqB_iff.2 h
theorem bad {b : Bool} {p : Prop} (h1 : b = true) (h2 : b = false) : p := by rw [h1] at h2; cases h2
theorem dno {p q : Prop} [Decidable p] (h : ¬ p) (e : decide p = true) : q := absurd (of_decide_eq_true e) h
theorem dyes {p q : Prop} [Decidable p] (h : p) (e : decide p = false) : q := absurd h (of_decide_eq_false e)
theorem nbang {b : Bool} {p : Prop} (h2 : (!b) = true) (h1 : b = true) : p := by rw [h1] at h2; cases h2
end Go.Proofs.Ytlbghllhcihjcaa
