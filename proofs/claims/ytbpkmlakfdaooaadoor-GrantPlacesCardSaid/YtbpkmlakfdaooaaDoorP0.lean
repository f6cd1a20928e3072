/- The machine of this program: its table and what it knows of functions. -/
import Derived.Test.YtbpkmlakfdaooaaDoorT
import Derived.Test.YtbpkmlakfdaooaaDoorGF
import Derived.Test.YtbpkmlakfdaooaaDoorGG
import Derived.Test.YtbpkmlakfdaooaaDoorGH
import Derived.Test.YtbpkmlakfdaooaaDoorRows
namespace Go.Proofs.YtbpkmlakfdaooaaDoor
open Go.RowKit
abbrev TReg : Ty := ty 47
def rb (i : Nat) : Nat := [0, 536870912, 536875008, 268435456, 1073741824, 1610612736].getD i 0
def rs (i : Nat) : Nat := [0, 4096, 4096, 10240, 64, 256].getD i 0
def regV (i : Nat) : AV := .agg false 2 (nth .junk [.u32 (BitVec.ofInt 32 (rb i : Int)), .u32 (BitVec.ofInt 32 (rs i : Int))])
def regsA : AV := .agg true 6 regV
def glT : List (Nat × AV) := [(0, .ipt TReg regsA)]
def gl : Nat → AV := look glT .junk
abbrev PG (l : List (FuncId × Ctr)) : Pg := { ty := ty, gl := gl, ctr := ctrOf l }
abbrev Gd (f : FuncId) (C : Ctr) : Prop := Good Tryd.prog ty gl f C
theorem look_flat {l : List (Nat × AV)} (h : AllP (fun q => NoRow q.2) l) (g : Nat) : NoRow (look l .junk g) := by
  induction l with
  | nil => exact trivial
  | cons q l ih =>
    obtain ⟨k, v⟩ := q
    show NoRow (bif Nat.beq g k then v else look l .junk g)
    cases Nat.beq g k
    · exact ih h.2
    · exact h.1
theorem gl_flat (g : Nat) : NoRow (gl g) := look_flat (l := glT) (And.intro (show NoRow regsA from fun i _ j _ => by rcases j with _ | _ | j <;> exact trivial) trivial) g
theorem pgOK {l : List (FuncId × Ctr)} (h : AllP (fun q => Gd q.1 q.2) l) : PgOK Tryd.prog (PG l) := ⟨gl_flat, tysOK, mxOK, ctrOK_of h, fun _ _ h => by cases h⟩
theorem eqB_agg {u u' : Bool} {n : Nat} {F G : Nat → AV} (h : ∀ i, i < n → AEq (F i) (G i)) : eqB (.agg u n F) (.agg u' n G) = true := eqB_iff.2 h
theorem bad {b : Bool} {p : Prop} (h1 : b = true) (h2 : b = false) : p := by rw [h1] at h2; cases h2
theorem dno {p q : Prop} [Decidable p] (h : ¬ p) (e : decide p = true) : q := absurd (of_decide_eq_true e) h
theorem dyes {p q : Prop} [Decidable p] (h : p) (e : decide p = false) : q := absurd h (of_decide_eq_false e)
theorem nbang {b : Bool} {p : Prop} (h2 : (!b) = true) (h1 : b = true) : p := by rw [h1] at h2; cases h2
theorem own_res {a b : AV} (ha : Own a) (hb : Own b) : Own (tupOf [a, b]) := fun i hi => by
  rcases i with _ | _ | i
  · exact ha
  · exact hb
  · exact absurd hi (by show ¬ i + 2 < 2; omega)
theorem own_res3 {a b c : AV} (ha : Own a) (hb : Own b) (hc : Own c) : Own (tupOf [a, b, c]) := fun i hi => by
  rcases i with _ | _ | _ | i
  · exact ha
  · exact hb
  · exact hc
  · exact absurd hi (by show ¬ i + 3 < 3; omega)
end Go.Proofs.YtbpkmlakfdaooaaDoor
