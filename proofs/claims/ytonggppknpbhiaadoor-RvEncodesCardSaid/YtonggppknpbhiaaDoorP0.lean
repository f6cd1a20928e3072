/- The machine of this program: its table of names and what it knows of functions. -/
import Derived.Test.YtonggppknpbhiaaDoorT
import Derived.Test.YtonggppknpbhiaaDoorGH
import Derived.Test.YtonggppknpbhiaaDoorRows
namespace Go.Proofs.YtonggppknpbhiaaDoor
open Go.RowKit
abbrev TNam : Ty := ty 66
def nmL : List (List UInt8) := [[], [108, 117, 105], [97, 117, 105, 112, 99], [106, 97, 108], [106, 97, 108, 114], [98, 101, 113], [98, 110, 101], [98, 108, 116], [98, 103, 101], [98, 108, 116, 117], [98, 103, 101, 117], [108, 98], [108, 104], [108, 119], [108, 98, 117], [108, 104, 117], [115, 98], [115, 104], [115, 119], [97, 100, 100, 105], [115, 108, 116, 105], [115, 108, 116, 105, 117], [120, 111, 114, 105], [111, 114, 105], [97, 110, 100, 105], [115, 108, 108, 105], [115, 114, 108, 105], [115, 114, 97, 105], [97, 100, 100], [115, 117, 98], [115, 108, 108], [115, 108, 116], [115, 108, 116, 117], [120, 111, 114], [115, 114, 108], [115, 114, 97], [111, 114], [97, 110, 100], [102, 101, 110, 99, 101], [101, 99, 97, 108, 108], [101, 98, 114, 101, 97, 107], [109, 114, 101, 116], [119, 102, 105], [99, 115, 114, 114, 119], [99, 115, 114, 114, 115], [99, 115, 114, 114, 99], [99, 115, 114, 114, 119, 105], [99, 115, 114, 114, 115, 105], [99, 115, 114, 114, 99, 105], [109, 117, 108], [109, 117, 108, 104], [109, 117, 108, 104, 115, 117], [109, 117, 108, 104, 117], [100, 105, 118], [100, 105, 118, 117], [114, 101, 109], [114, 101, 109, 117]]
def nm (i : Nat) : List UInt8 := nmL.getD i []
def namA : AV := .agg true 57 (fun i => .str (nm i))
def glT : List (Nat × AV) := [(0, .ipt TNam namA)]
def gl : Nat → AV := look glT .junk
abbrev PG (l : List (FuncId × Ctr)) : Pg := { ty := ty, gl := gl, ctr := ctrOf l }
abbrev Gd (f : FuncId) (C : Ctr) : Prop := Good Tryd.prog ty gl f C
theorem look_flat {l : List (Nat × AV)} (h : AllP (fun q => NoRow q.2) l) (g : Nat) : NoRow (look l .junk g) := by
  induction l with
  | nil => exact trivial
  | cons q l ih =>
    obtain ⟨k, v⟩ := q
    show NoRow (bif Nat.beq g k then v else look l .junk g)
    cases Nat.beq g k
    · exact ih h.2
    · exact h.1
theorem gl_flat (g : Nat) : NoRow (gl g) := look_flat (l := glT) (And.intro (show NoRow namA from fun _ _ => trivial) trivial) g
theorem pgOK {l : List (FuncId × Ctr)} (h : AllP (fun q => Gd q.1 q.2) l) : PgOK Tryd.prog (PG l) := ⟨gl_flat, tysOK, mxOK, ctrOK_of h, fun _ _ h => by cases h⟩
theorem eqB_agg {u u' : Bool} {n : Nat} {F G : Nat → AV} (h : ∀ i, i < n → AEq (F i) (G i)) : eqB (.agg u n F) (.agg u' n G) = true := eqB_iff.2 h
theorem bad {b : Bool} {p : Prop} (h1 : b = true) (h2 : b = false) : p := by rw [h1] at h2; cases h2
theorem dno {p q : Prop} [Decidable p] (h : ¬ p) (e : decide p = true) : q := absurd (of_decide_eq_true e) h
theorem dyes {p q : Prop} [Decidable p] (h : p) (e : decide p = false) : q := absurd h (of_decide_eq_false e)
theorem nbang {b : Bool} {p : Prop} (h2 : (!b) = true) (h1 : b = true) : p := by rw [h1] at h2; cases h2
theorem own_res {a b : AV} (ha : Own a) (hb : Own b) : Own (tupOf [a, b]) := fun i hi => by
  rcases i with _ | _ | i
  · exact ha
  · exact hb
  · exact absurd hi (by show ¬ i + 2 < 2; omega)
theorem own_res3 {a b c : AV} (ha : Own a) (hb : Own b) (hc : Own c) : Own (tupOf [a, b, c]) := fun i hi => by
  rcases i with _ | _ | _ | i
  · exact ha
  · exact hb
  · exact hc
  · exact absurd hi (by show ¬ i + 3 < 3; omega)
end Go.Proofs.YtonggppknpbhiaaDoor
