/- The machine of this program: its table and what it knows of functions. -/
import Derived.Test.YtglijhimopdgkaaGreatDoorT
import Derived.Test.YtglijhimopdgkaaGreatDoorGH
import Derived.Test.YtglijhimopdgkaaGreatDoorRows
namespace Go.Proofs.YtglijhimopdgkaaGreatDoor
open Go.RowKit
abbrev TReg : Ty := ty 170
def rb (i : Nat) : Nat := [0, 536870912, 536875008, 268435456, 1073741824, 1610612736].getD i 0
def rs (i : Nat) : Nat := [0, 4096, 4096, 10240, 64, 256].getD i 0
def regV (i : Nat) : AV := .agg false 2 (nth .junk [.u32 (BitVec.ofInt 32 (rb i : Int)), .u32 (BitVec.ofInt 32 (rs i : Int))])
def regsA : AV := .agg true 6 regV
abbrev TCsr : Ty := ty 113
def csrN (i : Nat) : Nat := [768, 772, 773, 832, 833, 834, 835, 836, 2816, 3860].getD i 0
def csrB (i : Nat) : Nat := [136, 128, 4294967292, 4294967295, 4294967292, 4294967295, 4294967295, 0, 4294967295, 0].getD i 0
def csrTV (i : Nat) : AV := .agg false 2 (nth .junk [.u16 (BitVec.ofInt 16 (csrN i : Int)), .u32 (BitVec.ofInt 32 (csrB i : Int))])
def csrsA : AV := .agg true 10 csrTV
def glT : List (Nat × AV) := [(1, .ipt TReg regsA), (0, .ipt TCsr csrsA)]
def gl : Nat → AV := look glT .junk
abbrev PG (l : List (FuncId × Ctr)) : Pg := { ty := ty, gl := gl, ctr := ctrOf l }
abbrev Gd (f : FuncId) (C : Ctr) : Prop := Good Tryz.prog ty gl f C
theorem look_flat {l : List (Nat × AV)} (h : AllP (fun q => NoRow q.2) l) (g : Nat) : NoRow (look l .junk g) := by
  induction l with
  | nil => exact trivial
  | cons q l ih =>
    obtain ⟨k, v⟩ := q
    show NoRow (bif Nat.beq g k then v else look l .junk g)
    cases Nat.beq g k
    · exact ih h.2
    · exact h.1
theorem gl_flat (g : Nat) : NoRow (gl g) := look_flat (l := glT) (And.intro (show NoRow regsA from fun i _ j _ => by rcases j with _ | _ | j <;> exact trivial) (And.intro (show NoRow csrsA from fun i _ j _ => by rcases j with _ | _ | j <;> exact trivial) trivial)) g
theorem pgOK {l : List (FuncId × Ctr)} (h : AllP (fun q => Gd q.1 q.2) l) : PgOK Tryz.prog (PG l) := ⟨gl_flat, tysOK, mxOK, ctrOK_of h, fun _ _ h => by cases h⟩
abbrev bys (b : Nat → BitVec 8) : Nat → AV := fun i => .u8 (b i)
abbrev wds (b : Nat → BitVec 32) : Nat → AV := fun i => .u32 (b i)
abbrev bsl (l : Nat) (b : Nat → BitVec 8) : AV := .imm false (.int .u8) l (bys b)
abbrev bsf (l : Nat) (b : Nat → BitVec 8) : AV := .imm true (.int .u8) l (bys b)
abbrev arr8 (l : Nat) (b : Nat → BitVec 8) : AV := .agg true l (bys b)
abbrev arr32 (l : Nat) (b : Nat → BitVec 32) : AV := .agg true l (wds b)
theorem eqB_agg {u u' : Bool} {n : Nat} {F G : Nat → AV} (h : ∀ i, i < n → AEq (F i) (G i)) : eqB (.agg u n F) (.agg u' n G) = true := eqB_iff.2 h
theorem bad {b : Bool} {p : Prop} (h1 : b = true) (h2 : b = false) : p := by rw [h1] at h2; cases h2
theorem own_res {a b : AV} (ha : Own a) (hb : Own b) : Own (tupOf [a, b]) := fun i hi => by
  rcases i with _ | _ | i
  · exact ha
  · exact hb
  · exact absurd hi (by show ¬ i + 2 < 2; omega)
theorem own_res3 {a b c : AV} (ha : Own a) (hb : Own b) (hc : Own c) : Own (tupOf [a, b, c]) := fun i hi => by
  rcases i with _ | _ | _ | i
  · exact ha
  · exact hb
  · exact hc
  · exact absurd hi (by show ¬ i + 3 < 3; omega)
end Go.Proofs.YtglijhimopdgkaaGreatDoor
