/- The journal: what a state's operations leave, and the example. -/
import Derived.Test.YtldlleoabbcpdaaDoorIG
namespace Go.Proofs.YtldlleoabbcpdaaDoor
open Go.RowKit
set_option maxRecDepth 100000
set_option maxHeartbeats 20000000
section
attribute [local irreducible] at8 be rcF rcH lw hsh rst sha256 press dig isR rgt w4 rdN
theorem tear_all (m : Nat → BitVec 8) (o : Nat) (w : Nat → BitVec 8) (j : Nat) : tearF m o (min (min 256 256) 256) w (fun _ => 255) j = if o ≤ j ∧ j < o + 256 then w (j - o) else m j := by
  unfold tearF
  show (if o ≤ j ∧ j < o + 256 then _ else _) = _
  by_cases h : o ≤ j ∧ j < o + 256
  · rw [if_pos h, if_pos h, show ~~~(255 : BitVec 8) = 0 by decide, show (255 : BitVec 8) = BitVec.allOnes 8 by decide, BitVec.and_allOnes]
    exact (congrArg (· ||| w (j - o)) (BitVec.and_zero : m j &&& 0#8 = 0#8)).trans BitVec.zero_or
  · rw [if_neg h, if_neg h]
theorem op_in {m : Nat → BitVec 8} {kd : BitVec 8} {pg : Int} {l : Nat} {b : Nat → BitVec 8} {x : Nat} (hx : x < 256) : pgF (opM m kd pg l b 256 fun _ => 255) pg.toNat x = opW m kd pg l b x := by
  show opM m kd pg l b 256 (fun _ => 255) (pg.toNat * 256 + x) = _
  unfold opM
  rw [tear_all, if_pos (by omega), Nat.add_sub_cancel_left]
theorem op_out {m : Nat → BitVec 8} {kd : BitVec 8} {pg : Int} {l : Nat} {b : Nat → BitVec 8} {j : Nat} (hj : ¬ (pg.toNat * 256 ≤ j ∧ j < pg.toNat * 256 + 256)) : opM m kd pg l b 256 (fun _ => 255) j = m j := by
  unfold opM
  rw [tear_all, if_neg hj]
/-- The two operations: a page is erased, and written. -/
def nxK (i : Nat) : BitVec 8 := bif Nat.beq i 0 then k1 else k2
def nxL (i : Nat) : Nat := bif Nat.beq i 0 then 0 else 32
def nxB (f : Nat → BitVec 8) (i : Nat) : Nat → BitVec 8 := bif Nat.beq i 0 then fun _ => 0 else f
noncomputable def nxM (m : Nat → BitVec 8) (p : Int) (f : Nat → BitVec 8) (n : Nat) : Nat → BitVec 8 := doM nxK (fun _ => p) nxL (nxB f) m n
theorem nx_0 (m : Nat → BitVec 8) (p : Int) (f : Nat → BitVec 8) : nxM m p f 0 = m := rfl
theorem nx_1 (m : Nat → BitVec 8) (p : Int) (f : Nat → BitVec 8) : nxM m p f 1 = opM m k1 p 0 (fun _ => 0) 256 fun _ => 255 := rfl
theorem nx_2 (m : Nat → BitVec 8) (p : Int) (f : Nat → BitVec 8) : nxM m p f 2 = opM (nxM m p f 1) k2 p 32 f 256 fun _ => 255 := rfl
theorem er_in {m : Nat → BitVec 8} {p : Int} {f : Nat → BitVec 8} {x : Nat} (hx : x < 256) : pgF (nxM m p f 1) p.toNat x = 255 := by
  rw [nx_1, op_in hx]
  unfold opW
  rw [if_pos rfl]
theorem nx_in {m : Nat → BitVec 8} {p : Int} {f : Nat → BitVec 8} {x : Nat} (hx : x < 32) : pgF (nxM m p f 2) p.toNat x = f x := by
  rw [nx_2, op_in (by omega)]
  unfold opW setF
  rw [if_neg (by decide), if_pos (by omega), Nat.sub_zero]
theorem nx_out {m : Nat → BitVec 8} {p : Int} {f : Nat → BitVec 8} {j : Nat} (hj : ¬ (p.toNat * 256 ≤ j ∧ j < p.toNat * 256 + 256)) : nxM m p f 2 j = m j := by
  rw [nx_2, op_out hj, nx_1, op_out hj]
theorem er_out {m : Nat → BitVec 8} {p : Int} {f : Nat → BitVec 8} {j : Nat} (hj : ¬ (p.toNat * 256 ≤ j ∧ j < p.toNat * 256 + 256)) : nxM m p f 1 j = m j := by
  rw [nx_1, op_out hj]
theorem nxo_ok (m : Nat → BitVec 8) {p : Int} (hp : 0 ≤ p ∧ p < 40) (f : Nat → BitVec 8) : ∀ j, j < 2 → nxL j ≤ 256 ∧ opK (doM nxK (fun _ => p) nxL (nxB f) m j) (nxK j) p (nxL j) (nxB f j) := by
  intro j hj
  obtain rfl | rfl : j = 0 ∨ j = 1 := by omega
  · exact ⟨by decide, hp, Or.inl rfl⟩
  · refine ⟨by decide, hp, Or.inr ⟨rfl, ⟨by decide, by decide⟩, fun x hx h => ?_⟩⟩
    have hx : x < 32 := hx
    have e : pgF (doM nxK (fun _ => p) nxL (nxB f) m 1) p.toNat (0 + x) = 255 := er_in (m := m) (p := p) (f := f) (x := 0 + x) (by omega)
    unfold badB at h
    rw [e] at h
    exact h (by rw [show ~~~(255 : BitVec 8) = 0 by decide]; exact BitVec.and_zero)
theorem ero_ok (m : Nat → BitVec 8) {p : Int} (hp : 0 ≤ p ∧ p < 40) (f : Nat → BitVec 8) : ∀ j, j < 1 → nxL j ≤ 256 ∧ opK (doM nxK (fun _ => p) nxL (nxB f) m j) (nxK j) p (nxL j) (nxB f j) := fun j hj => nxo_ok m hp f j (by omega)
theorem rd_cases (m : Nat → BitVec 8) : ((isR 32 (pgF m 32) ∧ (¬ isR 32 (pgF m 33) ∨ ¬ bQ (pgF m 32) < bQ (pgF m 33))) ∧ rdN m 2 = (recJ (pgF m 32), 32)) ∨ ((isR 32 (pgF m 33) ∧ (¬ isR 32 (pgF m 32) ∨ bQ (pgF m 32) < bQ (pgF m 33))) ∧ rdN m 2 = (recJ (pgF m 33), 33)) ∨ ((¬ isR 32 (pgF m 32) ∧ ¬ isR 32 (pgF m 33)) ∧ rdN m 2 = (jsF, -1)) := by
  by_cases h0 : isR 32 (pgF m 32)
  · by_cases h1 : isR 32 (pgF m 33)
    · by_cases h2 : bQ (pgF m 32) < bQ (pgF m 33)
      · exact Or.inr (Or.inl ⟨⟨h1, Or.inr h2⟩, rd2_b h1 (Or.inr h2)⟩)
      · exact Or.inl ⟨⟨h0, Or.inr h2⟩, rd2_a h0 (Or.inr h2)⟩
    · exact Or.inl ⟨⟨h0, Or.inl h1⟩, rd2_a h0 (Or.inl h1)⟩
  · by_cases h1 : isR 32 (pgF m 33)
    · exact Or.inr (Or.inl ⟨⟨h1, Or.inl h0⟩, rd2_b h1 (Or.inl h0)⟩)
    · exact Or.inr (Or.inr ⟨⟨h0, h1⟩, rd2_n h0 h1⟩)
theorem nxP_in (m : Nat → BitVec 8) : nxP m = 32 ∨ nxP m = 33 := by
  unfold nxP
  split
  · exact Or.inr rfl
  · exact Or.inl rfl
theorem q_lt {q : BitVec 32} (h : ¬ q = qL) : q < q + BitVec.ofInt 32 1 := by
  rw [BitVec.lt_def, BitVec.toNat_add, show (BitVec.ofInt 32 1).toNat = 1 by decide]
  have h1 : q.toNat ≠ 4294967295 := fun e => h (BitVec.eq_of_toNat_eq (e.trans (by decide)))
  have := q.isLt
  omega
theorem rec_new {b : Nat → BitVec 8} {q : BitVec 32} {a t r : Int} (hr : rgt a t r) (h : ∀ i, i < 32 → b i = rcF q a t r i) : isR 32 b ∧ recJ b = ⟨q, a, t, r⟩ ∧ bQ b = q := by
  obtain ⟨e0, e1, e2, e3, e4⟩ := isR_cong h
  obtain ⟨f1, f2, f3, f4⟩ := rc_fields q hr
  refine ⟨e0.2 (isR_rec q hr), ?_, e1.trans f1⟩
  show JS.mk (bQ b) (bA b) (bT b) (bR b) = _
  rw [e1, e2, e3, e4, f1, f2, f3, f4]
theorem rec_old {b c : Nat → BitVec 8} (h : ∀ i, i < 32 → b i = c i) : (isR 32 b ↔ isR 32 c) ∧ recJ b = recJ c ∧ bQ b = bQ c := by
  obtain ⟨e0, e1, e2, e3, e4⟩ := isR_cong h
  refine ⟨e0, ?_, e1⟩
  show JS.mk (bQ b) (bA b) (bT b) (bR b) = JS.mk (bQ c) (bA c) (bT c) (bR c)
  rw [e1, e2, e3, e4]
/-- A flash whose next page is the record of a state, and else the same, has that state. -/
theorem new_read {m M : Nat → BitVec 8} {a t r : Int} (hr : rgt a t r) (hq : ¬ (rdN m 2).1.q = qL) (hin : ∀ x, x < 32 → pgF M (nxP m).toNat x = rcF ((rdN m 2).1.q + BitVec.ofInt 32 1) a t r x)
    (hout : ∀ x, x < 32 → pgF M (65 - (nxP m).toNat) x = pgF m (65 - (nxP m).toNat) x) : rdN M 2 = (⟨(rdN m 2).1.q + BitVec.ofInt 32 1, a, t, r⟩, nxP m) := by
  rcases rd_cases m with ⟨⟨h0, h1⟩, e⟩ | ⟨⟨h0, h1⟩, e⟩ | ⟨⟨h0, h1⟩, e⟩
  · have ep : nxP m = 33 := by unfold nxP; rw [e]; exact if_pos rfl
    rw [e] at hq
    rw [ep] at hin hout ⊢
    rw [e] at hin ⊢
    obtain ⟨n1, n2, n3⟩ := rec_new hr hin
    obtain ⟨o1, o2, o3⟩ := rec_old (c := pgF m 32) hout
    have n1 : isR 32 (pgF M 33) := n1
    have n2 : recJ (pgF M 33) = _ := n2
    have n3 : bQ (pgF M 33) = bQ (pgF m 32) + BitVec.ofInt 32 1 := n3
    have o3 : bQ (pgF M 32) = bQ (pgF m 32) := o3
    rw [rd2_b n1 (Or.inr (by rw [o3, n3]; exact q_lt hq)), n2]
  · have ep : nxP m = 32 := by unfold nxP; rw [e]; exact if_neg (show ¬ ((33 : Int) = 32) by decide)
    rw [e] at hq
    rw [ep] at hin hout ⊢
    rw [e] at hin ⊢
    obtain ⟨n1, n2, n3⟩ := rec_new hr hin
    obtain ⟨o1, o2, o3⟩ := rec_old (c := pgF m 33) hout
    have n1 : isR 32 (pgF M 32) := n1
    have n2 : recJ (pgF M 32) = _ := n2
    have n3 : bQ (pgF M 32) = bQ (pgF m 33) + BitVec.ofInt 32 1 := n3
    have o3 : bQ (pgF M 33) = bQ (pgF m 33) := o3
    rw [rd2_a n1 (Or.inr (by rw [o3, n3]; exact fun q => absurd (q_lt hq) (BitVec.not_lt.2 (BitVec.le_of_lt q)))), n2]
  · have ep : nxP m = 32 := by unfold nxP; rw [e]; exact if_neg (show ¬ ((-1 : Int) = 32) by decide)
    rw [ep] at hin hout ⊢
    rw [e] at hin ⊢
    obtain ⟨n1, n2, n3⟩ := rec_new hr hin
    obtain ⟨o1, o2, o3⟩ := rec_old (c := pgF m 33) hout
    have n1 : isR 32 (pgF M 32) := n1
    have n2 : recJ (pgF M 32) = _ := n2
    have o1 : isR 32 (pgF M 33) ↔ isR 32 (pgF m 33) := o1
    rw [rd2_a n1 (Or.inl fun q => h1 (o1.1 q)), n2]
theorem nx_read {m : Nat → BitVec 8} {a t r : Int} (hr : rgt a t r) (hq : ¬ (rdN m 2).1.q = qL) : rdN (nxM m (nxP m) (rcF ((rdN m 2).1.q + BitVec.ofInt 32 1) a t r) 2) 2 = (⟨(rdN m 2).1.q + BitVec.ofInt 32 1, a, t, r⟩, nxP m) :=
  new_read hr hq (fun x hx => nx_in hx) fun x hx => nx_out (by rcases nxP_in m with e | e <;> rw [e] <;> simp only [Int.reduceToNat] <;> omega)
/-- An erased page is no record. -/
theorem not_rec {b : Nat → BitVec 8} (h : b 8 = 255) : ¬ isR 32 b := by
  intro q
  unfold isR rgt at q
  have : bA b = 255 := by unfold bA; rw [h]; rfl
  rw [this] at q
  omega
end
end Go.Proofs.YtldlleoabbcpdaaDoor
