/- The core: CoreTimer. -/
import Derived.Test.YtglijhimopdgkaaGreatDoorCR
namespace Go.Proofs.YtglijhimopdgkaaGreatDoor
open Go.RowKit
set_option maxRecDepth 100000
set_option maxHeartbeats 20000000
attribute [local irreducible] wdV opV fR fA fB fI fC isV stepO stepM layF stX cdV enK enW
def tiO (k : Nat) : BitVec 8 := [BitVec.ofInt 8 19, BitVec.ofInt 8 41].getD k 0
def tiR (k : Nat) : BitVec 8 := [BitVec.ofInt 8 5, BitVec.ofInt 8 0].getD k 0
def tiI (v : BitVec 8) (k : Nat) : BitVec 32 := [v.setWidth 32, BitVec.ofInt 32 0].getD k 0
noncomputable def tiB (v : BitVec 8) : Nat → BitVec 8 := cdV tiO tiR (fun _ => 0) (fun _ => 0) (tiI v) (fun _ => 0)
abbrev wdA (v : BitVec 8) : BitVec 32 := wdV (BitVec.ofInt 8 19) 5 0 0 (v.setWidth 32) 0
abbrev wdM : BitVec 32 := wdV (BitVec.ofInt 8 41) 0 0 0 0 0
theorem ti_w0 {n : Nat} (hn : 8 ≤ n) (v : BitVec 8) : ftW (layF n (tiB v)) = wdA v := by
  refine ft_by _ _ fun j hj => ?_
  rw [lay_at (by omega)]
  have e := cdV_at tiO tiR (fun _ => 0) (fun _ => 0) (tiI v) (fun _ => 0) 0 j hj
  rw [Nat.mul_zero, Nat.zero_add] at e
  show cdV tiO tiR (fun _ => 0) (fun _ => 0) (tiI v) (fun _ => 0) j = _
  rw [e]
  unfold enK
  show (enW (BitVec.ofInt 8 19) 5 0 0 (v.setWidth 32) 0 >>> (8 * j)).setWidth 8 = _
  rw [en_wd (in_addi5 v)]
theorem ti_w4 {n : Nat} (hn : 8 ≤ n) (v : BitVec 8) : ftW (fun j => layF n (tiB v) (4 + j)) = wdM := by
  refine ft_by _ _ fun j hj => ?_
  rw [lay_at (by omega)]
  have e := cdV_at tiO tiR (fun _ => 0) (fun _ => 0) (tiI v) (fun _ => 0) 1 j hj
  rw [Nat.mul_one] at e
  show cdV tiO tiR (fun _ => 0) (fun _ => 0) (tiI v) (fun _ => 0) (4 + j) = _
  rw [e]
  unfold enK
  show (enW (BitVec.ofInt 8 41) 0 0 0 0 0 >>> (8 * j)).setWidth 8 = _
  rw [en_wd in_mret]
theorem bitN (x : BitVec 32) (k : Nat) (hk : k < 32) : (x / BitVec.ofNat 32 (2 ^ k) % 2#32 = 1#32) ↔ ¬ (x &&& BitVec.ofNat 32 (2 ^ k) = 0#32) := by
  have hp : 2 ^ k < 2 ^ 32 := Nat.pow_lt_pow_right (by decide) hk
  have ht : x.toNat.testBit k = decide (x.toNat / 2 ^ k % 2 = 1) := Nat.testBit_eq_decide_div_mod_eq
  rw [← BitVec.toNat_inj, ← BitVec.toNat_inj, BitVec.toNat_umod, BitVec.toNat_udiv, BitVec.toNat_and, BitVec.toNat_ofNat, Nat.mod_eq_of_lt hp]
  show x.toNat / 2 ^ k % 2 = 1 ↔ ¬ (x.toNat &&& 2 ^ k = 0)
  by_cases h : x.toNat / 2 ^ k % 2 = 1
  · refine ⟨fun _ q => ?_, fun _ => h⟩
    have q2 := congrArg (fun z => Nat.testBit z k) q
    replace q2 : (x.toNat &&& 2 ^ k).testBit k = (0 : Nat).testBit k := q2
    rw [Nat.testBit_and, Nat.testBit_two_pow, Nat.zero_testBit, ht, decide_eq_true h, decide_eq_true rfl] at q2
    exact absurd q2 (by decide)
  · refine ⟨fun q => absurd q h, fun q => absurd (Nat.eq_of_testBit_eq fun j => ?_) q⟩
    rw [Nat.testBit_and, Nat.testBit_two_pow, Nat.zero_testBit]
    by_cases e : k = j
    · rw [← e, ht, decide_eq_false h]; rfl
    · rw [decide_eq_false e, Bool.and_false]
theorem bit7 (x : BitVec 32) : (x / BitVec.ofInt 32 128 % BitVec.ofInt 32 2 = BitVec.ofInt 32 1) ↔ ¬ (x &&& BitVec.ofInt 32 128 = BitVec.ofInt 32 0) := bitN x 7 (by decide)
theorem bit3 (x : BitVec 32) : (x / BitVec.ofInt 32 8 % BitVec.ofInt 32 2 = BitVec.ofInt 32 1) ↔ ¬ (x &&& BitVec.ofInt 32 8 = BitVec.ofInt 32 0) := bitN x 3 (by decide)
abbrev code4 : BitVec 32 := BitVec.ofInt 32 536870916
theorem ti_addi {ra po m : Nat → BitVec 8} {w : Nat → BitVec 32} {s : CoS} {t : Bool} {v : BitVec 8} (hi : ¬ intB (tmS s t)) (hp : s.pc = codeA) (h0 : ftW ra = wdA v) :
    (stepO 1 ⟨ra, po⟩ m w s t).tr = false ∧ (stepO 1 ⟨ra, po⟩ m w s t).s.x 5 = v.setWidth 32 ∧ (stepO 1 ⟨ra, po⟩ m w s t).s.pc = code4 ∧ stepM 1 ⟨ra, po⟩ m w s t = ⟨ra, po⟩ := by
  obtain ⟨i0, i1, i2, i3, _, i5, _⟩ := in_addi5 v
  obtain ⟨e, e'⟩ := step_addi (st := 1) (me := ⟨ra, po⟩) (m := m) (w := w) (s := s) (t := t) (r := 5) (a := 0) (v := v.setWidth 32) hi (by rw [hp]; decide) (by rw [hp, code_at]) (by rw [hp, fw_code, h0]) i0 i1 (by rw [i2]; rfl) (by rw [i3]; rfl) i5
  rw [e]
  refine ⟨rfl, ?_, ?_, e'⟩
  · show withX (tmS s t).x 5 ((tmS s t).x 0 + v.setWidth 32) 5 = _
    rw [(tm_is s t).1 0, if_pos rfl, show (0 : BitVec 32) + v.setWidth 32 = v.setWidth 32 from BitVec.zero_add _]
    unfold withX upW
    rw [if_pos (by decide), if_pos rfl]
  · show s.pc + BitVec.ofInt 32 4 = _
    rw [hp]
    decide
theorem ti_mret {ra po m : Nat → BitVec 8} {w : Nat → BitVec 32} {s : CoS} {t : Bool} (hi : ¬ intB (tmS s t)) (hp : s.pc = code4) (h4 : ftW (fun j => ra (4 + j)) = wdM) :
    (stepO 1 ⟨ra, po⟩ m w s t).tr = false ∧ (stepO 1 ⟨ra, po⟩ m w s t).s.pc = s.c 4 ∧ stepM 1 ⟨ra, po⟩ m w s t = ⟨ra, po⟩ := by
  obtain ⟨i0, i1, _⟩ := in_mret
  obtain ⟨e, e'⟩ := step_mret (st := 1) (me := ⟨ra, po⟩) (m := m) (w := w) (s := s) (t := t) hi (by rw [hp]; decide) (by rw [hp, code_4]) (by rw [hp, fw_code4, h4]) i0 i1
  rw [e]
  exact ⟨rfl, ((back_is (tmS s t)).2.1).trans ((tm_is s t).2.2 4 (by decide)), e'⟩
abbrev tiS (x : Nat → BitVec 32) (n : Nat) (ie status : BitVec 32) : CoS := stO (stO (stO ⟨stX x n, codeA, fun _ => 0⟩ (BitVec.ofInt 16 772) ie) (BitVec.ofInt 16 768) status) (BitVec.ofInt 16 773) code4
theorem pl3 : plN (BitVec.ofInt 16 772) = 1 ∧ plN (BitVec.ofInt 16 768) = 0 ∧ plN (BitVec.ofInt 16 773) = 2 := by decide
theorem tiS_is (x : Nat → BitVec 32) (n : Nat) (ie status : BitVec 32) : (tiS x n ie status).c 0 = status &&& BitVec.ofInt 32 136 ∧ (tiS x n ie status).c 1 = ie &&& BitVec.ofInt 32 128 ∧ (tiS x n ie status).c 2 = code4 := by
  unfold tiS stO
  rw [pl3.1, pl3.2.1, pl3.2.2]
  exact ⟨rfl, rfl, by show code4 &&& btV 2 = code4; decide⟩
theorem tiS_int (x : Nat → BitVec 32) (n : Nat) (ie status : BitVec 32) : intB (tmS (tiS x n ie status) true) ↔ ie / BitVec.ofInt 32 128 % BitVec.ofInt 32 2 = BitVec.ofInt 32 1 ∧ status / BitVec.ofInt 32 8 % BitVec.ofInt 32 2 = BitVec.ofInt 32 1 := by
  obtain ⟨e0, e1, _⟩ := tiS_is x n ie status
  rw [int_t, e0, e1, bit7, bit3, BitVec.and_assoc, BitVec.and_assoc, BitVec.and_self, show BitVec.ofInt 32 136 &&& BitVec.ofInt 32 8 = BitVec.ofInt 32 8 by decide]
end Go.Proofs.YtglijhimopdgkaaGreatDoor
