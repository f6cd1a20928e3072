/- The core: the loop of CoreAdds. -/
import Derived.Test.YtglijhimopdgkaaGreatDoorCU
import Derived.Test.YtglijhimopdgkaaGreatDoorCN
import Derived.Test.YtglijhimopdgkaaGreatDoorCM
namespace Go.Proofs.YtglijhimopdgkaaGreatDoor
open Go.RowKit
set_option maxRecDepth 100000
set_option maxHeartbeats 20000000
attribute [local irreducible] wdV opV fR fA fB fI fC isV stepO stepM layF cdV enK enW
def adO (k : Nat) : BitVec 8 := [BitVec.ofInt 8 19, BitVec.ofInt 8 19, BitVec.ofInt 8 19, BitVec.ofInt 8 6, BitVec.ofInt 8 40].getD k 0
def adR (k : Nat) : BitVec 8 := [BitVec.ofInt 8 1, BitVec.ofInt 8 2, BitVec.ofInt 8 1, 0, 0].getD k 0
def adA (k : Nat) : BitVec 8 := [0, BitVec.ofInt 8 2, BitVec.ofInt 8 1, BitVec.ofInt 8 1, 0].getD k 0
def adI (u v : BitVec 8) (k : Nat) : BitVec 32 := [u.setWidth 32, v.setWidth 32, BitVec.ofInt 32 4294967295, BitVec.ofInt 32 4294967288, 0].getD k 0
noncomputable def adB (u v : BitVec 8) : Nat → BitVec 8 := cdV adO adR adA (fun _ => 0) (adI u v) (fun _ => 0)
def adW (u v : BitVec 8) (k : Nat) : BitVec 32 := wdV (adO k) (adR k) (adA k) 0 (adI u v k) 0
theorem ad_in (u v : BitVec 8) : ∀ k, k < 5 → insR (adO k) (adR k) (adA k) 0 (adI u v k) := by
  intro k hk
  rcases (show k = 0 ∨ k = 1 ∨ k = 2 ∨ k = 3 ∨ k = 4 by omega) with rfl | rfl | rfl | rfl | rfl
  · exact in_addi1 u
  · exact in_addi2 v
  · exact in_down
  · exact in_bne
  · exact in_ebreak
theorem ad_w {n k : Nat} (hn : 20 ≤ n) (hk : k < 5) (u v : BitVec 8) : ftW (fun j => layF n (adB u v) (4 * k + j)) = adW u v k := by
  refine ft_by _ _ fun j hj => ?_
  rw [lay_at (by omega)]
  show cdV adO adR adA (fun _ => 0) (adI u v) (fun _ => 0) (4 * k + j) = _
  rw [cdV_at adO adR adA (fun _ => 0) (adI u v) (fun _ => 0) k j hj]
  unfold enK
  show (enW (adO k) (adR k) (adA k) 0 (adI u v k) 0 >>> (8 * j)).setWidth 8 = _
  rw [en_wd (ad_in u v k hk)]
  rfl
abbrev adP (k : Nat) : BitVec 32 := BitVec.ofNat 32 (536870912 + 4 * k)
structure AtS (k : Nat) (a b c : BitVec 32) (s : CoS) : Prop where
  pc : s.pc = adP k
  x1 : s.x 1 = a
  x2 : s.x 2 = b
  c8 : s.c 8 = c
abbrev FL8 : Nat → BitVec 8 := fun _ => 255
abbrev FU8 : Nat → BitVec 32 := fun _ => 0
noncomputable abbrev adM (u v : BitVec 8) : MeS := ⟨layF 20 (adB u v), fun _ => 0⟩
theorem al_k : ∀ k, k < 5 → Al4 (adP k) := by
  intro k hk
  rcases (show k = 0 ∨ k = 1 ∨ k = 2 ∨ k = 3 ∨ k = 4 by omega) with rfl | rfl | rfl | rfl | rfl
  all_goals (unfold Al4; decide)
theorem ad_addi (u v : BitVec 8) {k r a : Nat} {s : CoS} {i A B C : BitVec 32} (hk : k < 5) (h : AtS k A B C s) (ho : adO k = BitVec.ofInt 8 19) (hr : (adR k).toNat = r) (ha : (adA k).toNat = a) (hi : adI u v k = i) :
    (stepO 1 (adM u v) FL8 FU8 s false).tr = false ∧ stepM 1 (adM u v) FL8 FU8 s false = adM u v ∧ (stepO 1 (adM u v) FL8 FU8 s false).s.pc = adP k + BitVec.ofInt 32 4 ∧ (stepO 1 (adM u v) FL8 FU8 s false).s.c 8 = C + BitVec.ofInt 32 1 ∧ (stepO 1 (adM u v) FL8 FU8 s false).s.x = withX (tmS s false).x r ((tmS s false).x a + i) := by
  obtain ⟨i0, i1, i2, i3, _, i5, _⟩ := ad_in u v k hk
  obtain ⟨e, e'⟩ := step_addi (st := 1) (me := adM u v) (m := FL8) (w := FU8) (s := s) (t := false) (wd := adW u v k) (r := r) (a := a) (v := i) (int_f s) (by rw [h.pc]; exact al_k k hk) (by rw [h.pc, code_k k hk]) (by rw [h.pc, fw_codek hk, ad_w (by decide) hk]) i0 (by rw [← ho]; exact i1) (by rw [show fR (adW u v k) = adR k from i2]; exact hr) (by rw [show fA (adW u v k) = adA k from i3]; exact ha) (by rw [← hi]; exact i5)
  rw [e]
  refine ⟨rfl, e', ?_, ?_, rfl⟩
  · show s.pc + BitVec.ofInt 32 4 = _
    rw [h.pc]
  · show upW (tmS s false).c 8 ((tmS s false).c 8 + BitVec.ofInt 32 1) 8 = _
    unfold upW
    rw [if_pos rfl, (tm_is s false).2.2 8 (by decide), h.c8]
theorem wx_at {x : Nat → BitVec 32} {r : Nat} {y : BitVec 32} (hr : 0 < r ∧ r < 32) (j : Nat) : withX x r y j = if j = r then y else x j := by
  unfold withX
  rw [if_pos hr]
  rfl
theorem ad_0 (u v : BitVec 8) {s : CoS} {A B C : BitVec 32} (h : AtS 0 A B C s) : (stepO 1 (adM u v) FL8 FU8 s false).tr = false ∧ stepM 1 (adM u v) FL8 FU8 s false = adM u v ∧ AtS 1 (u.setWidth 32) B (C + BitVec.ofInt 32 1) (stepO 1 (adM u v) FL8 FU8 s false).s := by
  obtain ⟨t, m, p, c, x⟩ := ad_addi u v (k := 0) (r := 1) (a := 0) (i := u.setWidth 32) (by decide) h rfl rfl rfl rfl
  refine ⟨t, m, ⟨p.trans (by decide), ?_, ?_, c⟩⟩
  · rw [x, wx_at (by decide), if_pos rfl, (tm_is s false).1 0, if_pos rfl, show (0 : BitVec 32) + u.setWidth 32 = u.setWidth 32 from BitVec.zero_add _]
  · rw [x, wx_at (by decide), if_neg (by decide), (tm_is s false).1 2, if_neg (by decide), h.x2]
theorem ad_1 (u v : BitVec 8) {s : CoS} {A B C : BitVec 32} (h : AtS 1 A B C s) : (stepO 1 (adM u v) FL8 FU8 s false).tr = false ∧ stepM 1 (adM u v) FL8 FU8 s false = adM u v ∧ AtS 2 A (B + v.setWidth 32) (C + BitVec.ofInt 32 1) (stepO 1 (adM u v) FL8 FU8 s false).s := by
  obtain ⟨t, m, p, c, x⟩ := ad_addi u v (k := 1) (r := 2) (a := 2) (i := v.setWidth 32) (by decide) h rfl rfl rfl rfl
  refine ⟨t, m, ⟨p.trans (by decide), ?_, ?_, c⟩⟩
  · rw [x, wx_at (by decide), if_neg (by decide), (tm_is s false).1 1, if_neg (by decide), h.x1]
  · rw [x, wx_at (by decide), if_pos rfl, (tm_is s false).1 2, if_neg (by decide), h.x2]
theorem ad_2 (u v : BitVec 8) {s : CoS} {A B C : BitVec 32} (h : AtS 2 A B C s) : (stepO 1 (adM u v) FL8 FU8 s false).tr = false ∧ stepM 1 (adM u v) FL8 FU8 s false = adM u v ∧ AtS 3 (A + BitVec.ofInt 32 4294967295) B (C + BitVec.ofInt 32 1) (stepO 1 (adM u v) FL8 FU8 s false).s := by
  obtain ⟨t, m, p, c, x⟩ := ad_addi u v (k := 2) (r := 1) (a := 1) (i := BitVec.ofInt 32 4294967295) (by decide) h rfl rfl rfl rfl
  refine ⟨t, m, ⟨p.trans (by decide), ?_, ?_, c⟩⟩
  · rw [x, wx_at (by decide), if_pos rfl, (tm_is s false).1 1, if_neg (by decide), h.x1]
  · rw [x, wx_at (by decide), if_neg (by decide), (tm_is s false).1 2, if_neg (by decide), h.x2]
theorem inc_jmp {s : CoS} {i : InS} {to : BitVec 32} (h : wrtB i = false) (ha : Al4 to) : incO (jmpO s i to) = ⟨⟨(jmpS s i to).x, (jmpS s i to).pc, upW (jmpS s i to).c 8 ((jmpS s i to).c 8 + BitVec.ofInt 32 1)⟩, false, 0, i, 0, 0, fun _ => 0⟩ := by
  unfold jmpO
  rw [if_pos ha, inc_ok h]
theorem tak_6 (A : BitVec 32) : takB (BitVec.ofInt 8 6) A 0 = !decide (A = 0) := by
  unfold takB
  rw [if_neg (by decide), if_pos (by decide)]
  exact decide_not
theorem ad_bne (u v : BitVec 8) {s : CoS} {A B C : BitVec 32} (h : AtS 3 A B C s) : (stepO 1 (adM u v) FL8 FU8 s false).tr = false ∧ stepM 1 (adM u v) FL8 FU8 s false = adM u v ∧ AtS (if A = 0 then 4 else 1) A B (C + BitVec.ofInt 32 1) (stepO 1 (adM u v) FL8 FU8 s false).s := by
  obtain ⟨i0, i1, i2, i3, i4, i5, _⟩ := ad_in u v 3 (by decide)
  obtain ⟨e, e'⟩ := step_at (st := 1) (me := adM u v) (m := FL8) (w := FU8) (s := s) (t := false) (wd := adW u v 3) (int_f s) (by rw [h.pc]; exact al_k 3 (by decide)) (by rw [h.pc, code_k 3 (by decide)]) (by rw [h.pc, fw_codek (by decide), ad_w (by decide) (by decide)]) i0
  obtain ⟨e1, e2, e3⟩ := ex_bne (st := 1) (me := adM u v) (m := FL8) (w := FU8) (s := tmS s false) (i := dcS (adW u v 3)) (wd := adW u v 3) i1
  rw [e, e1, e', e2]
  have hx : (tmS s false).x (dcS (adW u v 3)).a.toNat = A := by
    show (tmS s false).x (fA (adW u v 3)).toNat = A
    rw [show fA (adW u v 3) = adA 3 from i3, (tm_is s false).1, show (adA 3).toNat = 1 from rfl, if_neg (by decide), h.x1]
  have hy : (tmS s false).x (dcS (adW u v 3)).b.toNat = 0 := by
    show (tmS s false).x (fB (adW u v 3)).toNat = 0
    rw [show fB (adW u v 3) = 0 from i4, (tm_is s false).1, show (0 : BitVec 8).toNat = 0 from rfl, if_pos rfl]
  have ht : takB (dcS (adW u v 3)).o A 0 = !decide (A = 0) := by
    rw [show (dcS (adW u v 3)).o = BitVec.ofInt 8 6 from i1]
    exact tak_6 A
  unfold braO
  rw [hx, hy, ht]
  by_cases hz : A = 0
  · rw [decide_eq_true hz, if_pos hz, Bool.not_true, cond_false, inc_ok e3]
    refine ⟨rfl, rfl, ⟨?_, ?_, ?_, ?_⟩⟩
    · show s.pc + BitVec.ofInt 32 4 = _
      rw [h.pc]; decide
    · show (tmS s false).x 1 = A
      rw [(tm_is s false).1, if_neg (by decide), h.x1]
    · show (tmS s false).x 2 = B
      rw [(tm_is s false).1, if_neg (by decide), h.x2]
    · show upW (tmS s false).c 8 ((tmS s false).c 8 + BitVec.ofInt 32 1) 8 = _
      unfold upW
      rw [if_pos rfl, (tm_is s false).2.2 8 (by decide), h.c8]
  · rw [decide_eq_false hz, if_neg hz, Bool.not_false, cond_true]
    have hI : (dcS (adW u v 3)).i = BitVec.ofInt 32 4294967288 := i5
    have hp : (tmS s false).pc + (dcS (adW u v 3)).i = adP 1 := by
      rw [hI]
      show s.pc + _ = _
      rw [h.pc]; decide
    rw [hp, inc_jmp e3 (al_k 1 (by decide))]
    have hr : (dcS (adW u v 3)).r = 0 := i2
    refine ⟨rfl, rfl, ⟨rfl, ?_, ?_, ?_⟩⟩
    · show (jmpS (tmS s false) (dcS (adW u v 3)) (adP 1)).x 1 = A
      have : (jmpS (tmS s false) (dcS (adW u v 3)) (adP 1)).x 1 = (tmS s false).x 1 := by
        unfold jmpS; rw [hr]; rfl
      rw [this, (tm_is s false).1, if_neg (by decide), h.x1]
    · show (jmpS (tmS s false) (dcS (adW u v 3)) (adP 1)).x 2 = B
      have : (jmpS (tmS s false) (dcS (adW u v 3)) (adP 1)).x 2 = (tmS s false).x 2 := by
        unfold jmpS; rw [hr]; rfl
      rw [this, (tm_is s false).1, if_neg (by decide), h.x2]
    · show upW (tmS s false).c 8 ((tmS s false).c 8 + BitVec.ofInt 32 1) 8 = _
      unfold upW
      rw [if_pos rfl, (tm_is s false).2.2 8 (by decide), h.c8]
theorem ad_4 (u v : BitVec 8) {s : CoS} {A B C : BitVec 32} (h : AtS 4 A B C s) : (stepO 1 (adM u v) FL8 FU8 s false).tr = true ∧ (stepO 1 (adM u v) FL8 FU8 s false).s.x 1 = A ∧ (stepO 1 (adM u v) FL8 FU8 s false).s.x 2 = B ∧ (stepO 1 (adM u v) FL8 FU8 s false).s.c 5 = BitVec.ofInt 32 3 ∧ (stepO 1 (adM u v) FL8 FU8 s false).s.c 8 = C + BitVec.ofInt 32 1 := by
  obtain ⟨i0, i1, i2, i3, i4, i5, _⟩ := ad_in u v 4 (by decide)
  obtain ⟨e, e'⟩ := step_at (st := 1) (me := adM u v) (m := FL8) (w := FU8) (s := s) (t := false) (wd := adW u v 4) (int_f s) (by rw [h.pc]; exact al_k 4 (by decide)) (by rw [h.pc, code_k 4 (by decide)]) (by rw [h.pc, fw_codek (by decide), ad_w (by decide) (by decide)]) i0
  obtain ⟨e1, e2⟩ := ex_ebreak (st := 1) (me := adM u v) (m := FL8) (w := FU8) (s := tmS s false) (i := dcS (adW u v 4)) (wd := adW u v 4) i1
  rw [e, e1]
  obtain ⟨t1, t2, t3, t4, t5, t6, t7⟩ := trap_is (tmS s false) (BitVec.ofInt 32 3) (tmS s false).pc
  have hw : wroteC (trapO (tmS s false) (BitVec.ofInt 32 3) (tmS s false).pc) = false := by unfold wroteC trapO wrtB in0; rfl
  unfold incO
  rw [hw]
  refine ⟨rfl, ?_, ?_, ?_, ?_⟩
  · show (trapS (tmS s false) (BitVec.ofInt 32 3) (tmS s false).pc).x 1 = A
    rw [t1, (tm_is s false).1, if_neg (by decide), h.x1]
  · show (trapS (tmS s false) (BitVec.ofInt 32 3) (tmS s false).pc).x 2 = B
    rw [t1, (tm_is s false).1, if_neg (by decide), h.x2]
  · show upW (trapS (tmS s false) (BitVec.ofInt 32 3) (tmS s false).pc).c 8 ((trapS (tmS s false) (BitVec.ofInt 32 3) (tmS s false).pc).c 8 + BitVec.ofInt 32 1) 5 = BitVec.ofInt 32 3
    unfold upW
    rw [if_neg (by decide), t4]
    decide
  · show upW (trapS (tmS s false) (BitVec.ofInt 32 3) (tmS s false).pc).c 8 ((trapS (tmS s false) (BitVec.ofInt 32 3) (tmS s false).pc).c 8 + BitVec.ofInt 32 1) 8 = _
    unfold upW
    rw [if_pos rfl, t7, (tm_is s false).2.2 8 (by decide), h.c8]
end Go.Proofs.YtglijhimopdgkaaGreatDoor
