/- The core: a step. -/
import Derived.Test.YtglijhimopdgkaaGreatDoorCH
namespace Go.Proofs.YtglijhimopdgkaaGreatDoor
open Go.RowKit
set_option maxRecDepth 100000
set_option maxHeartbeats 20000000
theorem fld_le (w m : BitVec 32) (n : Nat) : (fldV w m n).toNat ≤ m.toNat / 2 ^ n := by
  unfold fldV
  rw [BitVec.toNat_setWidth, BitVec.toNat_ushiftRight, Nat.shiftRight_eq_div_pow]
  refine Nat.le_trans (Nat.mod_le _ _) (Nat.div_le_div_right ?_)
  rw [BitVec.toNat_and]
  exact Nat.and_le_right
theorem msk_lt : ∀ f, f < 12 → (lf f 2).toNat / 2 ^ 15 < 32 ∧ (lf f 3).toNat / 2 ^ 20 < 32 := by decide +kernel
theorem fld_lt (w : BitVec 32) : (fA w).toNat < 32 ∧ (fB w).toNat < 32 := by
  obtain ⟨h1, h2⟩ := msk_lt (fmtN w) (fmtN_lt w)
  refine ⟨?_, ?_⟩
  · unfold fA
    cases isV w with
    | true => exact Nat.lt_of_le_of_lt (fld_le _ _ _) h1
    | false => exact (show 0 < 32 by decide)
  · unfold fB
    cases isV w with
    | true => exact Nat.lt_of_le_of_lt (fld_le _ _ _) h2
    | false => exact (show 0 < 32 by decide)
attribute [local irreducible] plN withX upW putC trapS backS aluG stO jmpO braO compO excO ldV byV szV fdk rdF wrRa wrPo ck loaO stoO stoM exO exM ftW opV fR fA fB fI fC isV intB wrtB
abbrev dcS (w : BitVec 32) : InS := ⟨opV w, fR w, fA w, fB w, fI w, fC w⟩
def fwV (st : Nat) (me : MeS) (m : Nat → BitVec 8) (w : Nat → BitVec 32) (pc : BitVec 32) : BitVec 32 := ftW fun j => rdF (ftK st pc).1 me.ra me.po m w ((ftK st pc).2.1 + j)
open Classical in
noncomputable def actO (st : Nat) (me : MeS) (m : Nat → BitVec 8) (w : Nat → BitVec 32) (s : CoS) : CoO :=
  if intB s then trapO s (BitVec.ofInt 32 2147483655) s.pc else if ¬ Al4 s.pc then trapO s (BitVec.ofInt 32 0) s.pc else if ¬ (ftK st s.pc).2.2 = 0 then trapO s (BitVec.ofInt 32 1) s.pc else
  if isV (fwV st me m w s.pc) = false then trapO s (BitVec.ofInt 32 2) (fwV st me m w s.pc) else exO st me m w s (dcS (fwV st me m w s.pc)) (fwV st me m w s.pc)
open Classical in
noncomputable def actM (st : Nat) (me : MeS) (m : Nat → BitVec 8) (w : Nat → BitVec 32) (s : CoS) : MeS :=
  if intB s then me else if ¬ Al4 s.pc then me else if ¬ (ftK st s.pc).2.2 = 0 then me else
  if isV (fwV st me m w s.pc) = false then me else exM st me s (dcS (fwV st me m w s.pc))
def C_co_act : SpecM := fun A K => ∃ (st : Nat) (me : MeS) (m : Nat → BitVec 8) (w : Nat → BitVec 32) (l : Nat → Bool) (s : CoS), A [coA s, .ptr TSp 0 []] (meR st me 40 m w l) ∧ LkF l ∧ K (coO (actO st me m w s)) (meR st (actM st me m w s) 40 m w l)
theorem g_co_act : Gd 39 (mutD ty [false, true] C_co_act) := by
  refine goodD (E := PG [(62, pureP ty C_co_int), (63, pureP ty C_co_trap), (64, pureP ty C_sp_Fetch), (28, pureP ty C_rv_Decode), (65, mutD ty [false, true, false, false] C_co_exec)]) (pgOK ⟨g_co_int, g_co_trap, g_sp_Fetch, g_rv_Decode, g_co_exec, trivial⟩) mixes Tryz.func39 (by kernel_rfl) (by kernel_rfl) ?_
  rintro A K ⟨st, me, m, w, l, s, hA, hl, hK⟩
  have hm0 : (fun x => m (0 + x)) = m := funext fun x => congrArg m (Nat.zero_add x)
  by_cases h1 : intB s
  · have e1 : actO st me m w s = trapO s (BitVec.ofInt 32 2147483655) s.pc := by unfold actO; rw [if_pos h1]
    have e2 : actM st me m w s = me := by unfold actM; rw [if_pos h1]
    rw [e1, e2] at hK
    refine ⟨_, _, _, _, fun _ => none, hA, hK, by kernel_rfl, by kernel_rfl, ⟨trivial, trivial, rfl, trivial, trivial, rfl, rfl, trivial⟩, own_sp .., own_coO _, ?_⟩
    repeat ((conv => whnf); first | refine sdO ?_ | refine nlO ?_ | refine goA ?_ | refine goB ?_ | (apply Exists.intro; (repeat apply Exists.intro); refine caO ?_) | (refine Or.inl ?_; (conv => whnf); (repeat apply Exists.intro); refine caO ?_) | (refine Or.inr ?_; (conv => whnf); first | ((repeat apply Exists.intro); refine caO ?_) | (refine Or.inl ?_; (conv => whnf); (repeat apply Exists.intro); refine caO ?_) | (refine Or.inr ?_; (conv => whnf); (repeat apply Exists.intro); refine caO ?_)) | refine And.intro (by assumption) ?_ | refine goT ?_ | refine goF ?_ | refine goL ?_ | refine goR ?_ | refine goRL ?_ | refine goRR ?_)
    all_goals try (conv => whnf)
    (refine out_fnd ?_; (repeat' ((conv => whnf) <;> first | exact trivial | (with_reducible first | refine And.intro ?_ ?_ | refine qL1 ?_ | refine qL2 ?_ ?_ | refine qL3 ?_ ?_ ?_ | refine qL4 ?_ ?_ ?_ ?_ | refine qL5 ?_ ?_ ?_ ?_ ?_ | refine yL1 ?_ | refine yL2 ?_ ?_ | refine yL3 ?_ ?_ ?_ | refine qL7 ?_ ?_ ?_ ?_ ?_ ?_ ?_ | refine zL1 ?_ | refine zL2 ?_ ?_ | refine zL3 ?_ ?_ ?_ | refine fun (_ : Nat) => ?_) | refine fun (_ : (_ : Nat) < _) => ?_ | exact rfl | exact Nat.le_of_ble_eq_true rfl | (change (_ : Nat) ≤ _; omega) | (change (_ : Nat) = _; omega) | (change (_ : Int) = _; omega))); (all_goals try (conv => whnf)))
  by_cases h2 : s.pc % BitVec.ofInt 32 4 = BitVec.ofInt 32 0
  rotate_left
  · have e1 : actO st me m w s = trapO s (BitVec.ofInt 32 0) s.pc := by unfold actO; rw [if_neg h1, if_pos h2]
    have e2 : actM st me m w s = me := by unfold actM; rw [if_neg h1, if_pos h2]
    rw [e1, e2] at hK
    refine ⟨_, _, _, _, fun _ => none, hA, hK, by kernel_rfl, by kernel_rfl, ⟨trivial, trivial, rfl, trivial, trivial, rfl, rfl, trivial⟩, own_sp .., own_coO _, ?_⟩
    repeat ((conv => whnf); first | refine sdO ?_ | refine nlO ?_ | refine goA ?_ | refine goB ?_ | (apply Exists.intro; (repeat apply Exists.intro); refine caO ?_) | (refine Or.inl ?_; (conv => whnf); (repeat apply Exists.intro); refine caO ?_) | (refine Or.inr ?_; (conv => whnf); first | ((repeat apply Exists.intro); refine caO ?_) | (refine Or.inl ?_; (conv => whnf); (repeat apply Exists.intro); refine caO ?_) | (refine Or.inr ?_; (conv => whnf); (repeat apply Exists.intro); refine caO ?_)) | refine And.intro (by assumption) ?_ | refine goT ?_ | refine goF ?_ | refine goL ?_ | refine goR ?_ | refine goRL ?_ | refine goRR ?_)
    all_goals try (conv => whnf)
    (refine out_fnd ?_; (repeat' ((conv => whnf) <;> first | exact trivial | (with_reducible first | refine And.intro ?_ ?_ | refine qL1 ?_ | refine qL2 ?_ ?_ | refine qL3 ?_ ?_ ?_ | refine qL4 ?_ ?_ ?_ ?_ | refine qL5 ?_ ?_ ?_ ?_ ?_ | refine yL1 ?_ | refine yL2 ?_ ?_ | refine yL3 ?_ ?_ ?_ | refine qL7 ?_ ?_ ?_ ?_ ?_ ?_ ?_ | refine zL1 ?_ | refine zL2 ?_ ?_ | refine zL3 ?_ ?_ ?_ | refine fun (_ : Nat) => ?_) | refine fun (_ : (_ : Nat) < _) => ?_ | exact rfl | exact Nat.le_of_ble_eq_true rfl | (change (_ : Nat) ≤ _; omega) | (change (_ : Nat) = _; omega) | (change (_ : Int) = _; omega))); (all_goals try (conv => whnf)))
  by_cases h3 : (ftK st s.pc).2.2 = 0
  rotate_left
  · have e1 : actO st me m w s = trapO s (BitVec.ofInt 32 1) s.pc := by unfold actO; rw [if_neg h1, if_neg fun q => q h2, if_pos h3]
    have e2 : actM st me m w s = me := by unfold actM; rw [if_neg h1, if_neg fun q => q h2, if_pos h3]
    rw [e1, e2] at hK
    refine ⟨_, _, _, _, fun _ => none, hA, hK, by kernel_rfl, by kernel_rfl, ⟨trivial, trivial, rfl, trivial, trivial, rfl, rfl, trivial⟩, own_sp .., own_coO _, ?_⟩
    repeat ((conv => whnf); first | refine sdO ?_ | refine nlO ?_ | refine goA ?_ | refine goB ?_ | (apply Exists.intro; (repeat apply Exists.intro); refine caO ?_) | (refine Or.inl ?_; (conv => whnf); (repeat apply Exists.intro); refine caO ?_) | (refine Or.inr ?_; (conv => whnf); first | ((repeat apply Exists.intro); refine caO ?_) | (refine Or.inl ?_; (conv => whnf); (repeat apply Exists.intro); refine caO ?_) | (refine Or.inr ?_; (conv => whnf); (repeat apply Exists.intro); refine caO ?_)) | refine And.intro (by assumption) ?_ | refine goT ?_ | refine goF ?_ | refine goL ?_ | refine goR ?_ | refine goRL ?_ | refine goRR ?_)
    all_goals try (conv => whnf)
    (refine out_fnd ?_; (repeat' ((conv => whnf) <;> first | exact trivial | (with_reducible first | refine And.intro ?_ ?_ | refine qL1 ?_ | refine qL2 ?_ ?_ | refine qL3 ?_ ?_ ?_ | refine qL4 ?_ ?_ ?_ ?_ | refine qL5 ?_ ?_ ?_ ?_ ?_ | refine yL1 ?_ | refine yL2 ?_ ?_ | refine yL3 ?_ ?_ ?_ | refine qL7 ?_ ?_ ?_ ?_ ?_ ?_ ?_ | refine zL1 ?_ | refine zL2 ?_ ?_ | refine zL3 ?_ ?_ ?_ | refine fun (_ : Nat) => ?_) | refine fun (_ : (_ : Nat) < _) => ?_ | exact rfl | exact Nat.le_of_ble_eq_true rfl | (change (_ : Nat) ≤ _; omega) | (change (_ : Nat) = _; omega) | (change (_ : Int) = _; omega))); (all_goals try (conv => whnf)))
  have hr := fld_lt (fwV st me m w s.pc)
  cases h4 : isV (fwV st me m w s.pc) with
  | false =>
    have e1 : actO st me m w s = trapO s (BitVec.ofInt 32 2) (fwV st me m w s.pc) := by unfold actO; rw [if_neg h1, if_neg fun q => q h2, if_neg fun q => q h3, if_pos h4]
    have e2 : actM st me m w s = me := by unfold actM; rw [if_neg h1, if_neg fun q => q h2, if_neg fun q => q h3, if_pos h4]
    rw [e1, e2] at hK
    refine ⟨_, _, _, _, fun _ => none, hA, hK, by kernel_rfl, by kernel_rfl, ⟨trivial, trivial, rfl, trivial, trivial, rfl, rfl, trivial⟩, own_sp .., own_coO _, ?_⟩
    have h4' : isV (ftW fun j => rdF (ftK st s.pc).1 me.ra me.po (fun x => m (0 + x)) w ((ftK st s.pc).2.1 + j)) = false := by rw [hm0]; exact h4
    have h5 : (!isV (ftW fun j => rdF (ftK st s.pc).1 me.ra me.po (fun x => m (0 + x)) w ((ftK st s.pc).2.1 + j))) = true := by rw [h4']; rfl
    repeat ((conv => whnf); first | refine sdO ?_ | refine nlO ?_ | refine goA ?_ | refine goB ?_ | (apply Exists.intro; (repeat apply Exists.intro); refine caO ?_) | (refine Or.inl ?_; (conv => whnf); (repeat apply Exists.intro); refine caO ?_) | (refine Or.inr ?_; (conv => whnf); first | ((repeat apply Exists.intro); refine caO ?_) | (refine Or.inl ?_; (conv => whnf); (repeat apply Exists.intro); refine caO ?_) | (refine Or.inr ?_; (conv => whnf); (repeat apply Exists.intro); refine caO ?_)) | refine And.intro (by assumption) ?_ | refine goT ?_ | refine goF ?_ | refine goL ?_ | refine goR ?_ | refine goRL ?_ | refine goRR ?_)
    all_goals try (conv => whnf)
    (refine out_fnd ?_; (repeat' ((conv => whnf) <;> first | exact trivial | (with_reducible first | refine And.intro ?_ ?_ | refine qL1 ?_ | refine qL2 ?_ ?_ | refine qL3 ?_ ?_ ?_ | refine qL4 ?_ ?_ ?_ ?_ | refine qL5 ?_ ?_ ?_ ?_ ?_ | refine yL1 ?_ | refine yL2 ?_ ?_ | refine yL3 ?_ ?_ ?_ | refine qL7 ?_ ?_ ?_ ?_ ?_ ?_ ?_ | refine zL1 ?_ | refine zL2 ?_ ?_ | refine zL3 ?_ ?_ ?_ | refine fun (_ : Nat) => ?_) | refine fun (_ : (_ : Nat) < _) => ?_ | exact rfl | exact Nat.le_of_ble_eq_true rfl | (change (_ : Nat) ≤ _; omega) | (change (_ : Nat) = _; omega) | (change (_ : Int) = _; omega))); (all_goals try (conv => whnf)))
    all_goals (rw [hm0]; rfl)
  | true =>
    have e1 : actO st me m w s = exO st me m w s (dcS (fwV st me m w s.pc)) (fwV st me m w s.pc) := by unfold actO; rw [if_neg h1, if_neg fun q => q h2, if_neg fun q => q h3, if_neg (by rw [h4]; decide)]
    have e2 : actM st me m w s = exM st me s (dcS (fwV st me m w s.pc)) := by unfold actM; rw [if_neg h1, if_neg fun q => q h2, if_neg fun q => q h3, if_neg (by rw [h4]; decide)]
    rw [e1, e2] at hK
    refine ⟨_, _, _, _, fun _ => none, hA, hK, by kernel_rfl, by kernel_rfl, ⟨trivial, trivial, rfl, trivial, trivial, rfl, rfl, trivial⟩, own_sp .., own_coO _, ?_⟩
    have h4' : isV (ftW fun j => rdF (ftK st s.pc).1 me.ra me.po (fun x => m (0 + x)) w ((ftK st s.pc).2.1 + j)) = true := by rw [hm0]; exact h4
    have h5 : (!isV (ftW fun j => rdF (ftK st s.pc).1 me.ra me.po (fun x => m (0 + x)) w ((ftK st s.pc).2.1 + j))) = false := by rw [h4']; rfl
    have hr' : (RegOK (dcS (ftW fun j => rdF (ftK st s.pc).1 me.ra me.po (fun x => m (0 + x)) w ((ftK st s.pc).2.1 + j)))) ∧ LkF l := ⟨by rw [hm0]; exact hr, hl⟩
    repeat ((conv => whnf); first | refine sdO ?_ | refine nlO ?_ | refine goA ?_ | refine goB ?_ | (apply Exists.intro; (repeat apply Exists.intro); refine caO ?_) | (refine Or.inl ?_; (conv => whnf); (repeat apply Exists.intro); refine caO ?_) | (refine Or.inr ?_; (conv => whnf); first | ((repeat apply Exists.intro); refine caO ?_) | (refine Or.inl ?_; (conv => whnf); (repeat apply Exists.intro); refine caO ?_) | (refine Or.inr ?_; (conv => whnf); (repeat apply Exists.intro); refine caO ?_)) | refine And.intro (by assumption) ?_ | refine goT ?_ | refine goF ?_ | refine goL ?_ | refine goR ?_ | refine goRL ?_ | refine goRR ?_)
    all_goals try (conv => whnf)
    refine ⟨st, me, m, w, l, s, dcS (ftW fun j => rdF (ftK st s.pc).1 me.ra me.po (fun x => m (0 + x)) w ((ftK st s.pc).2.1 + j)), (ftW fun j => rdF (ftK st s.pc).1 me.ra me.po (fun x => m (0 + x)) w ((ftK st s.pc).2.1 + j)), ?_, hr', ?_⟩
    · ((repeat' ((conv => whnf) <;> first | exact trivial | (with_reducible first | refine And.intro ?_ ?_ | refine qL1 ?_ | refine qL2 ?_ ?_ | refine qL3 ?_ ?_ ?_ | refine qL4 ?_ ?_ ?_ ?_ | refine qL5 ?_ ?_ ?_ ?_ ?_ | refine yL1 ?_ | refine yL2 ?_ ?_ | refine yL3 ?_ ?_ ?_ | refine qL7 ?_ ?_ ?_ ?_ ?_ ?_ ?_ | refine zL1 ?_ | refine zL2 ?_ ?_ | refine zL3 ?_ ?_ ?_ | refine fun (_ : Nat) => ?_) | refine fun (_ : (_ : Nat) < _) => ?_ | exact rfl | exact Nat.le_of_ble_eq_true rfl | (change (_ : Nat) ≤ _; omega) | (change (_ : Nat) = _; omega) | (change (_ : Int) = _; omega))); (all_goals try (conv => whnf)))
    repeat ((conv => whnf); first | refine sdO ?_ | refine nlO ?_ | refine goA ?_ | refine goB ?_ | (apply Exists.intro; (repeat apply Exists.intro); refine caO ?_) | (refine Or.inl ?_; (conv => whnf); (repeat apply Exists.intro); refine caO ?_) | (refine Or.inr ?_; (conv => whnf); first | ((repeat apply Exists.intro); refine caO ?_) | (refine Or.inl ?_; (conv => whnf); (repeat apply Exists.intro); refine caO ?_) | (refine Or.inr ?_; (conv => whnf); (repeat apply Exists.intro); refine caO ?_)) | refine And.intro (by assumption) ?_ | refine goT ?_ | refine goF ?_ | refine goL ?_ | refine goR ?_ | refine goRL ?_ | refine goRR ?_)
    all_goals try (conv => whnf)
    (refine out_fnd ?_; (repeat' ((conv => whnf) <;> first | exact trivial | (with_reducible first | refine And.intro ?_ ?_ | refine qL1 ?_ | refine qL2 ?_ ?_ | refine qL3 ?_ ?_ ?_ | refine qL4 ?_ ?_ ?_ ?_ | refine qL5 ?_ ?_ ?_ ?_ ?_ | refine yL1 ?_ | refine yL2 ?_ ?_ | refine yL3 ?_ ?_ ?_ | refine qL7 ?_ ?_ ?_ ?_ ?_ ?_ ?_ | refine zL1 ?_ | refine zL2 ?_ ?_ | refine zL3 ?_ ?_ ?_ | refine fun (_ : Nat) => ?_) | refine fun (_ : (_ : Nat) < _) => ?_ | exact rfl | exact Nat.le_of_ble_eq_true rfl | (change (_ : Nat) ≤ _; omega) | (change (_ : Nat) = _; omega) | (change (_ : Int) = _; omega))); (all_goals try (conv => whnf)))
    all_goals (rw [hm0]; rfl)
def tmS (s : CoS) (t : Bool) : CoS := ⟨upW s.x 0 (BitVec.ofInt 32 0), s.pc, upW s.c 7 (bif t then BitVec.ofInt 32 128 else BitVec.ofInt 32 0)⟩
def wroteC (o : CoO) : Bool := wrtB o.i && decide (o.i.c = BitVec.ofInt 16 2816)
def incO (o : CoO) : CoO := bif wroteC o then o else ⟨⟨o.s.x, o.s.pc, upW o.s.c 8 (o.s.c 8 + BitVec.ofInt 32 1)⟩, o.tr, o.ca, o.i, o.at', o.n, o.p⟩
noncomputable def stepO (st : Nat) (me : MeS) (m : Nat → BitVec 8) (w : Nat → BitVec 32) (s : CoS) (t : Bool) : CoO := incO (actO st me m w (tmS s t))
noncomputable def stepM (st : Nat) (me : MeS) (m : Nat → BitVec 8) (w : Nat → BitVec 32) (s : CoS) (t : Bool) : MeS := actM st me m w (tmS s t)
attribute [local irreducible] actO actM tmS
def C_co_Step : SpecM := fun A K => ∃ (st : Nat) (me : MeS) (m : Nat → BitVec 8) (w : Nat → BitVec 32) (l : Nat → Bool) (s : CoS) (t : Bool), A [coA s, .ptr TSp 0 [], .bo t] (meR st me 40 m w l) ∧ LkF l ∧ K (coO (stepO st me m w s t)) (meR st (stepM st me m w s t) 40 m w l)
theorem g_co_Step : Gd 14 (mutD ty [false, true, false] C_co_Step) := by
  refine goodD (E := PG [(39, mutD ty [false, true] C_co_act), (40, pureP ty C_co_writes)]) (pgOK ⟨g_co_act, g_co_writes, trivial⟩) mixes Tryz.func14 (by kernel_rfl) (by kernel_rfl) ?_
  rintro A K ⟨st, me, m, w, l, s, t, hA, hl, hK⟩
  cases t with
  | true =>
    refine ⟨_, _, _, _, fun _ => none, hA, hK, by kernel_rfl, by kernel_rfl, ⟨trivial, trivial, rfl, trivial, trivial, rfl, rfl, trivial⟩, own_sp .., own_coO _, ?_⟩
    repeat ((conv => whnf); first | refine sdO ?_ | refine nlO ?_ | refine goA ?_ | refine goB ?_ | (apply Exists.intro; (repeat apply Exists.intro); refine caO ?_) | (refine Or.inl ?_; (conv => whnf); (repeat apply Exists.intro); refine caO ?_) | (refine Or.inr ?_; (conv => whnf); first | ((repeat apply Exists.intro); refine caO ?_) | (refine Or.inl ?_; (conv => whnf); (repeat apply Exists.intro); refine caO ?_) | (refine Or.inr ?_; (conv => whnf); (repeat apply Exists.intro); refine caO ?_)) | refine And.intro (by assumption) ?_ | refine goT ?_ | refine goF ?_ | refine goL ?_ | refine goR ?_ | refine goRL ?_ | refine goRR ?_)
    all_goals try (conv => whnf)
    refine ⟨st, me, m, w, l, tmS s true, ?_, hl, ?_⟩
    · ((repeat' ((conv => whnf) <;> first | exact trivial | (with_reducible first | refine And.intro ?_ ?_ | refine qL1 ?_ | refine qL2 ?_ ?_ | refine qL3 ?_ ?_ ?_ | refine qL4 ?_ ?_ ?_ ?_ | refine qL5 ?_ ?_ ?_ ?_ ?_ | refine yL1 ?_ | refine yL2 ?_ ?_ | refine yL3 ?_ ?_ ?_ | refine qL7 ?_ ?_ ?_ ?_ ?_ ?_ ?_ | refine zL1 ?_ | refine zL2 ?_ ?_ | refine zL3 ?_ ?_ ?_ | refine fun (_ : Nat) => ?_) | refine fun (_ : (_ : Nat) < _) => ?_ | exact rfl | exact Nat.le_of_ble_eq_true rfl | (change (_ : Nat) ≤ _; omega) | (change (_ : Nat) = _; omega) | (change (_ : Int) = _; omega))); (all_goals try (conv => whnf)))
      all_goals (unfold tmS upW; first | rfl | (rename_i x hx; rfl) | (
        rename_i x hx
        by_cases e : x = 7
        · subst e
          rfl
        · have e' : ¬ x = Int.toNat 7 := e
          rw [if_neg e']
          refine (show asU32 (updU true (wds s.c) (Int.toNat 7) (AV.u32 (BitVec.ofInt 32 0)) x) = s.c x from if_neg e').trans ?_
          exact (if_neg e).symm))
    cases hw : wrtB (actO st me m w (tmS s true)).i with
    | false =>
      have h1 : (!wrtB (actO st me m w (tmS s true)).i) = true := by rw [hw]; rfl
      have e1 : stepO st me m w s true = ⟨⟨(actO st me m w (tmS s true)).s.x, (actO st me m w (tmS s true)).s.pc, upW (actO st me m w (tmS s true)).s.c 8 ((actO st me m w (tmS s true)).s.c 8 + BitVec.ofInt 32 1)⟩, (actO st me m w (tmS s true)).tr, (actO st me m w (tmS s true)).ca, (actO st me m w (tmS s true)).i, (actO st me m w (tmS s true)).at', (actO st me m w (tmS s true)).n, (actO st me m w (tmS s true)).p⟩ := by unfold stepO incO wroteC; rw [hw]; rfl
      repeat ((conv => whnf); first | refine sdO ?_ | refine nlO ?_ | refine goA ?_ | refine goB ?_ | (apply Exists.intro; (repeat apply Exists.intro); refine caO ?_) | (refine Or.inl ?_; (conv => whnf); (repeat apply Exists.intro); refine caO ?_) | (refine Or.inr ?_; (conv => whnf); first | ((repeat apply Exists.intro); refine caO ?_) | (refine Or.inl ?_; (conv => whnf); (repeat apply Exists.intro); refine caO ?_) | (refine Or.inr ?_; (conv => whnf); (repeat apply Exists.intro); refine caO ?_)) | refine And.intro (by assumption) ?_ | refine goT ?_ | refine goF ?_ | refine goL ?_ | refine goR ?_ | refine goRL ?_ | refine goRR ?_)
      all_goals try (conv => whnf)
      (refine out_fnd ?_; (repeat' ((conv => whnf) <;> first | exact trivial | (with_reducible first | refine And.intro ?_ ?_ | refine qL1 ?_ | refine qL2 ?_ ?_ | refine qL3 ?_ ?_ ?_ | refine qL4 ?_ ?_ ?_ ?_ | refine qL5 ?_ ?_ ?_ ?_ ?_ | refine yL1 ?_ | refine yL2 ?_ ?_ | refine yL3 ?_ ?_ ?_ | refine qL7 ?_ ?_ ?_ ?_ ?_ ?_ ?_ | refine zL1 ?_ | refine zL2 ?_ ?_ | refine zL3 ?_ ?_ ?_ | refine fun (_ : Nat) => ?_) | refine fun (_ : (_ : Nat) < _) => ?_ | exact rfl | exact Nat.le_of_ble_eq_true rfl | (change (_ : Nat) ≤ _; omega) | (change (_ : Nat) = _; omega) | (change (_ : Int) = _; omega))); (all_goals try (conv => whnf)))
      all_goals (rw [e1]; first | done | (unfold upW; rfl))
    | true =>
      have h1 : (!wrtB (actO st me m w (tmS s true)).i) = false := by rw [hw]; rfl
      by_cases hc : (actO st me m w (tmS s true)).i.c = BitVec.ofInt 16 2816
      · have e1 : stepO st me m w s true = (actO st me m w (tmS s true)) := by unfold stepO incO wroteC; rw [hw, decide_eq_true hc]; rfl
        repeat ((conv => whnf); first | refine sdO ?_ | refine nlO ?_ | refine goA ?_ | refine goB ?_ | (apply Exists.intro; (repeat apply Exists.intro); refine caO ?_) | (refine Or.inl ?_; (conv => whnf); (repeat apply Exists.intro); refine caO ?_) | (refine Or.inr ?_; (conv => whnf); first | ((repeat apply Exists.intro); refine caO ?_) | (refine Or.inl ?_; (conv => whnf); (repeat apply Exists.intro); refine caO ?_) | (refine Or.inr ?_; (conv => whnf); (repeat apply Exists.intro); refine caO ?_)) | refine And.intro (by assumption) ?_ | refine goT ?_ | refine goF ?_ | refine goL ?_ | refine goR ?_ | refine goRL ?_ | refine goRR ?_)
        all_goals try (conv => whnf)
        (refine out_fnd ?_; (repeat' ((conv => whnf) <;> first | exact trivial | (with_reducible first | refine And.intro ?_ ?_ | refine qL1 ?_ | refine qL2 ?_ ?_ | refine qL3 ?_ ?_ ?_ | refine qL4 ?_ ?_ ?_ ?_ | refine qL5 ?_ ?_ ?_ ?_ ?_ | refine yL1 ?_ | refine yL2 ?_ ?_ | refine yL3 ?_ ?_ ?_ | refine qL7 ?_ ?_ ?_ ?_ ?_ ?_ ?_ | refine zL1 ?_ | refine zL2 ?_ ?_ | refine zL3 ?_ ?_ ?_ | refine fun (_ : Nat) => ?_) | refine fun (_ : (_ : Nat) < _) => ?_ | exact rfl | exact Nat.le_of_ble_eq_true rfl | (change (_ : Nat) ≤ _; omega) | (change (_ : Nat) = _; omega) | (change (_ : Int) = _; omega))); (all_goals try (conv => whnf)))
        all_goals (rw [e1]; first | done | (unfold upW; rfl))
      · have e1 : stepO st me m w s true = ⟨⟨(actO st me m w (tmS s true)).s.x, (actO st me m w (tmS s true)).s.pc, upW (actO st me m w (tmS s true)).s.c 8 ((actO st me m w (tmS s true)).s.c 8 + BitVec.ofInt 32 1)⟩, (actO st me m w (tmS s true)).tr, (actO st me m w (tmS s true)).ca, (actO st me m w (tmS s true)).i, (actO st me m w (tmS s true)).at', (actO st me m w (tmS s true)).n, (actO st me m w (tmS s true)).p⟩ := by unfold stepO incO wroteC; rw [hw, decide_eq_false hc]; rfl
        repeat ((conv => whnf); first | refine sdO ?_ | refine nlO ?_ | refine goA ?_ | refine goB ?_ | (apply Exists.intro; (repeat apply Exists.intro); refine caO ?_) | (refine Or.inl ?_; (conv => whnf); (repeat apply Exists.intro); refine caO ?_) | (refine Or.inr ?_; (conv => whnf); first | ((repeat apply Exists.intro); refine caO ?_) | (refine Or.inl ?_; (conv => whnf); (repeat apply Exists.intro); refine caO ?_) | (refine Or.inr ?_; (conv => whnf); (repeat apply Exists.intro); refine caO ?_)) | refine And.intro (by assumption) ?_ | refine goT ?_ | refine goF ?_ | refine goL ?_ | refine goR ?_ | refine goRL ?_ | refine goRR ?_)
        all_goals try (conv => whnf)
        (refine out_fnd ?_; (repeat' ((conv => whnf) <;> first | exact trivial | (with_reducible first | refine And.intro ?_ ?_ | refine qL1 ?_ | refine qL2 ?_ ?_ | refine qL3 ?_ ?_ ?_ | refine qL4 ?_ ?_ ?_ ?_ | refine qL5 ?_ ?_ ?_ ?_ ?_ | refine yL1 ?_ | refine yL2 ?_ ?_ | refine yL3 ?_ ?_ ?_ | refine qL7 ?_ ?_ ?_ ?_ ?_ ?_ ?_ | refine zL1 ?_ | refine zL2 ?_ ?_ | refine zL3 ?_ ?_ ?_ | refine fun (_ : Nat) => ?_) | refine fun (_ : (_ : Nat) < _) => ?_ | exact rfl | exact Nat.le_of_ble_eq_true rfl | (change (_ : Nat) ≤ _; omega) | (change (_ : Nat) = _; omega) | (change (_ : Int) = _; omega))); (all_goals try (conv => whnf)))
        all_goals (rw [e1]; first | done | (unfold upW; rfl))
  | false =>
    refine ⟨_, _, _, _, fun _ => none, hA, hK, by kernel_rfl, by kernel_rfl, ⟨trivial, trivial, rfl, trivial, trivial, rfl, rfl, trivial⟩, own_sp .., own_coO _, ?_⟩
    repeat ((conv => whnf); first | refine sdO ?_ | refine nlO ?_ | refine goA ?_ | refine goB ?_ | (apply Exists.intro; (repeat apply Exists.intro); refine caO ?_) | (refine Or.inl ?_; (conv => whnf); (repeat apply Exists.intro); refine caO ?_) | (refine Or.inr ?_; (conv => whnf); first | ((repeat apply Exists.intro); refine caO ?_) | (refine Or.inl ?_; (conv => whnf); (repeat apply Exists.intro); refine caO ?_) | (refine Or.inr ?_; (conv => whnf); (repeat apply Exists.intro); refine caO ?_)) | refine And.intro (by assumption) ?_ | refine goT ?_ | refine goF ?_ | refine goL ?_ | refine goR ?_ | refine goRL ?_ | refine goRR ?_)
    all_goals try (conv => whnf)
    refine ⟨st, me, m, w, l, tmS s false, ?_, hl, ?_⟩
    · ((repeat' ((conv => whnf) <;> first | exact trivial | (with_reducible first | refine And.intro ?_ ?_ | refine qL1 ?_ | refine qL2 ?_ ?_ | refine qL3 ?_ ?_ ?_ | refine qL4 ?_ ?_ ?_ ?_ | refine qL5 ?_ ?_ ?_ ?_ ?_ | refine yL1 ?_ | refine yL2 ?_ ?_ | refine yL3 ?_ ?_ ?_ | refine qL7 ?_ ?_ ?_ ?_ ?_ ?_ ?_ | refine zL1 ?_ | refine zL2 ?_ ?_ | refine zL3 ?_ ?_ ?_ | refine fun (_ : Nat) => ?_) | refine fun (_ : (_ : Nat) < _) => ?_ | exact rfl | exact Nat.le_of_ble_eq_true rfl | (change (_ : Nat) ≤ _; omega) | (change (_ : Nat) = _; omega) | (change (_ : Int) = _; omega))); (all_goals try (conv => whnf)))
      all_goals (unfold tmS upW; first | rfl | (rename_i x hx; rfl) | (
        rename_i x hx
        by_cases e : x = 7
        · subst e
          rfl
        · have e' : ¬ x = Int.toNat 7 := e
          rw [if_neg e']
          refine (show asU32 (updU true (wds s.c) (Int.toNat 7) (AV.u32 (BitVec.ofInt 32 0)) x) = s.c x from if_neg e').trans ?_
          exact (if_neg e).symm))
    cases hw : wrtB (actO st me m w (tmS s false)).i with
    | false =>
      have h1 : (!wrtB (actO st me m w (tmS s false)).i) = true := by rw [hw]; rfl
      have e1 : stepO st me m w s false = ⟨⟨(actO st me m w (tmS s false)).s.x, (actO st me m w (tmS s false)).s.pc, upW (actO st me m w (tmS s false)).s.c 8 ((actO st me m w (tmS s false)).s.c 8 + BitVec.ofInt 32 1)⟩, (actO st me m w (tmS s false)).tr, (actO st me m w (tmS s false)).ca, (actO st me m w (tmS s false)).i, (actO st me m w (tmS s false)).at', (actO st me m w (tmS s false)).n, (actO st me m w (tmS s false)).p⟩ := by unfold stepO incO wroteC; rw [hw]; rfl
      repeat ((conv => whnf); first | refine sdO ?_ | refine nlO ?_ | refine goA ?_ | refine goB ?_ | (apply Exists.intro; (repeat apply Exists.intro); refine caO ?_) | (refine Or.inl ?_; (conv => whnf); (repeat apply Exists.intro); refine caO ?_) | (refine Or.inr ?_; (conv => whnf); first | ((repeat apply Exists.intro); refine caO ?_) | (refine Or.inl ?_; (conv => whnf); (repeat apply Exists.intro); refine caO ?_) | (refine Or.inr ?_; (conv => whnf); (repeat apply Exists.intro); refine caO ?_)) | refine And.intro (by assumption) ?_ | refine goT ?_ | refine goF ?_ | refine goL ?_ | refine goR ?_ | refine goRL ?_ | refine goRR ?_)
      all_goals try (conv => whnf)
      (refine out_fnd ?_; (repeat' ((conv => whnf) <;> first | exact trivial | (with_reducible first | refine And.intro ?_ ?_ | refine qL1 ?_ | refine qL2 ?_ ?_ | refine qL3 ?_ ?_ ?_ | refine qL4 ?_ ?_ ?_ ?_ | refine qL5 ?_ ?_ ?_ ?_ ?_ | refine yL1 ?_ | refine yL2 ?_ ?_ | refine yL3 ?_ ?_ ?_ | refine qL7 ?_ ?_ ?_ ?_ ?_ ?_ ?_ | refine zL1 ?_ | refine zL2 ?_ ?_ | refine zL3 ?_ ?_ ?_ | refine fun (_ : Nat) => ?_) | refine fun (_ : (_ : Nat) < _) => ?_ | exact rfl | exact Nat.le_of_ble_eq_true rfl | (change (_ : Nat) ≤ _; omega) | (change (_ : Nat) = _; omega) | (change (_ : Int) = _; omega))); (all_goals try (conv => whnf)))
      all_goals (rw [e1]; first | done | (unfold upW; rfl))
    | true =>
      have h1 : (!wrtB (actO st me m w (tmS s false)).i) = false := by rw [hw]; rfl
      by_cases hc : (actO st me m w (tmS s false)).i.c = BitVec.ofInt 16 2816
      · have e1 : stepO st me m w s false = (actO st me m w (tmS s false)) := by unfold stepO incO wroteC; rw [hw, decide_eq_true hc]; rfl
        repeat ((conv => whnf); first | refine sdO ?_ | refine nlO ?_ | refine goA ?_ | refine goB ?_ | (apply Exists.intro; (repeat apply Exists.intro); refine caO ?_) | (refine Or.inl ?_; (conv => whnf); (repeat apply Exists.intro); refine caO ?_) | (refine Or.inr ?_; (conv => whnf); first | ((repeat apply Exists.intro); refine caO ?_) | (refine Or.inl ?_; (conv => whnf); (repeat apply Exists.intro); refine caO ?_) | (refine Or.inr ?_; (conv => whnf); (repeat apply Exists.intro); refine caO ?_)) | refine And.intro (by assumption) ?_ | refine goT ?_ | refine goF ?_ | refine goL ?_ | refine goR ?_ | refine goRL ?_ | refine goRR ?_)
        all_goals try (conv => whnf)
        (refine out_fnd ?_; (repeat' ((conv => whnf) <;> first | exact trivial | (with_reducible first | refine And.intro ?_ ?_ | refine qL1 ?_ | refine qL2 ?_ ?_ | refine qL3 ?_ ?_ ?_ | refine qL4 ?_ ?_ ?_ ?_ | refine qL5 ?_ ?_ ?_ ?_ ?_ | refine yL1 ?_ | refine yL2 ?_ ?_ | refine yL3 ?_ ?_ ?_ | refine qL7 ?_ ?_ ?_ ?_ ?_ ?_ ?_ | refine zL1 ?_ | refine zL2 ?_ ?_ | refine zL3 ?_ ?_ ?_ | refine fun (_ : Nat) => ?_) | refine fun (_ : (_ : Nat) < _) => ?_ | exact rfl | exact Nat.le_of_ble_eq_true rfl | (change (_ : Nat) ≤ _; omega) | (change (_ : Nat) = _; omega) | (change (_ : Int) = _; omega))); (all_goals try (conv => whnf)))
        all_goals (rw [e1]; first | done | (unfold upW; rfl))
      · have e1 : stepO st me m w s false = ⟨⟨(actO st me m w (tmS s false)).s.x, (actO st me m w (tmS s false)).s.pc, upW (actO st me m w (tmS s false)).s.c 8 ((actO st me m w (tmS s false)).s.c 8 + BitVec.ofInt 32 1)⟩, (actO st me m w (tmS s false)).tr, (actO st me m w (tmS s false)).ca, (actO st me m w (tmS s false)).i, (actO st me m w (tmS s false)).at', (actO st me m w (tmS s false)).n, (actO st me m w (tmS s false)).p⟩ := by unfold stepO incO wroteC; rw [hw, decide_eq_false hc]; rfl
        repeat ((conv => whnf); first | refine sdO ?_ | refine nlO ?_ | refine goA ?_ | refine goB ?_ | (apply Exists.intro; (repeat apply Exists.intro); refine caO ?_) | (refine Or.inl ?_; (conv => whnf); (repeat apply Exists.intro); refine caO ?_) | (refine Or.inr ?_; (conv => whnf); first | ((repeat apply Exists.intro); refine caO ?_) | (refine Or.inl ?_; (conv => whnf); (repeat apply Exists.intro); refine caO ?_) | (refine Or.inr ?_; (conv => whnf); (repeat apply Exists.intro); refine caO ?_)) | refine And.intro (by assumption) ?_ | refine goT ?_ | refine goF ?_ | refine goL ?_ | refine goR ?_ | refine goRL ?_ | refine goRR ?_)
        all_goals try (conv => whnf)
        (refine out_fnd ?_; (repeat' ((conv => whnf) <;> first | exact trivial | (with_reducible first | refine And.intro ?_ ?_ | refine qL1 ?_ | refine qL2 ?_ ?_ | refine qL3 ?_ ?_ ?_ | refine qL4 ?_ ?_ ?_ ?_ | refine qL5 ?_ ?_ ?_ ?_ ?_ | refine yL1 ?_ | refine yL2 ?_ ?_ | refine yL3 ?_ ?_ ?_ | refine qL7 ?_ ?_ ?_ ?_ ?_ ?_ ?_ | refine zL1 ?_ | refine zL2 ?_ ?_ | refine zL3 ?_ ?_ ?_ | refine fun (_ : Nat) => ?_) | refine fun (_ : (_ : Nat) < _) => ?_ | exact rfl | exact Nat.le_of_ble_eq_true rfl | (change (_ : Nat) ≤ _; omega) | (change (_ : Nat) = _; omega) | (change (_ : Int) = _; omega))); (all_goals try (conv => whnf)))
        all_goals (rw [e1]; first | done | (unfold upW; rfl))
end Go.Proofs.YtglijhimopdgkaaGreatDoor
