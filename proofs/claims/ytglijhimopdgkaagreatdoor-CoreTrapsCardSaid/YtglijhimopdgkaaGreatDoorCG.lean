/- The core: loads and stores, an instruction, a step. -/
import Derived.Test.YtglijhimopdgkaaGreatDoorCF
import Derived.Test.YtglijhimopdgkaaGreatDoorCB
namespace Go.Proofs.YtglijhimopdgkaaGreatDoor
open Go.RowKit
set_option maxRecDepth 100000
set_option maxHeartbeats 20000000
attribute [local irreducible] plN withX upW putC trapS backS aluG stO jmpO braO compO excO ldV byV szV fdk rdF wrRa wrPo ck
abbrev ldK (st : Nat) (a : BitVec 32) (n : Nat) : Nat × Nat × Nat := fdk 1 st a.toNat 1 false false n
abbrev stK (st : Nat) (a : BitVec 32) (n : Nat) : Nat × Nat × Nat := fdk 1 st a.toNat 1 true false n
abbrev adS (s : CoS) (i : InS) : BitVec 32 := s.x i.a.toNat + i.i
theorem sz_is (o : BitVec 8) : szV o = BitVec.ofInt 32 1 ∨ szV o = BitVec.ofInt 32 2 ∨ szV o = BitVec.ofInt 32 4 := by
  unfold szV
  repeat' split
  all_goals simp
theorem sz_ok (o : BitVec 8) : 0 < (szV o).toNat ∧ (szV o).toNat ≤ 4 ∧ ¬ szV o = 0 ∧ (szV o).toNat ≤ 1000000 ∧ (szV o).toNat ≤ 1000 := by
  rcases sz_is o with e | e | e <;> (rw [e]; decide)
def loaO (st : Nat) (ra po m : Nat → BitVec 8) (w : Nat → BitVec 32) (s : CoS) (i : InS) : CoO :=
  if ¬ adS s i % szV i.o = BitVec.ofInt 32 0 then trapO s (BitVec.ofInt 32 4) (adS s i) else
  if ¬ (ldK st (adS s i) (szV i.o).toNat).2.2 = 0 then trapO s (BitVec.ofInt 32 5) (adS s i) else
  okO (resS s i (ldV i.o (fun j => rdF (ldK st (adS s i) (szV i.o).toNat).1 ra po m w ((ldK st (adS s i) (szV i.o).toNat).2.1 + j)) (szV i.o).toNat)) i
abbrev LkF (l : Nat → Bool) : Prop := ∀ i, i < 64 → l i = false
def C_co_load : SpecP := fun A K => ∃ (st : Nat) (ra po m : Nat → BitVec 8) (w : Nat → BitVec 32) (l : Nat → Bool) (s : CoS) (i : InS), A [coA s, spI st ra po 40 m w l, insS i] ∧ (RegOK i ∧ LkF l) ∧ K (coO (loaO st ra po m w s i))
theorem g_co_load : Gd 95 (pureP ty C_co_load) := by
  refine goodP (E := PG [(119, pureP ty C_co_sizeOf), (63, pureP ty C_co_trap), (18, pureP ty C_sp_Load), (120, pureP ty C_co_loaded), (92, pureP ty C_co_result)]) (pgOK ⟨g_co_sizeOf, g_co_trap, g_sp_Load, g_co_loaded, g_co_result, trivial⟩) mixes Tryz.func95 (by kernel_rfl) (by kernel_rfl) ?_
  rintro A K ⟨st, ra, po, m, w, l, s, i, hA, ⟨⟨ha, hb⟩, hl⟩, hK⟩
  obtain ⟨z0, z4, zn, zm, zk⟩ := sz_ok i.o
  unfold loaO at hK
  by_cases h1 : adS s i % szV i.o = BitVec.ofInt 32 0
  · rw [if_neg fun q => q h1] at hK
    have zl : 0 < (szV i.o).toNat ∧ (szV i.o).toNat ≤ 1000000 ∧ ∀ i, i < 64 → l i = false := ⟨z0, zm, hl⟩
    by_cases h2 : (ldK st (adS s i) (szV i.o).toNat).2.2 = 0
    · rw [if_neg fun q => q h2] at hK
      refine ⟨_, _, fun _ => none, hA, hK, by kernel_rfl, own_coO _, ?_⟩
      repeat ((conv => whnf); first | refine sdO ?_ | refine nlO ?_ | refine goA ?_ | refine goB ?_ | (apply Exists.intro; (repeat apply Exists.intro); refine caO ?_) | (refine Or.inl ?_; (conv => whnf); (repeat apply Exists.intro); refine caO ?_) | (refine Or.inr ?_; (conv => whnf); first | ((repeat apply Exists.intro); refine caO ?_) | (refine Or.inl ?_; (conv => whnf); (repeat apply Exists.intro); refine caO ?_) | (refine Or.inr ?_; (conv => whnf); (repeat apply Exists.intro); refine caO ?_)) | refine And.intro (by assumption) ?_ | refine goT ?_ | refine goF ?_ | refine goL ?_ | refine goR ?_ | refine goRL ?_ | refine goRR ?_)
      all_goals try (conv => whnf)
      ((repeat' ((conv => whnf) <;> first | exact trivial | (with_reducible first | refine And.intro ?_ ?_ | refine qL1 ?_ | refine qL2 ?_ ?_ | refine qL3 ?_ ?_ ?_ | refine qL4 ?_ ?_ ?_ ?_ | refine qL5 ?_ ?_ ?_ ?_ ?_ | refine yL1 ?_ | refine yL2 ?_ ?_ | refine yL3 ?_ ?_ ?_ | refine qL7 ?_ ?_ ?_ ?_ ?_ ?_ ?_ | refine zL1 ?_ | refine zL2 ?_ ?_ | refine zL3 ?_ ?_ ?_ | refine fun (_ : Nat) => ?_) | refine fun (_ : (_ : Nat) < _) => ?_ | exact rfl | exact Nat.le_of_ble_eq_true rfl | (change (_ : Nat) ≤ _; omega) | (change (_ : Nat) = _; omega) | (change (_ : Int) = _; omega))); (all_goals try (conv => whnf)))
    · rw [if_pos h2] at hK
      refine ⟨_, _, fun _ => none, hA, hK, by kernel_rfl, own_coO _, ?_⟩
      repeat ((conv => whnf); first | refine sdO ?_ | refine nlO ?_ | refine goA ?_ | refine goB ?_ | (apply Exists.intro; (repeat apply Exists.intro); refine caO ?_) | (refine Or.inl ?_; (conv => whnf); (repeat apply Exists.intro); refine caO ?_) | (refine Or.inr ?_; (conv => whnf); first | ((repeat apply Exists.intro); refine caO ?_) | (refine Or.inl ?_; (conv => whnf); (repeat apply Exists.intro); refine caO ?_) | (refine Or.inr ?_; (conv => whnf); (repeat apply Exists.intro); refine caO ?_)) | refine And.intro (by assumption) ?_ | refine goT ?_ | refine goF ?_ | refine goL ?_ | refine goR ?_ | refine goRL ?_ | refine goRR ?_)
      all_goals try (conv => whnf)
      ((repeat' ((conv => whnf) <;> first | exact trivial | (with_reducible first | refine And.intro ?_ ?_ | refine qL1 ?_ | refine qL2 ?_ ?_ | refine qL3 ?_ ?_ ?_ | refine qL4 ?_ ?_ ?_ ?_ | refine qL5 ?_ ?_ ?_ ?_ ?_ | refine yL1 ?_ | refine yL2 ?_ ?_ | refine yL3 ?_ ?_ ?_ | refine qL7 ?_ ?_ ?_ ?_ ?_ ?_ ?_ | refine zL1 ?_ | refine zL2 ?_ ?_ | refine zL3 ?_ ?_ ?_ | refine fun (_ : Nat) => ?_) | refine fun (_ : (_ : Nat) < _) => ?_ | exact rfl | exact Nat.le_of_ble_eq_true rfl | (change (_ : Nat) ≤ _; omega) | (change (_ : Nat) = _; omega) | (change (_ : Int) = _; omega))); (all_goals try (conv => whnf)))
  · rw [if_pos h1] at hK
    refine ⟨_, _, fun _ => none, hA, hK, by kernel_rfl, own_coO _, ?_⟩
    repeat ((conv => whnf); first | refine sdO ?_ | refine nlO ?_ | refine goA ?_ | refine goB ?_ | (apply Exists.intro; (repeat apply Exists.intro); refine caO ?_) | (refine Or.inl ?_; (conv => whnf); (repeat apply Exists.intro); refine caO ?_) | (refine Or.inr ?_; (conv => whnf); first | ((repeat apply Exists.intro); refine caO ?_) | (refine Or.inl ?_; (conv => whnf); (repeat apply Exists.intro); refine caO ?_) | (refine Or.inr ?_; (conv => whnf); (repeat apply Exists.intro); refine caO ?_)) | refine And.intro (by assumption) ?_ | refine goT ?_ | refine goF ?_ | refine goL ?_ | refine goR ?_ | refine goRL ?_ | refine goRR ?_)
    all_goals try (conv => whnf)
    ((repeat' ((conv => whnf) <;> first | exact trivial | (with_reducible first | refine And.intro ?_ ?_ | refine qL1 ?_ | refine qL2 ?_ ?_ | refine qL3 ?_ ?_ ?_ | refine qL4 ?_ ?_ ?_ ?_ | refine qL5 ?_ ?_ ?_ ?_ ?_ | refine yL1 ?_ | refine yL2 ?_ ?_ | refine yL3 ?_ ?_ ?_ | refine qL7 ?_ ?_ ?_ ?_ ?_ ?_ ?_ | refine zL1 ?_ | refine zL2 ?_ ?_ | refine zL3 ?_ ?_ ?_ | refine fun (_ : Nat) => ?_) | refine fun (_ : (_ : Nat) < _) => ?_ | exact rfl | exact Nat.le_of_ble_eq_true rfl | (change (_ : Nat) ≤ _; omega) | (change (_ : Nat) = _; omega) | (change (_ : Int) = _; omega))); (all_goals try (conv => whnf)))
theorem rights_own : ∀ st : Nat, st < 3 → ∀ q : Nat, q < 6 → ¬ den 1 (st : Int) q true false → OwnR q := by
  intro st hst q hq
  rcases (show st = 0 ∨ st = 1 ∨ st = 2 by omega) with rfl | rfl | rfl
  all_goals (rcases (show q = 0 ∨ q = 1 ∨ q = 2 ∨ q = 3 ∨ q = 4 ∨ q = 5 by omega) with rfl | rfl | rfl | rfl | rfl | rfl)
  all_goals first | (exact fun _ => by decide) | (intro h; exact absurd (by decide) h)
theorem stK_own {st : Nat} {a : BitVec 32} {n : Nat} (h : (stK st a n).2.2 = 0) : OwnR (stK st a n).1 := by
  have hl := ck_lt 1 st a.toNat 1 true false
  unfold stK fdk at h ⊢
  by_cases h1 : (ck 1 st a.toNat 1 true false).2.2 = 0
  · rw [if_neg fun q => q h1] at h ⊢
    by_cases h2 : rs (ck 1 st a.toNat 1 true false).1 < n + (ck 1 st a.toNat 1 true false).2.1
    · rw [if_pos h2] at h; exact absurd h (by decide)
    · rw [if_neg h2]
      show OwnR (ck 1 st a.toNat 1 true false).1
      unfold ck at h1 hl ⊢
      by_cases k1 : malB 1 st 1 true false = true
      · rw [if_pos k1] at h1; exact absurd h1 (by decide)
      by_cases k2 : ¬ a.toNat % (1 : Int).toNat = 0
      · rw [if_neg k1, if_pos k2] at h1; exact absurd h1 (by decide)
      by_cases k3 : whi a.toNat = 0
      · rw [if_neg k1, if_neg k2, if_pos k3] at h1; exact absurd h1 (by decide)
      by_cases k4 : den 1 st (whi a.toNat) true false
      · rw [if_neg k1, if_neg k2, if_neg k3, if_pos k4] at h1; exact absurd h1 (by decide)
      rw [if_neg k1, if_neg k2, if_neg k3, if_neg k4] at hl ⊢
      have hm := (mal_no (Bool.eq_false_iff.2 k1)).1
      exact rights_own st (by omega) _ hl k4
  · rw [if_pos h1] at h; exact absurd h h1
structure MeS where
  ra : Nat → BitVec 8
  po : Nat → BitVec 8
def stoM (st : Nat) (me : MeS) (s : CoS) (i : InS) : MeS :=
  if ¬ adS s i % szV i.o = BitVec.ofInt 32 0 then me else if ¬ (stK st (adS s i) (szV i.o).toNat).2.2 = 0 then me else
  ⟨wrRa (stK st (adS s i) (szV i.o).toNat).1 me.ra (stK st (adS s i) (szV i.o).toNat).2.1 (szV i.o).toNat (byV (s.x i.b.toNat)), wrPo (stK st (adS s i) (szV i.o).toNat).1 me.po (stK st (adS s i) (szV i.o).toNat).2.1 (szV i.o).toNat (byV (s.x i.b.toNat))⟩
def stoO (st : Nat) (s : CoS) (i : InS) : CoO :=
  if ¬ adS s i % szV i.o = BitVec.ofInt 32 0 then trapO s (BitVec.ofInt 32 6) (adS s i) else if ¬ (stK st (adS s i) (szV i.o).toNat).2.2 = 0 then trapO s (BitVec.ofInt 32 7) (adS s i) else
  ⟨goS s, false, 0, i, adS s i, (szV i.o).toNat, byV (s.x i.b.toNat)⟩
abbrev meR (st : Nat) (me : MeS) (P : Nat) (m : Nat → BitVec 8) (w : Nat → BitVec 32) (l : Nat → Bool) : List (Nat × Row) := spR 0 1 2 3 4 5 6 st me.ra me.po P m w l
def C_co_store : SpecM := fun A K => ∃ (st : Nat) (me : MeS) (P : Nat) (m : Nat → BitVec 8) (w : Nat → BitVec 32) (l : Nat → Bool) (s : CoS) (i : InS), A [coA s, .ptr TSp 0 [], insS i] (meR st me P m w l) ∧ RegOK i ∧ K (coO (stoO st s i)) (meR st (stoM st me s i) P m w l)
theorem g_co_store : Gd 96 (mutD ty [false, true, false] C_co_store) := by
  refine goodD (E := PG [(119, pureP ty C_co_sizeOf), (63, pureP ty C_co_trap), (121, pureP ty C_co_bytesOf), (11, mutD ty [true, false, false, false] C_sp_Store), (97, pureP ty C_co_goOn)]) (pgOK ⟨g_co_sizeOf, g_co_trap, g_co_bytesOf, g_sp_Store, g_co_goOn, trivial⟩) mixes Tryz.func96 (by kernel_rfl) (by kernel_rfl) ?_
  rintro A K ⟨st, me, P, m, w, l, s, i, hA, ⟨ha, hb⟩, hK⟩
  obtain ⟨z0, z4, zn, zm, zk⟩ := sz_ok i.o
  have z04 : 0 < (szV i.o).toNat ∧ (szV i.o).toNat ≤ 4 := ⟨z0, z4⟩
  have zo : (szV i.o).toNat ≤ 1000000 ∧ ((stK st (adS s i) (szV i.o).toNat).2.2 = 0 → OwnR (stK st (adS s i) (szV i.o).toNat).1) := ⟨zm, stK_own⟩
  by_cases h1 : adS s i % szV i.o = BitVec.ofInt 32 0
  · by_cases h2 : (stK st (adS s i) (szV i.o).toNat).2.2 = 0
    · have e1 : stoO st s i = ⟨goS s, false, 0, i, adS s i, (szV i.o).toNat, byV (s.x i.b.toNat)⟩ := by unfold stoO; rw [if_neg fun q => q h1, if_neg fun q => q h2]
      have e2 : stoM st me s i = ⟨wrRa (stK st (adS s i) (szV i.o).toNat).1 me.ra (stK st (adS s i) (szV i.o).toNat).2.1 (szV i.o).toNat (byV (s.x i.b.toNat)), wrPo (stK st (adS s i) (szV i.o).toNat).1 me.po (stK st (adS s i) (szV i.o).toNat).2.1 (szV i.o).toNat (byV (s.x i.b.toNat))⟩ := by unfold stoM; rw [if_neg fun q => q h1, if_neg fun q => q h2]
      rw [e1, e2] at hK
      refine ⟨_, _, _, _, fun _ => none, hA, hK, by kernel_rfl, by kernel_rfl, ⟨trivial, trivial, rfl, trivial, trivial, rfl, rfl, trivial⟩, own_sp .., own_coO _, ?_⟩
      have h3 : 0 < (szV i.o).toNat ∧ (stK st (adS s i) (szV i.o).toNat).2.2 = 0 := ⟨z0, h2⟩
      repeat ((conv => whnf); first | refine sdO ?_ | refine nlO ?_ | refine goA ?_ | refine goB ?_ | (apply Exists.intro; (repeat apply Exists.intro); refine caO ?_) | (refine Or.inl ?_; (conv => whnf); (repeat apply Exists.intro); refine caO ?_) | (refine Or.inr ?_; (conv => whnf); first | ((repeat apply Exists.intro); refine caO ?_) | (refine Or.inl ?_; (conv => whnf); (repeat apply Exists.intro); refine caO ?_) | (refine Or.inr ?_; (conv => whnf); (repeat apply Exists.intro); refine caO ?_)) | refine And.intro (by assumption) ?_ | refine goT ?_ | refine goF ?_ | refine goL ?_ | refine goR ?_ | refine goRL ?_ | refine goRR ?_)
      all_goals try (conv => whnf)
      (refine out_fnd ?_; (repeat' ((conv => whnf) <;> first | exact trivial | (with_reducible first | refine And.intro ?_ ?_ | refine qL1 ?_ | refine qL2 ?_ ?_ | refine qL3 ?_ ?_ ?_ | refine qL4 ?_ ?_ ?_ ?_ | refine qL5 ?_ ?_ ?_ ?_ ?_ | refine yL1 ?_ | refine yL2 ?_ ?_ | refine yL3 ?_ ?_ ?_ | refine qL7 ?_ ?_ ?_ ?_ ?_ ?_ ?_ | refine zL1 ?_ | refine zL2 ?_ ?_ | refine zL3 ?_ ?_ ?_ | refine fun (_ : Nat) => ?_) | refine fun (_ : (_ : Nat) < _) => ?_ | exact rfl | exact Nat.le_of_ble_eq_true rfl | (change (_ : Nat) ≤ _; omega) | (change (_ : Nat) = _; omega) | (change (_ : Int) = _; omega))); (all_goals try (conv => whnf)))
    · have e1 : stoO st s i = trapO s (BitVec.ofInt 32 7) (adS s i) := by unfold stoO; rw [if_neg fun q => q h1, if_pos h2]
      have e2 : stoM st me s i = me := by unfold stoM; rw [if_neg fun q => q h1, if_pos h2]
      rw [e1, e2] at hK
      refine ⟨_, _, _, _, fun _ => none, hA, hK, by kernel_rfl, by kernel_rfl, ⟨trivial, trivial, rfl, trivial, trivial, rfl, rfl, trivial⟩, own_sp .., own_coO _, ?_⟩
      have h3 : 0 < (szV i.o).toNat ∧ ¬ (stK st (adS s i) (szV i.o).toNat).2.2 = 0 := ⟨z0, h2⟩
      have h4 : ¬ (szV i.o).toNat = 0 := by omega
      repeat ((conv => whnf); first | refine sdO ?_ | refine nlO ?_ | refine goA ?_ | refine goB ?_ | (apply Exists.intro; (repeat apply Exists.intro); refine caO ?_) | (refine Or.inl ?_; (conv => whnf); (repeat apply Exists.intro); refine caO ?_) | (refine Or.inr ?_; (conv => whnf); first | ((repeat apply Exists.intro); refine caO ?_) | (refine Or.inl ?_; (conv => whnf); (repeat apply Exists.intro); refine caO ?_) | (refine Or.inr ?_; (conv => whnf); (repeat apply Exists.intro); refine caO ?_)) | refine And.intro (by assumption) ?_ | refine goT ?_ | refine goF ?_ | refine goL ?_ | refine goR ?_ | refine goRL ?_ | refine goRR ?_)
      all_goals try (conv => whnf)
      (refine out_fnd ?_; (repeat' ((conv => whnf) <;> first | exact trivial | (with_reducible first | refine And.intro ?_ ?_ | refine qL1 ?_ | refine qL2 ?_ ?_ | refine qL3 ?_ ?_ ?_ | refine qL4 ?_ ?_ ?_ ?_ | refine qL5 ?_ ?_ ?_ ?_ ?_ | refine yL1 ?_ | refine yL2 ?_ ?_ | refine yL3 ?_ ?_ ?_ | refine qL7 ?_ ?_ ?_ ?_ ?_ ?_ ?_ | refine zL1 ?_ | refine zL2 ?_ ?_ | refine zL3 ?_ ?_ ?_ | refine fun (_ : Nat) => ?_) | refine fun (_ : (_ : Nat) < _) => ?_ | exact rfl | exact Nat.le_of_ble_eq_true rfl | (change (_ : Nat) ≤ _; omega) | (change (_ : Nat) = _; omega) | (change (_ : Int) = _; omega))); (all_goals try (conv => whnf)))
  · have e1 : stoO st s i = trapO s (BitVec.ofInt 32 6) (adS s i) := by unfold stoO; rw [if_pos h1]
    have e2 : stoM st me s i = me := by unfold stoM; rw [if_pos h1]
    rw [e1, e2] at hK
    refine ⟨_, _, _, _, fun _ => none, hA, hK, by kernel_rfl, by kernel_rfl, ⟨trivial, trivial, rfl, trivial, trivial, rfl, rfl, trivial⟩, own_sp .., own_coO _, ?_⟩
    repeat ((conv => whnf); first | refine sdO ?_ | refine nlO ?_ | refine goA ?_ | refine goB ?_ | (apply Exists.intro; (repeat apply Exists.intro); refine caO ?_) | (refine Or.inl ?_; (conv => whnf); (repeat apply Exists.intro); refine caO ?_) | (refine Or.inr ?_; (conv => whnf); first | ((repeat apply Exists.intro); refine caO ?_) | (refine Or.inl ?_; (conv => whnf); (repeat apply Exists.intro); refine caO ?_) | (refine Or.inr ?_; (conv => whnf); (repeat apply Exists.intro); refine caO ?_)) | refine And.intro (by assumption) ?_ | refine goT ?_ | refine goF ?_ | refine goL ?_ | refine goR ?_ | refine goRL ?_ | refine goRR ?_)
    all_goals try (conv => whnf)
    (refine out_fnd ?_; (repeat' ((conv => whnf) <;> first | exact trivial | (with_reducible first | refine And.intro ?_ ?_ | refine qL1 ?_ | refine qL2 ?_ ?_ | refine qL3 ?_ ?_ ?_ | refine qL4 ?_ ?_ ?_ ?_ | refine qL5 ?_ ?_ ?_ ?_ ?_ | refine yL1 ?_ | refine yL2 ?_ ?_ | refine yL3 ?_ ?_ ?_ | refine qL7 ?_ ?_ ?_ ?_ ?_ ?_ ?_ | refine zL1 ?_ | refine zL2 ?_ ?_ | refine zL3 ?_ ?_ ?_ | refine fun (_ : Nat) => ?_) | refine fun (_ : (_ : Nat) < _) => ?_ | exact rfl | exact Nat.le_of_ble_eq_true rfl | (change (_ : Nat) ≤ _; omega) | (change (_ : Nat) = _; omega) | (change (_ : Int) = _; omega))); (all_goals try (conv => whnf)))
end Go.Proofs.YtglijhimopdgkaaGreatDoor
