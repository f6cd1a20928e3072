/- The core: an instruction (printed by genco3.py). -/
import Derived.Test.YtglijhimopdgkaaGreatDoorCG
namespace Go.Proofs.YtglijhimopdgkaaGreatDoor
open Go.RowKit
set_option maxRecDepth 100000
set_option maxHeartbeats 20000000
attribute [local irreducible] plN withX upW putC trapS backS aluG stO jmpO braO compO excO ldV byV szV fdk rdF wrRa wrPo ck loaO stoO stoM
def exO (st : Nat) (me : MeS) (m : Nat → BitVec 8) (w : Nat → BitVec 32) (s : CoS) (i : InS) (wd : BitVec 32) : CoO :=
  if i.o = BitVec.ofInt 8 1 then okO (resS s i i.i) i else
  if i.o = BitVec.ofInt 8 2 then okO (resS s i (s.pc + i.i)) i else
  if i.o = BitVec.ofInt 8 3 then jmpO s i (s.pc + i.i) else
  if i.o = BitVec.ofInt 8 4 then jmpO s i ((s.x i.a.toNat + i.i) &&& ~~~ (BitVec.ofInt 32 1)) else
  if i.o = BitVec.ofInt 8 5 ∨ i.o = BitVec.ofInt 8 6 ∨ i.o = BitVec.ofInt 8 7 ∨ i.o = BitVec.ofInt 8 8 ∨ i.o = BitVec.ofInt 8 9 ∨ i.o = BitVec.ofInt 8 10 then braO s i else
  if i.o = BitVec.ofInt 8 11 ∨ i.o = BitVec.ofInt 8 12 ∨ i.o = BitVec.ofInt 8 13 ∨ i.o = BitVec.ofInt 8 14 ∨ i.o = BitVec.ofInt 8 15 then loaO st me.ra me.po m w s i else
  if i.o = BitVec.ofInt 8 16 ∨ i.o = BitVec.ofInt 8 17 ∨ i.o = BitVec.ofInt 8 18 then stoO st s i else
  if i.o = BitVec.ofInt 8 38 ∨ i.o = BitVec.ofInt 8 42 then okO (goS s) i else
  if i.o = BitVec.ofInt 8 39 then trapO s (BitVec.ofInt 32 11) (BitVec.ofInt 32 0) else
  if i.o = BitVec.ofInt 8 40 then trapO s (BitVec.ofInt 32 3) s.pc else
  if i.o = BitVec.ofInt 8 41 then okO (backS s) i else
  if i.o = BitVec.ofInt 8 43 ∨ i.o = BitVec.ofInt 8 44 ∨ i.o = BitVec.ofInt 8 45 ∨ i.o = BitVec.ofInt 8 46 ∨ i.o = BitVec.ofInt 8 47 ∨ i.o = BitVec.ofInt 8 48 then excO s i wd else
  compO s i
def exM (st : Nat) (me : MeS) (s : CoS) (i : InS) : MeS := if i.o = BitVec.ofInt 8 16 ∨ i.o = BitVec.ofInt 8 17 ∨ i.o = BitVec.ofInt 8 18 then stoM st me s i else me
def C_co_exec : SpecM := fun A K => ∃ (st : Nat) (me : MeS) (m : Nat → BitVec 8) (w : Nat → BitVec 32) (l : Nat → Bool) (s : CoS) (i : InS) (wd : BitVec 32), A [coA s, .ptr TSp 0 [], insS i, .u32 wd] (meR st me 40 m w l) ∧ (RegOK i ∧ LkF l) ∧ K (coO (exO st me m w s i wd)) (meR st (exM st me s i) 40 m w l)
theorem g_co_exec : Gd 65 (mutD ty [false, true, false, false] C_co_exec) := by
  refine goodD (E := PG [(92, pureP ty C_co_result), (93, pureP ty C_co_jump), (94, pureP ty C_co_branch), (95, pureP ty C_co_load), (96, mutD ty [false, true, false] C_co_store), (97, pureP ty C_co_goOn), (63, pureP ty C_co_trap), (98, pureP ty C_co_back), (99, pureP ty C_co_exchange), (100, pureP ty C_co_compute)]) (pgOK ⟨g_co_result, g_co_jump, g_co_branch, g_co_load, g_co_store, g_co_goOn, g_co_trap, g_co_back, g_co_exchange, g_co_compute, trivial⟩) mixes Tryz.func65 (by kernel_rfl) (by kernel_rfl) ?_
  rintro A K ⟨st, me, m, w, l, s, i, wd, hA, ⟨hr, hl⟩, hK⟩
  obtain ⟨o, r, a, b, im, c⟩ := i
  obtain ⟨ha, hb⟩ := hr
  replace ha : a.toNat < 32 := ha
  replace hb : b.toNat < 32 := hb
  have hr : a.toNat < 32 ∧ b.toNat < 32 := ⟨ha, hb⟩
  have hm0 : (fun x => m (0 + x)) = m := funext fun x => congrArg m (Nat.zero_add x)
  have hrl : (a.toNat < 32 ∧ b.toNat < 32) ∧ ∀ i, i < 64 → l i = false := ⟨hr, hl⟩
  rcases Decidable.em (o = BitVec.ofInt 8 1) with rfl | h1
  rotate_left
  rcases Decidable.em (o = BitVec.ofInt 8 2) with rfl | h2
  rotate_left
  rcases Decidable.em (o = BitVec.ofInt 8 3) with rfl | h3
  rotate_left
  rcases Decidable.em (o = BitVec.ofInt 8 4) with rfl | h4
  rotate_left
  rcases Decidable.em (o = BitVec.ofInt 8 5) with rfl | h5
  rotate_left
  rcases Decidable.em (o = BitVec.ofInt 8 6) with rfl | h6
  rotate_left
  rcases Decidable.em (o = BitVec.ofInt 8 7) with rfl | h7
  rotate_left
  rcases Decidable.em (o = BitVec.ofInt 8 8) with rfl | h8
  rotate_left
  rcases Decidable.em (o = BitVec.ofInt 8 9) with rfl | h9
  rotate_left
  rcases Decidable.em (o = BitVec.ofInt 8 10) with rfl | h10
  rotate_left
  rcases Decidable.em (o = BitVec.ofInt 8 11) with rfl | h11
  rotate_left
  rcases Decidable.em (o = BitVec.ofInt 8 12) with rfl | h12
  rotate_left
  rcases Decidable.em (o = BitVec.ofInt 8 13) with rfl | h13
  rotate_left
  rcases Decidable.em (o = BitVec.ofInt 8 14) with rfl | h14
  rotate_left
  rcases Decidable.em (o = BitVec.ofInt 8 15) with rfl | h15
  rotate_left
  rcases Decidable.em (o = BitVec.ofInt 8 16) with rfl | h16
  rotate_left
  rcases Decidable.em (o = BitVec.ofInt 8 17) with rfl | h17
  rotate_left
  rcases Decidable.em (o = BitVec.ofInt 8 18) with rfl | h18
  rotate_left
  rcases Decidable.em (o = BitVec.ofInt 8 38) with rfl | h38
  rotate_left
  rcases Decidable.em (o = BitVec.ofInt 8 42) with rfl | h42
  rotate_left
  rcases Decidable.em (o = BitVec.ofInt 8 39) with rfl | h39
  rotate_left
  rcases Decidable.em (o = BitVec.ofInt 8 40) with rfl | h40
  rotate_left
  rcases Decidable.em (o = BitVec.ofInt 8 41) with rfl | h41
  rotate_left
  rcases Decidable.em (o = BitVec.ofInt 8 43) with rfl | h43
  rotate_left
  rcases Decidable.em (o = BitVec.ofInt 8 44) with rfl | h44
  rotate_left
  rcases Decidable.em (o = BitVec.ofInt 8 45) with rfl | h45
  rotate_left
  rcases Decidable.em (o = BitVec.ofInt 8 46) with rfl | h46
  rotate_left
  rcases Decidable.em (o = BitVec.ofInt 8 47) with rfl | h47
  rotate_left
  rcases Decidable.em (o = BitVec.ofInt 8 48) with rfl | h48
  rotate_left
  · have e1 : exO st me m w s ⟨o, r, a, b, im, c⟩ wd = compO s ⟨o, r, a, b, im, c⟩ := by
      unfold exO
      simp only [h1, h2, h3, h4, h5, h6, h7, h8, h9, h10, h11, h12, h13, h14, h15, h16, h17, h18, h38, h42, h39, h40, h41, h43, h44, h45, h46, h47, h48, or_self, if_false]
    have e2 : exM st me s ⟨o, r, a, b, im, c⟩ = me := by
      unfold exM
      simp only [h16, h17, h18, or_self, if_false]
    rw [e1, e2] at hK
    refine ⟨_, _, _, _, fun _ => none, hA, hK, by kernel_rfl, by kernel_rfl, ⟨trivial, trivial, rfl, trivial, trivial, rfl, rfl, trivial⟩, own_sp .., own_coO _, ?_⟩
    repeat ((conv => whnf); first | refine sdO ?_ | refine nlO ?_ | refine goA ?_ | refine goB ?_ | (apply Exists.intro; (repeat apply Exists.intro); refine caO ?_) | (refine Or.inl ?_; (conv => whnf); (repeat apply Exists.intro); refine caO ?_) | (refine Or.inr ?_; (conv => whnf); first | ((repeat apply Exists.intro); refine caO ?_) | (refine Or.inl ?_; (conv => whnf); (repeat apply Exists.intro); refine caO ?_) | (refine Or.inr ?_; (conv => whnf); (repeat apply Exists.intro); refine caO ?_)) | refine And.intro (by assumption) ?_ | refine goT ?_ | refine goF ?_ | refine goL ?_ | refine goR ?_ | refine goRL ?_ | refine goRR ?_)
    all_goals try (conv => whnf)
    (refine out_fnd ?_; (repeat' ((conv => whnf) <;> first | exact trivial | (with_reducible first | refine And.intro ?_ ?_ | refine qL1 ?_ | refine qL2 ?_ ?_ | refine qL3 ?_ ?_ ?_ | refine qL4 ?_ ?_ ?_ ?_ | refine qL5 ?_ ?_ ?_ ?_ ?_ | refine yL1 ?_ | refine yL2 ?_ ?_ | refine yL3 ?_ ?_ ?_ | refine qL7 ?_ ?_ ?_ ?_ ?_ ?_ ?_ | refine zL1 ?_ | refine zL2 ?_ ?_ | refine zL3 ?_ ?_ ?_ | refine fun (_ : Nat) => ?_) | refine fun (_ : (_ : Nat) < _) => ?_ | exact rfl | exact Nat.le_of_ble_eq_true rfl | (change (_ : Nat) ≤ _; omega) | (change (_ : Nat) = _; omega) | (change (_ : Int) = _; omega))); (all_goals try (conv => whnf)))
  all_goals
    refine ⟨_, _, _, _, fun _ => none, hA, hK, by kernel_rfl, by kernel_rfl, ⟨trivial, trivial, rfl, trivial, trivial, rfl, rfl, trivial⟩, own_sp .., own_coO _, ?_⟩
    repeat ((conv => whnf); first | refine sdO ?_ | refine nlO ?_ | refine goA ?_ | refine goB ?_ | (apply Exists.intro; (repeat apply Exists.intro); refine caO ?_) | (refine Or.inl ?_; (conv => whnf); (repeat apply Exists.intro); refine caO ?_) | (refine Or.inr ?_; (conv => whnf); first | ((repeat apply Exists.intro); refine caO ?_) | (refine Or.inl ?_; (conv => whnf); (repeat apply Exists.intro); refine caO ?_) | (refine Or.inr ?_; (conv => whnf); (repeat apply Exists.intro); refine caO ?_)) | refine And.intro (by assumption) ?_ | refine goT ?_ | refine goF ?_ | refine goL ?_ | refine goR ?_ | refine goRL ?_ | refine goRR ?_)
    all_goals try (conv => whnf)
    (refine out_fnd ?_; (repeat' ((conv => whnf) <;> first | exact trivial | (with_reducible first | refine And.intro ?_ ?_ | refine qL1 ?_ | refine qL2 ?_ ?_ | refine qL3 ?_ ?_ ?_ | refine qL4 ?_ ?_ ?_ ?_ | refine qL5 ?_ ?_ ?_ ?_ ?_ | refine yL1 ?_ | refine yL2 ?_ ?_ | refine yL3 ?_ ?_ ?_ | refine qL7 ?_ ?_ ?_ ?_ ?_ ?_ ?_ | refine zL1 ?_ | refine zL2 ?_ ?_ | refine zL3 ?_ ?_ ?_ | refine fun (_ : Nat) => ?_) | refine fun (_ : (_ : Nat) < _) => ?_ | exact rfl | exact Nat.le_of_ble_eq_true rfl | (change (_ : Nat) ≤ _; omega) | (change (_ : Nat) = _; omega) | (change (_ : Int) = _; omega))); (all_goals try (conv => whnf)))
    all_goals (rw [hm0]; rfl)
end Go.Proofs.YtglijhimopdgkaaGreatDoor
