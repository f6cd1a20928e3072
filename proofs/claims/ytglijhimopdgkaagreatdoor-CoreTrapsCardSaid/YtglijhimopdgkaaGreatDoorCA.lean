/- The address space: where an access leads, what is read there, what is written. -/
import Derived.Test.YtglijhimopdgkaaGreatDoorER5
import Derived.Test.YtglijhimopdgkaaGreatDoorYC
import Derived.Test.YtglijhimopdgkaaGreatDoorV1
namespace Go.Proofs.YtglijhimopdgkaaGreatDoor
open Go.RowKit
set_option maxRecDepth 100000
set_option maxHeartbeats 20000000
abbrev TSp : Ty := ty 95
abbrev spV (st : Nat) (ra po : Nat → BitVec 8) (f c : AV) : AV := .agg false 5 (nth .junk [.nat st, arr8 8192 ra, arr8 64 po, f, c])
abbrev spI (st : Nat) (ra po : Nat → BitVec 8) (P : Nat) (m : Nat → BitVec 8) (w : Nat → BitVec 32) (l : Nat → Bool) : AV := .ipt TSp (spV st ra po (flI P m) (chI w l))
abbrev spR (a b c d e f g st : Nat) (ra po : Nat → BitVec 8) (P : Nat) (m : Nat → BitVec 8) (w : Nat → BitVec 32) (l : Nat → Bool) : List (Nat × Row) :=
  (a, .var TSp (spV st ra po (.ptr TFl b []) (.ptr TCh d []))) :: (b, .var TFl (flV c (P * 256))) :: (c, .grow 5 (P * 256) (bys m)) :: chR d e f g w l
theorem own_sp (a b c d e f g st : Nat) (ra po : Nat → BitVec 8) (P : Nat) (m : Nat → BitVec 8) (w : Nat → BitVec 32) (l : Nat → Bool) : OwnRws (spR a b c d e f g st ra po P m w l) := ⟨fun i hi => by
  rcases i with _ | _ | _ | _ | _ | i
  · exact trivial
  · exact fun _ _ => trivial
  · exact fun _ _ => trivial
  · exact trivial
  · exact trivial
  · exact absurd hi (by omega), (own_fl b c P m).1, (own_fl b c P m).2.1, own_ch d e f g w l⟩
def fdk (w s : Int) (a : Nat) (z : Int) (wr fe : Bool) (n : Nat) : Nat × Nat × Nat :=
  if ¬ (ck w s a z wr fe).2.2 = 0 then (0, 0, (ck w s a z wr fe).2.2) else if rs (ck w s a z wr fe).1 < n + (ck w s a z wr fe).2.1 then (0, 0, 9) else ((ck w s a z wr fe).1, (ck w s a z wr fe).2.1, 0)
theorem ck_lt (w s : Int) (a : Nat) (z : Int) (wr fe : Bool) : (ck w s a z wr fe).1 < 6 := by
  unfold ck
  repeat' split
  all_goals first | decide | skip
  show whi a < 6
  unfold whi
  repeat' split
  all_goals decide
theorem rs_le (r : Nat) : rs r ≤ 10240 := by
  unfold rs
  rcases r with _ | _ | _ | _ | _ | _ | r
  all_goals first | decide | exact Nat.zero_le _
theorem ck_off (w s : Int) (a : BitVec 32) (z : Int) (wr fe : Bool) : (ck w s a.toNat z wr fe).2.1 ≤ 4294967295 := by
  have ha := a.isLt
  unfold ck
  repeat' split
  all_goals first | exact Nat.zero_le _ | skip
  show who a.toNat ≤ 4294967295
  unfold who
  split
  · exact Nat.zero_le _
  · omega
def C_en_find : SpecP := fun A K => ∃ (w s : Int) (a : BitVec 32) (z : Int) (wr fe : Bool) (n : Nat), A [acA w s a z wr fe, .nat n] ∧ n ≤ 1000000 ∧ K (tupOf [.nat (fdk w s a.toNat z wr fe n).1, .nat (fdk w s a.toNat z wr fe n).2.1, .nat (fdk w s a.toNat z wr fe n).2.2])
theorem g_en_find : Gd 34 (pureP ty C_en_find) := by
  refine goodP (E := PG [(56, pureP ty C_g_Check), (57, pureP ty C_g_Base)]) (pgOK ⟨g_g_Check, g_g_Base, trivial⟩) mixes Tryz.func34 (by kernel_rfl) (by kernel_rfl) ?_
  rintro A K ⟨w, s, a, z, wr, fe, n, hA, hn, hK⟩
  refine ⟨_, _, fun _ => none, hA, hK, by kernel_rfl, own_res3 trivial trivial trivial, ?_⟩
  unfold fdk
  have hl := ck_lt w s a.toNat z wr fe
  have hr := rs_le (ck w s a.toNat z wr fe).1
  have hr2 : rs (((ck w s a.toNat z wr fe).1 : Nat) : Int).toNat = rs (ck w s a.toNat z wr fe).1 := by rw [Int.toNat_natCast]
  have ho := ck_off w s a z wr fe
  by_cases he : (ck w s a.toNat z wr fe).2.2 = 0
  · rw [if_neg fun h => h he]
    by_cases h : rs (ck w s a.toNat z wr fe).1 < n + (ck w s a.toNat z wr fe).2.1
    · rw [if_pos h]
      have h2 : ((rs (((ck w s a.toNat z wr fe).1 : Nat) : Int).toNat : Nat) : Int) - (((ck w s a.toNat z wr fe).2.1 : Nat) : Int) < (n : Int) := by omega
      repeat ((conv => whnf); first | refine sdO ?_ | refine nlO ?_ | refine goA ?_ | refine goB ?_ | (apply Exists.intro; (repeat apply Exists.intro); refine caO ?_) | (refine Or.inl ?_; (conv => whnf); (repeat apply Exists.intro); refine caO ?_) | (refine Or.inr ?_; (conv => whnf); first | ((repeat apply Exists.intro); refine caO ?_) | (refine Or.inl ?_; (conv => whnf); (repeat apply Exists.intro); refine caO ?_) | (refine Or.inr ?_; (conv => whnf); (repeat apply Exists.intro); refine caO ?_)) | refine And.intro (by assumption) ?_ | refine goT ?_ | refine goF ?_ | refine goL ?_ | refine goR ?_ | refine goRL ?_ | refine goRR ?_)
      all_goals try (conv => whnf)
      ((repeat' ((conv => whnf) <;> first | exact trivial | (with_reducible first | refine And.intro ?_ ?_ | refine qL1 ?_ | refine qL2 ?_ ?_ | refine qL3 ?_ ?_ ?_ | refine qL4 ?_ ?_ ?_ ?_ | refine qL5 ?_ ?_ ?_ ?_ ?_ | refine yL1 ?_ | refine yL2 ?_ ?_ | refine yL3 ?_ ?_ ?_ | refine qL7 ?_ ?_ ?_ ?_ ?_ ?_ ?_ | refine zL1 ?_ | refine zL2 ?_ ?_ | refine zL3 ?_ ?_ ?_ | refine fun (_ : Nat) => ?_) | refine fun (_ : (_ : Nat) < _) => ?_ | exact rfl | exact Nat.le_of_ble_eq_true rfl | (change (_ : Nat) ≤ _; omega) | (change (_ : Nat) = _; omega) | (change (_ : Int) = _; omega))); (all_goals try (conv => whnf)))
    · rw [if_neg h]
      have h2 : ¬ ((rs (((ck w s a.toNat z wr fe).1 : Nat) : Int).toNat : Nat) : Int) - (((ck w s a.toNat z wr fe).2.1 : Nat) : Int) < (n : Int) := by omega
      repeat ((conv => whnf); first | refine sdO ?_ | refine nlO ?_ | refine goA ?_ | refine goB ?_ | (apply Exists.intro; (repeat apply Exists.intro); refine caO ?_) | (refine Or.inl ?_; (conv => whnf); (repeat apply Exists.intro); refine caO ?_) | (refine Or.inr ?_; (conv => whnf); first | ((repeat apply Exists.intro); refine caO ?_) | (refine Or.inl ?_; (conv => whnf); (repeat apply Exists.intro); refine caO ?_) | (refine Or.inr ?_; (conv => whnf); (repeat apply Exists.intro); refine caO ?_)) | refine And.intro (by assumption) ?_ | refine goT ?_ | refine goF ?_ | refine goL ?_ | refine goR ?_ | refine goRL ?_ | refine goRR ?_)
      all_goals try (conv => whnf)
      ((repeat' ((conv => whnf) <;> first | exact trivial | (with_reducible first | refine And.intro ?_ ?_ | refine qL1 ?_ | refine qL2 ?_ ?_ | refine qL3 ?_ ?_ ?_ | refine qL4 ?_ ?_ ?_ ?_ | refine qL5 ?_ ?_ ?_ ?_ ?_ | refine yL1 ?_ | refine yL2 ?_ ?_ | refine yL3 ?_ ?_ ?_ | refine qL7 ?_ ?_ ?_ ?_ ?_ ?_ ?_ | refine zL1 ?_ | refine zL2 ?_ ?_ | refine zL3 ?_ ?_ ?_ | refine fun (_ : Nat) => ?_) | refine fun (_ : (_ : Nat) < _) => ?_ | exact rfl | exact Nat.le_of_ble_eq_true rfl | (change (_ : Nat) ≤ _; omega) | (change (_ : Nat) = _; omega) | (change (_ : Int) = _; omega))); (all_goals try (conv => whnf)))
  · rw [if_pos he]
    repeat ((conv => whnf); first | refine sdO ?_ | refine nlO ?_ | refine goA ?_ | refine goB ?_ | (apply Exists.intro; (repeat apply Exists.intro); refine caO ?_) | (refine Or.inl ?_; (conv => whnf); (repeat apply Exists.intro); refine caO ?_) | (refine Or.inr ?_; (conv => whnf); first | ((repeat apply Exists.intro); refine caO ?_) | (refine Or.inl ?_; (conv => whnf); (repeat apply Exists.intro); refine caO ?_) | (refine Or.inr ?_; (conv => whnf); (repeat apply Exists.intro); refine caO ?_)) | refine And.intro (by assumption) ?_ | refine goT ?_ | refine goF ?_ | refine goL ?_ | refine goR ?_ | refine goRL ?_ | refine goRR ?_)
    all_goals try (conv => whnf)
    ((repeat' ((conv => whnf) <;> first | exact trivial | (with_reducible first | refine And.intro ?_ ?_ | refine qL1 ?_ | refine qL2 ?_ ?_ | refine qL3 ?_ ?_ ?_ | refine qL4 ?_ ?_ ?_ ?_ | refine qL5 ?_ ?_ ?_ ?_ ?_ | refine yL1 ?_ | refine yL2 ?_ ?_ | refine yL3 ?_ ?_ ?_ | refine qL7 ?_ ?_ ?_ ?_ ?_ ?_ ?_ | refine zL1 ?_ | refine zL2 ?_ ?_ | refine zL3 ?_ ?_ ?_ | refine fun (_ : Nat) => ?_) | refine fun (_ : (_ : Nat) < _) => ?_ | exact rfl | exact Nat.le_of_ble_eq_true rfl | (change (_ : Nat) ≤ _; omega) | (change (_ : Nat) = _; omega) | (change (_ : Int) = _; omega))); (all_goals try (conv => whnf)))
def mmL (r : Nat) : Nat := if r = 4 then 64 else 4096
def mmF (r : Nat) (ra po : Nat → BitVec 8) : Nat → BitVec 8 := if r = 1 then ra else if r = 2 then fun i => ra (4096 + i) else po
abbrev OwnR (r : Nat) : Prop := r = 1 ∨ r = 2 ∨ r = 4
def C_sp_memI : SpecP := fun A K => ∃ st ra po P m w l r, A [spI st ra po P m w l, .nat r] ∧ OwnR r ∧ K (bsl (mmL r) (mmF r ra po))
theorem g_sp_memI : Gd 60 (aliasP ty C_sp_memI) := by
  refine goodA (E := PG []) (pgOK trivial) mixes Tryz.func60 (by kernel_rfl) (by kernel_rfl) ?_
  rintro A K ⟨st, ra, po, P, m, w, l, r, hA, hr, hK⟩
  rcases hr with rfl | rfl | rfl
  · refine ⟨_, _, hA, hK, by kernel_rfl, ⟨rfl, fun _ _ => trivial⟩, ?_⟩
    repeat ((conv => whnf); first | refine sdO ?_ | refine nlO ?_ | refine goA ?_ | refine goB ?_ | (apply Exists.intro; (repeat apply Exists.intro); refine caO ?_) | (refine Or.inl ?_; (conv => whnf); (repeat apply Exists.intro); refine caO ?_) | (refine Or.inr ?_; (conv => whnf); first | ((repeat apply Exists.intro); refine caO ?_) | (refine Or.inl ?_; (conv => whnf); (repeat apply Exists.intro); refine caO ?_) | (refine Or.inr ?_; (conv => whnf); (repeat apply Exists.intro); refine caO ?_)) | refine And.intro (by assumption) ?_ | refine goT ?_ | refine goF ?_ | refine goL ?_ | refine goR ?_ | refine goRL ?_ | refine goRR ?_)
    all_goals try (conv => whnf)
    ((repeat' ((conv => whnf) <;> first | exact trivial | (with_reducible first | refine And.intro ?_ ?_ | refine qL1 ?_ | refine qL2 ?_ ?_ | refine qL3 ?_ ?_ ?_ | refine qL4 ?_ ?_ ?_ ?_ | refine qL5 ?_ ?_ ?_ ?_ ?_ | refine yL1 ?_ | refine yL2 ?_ ?_ | refine yL3 ?_ ?_ ?_ | refine qL7 ?_ ?_ ?_ ?_ ?_ ?_ ?_ | refine zL1 ?_ | refine zL2 ?_ ?_ | refine zL3 ?_ ?_ ?_ | refine fun (_ : Nat) => ?_) | refine fun (_ : (_ : Nat) < _) => ?_ | exact rfl | exact Nat.le_of_ble_eq_true rfl | (change (_ : Nat) ≤ _; omega) | (change (_ : Nat) = _; omega) | (change (_ : Int) = _; omega))); (all_goals try (conv => whnf)))
    all_goals (first | rfl | (rw [Nat.zero_add]; rfl))
  · refine ⟨_, _, hA, hK, by kernel_rfl, ⟨rfl, fun _ _ => trivial⟩, ?_⟩
    repeat ((conv => whnf); first | refine sdO ?_ | refine nlO ?_ | refine goA ?_ | refine goB ?_ | (apply Exists.intro; (repeat apply Exists.intro); refine caO ?_) | (refine Or.inl ?_; (conv => whnf); (repeat apply Exists.intro); refine caO ?_) | (refine Or.inr ?_; (conv => whnf); first | ((repeat apply Exists.intro); refine caO ?_) | (refine Or.inl ?_; (conv => whnf); (repeat apply Exists.intro); refine caO ?_) | (refine Or.inr ?_; (conv => whnf); (repeat apply Exists.intro); refine caO ?_)) | refine And.intro (by assumption) ?_ | refine goT ?_ | refine goF ?_ | refine goL ?_ | refine goR ?_ | refine goRL ?_ | refine goRR ?_)
    all_goals try (conv => whnf)
    ((repeat' ((conv => whnf) <;> first | exact trivial | (with_reducible first | refine And.intro ?_ ?_ | refine qL1 ?_ | refine qL2 ?_ ?_ | refine qL3 ?_ ?_ ?_ | refine qL4 ?_ ?_ ?_ ?_ | refine qL5 ?_ ?_ ?_ ?_ ?_ | refine yL1 ?_ | refine yL2 ?_ ?_ | refine yL3 ?_ ?_ ?_ | refine qL7 ?_ ?_ ?_ ?_ ?_ ?_ ?_ | refine zL1 ?_ | refine zL2 ?_ ?_ | refine zL3 ?_ ?_ ?_ | refine fun (_ : Nat) => ?_) | refine fun (_ : (_ : Nat) < _) => ?_ | exact rfl | exact Nat.le_of_ble_eq_true rfl | (change (_ : Nat) ≤ _; omega) | (change (_ : Nat) = _; omega) | (change (_ : Int) = _; omega))); (all_goals try (conv => whnf)))
    all_goals (first | rfl | (rw [Nat.zero_add]; rfl))
  · refine ⟨_, _, hA, hK, by kernel_rfl, ⟨rfl, fun _ _ => trivial⟩, ?_⟩
    repeat ((conv => whnf); first | refine sdO ?_ | refine nlO ?_ | refine goA ?_ | refine goB ?_ | (apply Exists.intro; (repeat apply Exists.intro); refine caO ?_) | (refine Or.inl ?_; (conv => whnf); (repeat apply Exists.intro); refine caO ?_) | (refine Or.inr ?_; (conv => whnf); first | ((repeat apply Exists.intro); refine caO ?_) | (refine Or.inl ?_; (conv => whnf); (repeat apply Exists.intro); refine caO ?_) | (refine Or.inr ?_; (conv => whnf); (repeat apply Exists.intro); refine caO ?_)) | refine And.intro (by assumption) ?_ | refine goT ?_ | refine goF ?_ | refine goL ?_ | refine goR ?_ | refine goRL ?_ | refine goRR ?_)
    all_goals try (conv => whnf)
    ((repeat' ((conv => whnf) <;> first | exact trivial | (with_reducible first | refine And.intro ?_ ?_ | refine qL1 ?_ | refine qL2 ?_ ?_ | refine qL3 ?_ ?_ ?_ | refine qL4 ?_ ?_ ?_ ?_ | refine qL5 ?_ ?_ ?_ ?_ ?_ | refine yL1 ?_ | refine yL2 ?_ ?_ | refine yL3 ?_ ?_ ?_ | refine qL7 ?_ ?_ ?_ ?_ ?_ ?_ ?_ | refine zL1 ?_ | refine zL2 ?_ ?_ | refine zL3 ?_ ?_ ?_ | refine fun (_ : Nat) => ?_) | refine fun (_ : (_ : Nat) < _) => ?_ | exact rfl | exact Nat.le_of_ble_eq_true rfl | (change (_ : Nat) ≤ _; omega) | (change (_ : Nat) = _; omega) | (change (_ : Int) = _; omega))); (all_goals try (conv => whnf)))
    all_goals (first | rfl | (rw [Nat.zero_add]; rfl))
def mmS (r : Nat) : AV := if r = 1 then .sub (.int .u8) 0 [1] 0 4096 else if r = 2 then .sub (.int .u8) 0 [1] 4096 4096 else .sub (.int .u8) 0 [2] 0 64
def C_sp_memM : SpecM := fun A K => ∃ st ra po P m w l r, A [.ptr TSp 0 [], .nat r] (spR 0 1 2 3 4 5 6 st ra po P m w l) ∧ OwnR r ∧ K (mmS r) (spR 0 1 2 3 4 5 6 st ra po P m w l)
theorem g_sp_memM : Gd 60 (mutD ty [true, false] C_sp_memM) := by
  refine goodD (E := PG []) (pgOK trivial) mixes Tryz.func60 (by kernel_rfl) (by kernel_rfl) ?_
  rintro A K ⟨st, ra, po, P, m, w, l, r, hA, hr, hK⟩
  rcases hr with rfl | rfl | rfl
  · refine ⟨_, _, _, _, fun _ => none, hA, hK, by kernel_rfl, by kernel_rfl, ⟨trivial, trivial, rfl, trivial, trivial, rfl, rfl, trivial⟩, own_sp .., trivial, ?_⟩
    repeat ((conv => whnf); first | refine sdO ?_ | refine nlO ?_ | refine goA ?_ | refine goB ?_ | (apply Exists.intro; (repeat apply Exists.intro); refine caO ?_) | (refine Or.inl ?_; (conv => whnf); (repeat apply Exists.intro); refine caO ?_) | (refine Or.inr ?_; (conv => whnf); first | ((repeat apply Exists.intro); refine caO ?_) | (refine Or.inl ?_; (conv => whnf); (repeat apply Exists.intro); refine caO ?_) | (refine Or.inr ?_; (conv => whnf); (repeat apply Exists.intro); refine caO ?_)) | refine And.intro (by assumption) ?_ | refine goT ?_ | refine goF ?_ | refine goL ?_ | refine goR ?_ | refine goRL ?_ | refine goRR ?_)
    all_goals try (conv => whnf)
    (refine out_fnd ?_; (repeat' ((conv => whnf) <;> first | exact trivial | (with_reducible first | refine And.intro ?_ ?_ | refine qL1 ?_ | refine qL2 ?_ ?_ | refine qL3 ?_ ?_ ?_ | refine qL4 ?_ ?_ ?_ ?_ | refine qL5 ?_ ?_ ?_ ?_ ?_ | refine yL1 ?_ | refine yL2 ?_ ?_ | refine yL3 ?_ ?_ ?_ | refine qL7 ?_ ?_ ?_ ?_ ?_ ?_ ?_ | refine zL1 ?_ | refine zL2 ?_ ?_ | refine zL3 ?_ ?_ ?_ | refine fun (_ : Nat) => ?_) | refine fun (_ : (_ : Nat) < _) => ?_ | exact rfl | exact Nat.le_of_ble_eq_true rfl | (change (_ : Nat) ≤ _; omega) | (change (_ : Nat) = _; omega) | (change (_ : Int) = _; omega))); (all_goals try (conv => whnf)))
  · refine ⟨_, _, _, _, fun _ => none, hA, hK, by kernel_rfl, by kernel_rfl, ⟨trivial, trivial, rfl, trivial, trivial, rfl, rfl, trivial⟩, own_sp .., trivial, ?_⟩
    repeat ((conv => whnf); first | refine sdO ?_ | refine nlO ?_ | refine goA ?_ | refine goB ?_ | (apply Exists.intro; (repeat apply Exists.intro); refine caO ?_) | (refine Or.inl ?_; (conv => whnf); (repeat apply Exists.intro); refine caO ?_) | (refine Or.inr ?_; (conv => whnf); first | ((repeat apply Exists.intro); refine caO ?_) | (refine Or.inl ?_; (conv => whnf); (repeat apply Exists.intro); refine caO ?_) | (refine Or.inr ?_; (conv => whnf); (repeat apply Exists.intro); refine caO ?_)) | refine And.intro (by assumption) ?_ | refine goT ?_ | refine goF ?_ | refine goL ?_ | refine goR ?_ | refine goRL ?_ | refine goRR ?_)
    all_goals try (conv => whnf)
    (refine out_fnd ?_; (repeat' ((conv => whnf) <;> first | exact trivial | (with_reducible first | refine And.intro ?_ ?_ | refine qL1 ?_ | refine qL2 ?_ ?_ | refine qL3 ?_ ?_ ?_ | refine qL4 ?_ ?_ ?_ ?_ | refine qL5 ?_ ?_ ?_ ?_ ?_ | refine yL1 ?_ | refine yL2 ?_ ?_ | refine yL3 ?_ ?_ ?_ | refine qL7 ?_ ?_ ?_ ?_ ?_ ?_ ?_ | refine zL1 ?_ | refine zL2 ?_ ?_ | refine zL3 ?_ ?_ ?_ | refine fun (_ : Nat) => ?_) | refine fun (_ : (_ : Nat) < _) => ?_ | exact rfl | exact Nat.le_of_ble_eq_true rfl | (change (_ : Nat) ≤ _; omega) | (change (_ : Nat) = _; omega) | (change (_ : Int) = _; omega))); (all_goals try (conv => whnf)))
  · refine ⟨_, _, _, _, fun _ => none, hA, hK, by kernel_rfl, by kernel_rfl, ⟨trivial, trivial, rfl, trivial, trivial, rfl, rfl, trivial⟩, own_sp .., trivial, ?_⟩
    repeat ((conv => whnf); first | refine sdO ?_ | refine nlO ?_ | refine goA ?_ | refine goB ?_ | (apply Exists.intro; (repeat apply Exists.intro); refine caO ?_) | (refine Or.inl ?_; (conv => whnf); (repeat apply Exists.intro); refine caO ?_) | (refine Or.inr ?_; (conv => whnf); first | ((repeat apply Exists.intro); refine caO ?_) | (refine Or.inl ?_; (conv => whnf); (repeat apply Exists.intro); refine caO ?_) | (refine Or.inr ?_; (conv => whnf); (repeat apply Exists.intro); refine caO ?_)) | refine And.intro (by assumption) ?_ | refine goT ?_ | refine goF ?_ | refine goL ?_ | refine goR ?_ | refine goRL ?_ | refine goRR ?_)
    all_goals try (conv => whnf)
    (refine out_fnd ?_; (repeat' ((conv => whnf) <;> first | exact trivial | (with_reducible first | refine And.intro ?_ ?_ | refine qL1 ?_ | refine qL2 ?_ ?_ | refine qL3 ?_ ?_ ?_ | refine qL4 ?_ ?_ ?_ ?_ | refine qL5 ?_ ?_ ?_ ?_ ?_ | refine yL1 ?_ | refine yL2 ?_ ?_ | refine yL3 ?_ ?_ ?_ | refine qL7 ?_ ?_ ?_ ?_ ?_ ?_ ?_ | refine zL1 ?_ | refine zL2 ?_ ?_ | refine zL3 ?_ ?_ ?_ | refine fun (_ : Nat) => ?_) | refine fun (_ : (_ : Nat) < _) => ?_ | exact rfl | exact Nat.le_of_ble_eq_true rfl | (change (_ : Nat) ≤ _; omega) | (change (_ : Nat) = _; omega) | (change (_ : Int) = _; omega))); (all_goals try (conv => whnf)))
end Go.Proofs.YtglijhimopdgkaaGreatDoor
