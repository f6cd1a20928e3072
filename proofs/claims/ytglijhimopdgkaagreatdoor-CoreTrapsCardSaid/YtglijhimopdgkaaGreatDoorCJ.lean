/- The laws' space: laid, and held against the document's memory. -/
import Derived.Test.YtglijhimopdgkaaGreatDoorCB
namespace Go.Proofs.YtglijhimopdgkaaGreatDoor
open Go.RowKit
set_option maxRecDepth 100000
set_option maxHeartbeats 20000000
attribute [local irreducible] fdk ck rdF
abbrev TMm : Ty := ty 98
abbrev mmV (st : Nat) (a b c d e : AV) : AV := .agg false 3 (nth .junk [.nat st, .agg true 6 (nth .junk [.nils, a, b, c, d, e]), .bo false])
abbrev g8 (k n : Nat) : AV := .gsl 5 k n
abbrev r8 (k n : Nat) (f : Nat → BitVec 8) : Nat × Row := (k, .grow 5 n (bys f))
theorem own_mm {st : Nat} {a b c d e : AV} (ha : Own a) (hb : Own b) (hc : Own c) (hd : Own d) (he : Own e) : Own (mmV st a b c d e) := fun i hi => by
  rcases i with _ | _ | _ | i
  · exact trivial
  · intro j hj
    rcases j with _ | _ | _ | _ | _ | _ | j
    · exact trivial
    · exact ha
    · exact hb
    · exact hc
    · exact hd
    · exact he
    · exact absurd hj (by omega)
  · exact trivial
  · exact absurd hi (by omega)
def L_r18_New (st : Nat) : LI := ⟨Nat, (· ≤ 10240), fun k => [(3, .ptr TMm 1048 []), (38, .nat 10240), (39, .nat k)], fun k => [(1048, .var TMm (mmV st (g8 2088 4096) (g8 2096 4096) (g8 3088 10240) (g8 2104 64) (g8 2112 256))), r8 2088 4096 (fun _ => 0), r8 2096 4096 (fun _ => 0), r8 3088 10240 (fun j => if j < k then 255 else 0), r8 2104 64 (fun _ => 0), r8 2112 256 (fun _ => 0)], fun k => 10240 - k, some, some⟩
def C_r18_New : SpecR := fun A K => ∃ st : Nat, A [.nat st] ∧ K (.ptr TMm 8 []) [(8, .var TMm (mmV st (g8 9 4096) (g8 10 4096) (g8 11 10240) (g8 12 64) (g8 13 256))), r8 9 4096 (fun _ => 0), r8 10 4096 (fun _ => 0), r8 11 10240 (fun _ => 255), r8 12 64 (fun _ => 0), r8 13 256 (fun _ => 0)]
theorem g_r18_New : Gd 32 (pureR ty C_r18_New) := by
  refine goodR (E := PG []) (pgOK trivial) mixes Tryz.func32 (by kernel_rfl) (by kernel_rfl) ?_
  rintro A K ⟨st, hA, hK⟩
  refine ⟨_, _, _, loops [(5, L_r18_New st)], hA, hK, by kernel_rfl, by kernel_rfl, ⟨own_mm trivial trivial trivial trivial trivial, fun _ _ => trivial, fun _ _ => trivial, fun _ _ => trivial, fun _ _ => trivial, fun _ _ => trivial, trivial⟩, trivial, ?_⟩
  repeat ((conv => whnf); first | refine sdO ?_ | refine nlO ?_ | refine goA ?_ | refine goB ?_ | (apply Exists.intro; (repeat apply Exists.intro); refine caO ?_) | (refine Or.inl ?_; (conv => whnf); (repeat apply Exists.intro); refine caO ?_) | (refine Or.inr ?_; (conv => whnf); first | ((repeat apply Exists.intro); refine caO ?_) | (refine Or.inl ?_; (conv => whnf); (repeat apply Exists.intro); refine caO ?_) | (refine Or.inr ?_; (conv => whnf); (repeat apply Exists.intro); refine caO ?_)) | refine And.intro (by assumption) ?_ | refine goT ?_ | refine goF ?_ | refine goL ?_ | refine goR ?_ | refine goRL ?_ | refine goRR ?_)
  all_goals try (conv => whnf)
  refine Exists.intro (fun _ => True) (And.intro (Enter.mk (0 : Nat) (Nat.zero_le _) trivial ?_) (fun (k : Nat) (hk : k ≤ 10240) _ => ?_))
  · ((repeat' ((conv => whnf) <;> first | exact trivial | (with_reducible first | refine And.intro ?_ ?_ | refine qL1 ?_ | refine qL2 ?_ ?_ | refine qL3 ?_ ?_ ?_ | refine qL4 ?_ ?_ ?_ ?_ | refine qL5 ?_ ?_ ?_ ?_ ?_ | refine yL1 ?_ | refine yL2 ?_ ?_ | refine yL3 ?_ ?_ ?_ | refine qL7 ?_ ?_ ?_ ?_ ?_ ?_ ?_ | refine zL1 ?_ | refine zL2 ?_ ?_ | refine zL3 ?_ ?_ ?_ | refine fun (_ : Nat) => ?_) | refine fun (_ : (_ : Nat) < _) => ?_ | exact rfl | exact Nat.le_of_ble_eq_true rfl | (change (_ : Nat) ≤ _; omega) | (change (_ : Nat) = _; omega) | (change (_ : Int) = _; omega))); (all_goals try (conv => whnf)))
    all_goals first | (rename_i x hx; have hx6 : x < 6 := hx; rcases x with _ | _ | _ | _ | _ | _ | x <;> first | (exact absurd hx6 (by omega)) | ((repeat' ((conv => whnf) <;> first | exact trivial | (with_reducible first | refine And.intro ?_ ?_ | refine qL1 ?_ | refine qL2 ?_ ?_ | refine qL3 ?_ ?_ ?_ | refine qL4 ?_ ?_ ?_ ?_ | refine qL5 ?_ ?_ ?_ ?_ ?_ | refine yL1 ?_ | refine yL2 ?_ ?_ | refine yL3 ?_ ?_ ?_ | refine qL7 ?_ ?_ ?_ ?_ ?_ ?_ ?_ | refine zL1 ?_ | refine zL2 ?_ ?_ | refine zL3 ?_ ?_ ?_ | refine fun (_ : Nat) => ?_) | refine fun (_ : (_ : Nat) < _) => ?_ | exact rfl | exact Nat.le_of_ble_eq_true rfl | (change (_ : Nat) ≤ _; omega) | (change (_ : Nat) = _; omega) | (change (_ : Int) = _; omega))); (all_goals try (conv => whnf)))) | (rename_i x hx; exact (if_neg (Nat.not_lt_zero _)).symm)
  rcases Nat.lt_or_ge k 10240 with h | h
  · skip
    repeat ((conv => whnf); first | refine sdO ?_ | refine nlO ?_ | refine goA ?_ | refine goB ?_ | (apply Exists.intro; (repeat apply Exists.intro); refine caO ?_) | (refine Or.inl ?_; (conv => whnf); (repeat apply Exists.intro); refine caO ?_) | (refine Or.inr ?_; (conv => whnf); first | ((repeat apply Exists.intro); refine caO ?_) | (refine Or.inl ?_; (conv => whnf); (repeat apply Exists.intro); refine caO ?_) | (refine Or.inr ?_; (conv => whnf); (repeat apply Exists.intro); refine caO ?_)) | refine And.intro (by assumption) ?_ | refine goT ?_ | refine goF ?_ | refine goL ?_ | refine goR ?_ | refine goRL ?_ | refine goRR ?_)
    all_goals try (conv => whnf)
    refine Again.mk (k + 1 : Nat) h trivial (show 10240 - (k + 1) < 10240 - k by omega) ?_
    ((repeat' ((conv => whnf) <;> first | exact trivial | (with_reducible first | refine And.intro ?_ ?_ | refine qL1 ?_ | refine qL2 ?_ ?_ | refine qL3 ?_ ?_ ?_ | refine qL4 ?_ ?_ ?_ ?_ | refine qL5 ?_ ?_ ?_ ?_ ?_ | refine yL1 ?_ | refine yL2 ?_ ?_ | refine yL3 ?_ ?_ ?_ | refine qL7 ?_ ?_ ?_ ?_ ?_ ?_ ?_ | refine zL1 ?_ | refine zL2 ?_ ?_ | refine zL3 ?_ ?_ ?_ | refine fun (_ : Nat) => ?_) | refine fun (_ : (_ : Nat) < _) => ?_ | exact rfl | exact Nat.le_of_ble_eq_true rfl | (change (_ : Nat) ≤ _; omega) | (change (_ : Nat) = _; omega) | (change (_ : Int) = _; omega))); (all_goals try (conv => whnf)))
    all_goals first | (rename_i x hx; have hx6 : x < 6 := hx; rcases x with _ | _ | _ | _ | _ | _ | x <;> first | (exact absurd hx6 (by omega)) | ((repeat' ((conv => whnf) <;> first | exact trivial | (with_reducible first | refine And.intro ?_ ?_ | refine qL1 ?_ | refine qL2 ?_ ?_ | refine qL3 ?_ ?_ ?_ | refine qL4 ?_ ?_ ?_ ?_ | refine qL5 ?_ ?_ ?_ ?_ ?_ | refine yL1 ?_ | refine yL2 ?_ ?_ | refine yL3 ?_ ?_ ?_ | refine qL7 ?_ ?_ ?_ ?_ ?_ ?_ ?_ | refine zL1 ?_ | refine zL2 ?_ ?_ | refine zL3 ?_ ?_ ?_ | refine fun (_ : Nat) => ?_) | refine fun (_ : (_ : Nat) < _) => ?_ | exact rfl | exact Nat.le_of_ble_eq_true rfl | (change (_ : Nat) ≤ _; omega) | (change (_ : Nat) = _; omega) | (change (_ : Int) = _; omega))); (all_goals try (conv => whnf)))) | skip
    rename_i x hx
    show (if x = k then BitVec.ofInt 8 255 else if x < k then 255 else 0) = if x < k + 1 then (255 : BitVec 8) else 0
    by_cases e : x = k
    · rw [if_pos e, if_pos (by omega)]
      rfl
    · rw [if_neg e]
      by_cases e2 : x < k
      · rw [if_pos e2, if_pos (by omega)]
      · rw [if_neg e2, if_neg (by omega)]
  · obtain rfl : k = 10240 := by omega
    repeat ((conv => whnf); first | refine sdO ?_ | refine nlO ?_ | refine goA ?_ | refine goB ?_ | (apply Exists.intro; (repeat apply Exists.intro); refine caO ?_) | (refine Or.inl ?_; (conv => whnf); (repeat apply Exists.intro); refine caO ?_) | (refine Or.inr ?_; (conv => whnf); first | ((repeat apply Exists.intro); refine caO ?_) | (refine Or.inl ?_; (conv => whnf); (repeat apply Exists.intro); refine caO ?_) | (refine Or.inr ?_; (conv => whnf); (repeat apply Exists.intro); refine caO ?_)) | refine And.intro (by assumption) ?_ | refine goT ?_ | refine goF ?_ | refine goL ?_ | refine goR ?_ | refine goRL ?_ | refine goRR ?_)
    all_goals try (conv => whnf)
    refine ⟨fun k => nth none [some 1048, some 2088, some 2096, some 3088, some 2104, some 2112] (k - 8), ?_⟩
    ((repeat' ((conv => whnf) <;> first | exact trivial | (with_reducible first | refine And.intro ?_ ?_ | refine qL1 ?_ | refine qL2 ?_ ?_ | refine qL3 ?_ ?_ ?_ | refine qL4 ?_ ?_ ?_ ?_ | refine qL5 ?_ ?_ ?_ ?_ ?_ | refine yL1 ?_ | refine yL2 ?_ ?_ | refine yL3 ?_ ?_ ?_ | refine qL7 ?_ ?_ ?_ ?_ ?_ ?_ ?_ | refine zL1 ?_ | refine zL2 ?_ ?_ | refine zL3 ?_ ?_ ?_ | refine fun (_ : Nat) => ?_) | refine fun (_ : (_ : Nat) < _) => ?_ | exact rfl | exact Nat.le_of_ble_eq_true rfl | (change (_ : Nat) ≤ _; omega) | (change (_ : Nat) = _; omega) | (change (_ : Int) = _; omega))); (all_goals try (conv => whnf)))
    all_goals first | (rename_i x hx; have hx6 : x < 6 := hx; rcases x with _ | _ | _ | _ | _ | _ | x <;> first | (exact absurd hx6 (by omega)) | ((repeat' ((conv => whnf) <;> first | exact trivial | (with_reducible first | refine And.intro ?_ ?_ | refine qL1 ?_ | refine qL2 ?_ ?_ | refine qL3 ?_ ?_ ?_ | refine qL4 ?_ ?_ ?_ ?_ | refine qL5 ?_ ?_ ?_ ?_ ?_ | refine yL1 ?_ | refine yL2 ?_ ?_ | refine yL3 ?_ ?_ ?_ | refine qL7 ?_ ?_ ?_ ?_ ?_ ?_ ?_ | refine zL1 ?_ | refine zL2 ?_ ?_ | refine zL3 ?_ ?_ ?_ | refine fun (_ : Nat) => ?_) | refine fun (_ : (_ : Nat) < _) => ?_ | exact rfl | exact Nat.le_of_ble_eq_true rfl | (change (_ : Nat) ≤ _; omega) | (change (_ : Nat) = _; omega) | (change (_ : Int) = _; omega))); (all_goals try (conv => whnf)))) | (rename_i x hx; exact if_pos hx)
def C_en_New : SpecM := fun A K => ∃ P m w l, A [.ptr TFl 0 [], .ptr TCh 2 []] ([(0, .var TFl (flV 1 (P * 256))), (1, .grow 5 (P * 256) (bys m))] ++ chR 2 3 4 5 w l) ∧ K (.ptr TSp 8 []) ((8, .var TSp (spV 0 (fun _ => 0) (fun _ => 0) (.ptr TFl 0 []) (.ptr TCh 2 []))) :: [(0, .var TFl (flV 1 (P * 256))), (1, .grow 5 (P * 256) (bys m))] ++ chR 2 3 4 5 w l)
theorem g_en_New : Gd 30 (mutD ty [true, true] C_en_New) := by
  refine goodD (E := PG []) (pgOK trivial) mixes Tryz.func30 (by kernel_rfl) (by kernel_rfl) ?_
  rintro A K ⟨P, m, w, l, hA, hK⟩
  refine ⟨_, _, _, _, fun _ => none, hA, hK, by kernel_rfl, by kernel_rfl, ⟨trivial, trivial, rfl, trivial, trivial, rfl, rfl, trivial⟩, ⟨?_, (own_fl 0 1 P m).1, (own_fl 0 1 P m).2.1, own_ch 2 3 4 5 w l⟩, trivial, ?_⟩
  · exact (own_sp 8 0 1 2 3 4 5 0 (fun _ => 0) (fun _ => 0) P m w l).1
  repeat ((conv => whnf); first | refine sdO ?_ | refine nlO ?_ | refine goA ?_ | refine goB ?_ | (apply Exists.intro; (repeat apply Exists.intro); refine caO ?_) | (refine Or.inl ?_; (conv => whnf); (repeat apply Exists.intro); refine caO ?_) | (refine Or.inr ?_; (conv => whnf); first | ((repeat apply Exists.intro); refine caO ?_) | (refine Or.inl ?_; (conv => whnf); (repeat apply Exists.intro); refine caO ?_) | (refine Or.inr ?_; (conv => whnf); (repeat apply Exists.intro); refine caO ?_)) | refine And.intro (by assumption) ?_ | refine goT ?_ | refine goF ?_ | refine goL ?_ | refine goR ?_ | refine goRL ?_ | refine goRR ?_)
  all_goals try (conv => whnf)
  (refine out_fnd ?_; (repeat' ((conv => whnf) <;> first | exact trivial | (with_reducible first | refine And.intro ?_ ?_ | refine qL1 ?_ | refine qL2 ?_ ?_ | refine qL3 ?_ ?_ ?_ | refine qL4 ?_ ?_ ?_ ?_ | refine qL5 ?_ ?_ ?_ ?_ ?_ | refine yL1 ?_ | refine yL2 ?_ ?_ | refine yL3 ?_ ?_ ?_ | refine qL7 ?_ ?_ ?_ ?_ ?_ ?_ ?_ | refine zL1 ?_ | refine zL2 ?_ ?_ | refine zL3 ?_ ?_ ?_ | refine fun (_ : Nat) => ?_) | refine fun (_ : (_ : Nat) < _) => ?_ | exact rfl | exact Nat.le_of_ble_eq_true rfl | (change (_ : Nat) ≤ _; omega) | (change (_ : Nat) = _; omega) | (change (_ : Int) = _; omega))); (all_goals try (conv => whnf)))
def layF (l : Nat) (p : Nat → BitVec 8) (i : Nat) : BitVec 8 := if i < l then p i else 0
abbrev l1k (l : Nat) : Nat := min l 1024
theorem rom_at (l : Nat) (hl : l ≤ 1024) : fdk 0 (0 : Nat) (BitVec.ofInt 32 536870912).toNat 1 true false l = (1, 0, 0) := by
  have h : ck 0 (0 : Nat) (BitVec.ofInt 32 536870912).toNat 1 true false = (1, 0, 0) := by unfold ck; decide
  unfold fdk
  rw [h]
  show (if ¬ (0 : Nat) = 0 then _ else if rs 1 < l + 0 then _ else _) = _
  rw [if_neg (fun q => q rfl), if_neg (by show ¬ 4096 < l + 0; omega)]
end Go.Proofs.YtglijhimopdgkaaGreatDoor
