/- The reference's sum. -/
import Derived.Test.YtldlleoabbcpdaaDoorP6
namespace Go.Proofs.YtldlleoabbcpdaaDoor
open Go.RowKit
set_option maxRecDepth 100000
set_option maxHeartbeats 20000000
def pz (l : Nat) (b : Nat → BitVec 8) (z : Nat) : Msg := lw l b ++ 128 :: List.replicate z 0
theorem pz_len (l : Nat) (b : Nat → BitVec 8) (z : Nat) : (pz l b z).length = l + 1 + z := by simp [pz, lw_len]; omega
theorem pz_succ (l : Nat) (b : Nat → BitVec 8) (z : Nat) : pz l b (z + 1) = pz l b z ++ [0] := by
  simp [pz, List.replicate_succ']
theorem one_more {f : Nat → BitVec 8} {L : Msg} {v : BitVec 8} {a x : Nat} (hL : L.length = a) (hf : ∀ i, i < a → f i = at8 L i) (hx : x < a + 1) : (if x < a then f x else asU8 (litA (.int .u8) [(0, .u8 v)] (x - a))) = at8 (L ++ [v]) x := by
  rw [at8_app, hL]
  by_cases h : x < a
  · rw [if_pos h, if_pos h, hf x h]
  · rw [if_neg h, if_neg h, show x - a = 0 by omega]; rfl
theorem pz_zero (l : Nat) (b : Nat → BitVec 8) (x : Nat) (h : x < l + 1) : (if x < l then b x else asU8 (litA (.int .u8) [(0, .u8 128)] (x - l))) = at8 (pz l b 0) x :=
  one_more (lw_len l b) (fun i hi => (at8_lw l b i hi).symm) h
theorem pz_step (l : Nat) (b : Nat → BitVec 8) (z x : Nat) (h : x < l + 1 + z + 1) : (if x < l + 1 + z then at8 (pz l b z) x else asU8 (litA (.int .u8) [(0, .u8 0)] (x - (l + 1 + z)))) = at8 (pz l b (z + 1)) x := by
  rw [pz_succ]; exact one_more (pz_len l b z) (fun _ _ => rfl) h
def zz (l : Nat) : Nat := padZs (BitVec.ofNat 64 l)
theorem zz_lt (l : Nat) : zz l < 64 ∧ (l + 1 + zz l) % 64 = 56 := by
  unfold zz padZs
  rw [BitVec.toNat_sub, BitVec.toNat_ofNat]
  simp only [BitVec.toNat_ofNat]
  omega
def pm (l : Nat) (b : Nat → BitVec 8) : Msg := lw l b ++ padL (BitVec.ofNat 64 l)
theorem pm_len (l : Nat) (b : Nat → BitVec 8) : (pm l b).length = l + 1 + zz l + 8 := by simp only [pm, List.length_append, lw_len, padL_len, zz]; omega
theorem pm_eq (l : Nat) (b : Nat → BitVec 8) : pm l b = pz l b (zz l) ++ be (8#64 * BitVec.ofNat 64 l) 8 := by
  simp [pm, pz, padL, zz]
theorem pm_at (l : Nat) (b : Nat → BitVec 8) (x : Nat) : (if x < l + 1 + zz l then at8 (pz l b (zz l)) x else at8 (be (8#64 * BitVec.ofNat 64 l) 8) (x - (l + 1 + zz l))) = at8 (pm l b) x := by
  rw [pm_eq, at8_app, pz_len]
theorem hashN_next (P : Msg) (q : Nat) (h : 64 * q + 64 ≤ P.length) : press (lw 8 (at32 (hashN P q))) (lw 64 (fun i => at8 P (64 * q + i))) = hashN P (q + 1) := by
  rw [lw_at32 _ _ (hashN_len _ _), hashN]
  congr 1
  apply List.ext_getElem?
  intro i
  simp only [lw, List.getElem?_map, List.getElem?_take, List.getElem?_drop]
  by_cases hi : i < 64
  · rw [List.getElem?_range hi, if_pos hi, get_at8 _ _ (by omega)]; rfl
  · rw [if_neg hi, List.getElem?_eq_none (by simp; omega)]; rfl
def dF (h : Nat → BitVec 32) (k i j : Nat) : BitVec 8 := if j < 4 * k + i then byt ((h (j / 4)).setWidth 64) (3 - j % 4) else 0
theorem dF_zero (h : Nat → BitVec 32) (j : Nat) : 0 = dF h 0 0 j := by unfold dF; rw [if_neg (by omega)]
theorem dF_next (h : Nat → BitVec 32) (k j : Nat) : dF h k 4 j = dF h (k + 1) 0 j := by unfold dF; rw [show 4 * k + 4 = 4 * (k + 1) + 0 by omega]
theorem dF_step (h : Nat → BitVec 32) (k i j p : Nat) (hi : i < 4) (hp : p = 4 * k + i) : (if j = p then at8 (be ((h k).setWidth 64) 4) i else dF h k i j) = dF h k (i + 1) j := by
  subst hp
  unfold dF
  by_cases h1 : j = 4 * k + i
  · subst h1
    rw [if_pos rfl, if_pos (by omega), at8_be _ _ _ hi, show (4 * k + i) / 4 = k by omega]
    congr 1; omega
  · rw [if_neg h1]
    by_cases h2 : j < 4 * k + i
    · rw [if_pos h2, if_pos (by omega)]
    · rw [if_neg h2, if_neg (by omega)]
theorem dF_all (h : Nat → BitVec 32) (j : Nat) (hj : j < 32) : dF h 8 0 j = at8 (dig (lw 8 h)) j := by
  rw [← digF_dig h j hj]; unfold dF digF; rfl
attribute [irreducible] dF pz pm zz
attribute [local irreducible] hashN sha256 hsh press dig
abbrev TD : Ty := ty 66
def C_r1_Sum : SpecP := fun A K => ∃ l b, A [bsl l b] ∧ l ≤ 1000000 ∧ K (arr8 32 (at8 (sha256 (lw l b))))
def L_r1_Sum_a (l : Nat) (b : Nat → BitVec 8) : LI := ⟨Nat, (· ≤ zz l), fun z => [(0, .gsl 5 2080 (l + 1 + z)), (2, .ptr TD 8 []), (3, .u64 (BitVec.ofNat 64 l))],
  fun z => [(8, .var TD TD.zero), (2080, .grow 5 (l + 1 + z) (bys (at8 (pz l b z))))], fun z => 64 - z, some, some⟩
def L_r1_Sum_b (l : Nat) (b : Nat → BitVec 8) : LI := ⟨Nat, fun q => 64 * q ≤ l + 1 + zz l + 8, fun q => [(0, .gsl 5 2080 (l + 1 + zz l + 8)), (2, .ptr TD 8 []), (4, .ptr T31 4137 []), (5, .nat (64 * q))],
  fun q => [(8, .var TD TD.zero), (2080, .grow 5 (l + 1 + zz l + 8) (bys (at8 (pm l b)))), (4137, .var T31 (arr32 8 (at32 (hashN (pm l b) q))))], fun q => l + 1 + zz l + 8 - 64 * q, some, some⟩
def L_r1_Sum_c (h : Nat → BitVec 32) : LI := ⟨Nat, (· ≤ 8), fun k => [(2, .ptr TD 8 []), (6, .ptr TD 5162 []), (46, arr32 8 h), (47, .nat k)],
  fun k => [(8, .var TD TD.zero), (5162, .var TD (arr8 32 (dF h k 0)))], fun k => 8 - k, some, some⟩
def L_r1_Sum_d (h : Nat → BitVec 32) : LI := ⟨Nat × Nat, fun p => p.1 < 8 ∧ p.2 ≤ 4, fun p => [(2, .ptr TD 8 []), (6, .ptr TD 5162 []), (7, .nat p.1), (46, arr32 8 h), (47, .nat p.1), (53, bsf 4 (at8 (be ((h p.1).setWidth 64) 4))), (54, .nat 4), (55, .nat p.2)],
  fun p => [(8, .var TD TD.zero), (5162, .var TD (arr8 32 (dF h p.1 p.2)))], fun p => 4 - p.2, some, some⟩
theorem g_r1_Sum : Gd 30 (pureP ty C_r1_Sum) := by
  refine goodP (E := PG [(9, pureR ty C_r1_Cut), (29, pureP ty C_r1_Num), (48, pureP ty C_r1_Press)]) (pgOK ⟨g_r1_Cut, g_r1_Num, g_r1_Press, trivial⟩) mixes Tryd.func30 (by kernel_rfl) (by kernel_rfl) ?_
  rintro A K ⟨l, b, hA, hl, hK⟩
  refine ⟨_, _, loops [(3, L_r1_Sum_a l b), (8, L_r1_Sum_b l b), (13, L_r1_Sum_c (at32 (hsh (pm l b)))), (16, L_r1_Sum_d (at32 (hsh (pm l b))))], hA, hK, by kernel_rfl, fun _ _ => trivial, ?_⟩
  obtain ⟨z1, z2⟩ := zz_lt l
  have hlm : l ≤ maxLen := by unfold maxLen; omega
  repeat ((conv => whnf); first | refine sdO ?_ | refine nlO ?_ | refine goA ?_ | refine goB ?_ | (apply Exists.intro; (repeat apply Exists.intro); refine caO ?_) | (refine Or.inl ?_; (conv => whnf); (repeat apply Exists.intro); refine caO ?_) | (refine Or.inr ?_; (conv => whnf); first | ((repeat apply Exists.intro); refine caO ?_) | (refine Or.inl ?_; (conv => whnf); (repeat apply Exists.intro); refine caO ?_) | (refine Or.inr ?_; (conv => whnf); (repeat apply Exists.intro); refine caO ?_)))
  all_goals try (conv => whnf)
  refine Exists.intro (fun _ => True) (And.intro (Enter.mk (0 : Nat) (Nat.zero_le _) trivial ?_) (fun (z : Nat) (hz : z ≤ zz l) _ => ?_))
  · ((repeat' ((conv => whnf) <;> first | exact trivial | (with_reducible first | refine And.intro ?_ ?_ | refine rows_lt1 ?_ | refine rows_lt2 ?_ ?_ | refine rows_lt3 ?_ ?_ ?_ | refine rows_lt4 ?_ ?_ ?_ ?_ | refine rows_lt5 ?_ ?_ ?_ ?_ ?_ | refine ints_lt1 ?_ | refine ints_lt2 ?_ ?_ | refine ints_lt3 ?_ ?_ ?_ | refine rows_lt7 ?_ ?_ ?_ ?_ ?_ ?_ ?_ | refine aggs_lt1 ?_ | refine aggs_lt2 ?_ ?_ | refine aggs_lt3 ?_ ?_ ?_ | refine fun (_ : Nat) => ?_) | refine fun (_ : (_ : Nat) < _) => ?_ | exact rfl | exact Nat.le_of_ble_eq_true rfl | (change (_ : Nat) ≤ _; omega) | (change (_ : Nat) = _; omega) | (change (_ : Int) = _; omega))); (all_goals try (conv => whnf)))
    rename_i x hx
    simp only [Nat.min_self] at hx ⊢
    exact pz_zero l b x hx
  repeat ((conv => whnf); first | refine sdO ?_ | refine nlO ?_ | refine goA ?_ | refine goB ?_ | (apply Exists.intro; (repeat apply Exists.intro); refine caO ?_) | (refine Or.inl ?_; (conv => whnf); (repeat apply Exists.intro); refine caO ?_) | (refine Or.inr ?_; (conv => whnf); first | ((repeat apply Exists.intro); refine caO ?_) | (refine Or.inl ?_; (conv => whnf); (repeat apply Exists.intro); refine caO ?_) | (refine Or.inr ?_; (conv => whnf); (repeat apply Exists.intro); refine caO ?_)))
  all_goals try (conv => whnf)
  refine And.intro (fun h => ?_) (fun h => ?_)
  · have h := of_decide_eq_true h
    have hz' : z < zz l := by simp only [Int.reduceToNat] at h; omega
    repeat ((conv => whnf); first | refine sdO ?_ | refine nlO ?_ | refine goA ?_ | refine goB ?_ | (apply Exists.intro; (repeat apply Exists.intro); refine caO ?_) | (refine Or.inl ?_; (conv => whnf); (repeat apply Exists.intro); refine caO ?_) | (refine Or.inr ?_; (conv => whnf); first | ((repeat apply Exists.intro); refine caO ?_) | (refine Or.inl ?_; (conv => whnf); (repeat apply Exists.intro); refine caO ?_) | (refine Or.inr ?_; (conv => whnf); (repeat apply Exists.intro); refine caO ?_)))
    all_goals try (conv => whnf)
    refine Again.mk (z + 1 : Nat) (show z + 1 ≤ zz l by omega) trivial (show 64 - (z + 1) < 64 - z by omega) ?_
    ((repeat' ((conv => whnf) <;> first | exact trivial | (with_reducible first | refine And.intro ?_ ?_ | refine rows_lt1 ?_ | refine rows_lt2 ?_ ?_ | refine rows_lt3 ?_ ?_ ?_ | refine rows_lt4 ?_ ?_ ?_ ?_ | refine rows_lt5 ?_ ?_ ?_ ?_ ?_ | refine ints_lt1 ?_ | refine ints_lt2 ?_ ?_ | refine ints_lt3 ?_ ?_ ?_ | refine rows_lt7 ?_ ?_ ?_ ?_ ?_ ?_ ?_ | refine aggs_lt1 ?_ | refine aggs_lt2 ?_ ?_ | refine aggs_lt3 ?_ ?_ ?_ | refine fun (_ : Nat) => ?_) | refine fun (_ : (_ : Nat) < _) => ?_ | exact rfl | exact Nat.le_of_ble_eq_true rfl | (change (_ : Nat) ≤ _; omega) | (change (_ : Nat) = _; omega) | (change (_ : Int) = _; omega))); (all_goals try (conv => whnf)))
    rename_i x hx
    exact pz_step l b z x hx
  · have h := of_decide_eq_false h
    obtain rfl : z = zz l := by simp only [Int.reduceToNat] at h; omega
    repeat ((conv => whnf); first | refine sdO ?_ | refine nlO ?_ | refine goA ?_ | refine goB ?_ | (apply Exists.intro; (repeat apply Exists.intro); refine caO ?_) | (refine Or.inl ?_; (conv => whnf); (repeat apply Exists.intro); refine caO ?_) | (refine Or.inr ?_; (conv => whnf); first | ((repeat apply Exists.intro); refine caO ?_) | (refine Or.inl ?_; (conv => whnf); (repeat apply Exists.intro); refine caO ?_) | (refine Or.inr ?_; (conv => whnf); (repeat apply Exists.intro); refine caO ?_)))
    all_goals try (conv => whnf)
    refine Exists.intro (fun _ => True) (And.intro (Enter.mk (0 : Nat) (show 64 * 0 ≤ l + 1 + zz l + 8 by omega) trivial ?_) (fun (q : Nat) (hq : 64 * q ≤ l + 1 + zz l + 8) _ => ?_))
    · ((repeat' ((conv => whnf) <;> first | exact trivial | (with_reducible first | refine And.intro ?_ ?_ | refine rows_lt1 ?_ | refine rows_lt2 ?_ ?_ | refine rows_lt3 ?_ ?_ ?_ | refine rows_lt4 ?_ ?_ ?_ ?_ | refine rows_lt5 ?_ ?_ ?_ ?_ ?_ | refine ints_lt1 ?_ | refine ints_lt2 ?_ ?_ | refine ints_lt3 ?_ ?_ ?_ | refine rows_lt7 ?_ ?_ ?_ ?_ ?_ ?_ ?_ | refine aggs_lt1 ?_ | refine aggs_lt2 ?_ ?_ | refine aggs_lt3 ?_ ?_ ?_ | refine fun (_ : Nat) => ?_) | refine fun (_ : (_ : Nat) < _) => ?_ | exact rfl | exact Nat.le_of_ble_eq_true rfl | (change (_ : Nat) ≤ _; omega) | (change (_ : Nat) = _; omega) | (change (_ : Int) = _; omega))); (all_goals try (conv => whnf)))
      · exact pm_at l b _
      · rename_i j hj
        rw [show hashN (pm l b) 0 = H0 by unfold hashN; rfl]
        rcases j with _ | _ | _ | _ | _ | _ | _ | _ | j
        all_goals first | exact rfl | omega
    have hP := pm_len l b
    repeat ((conv => whnf); first | refine sdO ?_ | refine nlO ?_ | refine goA ?_ | refine goB ?_ | (apply Exists.intro; (repeat apply Exists.intro); refine caO ?_) | (refine Or.inl ?_; (conv => whnf); (repeat apply Exists.intro); refine caO ?_) | (refine Or.inr ?_; (conv => whnf); first | ((repeat apply Exists.intro); refine caO ?_) | (refine Or.inl ?_; (conv => whnf); (repeat apply Exists.intro); refine caO ?_) | (refine Or.inr ?_; (conv => whnf); (repeat apply Exists.intro); refine caO ?_)))
    all_goals try (conv => whnf)
    refine And.intro (fun h => ?_) (fun h => ?_)
    · have h := of_decide_eq_true h
      repeat ((conv => whnf); first | refine sdO ?_ | refine nlO ?_ | refine goA ?_ | refine goB ?_ | (apply Exists.intro; (repeat apply Exists.intro); refine caO ?_) | (refine Or.inl ?_; (conv => whnf); (repeat apply Exists.intro); refine caO ?_) | (refine Or.inr ?_; (conv => whnf); first | ((repeat apply Exists.intro); refine caO ?_) | (refine Or.inl ?_; (conv => whnf); (repeat apply Exists.intro); refine caO ?_) | (refine Or.inr ?_; (conv => whnf); (repeat apply Exists.intro); refine caO ?_)))
      all_goals try (conv => whnf)
      refine Again.mk (q + 1 : Nat) (show 64 * (q + 1) ≤ l + 1 + zz l + 8 by omega) trivial (show l + 1 + zz l + 8 - 64 * (q + 1) < l + 1 + zz l + 8 - 64 * q by omega) ?_
      ((repeat' ((conv => whnf) <;> first | exact trivial | (with_reducible first | refine And.intro ?_ ?_ | refine rows_lt1 ?_ | refine rows_lt2 ?_ ?_ | refine rows_lt3 ?_ ?_ ?_ | refine rows_lt4 ?_ ?_ ?_ ?_ | refine rows_lt5 ?_ ?_ ?_ ?_ ?_ | refine ints_lt1 ?_ | refine ints_lt2 ?_ ?_ | refine ints_lt3 ?_ ?_ ?_ | refine rows_lt7 ?_ ?_ ?_ ?_ ?_ ?_ ?_ | refine aggs_lt1 ?_ | refine aggs_lt2 ?_ ?_ | refine aggs_lt3 ?_ ?_ ?_ | refine fun (_ : Nat) => ?_) | refine fun (_ : (_ : Nat) < _) => ?_ | exact rfl | exact Nat.le_of_ble_eq_true rfl | (change (_ : Nat) ≤ _; omega) | (change (_ : Nat) = _; omega) | (change (_ : Int) = _; omega))); (all_goals try (conv => whnf)))
      rename_i j hj
      exact congrArg (at32 · j) (hashN_next (pm l b) q (by omega))
    · have h := of_decide_eq_false h
      have hq2 : hashN (pm l b) q = hsh (pm l b) := by
        unfold hsh; congr 1; omega
      repeat ((conv => whnf); first | refine sdO ?_ | refine nlO ?_ | refine goA ?_ | refine goB ?_ | (apply Exists.intro; (repeat apply Exists.intro); refine caO ?_) | (refine Or.inl ?_; (conv => whnf); (repeat apply Exists.intro); refine caO ?_) | (refine Or.inr ?_; (conv => whnf); first | ((repeat apply Exists.intro); refine caO ?_) | (refine Or.inl ?_; (conv => whnf); (repeat apply Exists.intro); refine caO ?_) | (refine Or.inr ?_; (conv => whnf); (repeat apply Exists.intro); refine caO ?_)))
      all_goals try (conv => whnf)
      refine Exists.intro (fun _ => True) (And.intro (Enter.mk (0 : Nat) (Nat.zero_le 8) trivial ?_) (fun (k : Nat) (hk : k ≤ 8) _ => ?_))
      · ((repeat' ((conv => whnf) <;> first | exact trivial | (with_reducible first | refine And.intro ?_ ?_ | refine rows_lt1 ?_ | refine rows_lt2 ?_ ?_ | refine rows_lt3 ?_ ?_ ?_ | refine rows_lt4 ?_ ?_ ?_ ?_ | refine rows_lt5 ?_ ?_ ?_ ?_ ?_ | refine ints_lt1 ?_ | refine ints_lt2 ?_ ?_ | refine ints_lt3 ?_ ?_ ?_ | refine rows_lt7 ?_ ?_ ?_ ?_ ?_ ?_ ?_ | refine aggs_lt1 ?_ | refine aggs_lt2 ?_ ?_ | refine aggs_lt3 ?_ ?_ ?_ | refine fun (_ : Nat) => ?_) | refine fun (_ : (_ : Nat) < _) => ?_ | exact rfl | exact Nat.le_of_ble_eq_true rfl | (change (_ : Nat) ≤ _; omega) | (change (_ : Nat) = _; omega) | (change (_ : Int) = _; omega))); (all_goals try (conv => whnf)))
        · exact dF_zero _ _
        · rw [hq2]
      repeat ((conv => whnf); first | refine sdO ?_ | refine nlO ?_ | refine goA ?_ | refine goB ?_ | (apply Exists.intro; (repeat apply Exists.intro); refine caO ?_) | (refine Or.inl ?_; (conv => whnf); (repeat apply Exists.intro); refine caO ?_) | (refine Or.inr ?_; (conv => whnf); first | ((repeat apply Exists.intro); refine caO ?_) | (refine Or.inl ?_; (conv => whnf); (repeat apply Exists.intro); refine caO ?_) | (refine Or.inr ?_; (conv => whnf); (repeat apply Exists.intro); refine caO ?_)))
      all_goals try (conv => whnf)
      refine And.intro (fun h => ?_) (fun h => ?_)
      · have h := of_decide_eq_true h
        repeat ((conv => whnf); first | refine sdO ?_ | refine nlO ?_ | refine goA ?_ | refine goB ?_ | (apply Exists.intro; (repeat apply Exists.intro); refine caO ?_) | (refine Or.inl ?_; (conv => whnf); (repeat apply Exists.intro); refine caO ?_) | (refine Or.inr ?_; (conv => whnf); first | ((repeat apply Exists.intro); refine caO ?_) | (refine Or.inl ?_; (conv => whnf); (repeat apply Exists.intro); refine caO ?_) | (refine Or.inr ?_; (conv => whnf); (repeat apply Exists.intro); refine caO ?_)))
        all_goals try (conv => whnf)
        refine Exists.intro (fun p => p.1 = k) (And.intro (Enter.mk ((k, 0) : Nat × Nat) ⟨h, Nat.zero_le 4⟩ rfl ?_) (fun (p : Nat × Nat) (hp : p.1 < 8 ∧ p.2 ≤ 4) (hk1 : p.1 = k) => ?_))
        · ((repeat' ((conv => whnf) <;> first | exact trivial | (with_reducible first | refine And.intro ?_ ?_ | refine rows_lt1 ?_ | refine rows_lt2 ?_ ?_ | refine rows_lt3 ?_ ?_ ?_ | refine rows_lt4 ?_ ?_ ?_ ?_ | refine rows_lt5 ?_ ?_ ?_ ?_ ?_ | refine ints_lt1 ?_ | refine ints_lt2 ?_ ?_ | refine ints_lt3 ?_ ?_ ?_ | refine rows_lt7 ?_ ?_ ?_ ?_ ?_ ?_ ?_ | refine aggs_lt1 ?_ | refine aggs_lt2 ?_ ?_ | refine aggs_lt3 ?_ ?_ ?_ | refine fun (_ : Nat) => ?_) | refine fun (_ : (_ : Nat) < _) => ?_ | exact rfl | exact Nat.le_of_ble_eq_true rfl | (change (_ : Nat) ≤ _; omega) | (change (_ : Nat) = _; omega) | (change (_ : Int) = _; omega))); (all_goals try (conv => whnf)))
        obtain ⟨k1, i⟩ := p
        obtain ⟨hp1, hp2⟩ := hp
        simp only at hp1 hp2 hk1
        subst hk1
        repeat ((conv => whnf); first | refine sdO ?_ | refine nlO ?_ | refine goA ?_ | refine goB ?_ | (apply Exists.intro; (repeat apply Exists.intro); refine caO ?_) | (refine Or.inl ?_; (conv => whnf); (repeat apply Exists.intro); refine caO ?_) | (refine Or.inr ?_; (conv => whnf); first | ((repeat apply Exists.intro); refine caO ?_) | (refine Or.inl ?_; (conv => whnf); (repeat apply Exists.intro); refine caO ?_) | (refine Or.inr ?_; (conv => whnf); (repeat apply Exists.intro); refine caO ?_)))
        all_goals try (conv => whnf)
        refine And.intro (fun h => ?_) (fun h => ?_)
        · have h := of_decide_eq_true h
          simp only at h
          repeat ((conv => whnf); first | refine sdO ?_ | refine nlO ?_ | refine goA ?_ | refine goB ?_ | (apply Exists.intro; (repeat apply Exists.intro); refine caO ?_) | (refine Or.inl ?_; (conv => whnf); (repeat apply Exists.intro); refine caO ?_) | (refine Or.inr ?_; (conv => whnf); first | ((repeat apply Exists.intro); refine caO ?_) | (refine Or.inl ?_; (conv => whnf); (repeat apply Exists.intro); refine caO ?_) | (refine Or.inr ?_; (conv => whnf); (repeat apply Exists.intro); refine caO ?_)))
          all_goals try (conv => whnf)
          refine Again.mk ((k1, i + 1) : Nat × Nat) ⟨hp1, show i + 1 ≤ 4 by omega⟩ rfl (show 4 - (i + 1) < 4 - i by omega) ?_
          ((repeat' ((conv => whnf) <;> first | exact trivial | (with_reducible first | refine And.intro ?_ ?_ | refine rows_lt1 ?_ | refine rows_lt2 ?_ ?_ | refine rows_lt3 ?_ ?_ ?_ | refine rows_lt4 ?_ ?_ ?_ ?_ | refine rows_lt5 ?_ ?_ ?_ ?_ ?_ | refine ints_lt1 ?_ | refine ints_lt2 ?_ ?_ | refine ints_lt3 ?_ ?_ ?_ | refine rows_lt7 ?_ ?_ ?_ ?_ ?_ ?_ ?_ | refine aggs_lt1 ?_ | refine aggs_lt2 ?_ ?_ | refine aggs_lt3 ?_ ?_ ?_ | refine fun (_ : Nat) => ?_) | refine fun (_ : (_ : Nat) < _) => ?_ | exact rfl | exact Nat.le_of_ble_eq_true rfl | (change (_ : Nat) ≤ _; omega) | (change (_ : Nat) = _; omega) | (change (_ : Int) = _; omega))); (all_goals try (conv => whnf)))
          exact dF_step _ k1 i _ _ (by omega) (by simp only [Int.reduceToNat])
        · have h := of_decide_eq_false h
          simp only at h
          obtain rfl : i = 4 := by omega
          repeat ((conv => whnf); first | refine sdO ?_ | refine nlO ?_ | refine goA ?_ | refine goB ?_ | (apply Exists.intro; (repeat apply Exists.intro); refine caO ?_) | (refine Or.inl ?_; (conv => whnf); (repeat apply Exists.intro); refine caO ?_) | (refine Or.inr ?_; (conv => whnf); first | ((repeat apply Exists.intro); refine caO ?_) | (refine Or.inl ?_; (conv => whnf); (repeat apply Exists.intro); refine caO ?_) | (refine Or.inr ?_; (conv => whnf); (repeat apply Exists.intro); refine caO ?_)))
          all_goals try (conv => whnf)
          refine Again.mk (k1 + 1 : Nat) (show k1 + 1 ≤ 8 by omega) trivial (show 8 - (k1 + 1) < 8 - k1 by omega) ?_
          ((repeat' ((conv => whnf) <;> first | exact trivial | (with_reducible first | refine And.intro ?_ ?_ | refine rows_lt1 ?_ | refine rows_lt2 ?_ ?_ | refine rows_lt3 ?_ ?_ ?_ | refine rows_lt4 ?_ ?_ ?_ ?_ | refine rows_lt5 ?_ ?_ ?_ ?_ ?_ | refine ints_lt1 ?_ | refine ints_lt2 ?_ ?_ | refine ints_lt3 ?_ ?_ ?_ | refine rows_lt7 ?_ ?_ ?_ ?_ ?_ ?_ ?_ | refine aggs_lt1 ?_ | refine aggs_lt2 ?_ ?_ | refine aggs_lt3 ?_ ?_ ?_ | refine fun (_ : Nat) => ?_) | refine fun (_ : (_ : Nat) < _) => ?_ | exact rfl | exact Nat.le_of_ble_eq_true rfl | (change (_ : Nat) ≤ _; omega) | (change (_ : Nat) = _; omega) | (change (_ : Int) = _; omega))); (all_goals try (conv => whnf)))
          exact dF_next _ k1 _
      · have h := of_decide_eq_false h
        obtain rfl : k = 8 := by simp only [Int.reduceToNat] at h; omega
        repeat ((conv => whnf); first | refine sdO ?_ | refine nlO ?_ | refine goA ?_ | refine goB ?_ | (apply Exists.intro; (repeat apply Exists.intro); refine caO ?_) | (refine Or.inl ?_; (conv => whnf); (repeat apply Exists.intro); refine caO ?_) | (refine Or.inr ?_; (conv => whnf); first | ((repeat apply Exists.intro); refine caO ?_) | (refine Or.inl ?_; (conv => whnf); (repeat apply Exists.intro); refine caO ?_) | (refine Or.inr ?_; (conv => whnf); (repeat apply Exists.intro); refine caO ?_)))
        all_goals try (conv => whnf)
        ((repeat' ((conv => whnf) <;> first | exact trivial | (with_reducible first | refine And.intro ?_ ?_ | refine rows_lt1 ?_ | refine rows_lt2 ?_ ?_ | refine rows_lt3 ?_ ?_ ?_ | refine rows_lt4 ?_ ?_ ?_ ?_ | refine rows_lt5 ?_ ?_ ?_ ?_ ?_ | refine ints_lt1 ?_ | refine ints_lt2 ?_ ?_ | refine ints_lt3 ?_ ?_ ?_ | refine rows_lt7 ?_ ?_ ?_ ?_ ?_ ?_ ?_ | refine aggs_lt1 ?_ | refine aggs_lt2 ?_ ?_ | refine aggs_lt3 ?_ ?_ ?_ | refine fun (_ : Nat) => ?_) | refine fun (_ : (_ : Nat) < _) => ?_ | exact rfl | exact Nat.le_of_ble_eq_true rfl | (change (_ : Nat) ≤ _; omega) | (change (_ : Nat) = _; omega) | (change (_ : Int) = _; omega))); (all_goals try (conv => whnf)))
        rename_i j hj
        rw [dF_all _ _ hj, lw_at32 _ _ (hsh_len _)]
        unfold sha256 pm
        rw [lw_len]
end Go.Proofs.YtldlleoabbcpdaaDoor
