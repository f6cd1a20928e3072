/- A chip's fuses: the counter by steps. -/
import Derived.Test.YtiafaeokfdpbjaaV8
import Derived.Test.YtiafaeokfdpbjaaU5
namespace Go.Proofs.Ytiafaeokfdpbjaa
open Go.RowKit
set_option maxRecDepth 100000
set_option maxHeartbeats 20000000
theorem i64_nat' (r : Nat) (h : r < 1000) : i64 (r : Int) := by unfold i64; omega
def clampN (z : Int) : Nat := (max 0 (min z 32)).toNat
theorem low_tab : ∀ c : Fin 33, ∀ b : Fin 32, (BitVec.ofInt 32 1 <<< c.val - BitVec.ofInt 32 1).getLsbD b.val = decide (b.val < c.val) := by decide +kernel
theorem lowV_bit (z : Int) (b : Nat) (hb : b < 32) : (lowV z).getLsbD b = decide (b < clampN z) := by
  have hc : clampN z < 33 := by unfold clampN; omega
  exact low_tab ⟨clampN z, hc⟩ ⟨b, hb⟩
theorem lowV_ext {x y : BitVec 32} (h : ∀ b, b < 32 → x.getLsbD b = y.getLsbD b) : x = y := BitVec.eq_of_getLsbD_eq fun b hb => h b hb
theorem lowV_or (y z : Int) (h : y ≤ z) : lowV z ||| lowV y = lowV z := lowV_ext fun b hb => by
  rw [BitVec.getLsbD_or, lowV_bit _ _ hb, lowV_bit _ _ hb]
  by_cases e : b < clampN y
  · have : b < clampN z := by unfold clampN at *; omega
    rw [decide_eq_true e, decide_eq_true this]; rfl
  · rw [decide_eq_false e, Bool.or_false]
/-- A counter's words. -/
def ctrW (n : Nat) (p : Nat) : BitVec 32 := if 1 ≤ p ∧ p < 9 then lowV ((n : Int) - 32 * ((p - 1 : Nat) : Int)) else 0
theorem ctrW_at (n i : Nat) (h : i < 8) : ctrW n (1 + i) = lowV ((n : Int) - 32 * (i : Int)) := by
  unfold ctrW
  rw [if_pos (by omega), Nat.add_sub_cancel_left]
theorem ctrW_bit (n i : Nat) (h : i < 256) (hn : n ≤ 255) : ctB (ctrW n) i = decide (i < n) := by
  unfold ctB
  rw [ctrW_at n (i / 32) (by omega), lowV_bit _ _ (by omega)]
  apply decide_eq_decide.2
  unfold clampN
  omega
theorem ctrW_cnt (n : Nat) (hn : n ≤ 255) : n = cntF (ctrW n) 255 := cntF_uni _ 255 n hn (fun i hi => by rw [ctrW_bit n i (by omega) hn]; exact decide_eq_true hi) fun h => by rw [ctrW_bit n n (by omega) hn]; exact decide_eq_false (Nat.lt_irrefl n)
theorem ctrW_zero : ctrW 0 = fun _ => 0 := by
  funext p
  unfold ctrW
  split
  · apply lowV_ext
    intro b hb
    rw [lowV_bit _ _ hb]
    have : ¬ b < clampN (((0 : Nat) : Int) - 32 * ((p - 1 : Nat) : Int)) := by unfold clampN; omega
    rw [decide_eq_false this]; simp
  · rfl
theorem cntB_low (z : Int) : ∀ n, n ≤ 32 → cntB (lowV z) 0 n = min n (clampN z)
  | 0, _ => by simp [cntB]
  | n + 1, h => by
    unfold cntB
    rw [cntB_low z n (by omega), Nat.zero_add, lowV_bit _ _ (by omega)]
    by_cases e : n < clampN z
    · rw [decide_eq_true e]; simp; omega
    · rw [decide_eq_false e]; simp; omega
/-- So many bits are set in these words. -/
def totB (w : Nat → BitVec 32) : Nat → Nat
  | 0 => 0
  | i + 1 => totB w i + cntB (w (1 + i)) 0 32
theorem totB_low (n : Nat) (hn : n ≤ 255) : ∀ i, i ≤ 8 → totB (ctrW n) i = min n (32 * i)
  | 0, _ => by simp [totB]
  | i + 1, h => by
    unfold totB
    rw [totB_low n hn i (by omega), ctrW_at n i (by omega), cntB_low _ 32 (Nat.le_refl _)]
    unfold clampN
    omega
theorem orV_ctr (w : Nat → BitVec 32) (z : Int) : ∀ m p, orV (addL w (ctrL z m)) p ||| w p = (if 1 ≤ p ∧ p < 1 + m then lowV (z - 32 * ((p - 1 : Nat) : Int)) ||| w p else w p)
  | 0, p => by
    have : ctrL z 0 = [] := by unfold ctrL; rfl
    rw [this, addL_nil, if_neg (by omega)]
    exact BitVec.zero_or
  | m + 1, p => by
    have ih := orV_ctr w z m p
    rw [ctrL_succ, addL_app, orV_app, BitVec.or_assoc, BitVec.or_comm (orV (addL w [_]) p), ← BitVec.or_assoc, ih]
    have hone : ∀ a v, orV (addL w [(a, v)]) p ||| w p = if p = a then v ||| w p else w p := fun a v => by
      by_cases e : v ||| w a = w a
      · have : addL w [(a, v)] = [] := by
          unfold addL
          show List.filter _ [(a, v ||| w a)] = _
          rw [List.filter_cons, if_neg (by simpa using e)]; rfl
        rw [this]
        by_cases h : p = a
        · subst h; rw [if_pos rfl, e]; exact BitVec.zero_or
        · rw [if_neg h]; exact BitVec.zero_or
      · have : addL w [(a, v)] = [(a, v ||| w a)] := by
          unfold addL
          show List.filter _ [(a, v ||| w a)] = _
          rw [List.filter_cons, if_pos (by simpa using e)]; rfl
        rw [this]
        show ((if a = p then v ||| w a else 0) ||| 0) ||| w p = _
        by_cases h : p = a
        · subst h
          rw [if_pos rfl, if_pos rfl]
          show ((v ||| w p) ||| 0#32) ||| w p = _
          rw [BitVec.or_zero, BitVec.or_assoc, BitVec.or_self]
        · rw [if_neg (fun q => h q.symm), if_neg h]
          show (0#32 ||| 0#32) ||| w p = _
          rw [BitVec.or_zero, BitVec.zero_or]
    have h1 := hone (1 + m) (lowV (z - 32 * (m : Int)))
    by_cases h : 1 ≤ p ∧ p < 1 + m
    · rw [if_pos h, if_pos (by omega), BitVec.or_assoc, BitVec.or_comm (w p), h1, if_neg (by omega)]
    · rw [if_neg h, BitVec.or_comm, h1]
      by_cases h2 : p = 1 + m
      · rw [if_pos h2, if_pos (by omega), h2, Nat.add_sub_cancel_left]
      · rw [if_neg h2, if_neg (by omega)]
theorem ctr_done (n s : Nat) (h : n ≤ s) (p : Nat) : doW (ctrW n) (addL (ctrW n) (ctrL (s : Int) 8)) p = ctrW s p := by
  rw [doW_or, BitVec.or_comm, orV_ctr]
  unfold ctrW
  by_cases e : 1 ≤ p ∧ p < 9
  · rw [if_pos (show 1 ≤ p ∧ p < 1 + 8 by omega), if_pos e, if_pos e]
    exact lowV_or _ _ (by omega)
  · rw [if_neg (show ¬ (1 ≤ p ∧ p < 1 + 8) by omega), if_neg e, if_neg e]
theorem addL_mem {w : Nat → BitVec 32} {l : List Wr} {x : Wr} (h : x ∈ addL w l) : ∃ v, (x.1, v) ∈ l ∧ x.2 = v ||| w x.1 := by
  unfold addL at h
  obtain ⟨h1, _⟩ := List.mem_filter.1 h
  obtain ⟨y, hy, rfl⟩ := List.mem_map.1 h1
  exact ⟨y.2, hy, rfl⟩
/-- What is added to words that are unlike may be programmed. -/
theorem okL_add (w : Nat → BitVec 32) (l : List Wr) (h64 : ∀ x, x ∈ l → x.1 < 64) (hd : (l.map Prod.fst).Nodup) : okL w (addL w l) := by
  have hs : ((addL w l).map Prod.fst).Nodup := by
    unfold addL
    refine List.Nodup.sublist (List.Sublist.map _ (List.filter_sublist ..)) ?_
    rw [List.map_map]
    exact hd
  refine okL_of _ w (fun x hx => by obtain ⟨v, hv, _⟩ := addL_mem hx; exact h64 (x.1, v) hv) (fun i hi => ?_) fun i j hij hj e => ?_
  · obtain ⟨v, _, hv⟩ := addL_mem (atW_mem hi)
    rw [hv, BitVec.or_comm]
    exact or_keeps _ _
  · exfalso
    have hi : i < ((addL w l).map Prod.fst).length := by rw [List.length_map]; omega
    have hj2 : j < ((addL w l).map Prod.fst).length := by rw [List.length_map]; omega
    have e1 : ∀ q, (hq : q < (addL w l).length) → ((addL w l).map Prod.fst)[q]'(by rw [List.length_map]; exact hq) = (atW (addL w l) q).1 := fun q hq => by
      rw [List.getElem_map]; unfold atW; simp [List.getD, hq]
    have := List.pairwise_iff_getElem.1 hs i j hi hj2 hij
    rw [e1 i (by omega), e1 j hj] at this
    exact this e
theorem ctrL_64 (z : Int) : ∀ x, x ∈ ctrL z 8 → x.1 < 64 := fun x hx => by
  unfold ctrL at hx
  obtain ⟨i, hi, rfl⟩ := List.mem_map.1 hx
  have := List.mem_range.1 hi
  show 1 + i < 64
  omega
theorem ctrL_nodup (z : Int) : ((ctrL z 8).map Prod.fst).Nodup := by
  unfold ctrL
  rw [List.map_map]
  show ((List.range 8).map fun i => 1 + i).Nodup
  decide
def L_OC_a (l : Nat) (S : Nat → BitVec 8) : LI :=
  ⟨Nat × Nat, fun g => g.1 ≤ l ∧ g.2 ≤ 255, fun g => [(3, .ptr TCh 2056 []), (4, .nat g.2), (16, bsl l S), (17, .nat l), (18, .nat g.1)], fun g => chR 2056 2057 2058 2059 (ctrW g.2) fun _ => false, fun g => l - g.1, some, some⟩
def L_OC_b (l : Nat) (S : Nat → BitVec 8) : LI :=
  ⟨(Nat × Nat) × Nat, fun g => (g.1.1 < l ∧ g.1.2 ≤ 255) ∧ g.2 ≤ 8, fun g => [(3, .ptr TCh 2056 []), (4, .nat g.1.2), (9, .nat (totB (ctrW g.1.2) g.2)), (16, bsl l S), (17, .nat l), (18, .nat g.1.1), (62, .gsub 22 10260 64 1 8), (63, .nat 8), (64, .nat g.2)], fun g => chR 2056 2057 2058 2059 (ctrW g.1.2) (fun _ => false) ++ [(10260, .grow 22 64 (wds (ctrW g.1.2)))], fun g => 8 - g.2, some, some⟩
def L_OC_c (l : Nat) (S : Nat → BitVec 8) : LI :=
  ⟨((Nat × Nat) × Nat) × Nat, fun g => ((g.1.1.1 < l ∧ g.1.1.2 ≤ 255) ∧ g.1.2 < 8) ∧ g.2 ≤ 32, fun g => [(3, .ptr TCh 2056 []), (4, .nat g.1.1.2), (9, .nat (totB (ctrW g.1.1.2) g.1.2 + cntB (ctrW g.1.1.2 (1 + g.1.2)) 0 g.2)), (11, .u32 (ctrW g.1.1.2 (1 + g.1.2))), (16, bsl l S), (17, .nat l), (18, .nat g.1.1.1), (62, .gsub 22 10260 64 1 8), (63, .nat 8), (64, .nat g.1.2), (68, .nat g.2)], fun g => chR 2056 2057 2058 2059 (ctrW g.1.1.2) (fun _ => false) ++ [(10260, .grow 22 64 (wds (ctrW g.1.1.2)))], fun g => 32 - g.2, some, some⟩
def C_l11_OtpCounts : SpecP := fun A K => ∃ l S, A [bsl l S] ∧ l ≤ maxLen ∧ K (.bo true)
theorem g_l11_OtpCounts : Gd 7 (pureP ty C_l11_OtpCounts) := by
  refine goodP (E := PG [(9, pureP ty C_l11_awake), (11, pureR ty C_ot_New), (28, pureP ty C_ot_ToCounter), (14, mutD ty [true, false] C_ot_Do), (12, pureR ty C_ot_Words), (20, pureP ty C_ot_Counter)]) (pgOK ⟨g_l11_awake, g_ot_New, g_ot_ToCounter, g_ot_Do, g_ot_Words, g_ot_Counter, trivial⟩) mixes Try.func7 (by kernel_rfl) (by kernel_rfl) ?_
  rintro A K ⟨l, S, hA, hl, hK⟩
  have hl' : l ≤ 9223372036854775807 := hl
  refine ⟨_, _, loops [(6, L_OC_a l S), (17, L_OC_b l S), (20, L_OC_c l S)], hA, hK, by kernel_rfl, trivial, ?_⟩
  repeat (first | ((conv => whnf); refine And.intro ?_ ?_; exact sideOf) | ((conv => whnf); refine NilE.some ?_ ?_; exact sideOf) | ((conv => whnf); refine And.intro (fun _ => ?_) (fun h => nomatch (show true = false from h))) | ((conv => whnf); refine And.intro (fun h => nomatch (show false = true from h)) (fun _ => ?_)) | ((conv => whnf); first | (apply Exists.intro; (repeat apply Exists.intro); refine And.intro ?_ ?_; exact leOf) | (refine Or.inl ?_; (conv => whnf); (repeat apply Exists.intro); refine And.intro ?_ ?_; exact leOf) | (refine Or.inr ?_; (conv => whnf); first | ((repeat apply Exists.intro); refine And.intro ?_ ?_; exact leOf) | (refine Or.inl ?_; (conv => whnf); (repeat apply Exists.intro); refine And.intro ?_ ?_; exact leOf) | (refine Or.inr ?_; (conv => whnf); (repeat apply Exists.intro); refine And.intro ?_ ?_; exact leOf))) | ((conv => whnf); refine And.intro (by assumption) ?_) | ((conv => whnf); first | (refine brT (by first | assumption | exact decide_eq_true (by first | assumption | omega | (simp only [Int.reduceToNat]; omega) | (with_reducible exact Eq.refl _)) | exact notT (decide_eq_false (by first | assumption | omega | exact fun q => q (by assumption) | (simp only [Int.reduceToNat]; omega))) | exact notT (by assumption)) ?_) | (refine brF (by first | assumption | exact decide_eq_false (by first | assumption | omega | exact fun q => q (by assumption) | (simp only [Int.reduceToNat]; omega)) | exact notF (decide_eq_true (by first | assumption | omega | (simp only [Int.reduceToNat]; omega))) | exact notF (by assumption)) ?_)) | ((conv => whnf); first | (refine Or.inl (And.intro (by first | assumption | omega | decide | (dsimp only; omega)) ?_)) | (refine Or.inr (And.intro (by first | assumption | omega | decide | (dsimp only; omega)) ?_)) | (refine Or.inr (Or.inl (And.intro (by first | assumption | omega | decide | (dsimp only; omega)) ?_))) | (refine Or.inr (Or.inr (And.intro (by first | assumption | omega | decide | (dsimp only; omega)) ?_)))))
  all_goals try (conv => whnf)
  refine Exists.intro (fun _ => True) (And.intro (Enter.mk ((0, 0) : Nat × Nat) ⟨Nat.zero_le _, by decide⟩ trivial ?_) (fun (g : Nat × Nat) (hg : g.1 ≤ l ∧ g.2 ≤ 255) _ => ?_))
  · ((repeat' ((conv => whnf) <;> first | exact trivial | (with_reducible first | refine And.intro ?_ ?_ | refine rows_lt1 ?_ | refine rows_lt2 ?_ ?_ | refine rows_lt3 ?_ ?_ ?_ | refine rows_lt4 ?_ ?_ ?_ ?_ | refine rows_lt5 ?_ ?_ ?_ ?_ ?_ | refine aggs_lt1 ?_ | refine aggs_lt2 ?_ ?_ | refine aggs_lt3 ?_ ?_ ?_ | refine fun (_ : Nat) => ?_) | refine fun (_ : (_ : Nat) < _) => ?_ | exact rfl | exact Nat.le_of_ble_eq_true rfl | (change (_ : Nat) ≤ _; omega) | (change (_ : Nat) = _; omega) | (change (_ : Int) = _; omega))); (all_goals try (conv => whnf)))
    all_goals (rw [ctrW_zero])
  obtain ⟨hk, hn⟩ := hg
  rcases Nat.lt_or_ge g.1 l with h | h
  · rcases Nat.lt_or_ge g.1 20 with h5 | h5
    · have hs : (S g.1).toNat < 256 := (S g.1).isLt
      have his : i64 (((S g.1).toNat : Nat) : Int) := i64_nat' _ (by omega)
      have hcn := ctrW_cnt g.2 hn
      by_cases hns : g.2 ≤ (S g.1).toNat
      · have e : toCounter (ctrW g.2) (((S g.1).toNat : Nat) : Int) = (addL (ctrW g.2) (ctrL (((S g.1).toNat : Nat) : Int) 8), 0) := by
          unfold toCounter; rw [if_neg (by omega), if_neg (by omega)]
        have hok := okL_add (ctrW g.2) (ctrL (((S g.1).toNat : Nat) : Int) 8) (ctrL_64 _) (ctrL_nodup _)
        have hln : (addL (ctrW g.2) (ctrL (((S g.1).toNat : Nat) : Int) 8)).length ≤ maxLen := Nat.le_trans (addL_len _ _) (by rw [ctrL_len]; decide)
        have hq1 : (decide ((addL (ctrW g.2) (ctrL (((S g.1).toNat : Nat) : Int) 8), 0).2 = Int.toNat 0) == decide (g.2 ≤ (S g.1).toNat)) = true := by
          rw [decide_eq_true hns]; rfl
        have hnn : (S g.1).toNat ≤ 255 := by omega
        repeat (first | ((conv => whnf); refine And.intro ?_ ?_; exact sideOf) | ((conv => whnf); refine NilE.some ?_ ?_; exact sideOf) | ((conv => whnf); refine And.intro (fun _ => ?_) (fun h => nomatch (show true = false from h))) | ((conv => whnf); refine And.intro (fun h => nomatch (show false = true from h)) (fun _ => ?_)) | ((conv => whnf); first | (apply Exists.intro; (repeat apply Exists.intro); refine And.intro ?_ ?_; exact leOf) | (refine Or.inl ?_; (conv => whnf); (repeat apply Exists.intro); refine And.intro ?_ ?_; exact leOf) | (refine Or.inr ?_; (conv => whnf); first | ((repeat apply Exists.intro); refine And.intro ?_ ?_; exact leOf) | (refine Or.inl ?_; (conv => whnf); (repeat apply Exists.intro); refine And.intro ?_ ?_; exact leOf) | (refine Or.inr ?_; (conv => whnf); (repeat apply Exists.intro); refine And.intro ?_ ?_; exact leOf))) | ((conv => whnf); refine And.intro (by assumption) ?_) | ((conv => whnf); first | (refine brT (by first | assumption | exact decide_eq_true (by first | assumption | omega | (simp only [Int.reduceToNat]; omega) | (with_reducible exact Eq.refl _)) | exact notT (decide_eq_false (by first | assumption | omega | exact fun q => q (by assumption) | (simp only [Int.reduceToNat]; omega))) | exact notT (by assumption)) ?_) | (refine brF (by first | assumption | exact decide_eq_false (by first | assumption | omega | exact fun q => q (by assumption) | (simp only [Int.reduceToNat]; omega)) | exact notF (decide_eq_true (by first | assumption | omega | (simp only [Int.reduceToNat]; omega))) | exact notF (by assumption)) ?_)) | ((conv => whnf); first | (refine Or.inl (And.intro (by first | assumption | omega | decide | (dsimp only; omega)) ?_)) | (refine Or.inr (And.intro (by first | assumption | omega | decide | (dsimp only; omega)) ?_)) | (refine Or.inr (Or.inl (And.intro (by first | assumption | omega | decide | (dsimp only; omega)) ?_))) | (refine Or.inr (Or.inr (And.intro (by first | assumption | omega | decide | (dsimp only; omega)) ?_)))))
        all_goals try (conv => whnf)
        rw [e]
        repeat (first | ((conv => whnf); refine And.intro ?_ ?_; exact sideOf) | ((conv => whnf); refine NilE.some ?_ ?_; exact sideOf) | ((conv => whnf); refine And.intro (fun _ => ?_) (fun h => nomatch (show true = false from h))) | ((conv => whnf); refine And.intro (fun h => nomatch (show false = true from h)) (fun _ => ?_)) | ((conv => whnf); first | (apply Exists.intro; (repeat apply Exists.intro); refine And.intro ?_ ?_; exact leOf) | (refine Or.inl ?_; (conv => whnf); (repeat apply Exists.intro); refine And.intro ?_ ?_; exact leOf) | (refine Or.inr ?_; (conv => whnf); first | ((repeat apply Exists.intro); refine And.intro ?_ ?_; exact leOf) | (refine Or.inl ?_; (conv => whnf); (repeat apply Exists.intro); refine And.intro ?_ ?_; exact leOf) | (refine Or.inr ?_; (conv => whnf); (repeat apply Exists.intro); refine And.intro ?_ ?_; exact leOf))) | ((conv => whnf); refine And.intro (by assumption) ?_) | ((conv => whnf); first | (refine brT (by first | assumption | exact decide_eq_true (by first | assumption | omega | (simp only [Int.reduceToNat]; omega) | (with_reducible exact Eq.refl _)) | exact notT (decide_eq_false (by first | assumption | omega | exact fun q => q (by assumption) | (simp only [Int.reduceToNat]; omega))) | exact notT (by assumption)) ?_) | (refine brF (by first | assumption | exact decide_eq_false (by first | assumption | omega | exact fun q => q (by assumption) | (simp only [Int.reduceToNat]; omega)) | exact notF (decide_eq_true (by first | assumption | omega | (simp only [Int.reduceToNat]; omega))) | exact notF (by assumption)) ?_)) | ((conv => whnf); first | (refine Or.inl (And.intro (by first | assumption | omega | decide | (dsimp only; omega)) ?_)) | (refine Or.inr (And.intro (by first | assumption | omega | decide | (dsimp only; omega)) ?_)) | (refine Or.inr (Or.inl (And.intro (by first | assumption | omega | decide | (dsimp only; omega)) ?_))) | (refine Or.inr (Or.inr (And.intro (by first | assumption | omega | decide | (dsimp only; omega)) ?_)))))
        all_goals try (conv => whnf)
        refine Exists.intro (fun q => q.1 = (g.1, (S g.1).toNat)) (And.intro (Enter.mk (((g.1, (S g.1).toNat), 0) : (Nat × Nat) × Nat) ⟨⟨h, hnn⟩, Nat.zero_le _⟩ rfl ?_) (fun (q : (Nat × Nat) × Nat) (hq : (q.1.1 < l ∧ q.1.2 ≤ 255) ∧ q.2 ≤ 8) (hq2 : q.1 = (g.1, (S g.1).toNat)) => ?_))
        · ((repeat' ((conv => whnf) <;> first | exact trivial | (with_reducible first | refine And.intro ?_ ?_ | refine rows_lt1 ?_ | refine rows_lt2 ?_ ?_ | refine rows_lt3 ?_ ?_ ?_ | refine rows_lt4 ?_ ?_ ?_ ?_ | refine rows_lt5 ?_ ?_ ?_ ?_ ?_ | refine aggs_lt1 ?_ | refine aggs_lt2 ?_ ?_ | refine aggs_lt3 ?_ ?_ ?_ | refine fun (_ : Nat) => ?_) | refine fun (_ : (_ : Nat) < _) => ?_ | exact rfl | exact Nat.le_of_ble_eq_true rfl | (change (_ : Nat) ≤ _; omega) | (change (_ : Nat) = _; omega) | (change (_ : Int) = _; omega))); (all_goals try (conv => whnf)))
          all_goals first | exact ctr_done _ _ hns _ | exact Nat.max_eq_right hns
        obtain ⟨q1, i⟩ := q
        have hq2 : q1 = (g.1, (S g.1).toNat) := hq2
        subst hq2
        have hi : i ≤ 8 := hq.2
        rcases Nat.lt_or_ge i 8 with hi8 | hi8
        · skip
          repeat (first | ((conv => whnf); refine And.intro ?_ ?_; exact sideOf) | ((conv => whnf); refine NilE.some ?_ ?_; exact sideOf) | ((conv => whnf); refine And.intro (fun _ => ?_) (fun h => nomatch (show true = false from h))) | ((conv => whnf); refine And.intro (fun h => nomatch (show false = true from h)) (fun _ => ?_)) | ((conv => whnf); first | (apply Exists.intro; (repeat apply Exists.intro); refine And.intro ?_ ?_; exact leOf) | (refine Or.inl ?_; (conv => whnf); (repeat apply Exists.intro); refine And.intro ?_ ?_; exact leOf) | (refine Or.inr ?_; (conv => whnf); first | ((repeat apply Exists.intro); refine And.intro ?_ ?_; exact leOf) | (refine Or.inl ?_; (conv => whnf); (repeat apply Exists.intro); refine And.intro ?_ ?_; exact leOf) | (refine Or.inr ?_; (conv => whnf); (repeat apply Exists.intro); refine And.intro ?_ ?_; exact leOf))) | ((conv => whnf); refine And.intro (by assumption) ?_) | ((conv => whnf); first | (refine brT (by first | assumption | exact decide_eq_true (by first | assumption | omega | (simp only [Int.reduceToNat]; omega) | (with_reducible exact Eq.refl _)) | exact notT (decide_eq_false (by first | assumption | omega | exact fun q => q (by assumption) | (simp only [Int.reduceToNat]; omega))) | exact notT (by assumption)) ?_) | (refine brF (by first | assumption | exact decide_eq_false (by first | assumption | omega | exact fun q => q (by assumption) | (simp only [Int.reduceToNat]; omega)) | exact notF (decide_eq_true (by first | assumption | omega | (simp only [Int.reduceToNat]; omega))) | exact notF (by assumption)) ?_)) | ((conv => whnf); first | (refine Or.inl (And.intro (by first | assumption | omega | decide | (dsimp only; omega)) ?_)) | (refine Or.inr (And.intro (by first | assumption | omega | decide | (dsimp only; omega)) ?_)) | (refine Or.inr (Or.inl (And.intro (by first | assumption | omega | decide | (dsimp only; omega)) ?_))) | (refine Or.inr (Or.inr (And.intro (by first | assumption | omega | decide | (dsimp only; omega)) ?_)))))
          all_goals try (conv => whnf)
          refine Exists.intro (fun q => q.1 = ((g.1, (S g.1).toNat), i)) (And.intro (Enter.mk ((((g.1, (S g.1).toNat), i), 0) : ((Nat × Nat) × Nat) × Nat) ⟨⟨⟨h, hnn⟩, hi8⟩, Nat.zero_le _⟩ rfl ?_) (fun (q : ((Nat × Nat) × Nat) × Nat) (hq : ((q.1.1.1 < l ∧ q.1.1.2 ≤ 255) ∧ q.1.2 < 8) ∧ q.2 ≤ 32) (hq2 : q.1 = ((g.1, (S g.1).toNat), i)) => ?_))
          · ((repeat' ((conv => whnf) <;> first | exact trivial | (with_reducible first | refine And.intro ?_ ?_ | refine rows_lt1 ?_ | refine rows_lt2 ?_ ?_ | refine rows_lt3 ?_ ?_ ?_ | refine rows_lt4 ?_ ?_ ?_ ?_ | refine rows_lt5 ?_ ?_ ?_ ?_ ?_ | refine aggs_lt1 ?_ | refine aggs_lt2 ?_ ?_ | refine aggs_lt3 ?_ ?_ ?_ | refine fun (_ : Nat) => ?_) | refine fun (_ : (_ : Nat) < _) => ?_ | exact rfl | exact Nat.le_of_ble_eq_true rfl | (change (_ : Nat) ≤ _; omega) | (change (_ : Nat) = _; omega) | (change (_ : Int) = _; omega))); (all_goals try (conv => whnf)))
          obtain ⟨q1, b⟩ := q
          have hq2 : q1 = ((g.1, (S g.1).toNat), i) := hq2
          subst hq2
          have hb : b ≤ 32 := hq.2
          have hcb := cntB_le (ctrW (S g.1).toNat (1 + i)) 0 b
          have hst := cnt_step (ctrW (S g.1).toNat (1 + i)) 0 b
          rw [Nat.zero_add] at hst
          have htl := totB_low (S g.1).toNat hnn i (by omega)
          rcases Nat.lt_or_ge b 32 with hb3 | hb3
          · skip
            repeat (first | ((conv => whnf); refine And.intro ?_ ?_; exact sideOf) | ((conv => whnf); refine NilE.some ?_ ?_; exact sideOf) | ((conv => whnf); refine And.intro (fun _ => ?_) (fun h => nomatch (show true = false from h))) | ((conv => whnf); refine And.intro (fun h => nomatch (show false = true from h)) (fun _ => ?_)) | ((conv => whnf); first | (apply Exists.intro; (repeat apply Exists.intro); refine And.intro ?_ ?_; exact leOf) | (refine Or.inl ?_; (conv => whnf); (repeat apply Exists.intro); refine And.intro ?_ ?_; exact leOf) | (refine Or.inr ?_; (conv => whnf); first | ((repeat apply Exists.intro); refine And.intro ?_ ?_; exact leOf) | (refine Or.inl ?_; (conv => whnf); (repeat apply Exists.intro); refine And.intro ?_ ?_; exact leOf) | (refine Or.inr ?_; (conv => whnf); (repeat apply Exists.intro); refine And.intro ?_ ?_; exact leOf))) | ((conv => whnf); refine And.intro (by assumption) ?_) | ((conv => whnf); first | (refine brT (by first | assumption | exact decide_eq_true (by first | assumption | omega | (simp only [Int.reduceToNat]; omega) | (with_reducible exact Eq.refl _)) | exact notT (decide_eq_false (by first | assumption | omega | exact fun q => q (by assumption) | (simp only [Int.reduceToNat]; omega))) | exact notT (by assumption)) ?_) | (refine brF (by first | assumption | exact decide_eq_false (by first | assumption | omega | exact fun q => q (by assumption) | (simp only [Int.reduceToNat]; omega)) | exact notF (decide_eq_true (by first | assumption | omega | (simp only [Int.reduceToNat]; omega))) | exact notF (by assumption)) ?_)) | ((conv => whnf); first | (refine Or.inl (And.intro (by first | assumption | omega | decide | (dsimp only; omega)) ?_)) | (refine Or.inr (And.intro (by first | assumption | omega | decide | (dsimp only; omega)) ?_)) | (refine Or.inr (Or.inl (And.intro (by first | assumption | omega | decide | (dsimp only; omega)) ?_))) | (refine Or.inr (Or.inr (And.intro (by first | assumption | omega | decide | (dsimp only; omega)) ?_)))))
            all_goals try (conv => whnf)
            refine Again.mk ((((g.1, (S g.1).toNat), i), b + 1) : ((Nat × Nat) × Nat) × Nat) ⟨⟨⟨h, hnn⟩, hi8⟩, show b + 1 ≤ 32 by omega⟩ rfl (show 32 - (b + 1) < 32 - b by omega) ?_
            ((repeat' ((conv => whnf) <;> first | exact trivial | (with_reducible first | refine And.intro ?_ ?_ | refine rows_lt1 ?_ | refine rows_lt2 ?_ ?_ | refine rows_lt3 ?_ ?_ ?_ | refine rows_lt4 ?_ ?_ ?_ ?_ | refine rows_lt5 ?_ ?_ ?_ ?_ ?_ | refine aggs_lt1 ?_ | refine aggs_lt2 ?_ ?_ | refine aggs_lt3 ?_ ?_ ?_ | refine fun (_ : Nat) => ?_) | refine fun (_ : (_ : Nat) < _) => ?_ | exact rfl | exact Nat.le_of_ble_eq_true rfl | (change (_ : Nat) ≤ _; omega) | (change (_ : Nat) = _; omega) | (change (_ : Int) = _; omega))); (all_goals try (conv => whnf)))
            exact (Nat.add_assoc ..).trans (congrArg (fun q => totB _ i + q) hst)
          · obtain rfl : b = 32 := by omega
            repeat (first | ((conv => whnf); refine And.intro ?_ ?_; exact sideOf) | ((conv => whnf); refine NilE.some ?_ ?_; exact sideOf) | ((conv => whnf); refine And.intro (fun _ => ?_) (fun h => nomatch (show true = false from h))) | ((conv => whnf); refine And.intro (fun h => nomatch (show false = true from h)) (fun _ => ?_)) | ((conv => whnf); first | (apply Exists.intro; (repeat apply Exists.intro); refine And.intro ?_ ?_; exact leOf) | (refine Or.inl ?_; (conv => whnf); (repeat apply Exists.intro); refine And.intro ?_ ?_; exact leOf) | (refine Or.inr ?_; (conv => whnf); first | ((repeat apply Exists.intro); refine And.intro ?_ ?_; exact leOf) | (refine Or.inl ?_; (conv => whnf); (repeat apply Exists.intro); refine And.intro ?_ ?_; exact leOf) | (refine Or.inr ?_; (conv => whnf); (repeat apply Exists.intro); refine And.intro ?_ ?_; exact leOf))) | ((conv => whnf); refine And.intro (by assumption) ?_) | ((conv => whnf); first | (refine brT (by first | assumption | exact decide_eq_true (by first | assumption | omega | (simp only [Int.reduceToNat]; omega) | (with_reducible exact Eq.refl _)) | exact notT (decide_eq_false (by first | assumption | omega | exact fun q => q (by assumption) | (simp only [Int.reduceToNat]; omega))) | exact notT (by assumption)) ?_) | (refine brF (by first | assumption | exact decide_eq_false (by first | assumption | omega | exact fun q => q (by assumption) | (simp only [Int.reduceToNat]; omega)) | exact notF (decide_eq_true (by first | assumption | omega | (simp only [Int.reduceToNat]; omega))) | exact notF (by assumption)) ?_)) | ((conv => whnf); first | (refine Or.inl (And.intro (by first | assumption | omega | decide | (dsimp only; omega)) ?_)) | (refine Or.inr (And.intro (by first | assumption | omega | decide | (dsimp only; omega)) ?_)) | (refine Or.inr (Or.inl (And.intro (by first | assumption | omega | decide | (dsimp only; omega)) ?_))) | (refine Or.inr (Or.inr (And.intro (by first | assumption | omega | decide | (dsimp only; omega)) ?_)))))
            all_goals try (conv => whnf)
            refine Again.mk (((g.1, (S g.1).toNat), i + 1) : (Nat × Nat) × Nat) ⟨⟨h, hnn⟩, show i + 1 ≤ 8 by omega⟩ rfl (show 8 - (i + 1) < 8 - i by omega) ?_
            ((repeat' ((conv => whnf) <;> first | exact trivial | (with_reducible first | refine And.intro ?_ ?_ | refine rows_lt1 ?_ | refine rows_lt2 ?_ ?_ | refine rows_lt3 ?_ ?_ ?_ | refine rows_lt4 ?_ ?_ ?_ ?_ | refine rows_lt5 ?_ ?_ ?_ ?_ ?_ | refine aggs_lt1 ?_ | refine aggs_lt2 ?_ ?_ | refine aggs_lt3 ?_ ?_ ?_ | refine fun (_ : Nat) => ?_) | refine fun (_ : (_ : Nat) < _) => ?_ | exact rfl | exact Nat.le_of_ble_eq_true rfl | (change (_ : Nat) ≤ _; omega) | (change (_ : Nat) = _; omega) | (change (_ : Int) = _; omega))); (all_goals try (conv => whnf)))
            all_goals skip
        · obtain rfl : i = 8 := by omega
          have hcn2 := (ctrW_cnt (S g.1).toNat hnn).symm
          have htl : totB (ctrW (S g.1).toNat) 8 = (S g.1).toNat := (totB_low (S g.1).toNat hnn 8 (Nat.le_refl 8)).trans (by omega)
          repeat (first | ((conv => whnf); refine And.intro ?_ ?_; exact sideOf) | ((conv => whnf); refine NilE.some ?_ ?_; exact sideOf) | ((conv => whnf); refine And.intro (fun _ => ?_) (fun h => nomatch (show true = false from h))) | ((conv => whnf); refine And.intro (fun h => nomatch (show false = true from h)) (fun _ => ?_)) | ((conv => whnf); first | (apply Exists.intro; (repeat apply Exists.intro); refine And.intro ?_ ?_; exact leOf) | (refine Or.inl ?_; (conv => whnf); (repeat apply Exists.intro); refine And.intro ?_ ?_; exact leOf) | (refine Or.inr ?_; (conv => whnf); first | ((repeat apply Exists.intro); refine And.intro ?_ ?_; exact leOf) | (refine Or.inl ?_; (conv => whnf); (repeat apply Exists.intro); refine And.intro ?_ ?_; exact leOf) | (refine Or.inr ?_; (conv => whnf); (repeat apply Exists.intro); refine And.intro ?_ ?_; exact leOf))) | ((conv => whnf); refine And.intro (by assumption) ?_) | ((conv => whnf); first | (refine brT (by first | assumption | exact decide_eq_true (by first | assumption | omega | (simp only [Int.reduceToNat]; omega) | (with_reducible exact Eq.refl _)) | exact notT (decide_eq_false (by first | assumption | omega | exact fun q => q (by assumption) | (simp only [Int.reduceToNat]; omega))) | exact notT (by assumption)) ?_) | (refine brF (by first | assumption | exact decide_eq_false (by first | assumption | omega | exact fun q => q (by assumption) | (simp only [Int.reduceToNat]; omega)) | exact notF (decide_eq_true (by first | assumption | omega | (simp only [Int.reduceToNat]; omega))) | exact notF (by assumption)) ?_)) | ((conv => whnf); first | (refine Or.inl (And.intro (by first | assumption | omega | decide | (dsimp only; omega)) ?_)) | (refine Or.inr (And.intro (by first | assumption | omega | decide | (dsimp only; omega)) ?_)) | (refine Or.inr (Or.inl (And.intro (by first | assumption | omega | decide | (dsimp only; omega)) ?_))) | (refine Or.inr (Or.inr (And.intro (by first | assumption | omega | decide | (dsimp only; omega)) ?_)))))
          all_goals try (conv => whnf)
          refine Again.mk ((g.1 + 1, (S g.1).toNat) : Nat × Nat) ⟨show g.1 + 1 ≤ l by omega, hnn⟩ trivial (show l - (g.1 + 1) < l - g.1 by omega) ?_
          ((repeat' ((conv => whnf) <;> first | exact trivial | (with_reducible first | refine And.intro ?_ ?_ | refine rows_lt1 ?_ | refine rows_lt2 ?_ ?_ | refine rows_lt3 ?_ ?_ ?_ | refine rows_lt4 ?_ ?_ ?_ ?_ | refine rows_lt5 ?_ ?_ ?_ ?_ ?_ | refine aggs_lt1 ?_ | refine aggs_lt2 ?_ ?_ | refine aggs_lt3 ?_ ?_ ?_ | refine fun (_ : Nat) => ?_) | refine fun (_ : (_ : Nat) < _) => ?_ | exact rfl | exact Nat.le_of_ble_eq_true rfl | (change (_ : Nat) ≤ _; omega) | (change (_ : Nat) = _; omega) | (change (_ : Int) = _; omega))); (all_goals try (conv => whnf)))
          all_goals skip
      · have e : toCounter (ctrW g.2) (((S g.1).toNat : Nat) : Int) = ([], 15) := by
          unfold toCounter; rw [if_neg (by omega), if_pos (by omega)]
        have hok : okL (ctrW g.2) [] := trivial
        have hln : ([] : List Wr).length ≤ maxLen := by decide
        have hq1 : (decide ((([] : List Wr), 15).2 = Int.toNat 0) == decide (g.2 ≤ (S g.1).toNat)) = true := by
          rw [decide_eq_false hns]; rfl
        have hnn : g.2 ≤ 255 := hn
        repeat (first | ((conv => whnf); refine And.intro ?_ ?_; exact sideOf) | ((conv => whnf); refine NilE.some ?_ ?_; exact sideOf) | ((conv => whnf); refine And.intro (fun _ => ?_) (fun h => nomatch (show true = false from h))) | ((conv => whnf); refine And.intro (fun h => nomatch (show false = true from h)) (fun _ => ?_)) | ((conv => whnf); first | (apply Exists.intro; (repeat apply Exists.intro); refine And.intro ?_ ?_; exact leOf) | (refine Or.inl ?_; (conv => whnf); (repeat apply Exists.intro); refine And.intro ?_ ?_; exact leOf) | (refine Or.inr ?_; (conv => whnf); first | ((repeat apply Exists.intro); refine And.intro ?_ ?_; exact leOf) | (refine Or.inl ?_; (conv => whnf); (repeat apply Exists.intro); refine And.intro ?_ ?_; exact leOf) | (refine Or.inr ?_; (conv => whnf); (repeat apply Exists.intro); refine And.intro ?_ ?_; exact leOf))) | ((conv => whnf); refine And.intro (by assumption) ?_) | ((conv => whnf); first | (refine brT (by first | assumption | exact decide_eq_true (by first | assumption | omega | (simp only [Int.reduceToNat]; omega) | (with_reducible exact Eq.refl _)) | exact notT (decide_eq_false (by first | assumption | omega | exact fun q => q (by assumption) | (simp only [Int.reduceToNat]; omega))) | exact notT (by assumption)) ?_) | (refine brF (by first | assumption | exact decide_eq_false (by first | assumption | omega | exact fun q => q (by assumption) | (simp only [Int.reduceToNat]; omega)) | exact notF (decide_eq_true (by first | assumption | omega | (simp only [Int.reduceToNat]; omega))) | exact notF (by assumption)) ?_)) | ((conv => whnf); first | (refine Or.inl (And.intro (by first | assumption | omega | decide | (dsimp only; omega)) ?_)) | (refine Or.inr (And.intro (by first | assumption | omega | decide | (dsimp only; omega)) ?_)) | (refine Or.inr (Or.inl (And.intro (by first | assumption | omega | decide | (dsimp only; omega)) ?_))) | (refine Or.inr (Or.inr (And.intro (by first | assumption | omega | decide | (dsimp only; omega)) ?_)))))
        all_goals try (conv => whnf)
        rw [e]
        repeat (first | ((conv => whnf); refine And.intro ?_ ?_; exact sideOf) | ((conv => whnf); refine NilE.some ?_ ?_; exact sideOf) | ((conv => whnf); refine And.intro (fun _ => ?_) (fun h => nomatch (show true = false from h))) | ((conv => whnf); refine And.intro (fun h => nomatch (show false = true from h)) (fun _ => ?_)) | ((conv => whnf); first | (apply Exists.intro; (repeat apply Exists.intro); refine And.intro ?_ ?_; exact leOf) | (refine Or.inl ?_; (conv => whnf); (repeat apply Exists.intro); refine And.intro ?_ ?_; exact leOf) | (refine Or.inr ?_; (conv => whnf); first | ((repeat apply Exists.intro); refine And.intro ?_ ?_; exact leOf) | (refine Or.inl ?_; (conv => whnf); (repeat apply Exists.intro); refine And.intro ?_ ?_; exact leOf) | (refine Or.inr ?_; (conv => whnf); (repeat apply Exists.intro); refine And.intro ?_ ?_; exact leOf))) | ((conv => whnf); refine And.intro (by assumption) ?_) | ((conv => whnf); first | (refine brT (by first | assumption | exact decide_eq_true (by first | assumption | omega | (simp only [Int.reduceToNat]; omega) | (with_reducible exact Eq.refl _)) | exact notT (decide_eq_false (by first | assumption | omega | exact fun q => q (by assumption) | (simp only [Int.reduceToNat]; omega))) | exact notT (by assumption)) ?_) | (refine brF (by first | assumption | exact decide_eq_false (by first | assumption | omega | exact fun q => q (by assumption) | (simp only [Int.reduceToNat]; omega)) | exact notF (decide_eq_true (by first | assumption | omega | (simp only [Int.reduceToNat]; omega))) | exact notF (by assumption)) ?_)) | ((conv => whnf); first | (refine Or.inl (And.intro (by first | assumption | omega | decide | (dsimp only; omega)) ?_)) | (refine Or.inr (And.intro (by first | assumption | omega | decide | (dsimp only; omega)) ?_)) | (refine Or.inr (Or.inl (And.intro (by first | assumption | omega | decide | (dsimp only; omega)) ?_))) | (refine Or.inr (Or.inr (And.intro (by first | assumption | omega | decide | (dsimp only; omega)) ?_)))))
        all_goals try (conv => whnf)
        refine Exists.intro (fun q => q.1 = (g.1, g.2)) (And.intro (Enter.mk (((g.1, g.2), 0) : (Nat × Nat) × Nat) ⟨⟨h, hnn⟩, Nat.zero_le _⟩ rfl ?_) (fun (q : (Nat × Nat) × Nat) (hq : (q.1.1 < l ∧ q.1.2 ≤ 255) ∧ q.2 ≤ 8) (hq2 : q.1 = (g.1, g.2)) => ?_))
        · ((repeat' ((conv => whnf) <;> first | exact trivial | (with_reducible first | refine And.intro ?_ ?_ | refine rows_lt1 ?_ | refine rows_lt2 ?_ ?_ | refine rows_lt3 ?_ ?_ ?_ | refine rows_lt4 ?_ ?_ ?_ ?_ | refine rows_lt5 ?_ ?_ ?_ ?_ ?_ | refine aggs_lt1 ?_ | refine aggs_lt2 ?_ ?_ | refine aggs_lt3 ?_ ?_ ?_ | refine fun (_ : Nat) => ?_) | refine fun (_ : (_ : Nat) < _) => ?_ | exact rfl | exact Nat.le_of_ble_eq_true rfl | (change (_ : Nat) ≤ _; omega) | (change (_ : Nat) = _; omega) | (change (_ : Int) = _; omega))); (all_goals try (conv => whnf)))
          all_goals first | rw [doW_nil] | exact Nat.max_eq_left (by omega)
        obtain ⟨q1, i⟩ := q
        have hq2 : q1 = (g.1, g.2) := hq2
        subst hq2
        have hi : i ≤ 8 := hq.2
        rcases Nat.lt_or_ge i 8 with hi8 | hi8
        · skip
          repeat (first | ((conv => whnf); refine And.intro ?_ ?_; exact sideOf) | ((conv => whnf); refine NilE.some ?_ ?_; exact sideOf) | ((conv => whnf); refine And.intro (fun _ => ?_) (fun h => nomatch (show true = false from h))) | ((conv => whnf); refine And.intro (fun h => nomatch (show false = true from h)) (fun _ => ?_)) | ((conv => whnf); first | (apply Exists.intro; (repeat apply Exists.intro); refine And.intro ?_ ?_; exact leOf) | (refine Or.inl ?_; (conv => whnf); (repeat apply Exists.intro); refine And.intro ?_ ?_; exact leOf) | (refine Or.inr ?_; (conv => whnf); first | ((repeat apply Exists.intro); refine And.intro ?_ ?_; exact leOf) | (refine Or.inl ?_; (conv => whnf); (repeat apply Exists.intro); refine And.intro ?_ ?_; exact leOf) | (refine Or.inr ?_; (conv => whnf); (repeat apply Exists.intro); refine And.intro ?_ ?_; exact leOf))) | ((conv => whnf); refine And.intro (by assumption) ?_) | ((conv => whnf); first | (refine brT (by first | assumption | exact decide_eq_true (by first | assumption | omega | (simp only [Int.reduceToNat]; omega) | (with_reducible exact Eq.refl _)) | exact notT (decide_eq_false (by first | assumption | omega | exact fun q => q (by assumption) | (simp only [Int.reduceToNat]; omega))) | exact notT (by assumption)) ?_) | (refine brF (by first | assumption | exact decide_eq_false (by first | assumption | omega | exact fun q => q (by assumption) | (simp only [Int.reduceToNat]; omega)) | exact notF (decide_eq_true (by first | assumption | omega | (simp only [Int.reduceToNat]; omega))) | exact notF (by assumption)) ?_)) | ((conv => whnf); first | (refine Or.inl (And.intro (by first | assumption | omega | decide | (dsimp only; omega)) ?_)) | (refine Or.inr (And.intro (by first | assumption | omega | decide | (dsimp only; omega)) ?_)) | (refine Or.inr (Or.inl (And.intro (by first | assumption | omega | decide | (dsimp only; omega)) ?_))) | (refine Or.inr (Or.inr (And.intro (by first | assumption | omega | decide | (dsimp only; omega)) ?_)))))
          all_goals try (conv => whnf)
          refine Exists.intro (fun q => q.1 = ((g.1, g.2), i)) (And.intro (Enter.mk ((((g.1, g.2), i), 0) : ((Nat × Nat) × Nat) × Nat) ⟨⟨⟨h, hnn⟩, hi8⟩, Nat.zero_le _⟩ rfl ?_) (fun (q : ((Nat × Nat) × Nat) × Nat) (hq : ((q.1.1.1 < l ∧ q.1.1.2 ≤ 255) ∧ q.1.2 < 8) ∧ q.2 ≤ 32) (hq2 : q.1 = ((g.1, g.2), i)) => ?_))
          · ((repeat' ((conv => whnf) <;> first | exact trivial | (with_reducible first | refine And.intro ?_ ?_ | refine rows_lt1 ?_ | refine rows_lt2 ?_ ?_ | refine rows_lt3 ?_ ?_ ?_ | refine rows_lt4 ?_ ?_ ?_ ?_ | refine rows_lt5 ?_ ?_ ?_ ?_ ?_ | refine aggs_lt1 ?_ | refine aggs_lt2 ?_ ?_ | refine aggs_lt3 ?_ ?_ ?_ | refine fun (_ : Nat) => ?_) | refine fun (_ : (_ : Nat) < _) => ?_ | exact rfl | exact Nat.le_of_ble_eq_true rfl | (change (_ : Nat) ≤ _; omega) | (change (_ : Nat) = _; omega) | (change (_ : Int) = _; omega))); (all_goals try (conv => whnf)))
          obtain ⟨q1, b⟩ := q
          have hq2 : q1 = ((g.1, g.2), i) := hq2
          subst hq2
          have hb : b ≤ 32 := hq.2
          have hcb := cntB_le (ctrW g.2 (1 + i)) 0 b
          have hst := cnt_step (ctrW g.2 (1 + i)) 0 b
          rw [Nat.zero_add] at hst
          have htl := totB_low g.2 hnn i (by omega)
          rcases Nat.lt_or_ge b 32 with hb3 | hb3
          · skip
            repeat (first | ((conv => whnf); refine And.intro ?_ ?_; exact sideOf) | ((conv => whnf); refine NilE.some ?_ ?_; exact sideOf) | ((conv => whnf); refine And.intro (fun _ => ?_) (fun h => nomatch (show true = false from h))) | ((conv => whnf); refine And.intro (fun h => nomatch (show false = true from h)) (fun _ => ?_)) | ((conv => whnf); first | (apply Exists.intro; (repeat apply Exists.intro); refine And.intro ?_ ?_; exact leOf) | (refine Or.inl ?_; (conv => whnf); (repeat apply Exists.intro); refine And.intro ?_ ?_; exact leOf) | (refine Or.inr ?_; (conv => whnf); first | ((repeat apply Exists.intro); refine And.intro ?_ ?_; exact leOf) | (refine Or.inl ?_; (conv => whnf); (repeat apply Exists.intro); refine And.intro ?_ ?_; exact leOf) | (refine Or.inr ?_; (conv => whnf); (repeat apply Exists.intro); refine And.intro ?_ ?_; exact leOf))) | ((conv => whnf); refine And.intro (by assumption) ?_) | ((conv => whnf); first | (refine brT (by first | assumption | exact decide_eq_true (by first | assumption | omega | (simp only [Int.reduceToNat]; omega) | (with_reducible exact Eq.refl _)) | exact notT (decide_eq_false (by first | assumption | omega | exact fun q => q (by assumption) | (simp only [Int.reduceToNat]; omega))) | exact notT (by assumption)) ?_) | (refine brF (by first | assumption | exact decide_eq_false (by first | assumption | omega | exact fun q => q (by assumption) | (simp only [Int.reduceToNat]; omega)) | exact notF (decide_eq_true (by first | assumption | omega | (simp only [Int.reduceToNat]; omega))) | exact notF (by assumption)) ?_)) | ((conv => whnf); first | (refine Or.inl (And.intro (by first | assumption | omega | decide | (dsimp only; omega)) ?_)) | (refine Or.inr (And.intro (by first | assumption | omega | decide | (dsimp only; omega)) ?_)) | (refine Or.inr (Or.inl (And.intro (by first | assumption | omega | decide | (dsimp only; omega)) ?_))) | (refine Or.inr (Or.inr (And.intro (by first | assumption | omega | decide | (dsimp only; omega)) ?_)))))
            all_goals try (conv => whnf)
            refine Again.mk ((((g.1, g.2), i), b + 1) : ((Nat × Nat) × Nat) × Nat) ⟨⟨⟨h, hnn⟩, hi8⟩, show b + 1 ≤ 32 by omega⟩ rfl (show 32 - (b + 1) < 32 - b by omega) ?_
            ((repeat' ((conv => whnf) <;> first | exact trivial | (with_reducible first | refine And.intro ?_ ?_ | refine rows_lt1 ?_ | refine rows_lt2 ?_ ?_ | refine rows_lt3 ?_ ?_ ?_ | refine rows_lt4 ?_ ?_ ?_ ?_ | refine rows_lt5 ?_ ?_ ?_ ?_ ?_ | refine aggs_lt1 ?_ | refine aggs_lt2 ?_ ?_ | refine aggs_lt3 ?_ ?_ ?_ | refine fun (_ : Nat) => ?_) | refine fun (_ : (_ : Nat) < _) => ?_ | exact rfl | exact Nat.le_of_ble_eq_true rfl | (change (_ : Nat) ≤ _; omega) | (change (_ : Nat) = _; omega) | (change (_ : Int) = _; omega))); (all_goals try (conv => whnf)))
            exact (Nat.add_assoc ..).trans (congrArg (fun q => totB _ i + q) hst)
          · obtain rfl : b = 32 := by omega
            repeat (first | ((conv => whnf); refine And.intro ?_ ?_; exact sideOf) | ((conv => whnf); refine NilE.some ?_ ?_; exact sideOf) | ((conv => whnf); refine And.intro (fun _ => ?_) (fun h => nomatch (show true = false from h))) | ((conv => whnf); refine And.intro (fun h => nomatch (show false = true from h)) (fun _ => ?_)) | ((conv => whnf); first | (apply Exists.intro; (repeat apply Exists.intro); refine And.intro ?_ ?_; exact leOf) | (refine Or.inl ?_; (conv => whnf); (repeat apply Exists.intro); refine And.intro ?_ ?_; exact leOf) | (refine Or.inr ?_; (conv => whnf); first | ((repeat apply Exists.intro); refine And.intro ?_ ?_; exact leOf) | (refine Or.inl ?_; (conv => whnf); (repeat apply Exists.intro); refine And.intro ?_ ?_; exact leOf) | (refine Or.inr ?_; (conv => whnf); (repeat apply Exists.intro); refine And.intro ?_ ?_; exact leOf))) | ((conv => whnf); refine And.intro (by assumption) ?_) | ((conv => whnf); first | (refine brT (by first | assumption | exact decide_eq_true (by first | assumption | omega | (simp only [Int.reduceToNat]; omega) | (with_reducible exact Eq.refl _)) | exact notT (decide_eq_false (by first | assumption | omega | exact fun q => q (by assumption) | (simp only [Int.reduceToNat]; omega))) | exact notT (by assumption)) ?_) | (refine brF (by first | assumption | exact decide_eq_false (by first | assumption | omega | exact fun q => q (by assumption) | (simp only [Int.reduceToNat]; omega)) | exact notF (decide_eq_true (by first | assumption | omega | (simp only [Int.reduceToNat]; omega))) | exact notF (by assumption)) ?_)) | ((conv => whnf); first | (refine Or.inl (And.intro (by first | assumption | omega | decide | (dsimp only; omega)) ?_)) | (refine Or.inr (And.intro (by first | assumption | omega | decide | (dsimp only; omega)) ?_)) | (refine Or.inr (Or.inl (And.intro (by first | assumption | omega | decide | (dsimp only; omega)) ?_))) | (refine Or.inr (Or.inr (And.intro (by first | assumption | omega | decide | (dsimp only; omega)) ?_)))))
            all_goals try (conv => whnf)
            refine Again.mk (((g.1, g.2), i + 1) : (Nat × Nat) × Nat) ⟨⟨h, hnn⟩, show i + 1 ≤ 8 by omega⟩ rfl (show 8 - (i + 1) < 8 - i by omega) ?_
            ((repeat' ((conv => whnf) <;> first | exact trivial | (with_reducible first | refine And.intro ?_ ?_ | refine rows_lt1 ?_ | refine rows_lt2 ?_ ?_ | refine rows_lt3 ?_ ?_ ?_ | refine rows_lt4 ?_ ?_ ?_ ?_ | refine rows_lt5 ?_ ?_ ?_ ?_ ?_ | refine aggs_lt1 ?_ | refine aggs_lt2 ?_ ?_ | refine aggs_lt3 ?_ ?_ ?_ | refine fun (_ : Nat) => ?_) | refine fun (_ : (_ : Nat) < _) => ?_ | exact rfl | exact Nat.le_of_ble_eq_true rfl | (change (_ : Nat) ≤ _; omega) | (change (_ : Nat) = _; omega) | (change (_ : Int) = _; omega))); (all_goals try (conv => whnf)))
            all_goals skip
        · obtain rfl : i = 8 := by omega
          have hcn2 := (ctrW_cnt g.2 hnn).symm
          have htl : totB (ctrW g.2) 8 = g.2 := (totB_low g.2 hnn 8 (Nat.le_refl 8)).trans (by omega)
          repeat (first | ((conv => whnf); refine And.intro ?_ ?_; exact sideOf) | ((conv => whnf); refine NilE.some ?_ ?_; exact sideOf) | ((conv => whnf); refine And.intro (fun _ => ?_) (fun h => nomatch (show true = false from h))) | ((conv => whnf); refine And.intro (fun h => nomatch (show false = true from h)) (fun _ => ?_)) | ((conv => whnf); first | (apply Exists.intro; (repeat apply Exists.intro); refine And.intro ?_ ?_; exact leOf) | (refine Or.inl ?_; (conv => whnf); (repeat apply Exists.intro); refine And.intro ?_ ?_; exact leOf) | (refine Or.inr ?_; (conv => whnf); first | ((repeat apply Exists.intro); refine And.intro ?_ ?_; exact leOf) | (refine Or.inl ?_; (conv => whnf); (repeat apply Exists.intro); refine And.intro ?_ ?_; exact leOf) | (refine Or.inr ?_; (conv => whnf); (repeat apply Exists.intro); refine And.intro ?_ ?_; exact leOf))) | ((conv => whnf); refine And.intro (by assumption) ?_) | ((conv => whnf); first | (refine brT (by first | assumption | exact decide_eq_true (by first | assumption | omega | (simp only [Int.reduceToNat]; omega) | (with_reducible exact Eq.refl _)) | exact notT (decide_eq_false (by first | assumption | omega | exact fun q => q (by assumption) | (simp only [Int.reduceToNat]; omega))) | exact notT (by assumption)) ?_) | (refine brF (by first | assumption | exact decide_eq_false (by first | assumption | omega | exact fun q => q (by assumption) | (simp only [Int.reduceToNat]; omega)) | exact notF (decide_eq_true (by first | assumption | omega | (simp only [Int.reduceToNat]; omega))) | exact notF (by assumption)) ?_)) | ((conv => whnf); first | (refine Or.inl (And.intro (by first | assumption | omega | decide | (dsimp only; omega)) ?_)) | (refine Or.inr (And.intro (by first | assumption | omega | decide | (dsimp only; omega)) ?_)) | (refine Or.inr (Or.inl (And.intro (by first | assumption | omega | decide | (dsimp only; omega)) ?_))) | (refine Or.inr (Or.inr (And.intro (by first | assumption | omega | decide | (dsimp only; omega)) ?_)))))
          all_goals try (conv => whnf)
          refine Again.mk ((g.1 + 1, g.2) : Nat × Nat) ⟨show g.1 + 1 ≤ l by omega, hnn⟩ trivial (show l - (g.1 + 1) < l - g.1 by omega) ?_
          ((repeat' ((conv => whnf) <;> first | exact trivial | (with_reducible first | refine And.intro ?_ ?_ | refine rows_lt1 ?_ | refine rows_lt2 ?_ ?_ | refine rows_lt3 ?_ ?_ ?_ | refine rows_lt4 ?_ ?_ ?_ ?_ | refine rows_lt5 ?_ ?_ ?_ ?_ ?_ | refine aggs_lt1 ?_ | refine aggs_lt2 ?_ ?_ | refine aggs_lt3 ?_ ?_ ?_ | refine fun (_ : Nat) => ?_) | refine fun (_ : (_ : Nat) < _) => ?_ | exact rfl | exact Nat.le_of_ble_eq_true rfl | (change (_ : Nat) ≤ _; omega) | (change (_ : Nat) = _; omega) | (change (_ : Int) = _; omega))); (all_goals try (conv => whnf)))
          all_goals skip
    · skip
      repeat (first | ((conv => whnf); refine And.intro ?_ ?_; exact sideOf) | ((conv => whnf); refine NilE.some ?_ ?_; exact sideOf) | ((conv => whnf); refine And.intro (fun _ => ?_) (fun h => nomatch (show true = false from h))) | ((conv => whnf); refine And.intro (fun h => nomatch (show false = true from h)) (fun _ => ?_)) | ((conv => whnf); first | (apply Exists.intro; (repeat apply Exists.intro); refine And.intro ?_ ?_; exact leOf) | (refine Or.inl ?_; (conv => whnf); (repeat apply Exists.intro); refine And.intro ?_ ?_; exact leOf) | (refine Or.inr ?_; (conv => whnf); first | ((repeat apply Exists.intro); refine And.intro ?_ ?_; exact leOf) | (refine Or.inl ?_; (conv => whnf); (repeat apply Exists.intro); refine And.intro ?_ ?_; exact leOf) | (refine Or.inr ?_; (conv => whnf); (repeat apply Exists.intro); refine And.intro ?_ ?_; exact leOf))) | ((conv => whnf); refine And.intro (by assumption) ?_) | ((conv => whnf); first | (refine brT (by first | assumption | exact decide_eq_true (by first | assumption | omega | (simp only [Int.reduceToNat]; omega) | (with_reducible exact Eq.refl _)) | exact notT (decide_eq_false (by first | assumption | omega | exact fun q => q (by assumption) | (simp only [Int.reduceToNat]; omega))) | exact notT (by assumption)) ?_) | (refine brF (by first | assumption | exact decide_eq_false (by first | assumption | omega | exact fun q => q (by assumption) | (simp only [Int.reduceToNat]; omega)) | exact notF (decide_eq_true (by first | assumption | omega | (simp only [Int.reduceToNat]; omega))) | exact notF (by assumption)) ?_)) | ((conv => whnf); first | (refine Or.inl (And.intro (by first | assumption | omega | decide | (dsimp only; omega)) ?_)) | (refine Or.inr (And.intro (by first | assumption | omega | decide | (dsimp only; omega)) ?_)) | (refine Or.inr (Or.inl (And.intro (by first | assumption | omega | decide | (dsimp only; omega)) ?_))) | (refine Or.inr (Or.inr (And.intro (by first | assumption | omega | decide | (dsimp only; omega)) ?_)))))
      all_goals try (conv => whnf)
  · skip
    repeat (first | ((conv => whnf); refine And.intro ?_ ?_; exact sideOf) | ((conv => whnf); refine NilE.some ?_ ?_; exact sideOf) | ((conv => whnf); refine And.intro (fun _ => ?_) (fun h => nomatch (show true = false from h))) | ((conv => whnf); refine And.intro (fun h => nomatch (show false = true from h)) (fun _ => ?_)) | ((conv => whnf); first | (apply Exists.intro; (repeat apply Exists.intro); refine And.intro ?_ ?_; exact leOf) | (refine Or.inl ?_; (conv => whnf); (repeat apply Exists.intro); refine And.intro ?_ ?_; exact leOf) | (refine Or.inr ?_; (conv => whnf); first | ((repeat apply Exists.intro); refine And.intro ?_ ?_; exact leOf) | (refine Or.inl ?_; (conv => whnf); (repeat apply Exists.intro); refine And.intro ?_ ?_; exact leOf) | (refine Or.inr ?_; (conv => whnf); (repeat apply Exists.intro); refine And.intro ?_ ?_; exact leOf))) | ((conv => whnf); refine And.intro (by assumption) ?_) | ((conv => whnf); first | (refine brT (by first | assumption | exact decide_eq_true (by first | assumption | omega | (simp only [Int.reduceToNat]; omega) | (with_reducible exact Eq.refl _)) | exact notT (decide_eq_false (by first | assumption | omega | exact fun q => q (by assumption) | (simp only [Int.reduceToNat]; omega))) | exact notT (by assumption)) ?_) | (refine brF (by first | assumption | exact decide_eq_false (by first | assumption | omega | exact fun q => q (by assumption) | (simp only [Int.reduceToNat]; omega)) | exact notF (decide_eq_true (by first | assumption | omega | (simp only [Int.reduceToNat]; omega))) | exact notF (by assumption)) ?_)) | ((conv => whnf); first | (refine Or.inl (And.intro (by first | assumption | omega | decide | (dsimp only; omega)) ?_)) | (refine Or.inr (And.intro (by first | assumption | omega | decide | (dsimp only; omega)) ?_)) | (refine Or.inr (Or.inl (And.intro (by first | assumption | omega | decide | (dsimp only; omega)) ?_))) | (refine Or.inr (Or.inr (And.intro (by first | assumption | omega | decide | (dsimp only; omega)) ?_)))))
    all_goals try (conv => whnf)
end Go.Proofs.Ytiafaeokfdpbjaa
