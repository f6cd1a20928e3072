/- The reference's small functions: texts behind one another, numbers. -/
import Derived.Test.YtobilidppfmdkaaA10
namespace Go.Proofs.Ytobilidppfmdkaa
open Go.RowKit
set_option maxRecDepth 100000
set_option maxHeartbeats 20000000
theorem at8_be (v : BitVec 64) (n i : Nat) (h : i < n) : at8 (be v n) i = byt v (n - 1 - i) := by
  simp [at8, be, List.getD, h]
abbrev Parts := List (Nat × (Nat → BitVec 8))
def pl (ps : Parts) (i : Nat) : Nat := (ps.getD i (0, fun _ => 0)).1
def pb (ps : Parts) (i : Nat) : Nat → BitVec 8 := (ps.getD i (0, fun _ => 0)).2
def cat (ps : Parts) : Msg := ps.flatMap fun p => lw p.1 p.2
abbrev prt (ps : Parts) : AV := .imm false (.sl 5) ps.length (fun i => bsl (pl ps i) (pb ps i))
theorem cat_take (ps : Parts) (k : Nat) (h : k < ps.length) : cat (ps.take (k + 1)) = cat (ps.take k) ++ lw (pl ps k) (pb ps k) := by
  rw [List.take_succ_eq_append_getElem h, cat, List.flatMap_append]
  simp [cat, pl, pb, List.getD, h]
theorem cat_len (ps : Parts) (k : Nat) : (cat (ps.take k)).length ≤ (cat ps).length := by
  conv => rhs; rw [← List.take_append_drop k ps, cat, List.flatMap_append, List.length_append]
  exact Nat.le_add_right _ _
theorem at8_app (l r : Msg) (j : Nat) : at8 (l ++ r) j = if j < l.length then at8 l j else at8 r (j - l.length) := by
  simp only [at8, List.getD_eq_getElem?_getD, List.getElem?_append]
  split <;> rfl
theorem cat_all (ps : Parts) : cat (ps.take ps.length) = cat ps := by rw [List.take_length]
theorem cat_all_len (ps : Parts) : (cat (ps.take ps.length)).length = (cat ps).length := by rw [List.take_length]
theorem cat_all_at (ps : Parts) (j : Nat) : at8 (cat (ps.take ps.length)) j = at8 (cat ps) j := by rw [List.take_length]
theorem cat_step (ps : Parts) (k j : Nat) (h : k < ps.length) (hj : j < (cat (ps.take k)).length + pl ps k) : (if j < (cat (ps.take k)).length then at8 (cat (ps.take k)) j else pb ps k (j - (cat (ps.take k)).length)) = at8 (cat (ps.take (k + 1))) j := by
  rw [cat_take ps k h, at8_app]
  split
  · rfl
  · exact (at8_lw _ _ _ (by omega)).symm
def C_r1_Join : SpecR := fun A K => ∃ ps, A [prt ps] ∧ (cat ps).length ≤ 1000000000 ∧ ps.length ≤ 1000000 ∧ K (.gsl 5 8 (cat ps).length) [(8, .grow 5 (cat ps).length (bys (at8 (cat ps))))]
def L_r1_Join (ps : Parts) : LI := ⟨Nat, (· ≤ ps.length), fun k => [(3, .gsl 5 8 (cat (ps.take k)).length), (6, prt ps), (7, .nat ps.length), (8, .nat k)], fun k => [(8, .grow 5 (cat (ps.take k)).length (bys (at8 (cat (ps.take k)))))], fun k => ps.length - k, noK, some⟩
section
attribute [local irreducible] cat pl pb
theorem g_r1_Join : Gd 13 (pureR ty C_r1_Join) := by
  refine goodR (E := PG []) (pgOK trivial) mixes Try.func13 (by kernel_rfl) (by kernel_rfl) ?_
  rintro A K ⟨ps, hA, hl, hn, hK⟩
  refine ⟨_, _, _, loops [(3, L_r1_Join ps)], hA, hK, by kernel_rfl, by kernel_rfl, ⟨fun _ _ => trivial, trivial⟩, trivial, ?_⟩
  have c0 : (cat (ps.take 0)).length = 0 := by rw [List.take_zero]; unfold cat; rfl
  repeat (first | ((conv => whnf); refine And.intro ?_ ?_; exact sideOf) | ((conv => whnf); refine NilE.some ?_ ?_; exact sideOf) | ((conv => whnf); refine And.intro (fun _ => ?_) (fun h => nomatch (show true = false from h))) | ((conv => whnf); refine And.intro (fun h => nomatch (show false = true from h)) (fun _ => ?_)) | ((conv => whnf); first | (apply Exists.intro; (repeat apply Exists.intro); refine And.intro ?_ ?_; exact leOf) | (refine Or.inl ?_; (conv => whnf); (repeat apply Exists.intro); refine And.intro ?_ ?_; exact leOf) | (refine Or.inr ?_; (conv => whnf); first | ((repeat apply Exists.intro); refine And.intro ?_ ?_; exact leOf) | (refine Or.inl ?_; (conv => whnf); (repeat apply Exists.intro); refine And.intro ?_ ?_; exact leOf) | (refine Or.inr ?_; (conv => whnf); (repeat apply Exists.intro); refine And.intro ?_ ?_; exact leOf))))
  all_goals try (conv => whnf)
  refine Exists.intro (fun _ => True) (And.intro (Enter.mk (0 : Nat) (Nat.zero_le _) trivial ?_) (fun (k : Nat) (hk : k ≤ ps.length) _ => ?_))
  · ((repeat' ((conv => whnf) <;> first | exact trivial | (with_reducible first | refine And.intro ?_ ?_ | refine rows_lt1 ?_ | refine rows_lt2 ?_ ?_ | refine rows_lt3 ?_ ?_ ?_ | refine rows_lt4 ?_ ?_ ?_ ?_ | refine rows_lt5 ?_ ?_ ?_ ?_ ?_ | refine aggs_lt1 ?_ | refine aggs_lt2 ?_ ?_ | refine aggs_lt3 ?_ ?_ ?_ | refine fun (_ : Nat) => ?_) | refine fun (_ : (_ : Nat) < _) => ?_ | exact rfl | exact Nat.le_of_ble_eq_true rfl | (change (_ : Nat) ≤ _; omega) | (change (_ : Nat) = _; omega) | (change (_ : Int) = _; omega))); (all_goals try (conv => whnf)))
  repeat (first | ((conv => whnf); refine And.intro ?_ ?_; exact sideOf) | ((conv => whnf); refine NilE.some ?_ ?_; exact sideOf) | ((conv => whnf); refine And.intro (fun _ => ?_) (fun h => nomatch (show true = false from h))) | ((conv => whnf); refine And.intro (fun h => nomatch (show false = true from h)) (fun _ => ?_)) | ((conv => whnf); first | (apply Exists.intro; (repeat apply Exists.intro); refine And.intro ?_ ?_; exact leOf) | (refine Or.inl ?_; (conv => whnf); (repeat apply Exists.intro); refine And.intro ?_ ?_; exact leOf) | (refine Or.inr ?_; (conv => whnf); first | ((repeat apply Exists.intro); refine And.intro ?_ ?_; exact leOf) | (refine Or.inl ?_; (conv => whnf); (repeat apply Exists.intro); refine And.intro ?_ ?_; exact leOf) | (refine Or.inr ?_; (conv => whnf); (repeat apply Exists.intro); refine And.intro ?_ ?_; exact leOf))))
  all_goals try (conv => whnf)
  refine And.intro (fun h => ?_) (fun h => ?_)
  · have h := of_decide_eq_true h
    have e := cat_take ps k h
    have el : (cat (ps.take (k + 1))).length = (cat (ps.take k)).length + pl ps k := by rw [e, List.length_append, lw_len]
    have hb := cat_len ps (k + 1)
    repeat (first | ((conv => whnf); refine And.intro ?_ ?_; exact sideOf) | ((conv => whnf); refine NilE.some ?_ ?_; exact sideOf) | ((conv => whnf); refine And.intro (fun _ => ?_) (fun h => nomatch (show true = false from h))) | ((conv => whnf); refine And.intro (fun h => nomatch (show false = true from h)) (fun _ => ?_)) | ((conv => whnf); first | (apply Exists.intro; (repeat apply Exists.intro); refine And.intro ?_ ?_; exact leOf) | (refine Or.inl ?_; (conv => whnf); (repeat apply Exists.intro); refine And.intro ?_ ?_; exact leOf) | (refine Or.inr ?_; (conv => whnf); first | ((repeat apply Exists.intro); refine And.intro ?_ ?_; exact leOf) | (refine Or.inl ?_; (conv => whnf); (repeat apply Exists.intro); refine And.intro ?_ ?_; exact leOf) | (refine Or.inr ?_; (conv => whnf); (repeat apply Exists.intro); refine And.intro ?_ ?_; exact leOf))))
    all_goals try (conv => whnf)
    refine Again.mk (k + 1 : Nat) (show k + 1 ≤ ps.length by omega) trivial (show ps.length - (k + 1) < ps.length - k by omega) ?_
    ((repeat' ((conv => whnf) <;> first | exact trivial | (with_reducible first | refine And.intro ?_ ?_ | refine rows_lt1 ?_ | refine rows_lt2 ?_ ?_ | refine rows_lt3 ?_ ?_ ?_ | refine rows_lt4 ?_ ?_ ?_ ?_ | refine rows_lt5 ?_ ?_ ?_ ?_ ?_ | refine aggs_lt1 ?_ | refine aggs_lt2 ?_ ?_ | refine aggs_lt3 ?_ ?_ ?_ | refine fun (_ : Nat) => ?_) | refine fun (_ : (_ : Nat) < _) => ?_ | exact rfl | exact Nat.le_of_ble_eq_true rfl | (change (_ : Nat) ≤ _; omega) | (change (_ : Nat) = _; omega) | (change (_ : Int) = _; omega))); (all_goals try (conv => whnf)))
    rename_i j hj
    exact cat_step ps k j h hj
  · have h := of_decide_eq_false h
    obtain rfl : k = ps.length := by omega
    repeat (first | ((conv => whnf); refine And.intro ?_ ?_; exact sideOf) | ((conv => whnf); refine NilE.some ?_ ?_; exact sideOf) | ((conv => whnf); refine And.intro (fun _ => ?_) (fun h => nomatch (show true = false from h))) | ((conv => whnf); refine And.intro (fun h => nomatch (show false = true from h)) (fun _ => ?_)) | ((conv => whnf); first | (apply Exists.intro; (repeat apply Exists.intro); refine And.intro ?_ ?_; exact leOf) | (refine Or.inl ?_; (conv => whnf); (repeat apply Exists.intro); refine And.intro ?_ ?_; exact leOf) | (refine Or.inr ?_; (conv => whnf); first | ((repeat apply Exists.intro); refine And.intro ?_ ?_; exact leOf) | (refine Or.inl ?_; (conv => whnf); (repeat apply Exists.intro); refine And.intro ?_ ?_; exact leOf) | (refine Or.inr ?_; (conv => whnf); (repeat apply Exists.intro); refine And.intro ?_ ?_; exact leOf))))
    all_goals try (conv => whnf)
    refine ⟨some, ?_⟩
    have ca := cat_all_len ps
    ((repeat' ((conv => whnf) <;> first | exact trivial | (with_reducible first | refine And.intro ?_ ?_ | refine rows_lt1 ?_ | refine rows_lt2 ?_ ?_ | refine rows_lt3 ?_ ?_ ?_ | refine rows_lt4 ?_ ?_ ?_ ?_ | refine rows_lt5 ?_ ?_ ?_ ?_ ?_ | refine aggs_lt1 ?_ | refine aggs_lt2 ?_ ?_ | refine aggs_lt3 ?_ ?_ ?_ | refine fun (_ : Nat) => ?_) | refine fun (_ : (_ : Nat) < _) => ?_ | exact rfl | exact Nat.le_of_ble_eq_true rfl | (change (_ : Nat) ≤ _; omega) | (change (_ : Nat) = _; omega) | (change (_ : Int) = _; omega))); (all_goals try (conv => whnf)))
    exact cat_all_at ps _
theorem noDiv : ∀ x : BitVec 64, x / BitVec.ofInt 64 256 = x / 256#64 := fun _ => rfl
def nn (n : BitVec 64) : Nat → BitVec 64
  | 0 => n
  | k + 1 => nn n k / 256#64
theorem nn_nat (n : BitVec 64) : ∀ k, (nn n k).toNat = n.toNat / 2 ^ (8 * k)
  | 0 => by simp [nn]
  | k + 1 => by
    rw [nn, BitVec.toNat_udiv, nn_nat n k, Nat.div_div_eq_div_mul, show 8 * (k + 1) = 8 * k + 8 by omega, Nat.pow_add]; rfl
theorem nn_byt (n : BitVec 64) (k : Nat) : (nn n k % 256#64).setWidth 8 = byt n k := by
  apply BitVec.eq_of_toNat_eq
  rw [byt_nat, BitVec.toNat_setWidth, BitVec.toNat_umod, nn_nat]
  show n.toNat / 2 ^ (8 * k) % 256 % 256 = _
  rw [Nat.mod_mod]
def nuF (n : BitVec 64) (s k j : Nat) : BitVec 8 := if s - k ≤ j ∧ j < s then byt n (s - 1 - j) else 0
theorem nuF_zero (n : BitVec 64) (s j : Nat) : 0 = nuF n s 0 j := by unfold nuF; rw [if_neg (by omega)]
theorem nuF_step (n : BitVec 64) (s k j p : Nat) (hk : k < s) (hp : p = s - 1 - k) : (if j = p then (nn n k % 256#64).setWidth 8 else nuF n s k j) = nuF n s (k + 1) j := by
  subst hp
  unfold nuF
  by_cases h : j = s - 1 - k
  · subst h
    rw [if_pos rfl, if_pos (by omega), nn_byt]
    congr 1; omega
  · rw [if_neg h]
    by_cases h2 : s - k ≤ j ∧ j < s
    · rw [if_pos h2, if_pos (by omega)]
    · rw [if_neg h2, if_neg (by omega)]
theorem nuF_all (n : BitVec 64) (s j : Nat) (hj : j < s) : nuF n s s j = at8 (be n s) j := by
  unfold nuF
  rw [if_pos (by omega), at8_be _ _ _ hj]
attribute [irreducible] nuF
def C_r1_Num : SpecP := fun A K => ∃ n s, A [.u64 n, .nat s] ∧ s ≤ 1000 ∧ K (bsf s (at8 (be n s)))
def L_r1_Num (n : BitVec 64) (s : Nat) : LI := ⟨Nat, (· ≤ s), fun k => [(0, .u64 (nn n k)), (5, .gsl 5 1040 s), (6, .int ((s : Int) - 1 - k))], fun k => [(1040, .grow 5 s (bys (nuF n s k)))], fun k => s - k, some, some⟩
theorem g_r1_Num : Gd 18 (pureP ty C_r1_Num) := by
  refine goodP (E := PG []) (pgOK trivial) mixes Try.func18 (by kernel_rfl) (by kernel_rfl) ?_
  rintro A K ⟨n, s, hA, hs, hK⟩
  refine ⟨_, _, loops [(3, L_r1_Num n s)], hA, hK, by kernel_rfl, ⟨rfl, fun _ _ => trivial⟩, ?_⟩
  repeat (first | ((conv => whnf); refine And.intro ?_ ?_; exact sideOf) | ((conv => whnf); refine NilE.some ?_ ?_; exact sideOf) | ((conv => whnf); refine And.intro (fun _ => ?_) (fun h => nomatch (show true = false from h))) | ((conv => whnf); refine And.intro (fun h => nomatch (show false = true from h)) (fun _ => ?_)) | ((conv => whnf); first | (apply Exists.intro; (repeat apply Exists.intro); refine And.intro ?_ ?_; exact leOf) | (refine Or.inl ?_; (conv => whnf); (repeat apply Exists.intro); refine And.intro ?_ ?_; exact leOf) | (refine Or.inr ?_; (conv => whnf); first | ((repeat apply Exists.intro); refine And.intro ?_ ?_; exact leOf) | (refine Or.inl ?_; (conv => whnf); (repeat apply Exists.intro); refine And.intro ?_ ?_; exact leOf) | (refine Or.inr ?_; (conv => whnf); (repeat apply Exists.intro); refine And.intro ?_ ?_; exact leOf))))
  all_goals try (conv => whnf)
  refine Exists.intro (fun _ => True) (And.intro (Enter.mk (0 : Nat) (Nat.zero_le _) trivial ?_) (fun (k : Nat) (hk : k ≤ s) _ => ?_))
  · ((repeat' ((conv => whnf) <;> first | exact trivial | (with_reducible first | refine And.intro ?_ ?_ | refine rows_lt1 ?_ | refine rows_lt2 ?_ ?_ | refine rows_lt3 ?_ ?_ ?_ | refine rows_lt4 ?_ ?_ ?_ ?_ | refine rows_lt5 ?_ ?_ ?_ ?_ ?_ | refine aggs_lt1 ?_ | refine aggs_lt2 ?_ ?_ | refine aggs_lt3 ?_ ?_ ?_ | refine fun (_ : Nat) => ?_) | refine fun (_ : (_ : Nat) < _) => ?_ | exact rfl | exact Nat.le_of_ble_eq_true rfl | (change (_ : Nat) ≤ _; omega) | (change (_ : Nat) = _; omega) | (change (_ : Int) = _; omega))); (all_goals try (conv => whnf)))
    exact nuF_zero _ _ _
  repeat (first | ((conv => whnf); refine And.intro ?_ ?_; exact sideOf) | ((conv => whnf); refine NilE.some ?_ ?_; exact sideOf) | ((conv => whnf); refine And.intro (fun _ => ?_) (fun h => nomatch (show true = false from h))) | ((conv => whnf); refine And.intro (fun h => nomatch (show false = true from h)) (fun _ => ?_)) | ((conv => whnf); first | (apply Exists.intro; (repeat apply Exists.intro); refine And.intro ?_ ?_; exact leOf) | (refine Or.inl ?_; (conv => whnf); (repeat apply Exists.intro); refine And.intro ?_ ?_; exact leOf) | (refine Or.inr ?_; (conv => whnf); first | ((repeat apply Exists.intro); refine And.intro ?_ ?_; exact leOf) | (refine Or.inl ?_; (conv => whnf); (repeat apply Exists.intro); refine And.intro ?_ ?_; exact leOf) | (refine Or.inr ?_; (conv => whnf); (repeat apply Exists.intro); refine And.intro ?_ ?_; exact leOf))))
  all_goals try (conv => whnf)
  refine And.intro (fun h => ?_) (fun h => ?_)
  · have h := of_decide_eq_true h
    have hks : k < s := by simp only [Int.reduceToNat] at h; omega
    repeat (first | ((conv => whnf); refine And.intro ?_ ?_; exact sideOf) | ((conv => whnf); refine NilE.some ?_ ?_; exact sideOf) | ((conv => whnf); refine And.intro (fun _ => ?_) (fun h => nomatch (show true = false from h))) | ((conv => whnf); refine And.intro (fun h => nomatch (show false = true from h)) (fun _ => ?_)) | ((conv => whnf); first | (apply Exists.intro; (repeat apply Exists.intro); refine And.intro ?_ ?_; exact leOf) | (refine Or.inl ?_; (conv => whnf); (repeat apply Exists.intro); refine And.intro ?_ ?_; exact leOf) | (refine Or.inr ?_; (conv => whnf); first | ((repeat apply Exists.intro); refine And.intro ?_ ?_; exact leOf) | (refine Or.inl ?_; (conv => whnf); (repeat apply Exists.intro); refine And.intro ?_ ?_; exact leOf) | (refine Or.inr ?_; (conv => whnf); (repeat apply Exists.intro); refine And.intro ?_ ?_; exact leOf))))
    all_goals try (conv => whnf)
    refine Again.mk (k + 1 : Nat) (show k + 1 ≤ s by omega) trivial (show s - (k + 1) < s - k by omega) ?_
    ((repeat' ((conv => whnf) <;> first | exact trivial | (with_reducible first | refine And.intro ?_ ?_ | refine rows_lt1 ?_ | refine rows_lt2 ?_ ?_ | refine rows_lt3 ?_ ?_ ?_ | refine rows_lt4 ?_ ?_ ?_ ?_ | refine rows_lt5 ?_ ?_ ?_ ?_ ?_ | refine aggs_lt1 ?_ | refine aggs_lt2 ?_ ?_ | refine aggs_lt3 ?_ ?_ ?_ | refine fun (_ : Nat) => ?_) | refine fun (_ : (_ : Nat) < _) => ?_ | exact rfl | exact Nat.le_of_ble_eq_true rfl | (change (_ : Nat) ≤ _; omega) | (change (_ : Nat) = _; omega) | (change (_ : Int) = _; omega))); (all_goals try (conv => whnf)))
    exact nuF_step n s k _ _ hks (by omega)
  · have h := of_decide_eq_false h
    obtain rfl : k = s := by simp only [Int.reduceToNat] at h; omega
    repeat (first | ((conv => whnf); refine And.intro ?_ ?_; exact sideOf) | ((conv => whnf); refine NilE.some ?_ ?_; exact sideOf) | ((conv => whnf); refine And.intro (fun _ => ?_) (fun h => nomatch (show true = false from h))) | ((conv => whnf); refine And.intro (fun h => nomatch (show false = true from h)) (fun _ => ?_)) | ((conv => whnf); first | (apply Exists.intro; (repeat apply Exists.intro); refine And.intro ?_ ?_; exact leOf) | (refine Or.inl ?_; (conv => whnf); (repeat apply Exists.intro); refine And.intro ?_ ?_; exact leOf) | (refine Or.inr ?_; (conv => whnf); first | ((repeat apply Exists.intro); refine And.intro ?_ ?_; exact leOf) | (refine Or.inl ?_; (conv => whnf); (repeat apply Exists.intro); refine And.intro ?_ ?_; exact leOf) | (refine Or.inr ?_; (conv => whnf); (repeat apply Exists.intro); refine And.intro ?_ ?_; exact leOf))))
    all_goals try (conv => whnf)
    ((repeat' ((conv => whnf) <;> first | exact trivial | (with_reducible first | refine And.intro ?_ ?_ | refine rows_lt1 ?_ | refine rows_lt2 ?_ ?_ | refine rows_lt3 ?_ ?_ ?_ | refine rows_lt4 ?_ ?_ ?_ ?_ | refine rows_lt5 ?_ ?_ ?_ ?_ ?_ | refine aggs_lt1 ?_ | refine aggs_lt2 ?_ ?_ | refine aggs_lt3 ?_ ?_ ?_ | refine fun (_ : Nat) => ?_) | refine fun (_ : (_ : Nat) < _) => ?_ | exact rfl | exact Nat.le_of_ble_eq_true rfl | (change (_ : Nat) ≤ _; omega) | (change (_ : Nat) = _; omega) | (change (_ : Int) = _; omega))); (all_goals try (conv => whnf)))
    rename_i j hj
    exact nuF_all n _ j hj
end
abbrev prs (ls : List Nat) (bs : List (Nat → BitVec 8)) : AV := .imm false (.sl 5) ls.length (fun i => bsl (nth 0 ls i) (nth (fun _ => 0) bs i))
theorem prt1 (l0 : Nat) (b0 : Nat → BitVec 8) : prt [(l0, b0)] = prs [l0] [b0] := by
  have : (fun i => bsl (pl [(l0, b0)] i) (pb [(l0, b0)] i)) = fun i => bsl (nth 0 [l0] i) (nth (fun _ => 0) [b0] i) := by
    funext i
    rcases i with _ | i <;> rfl
  show AV.imm false _ 1 _ = AV.imm false _ 1 _
  rw [this]
def C_r1_Join_1 : SpecR := fun A K => ∃ l0 b0, A [prs [l0] [b0]] ∧ l0 ≤ 1000000000 ∧ K (.gsl 5 8 (l0)) [(8, .grow 5 (l0) (bys (at8 (lw l0 b0))))]
theorem g_r1_Join_1 : Gd 13 (pureR ty C_r1_Join_1) := good_imp g_r1_Join fun args m key K ⟨l0, b0, hA, h0, hK⟩ => by
  have e : cat [(l0, b0)] = lw l0 b0 := by simp [cat]
  have el : (cat [(l0, b0)]).length = l0 := by rw [e]; simp only [List.length_append, lw_len]
  refine ⟨[(l0, b0)], (by rw [prt1]; exact hA), by rw [el]; exact h0, (show 1 ≤ 1000000 by omega), ?_⟩
  rw [el, e]
  exact hK
theorem prt2 (l0 l1 : Nat) (b0 b1 : Nat → BitVec 8) : prt [(l0, b0), (l1, b1)] = prs [l0, l1] [b0, b1] := by
  have : (fun i => bsl (pl [(l0, b0), (l1, b1)] i) (pb [(l0, b0), (l1, b1)] i)) = fun i => bsl (nth 0 [l0, l1] i) (nth (fun _ => 0) [b0, b1] i) := by
    funext i
    rcases i with _ | _ | i <;> rfl
  show AV.imm false _ 2 _ = AV.imm false _ 2 _
  rw [this]
def C_r1_Join_2 : SpecR := fun A K => ∃ l0 b0 l1 b1, A [prs [l0, l1] [b0, b1]] ∧ l0 + l1 ≤ 1000000000 ∧ K (.gsl 5 8 (l0 + l1)) [(8, .grow 5 (l0 + l1) (bys (at8 (lw l0 b0 ++ lw l1 b1))))]
theorem g_r1_Join_2 : Gd 13 (pureR ty C_r1_Join_2) := good_imp g_r1_Join fun args m key K ⟨l0, b0, l1, b1, hA, h0, hK⟩ => by
  have e : cat [(l0, b0), (l1, b1)] = lw l0 b0 ++ lw l1 b1 := by simp [cat]
  have el : (cat [(l0, b0), (l1, b1)]).length = l0 + l1 := by rw [e]; simp only [List.length_append, lw_len]
  refine ⟨[(l0, b0), (l1, b1)], (by rw [prt2]; exact hA), by rw [el]; exact h0, (show 2 ≤ 1000000 by omega), ?_⟩
  rw [el, e]
  exact hK
theorem prt4 (l0 l1 l2 l3 : Nat) (b0 b1 b2 b3 : Nat → BitVec 8) : prt [(l0, b0), (l1, b1), (l2, b2), (l3, b3)] = prs [l0, l1, l2, l3] [b0, b1, b2, b3] := by
  have : (fun i => bsl (pl [(l0, b0), (l1, b1), (l2, b2), (l3, b3)] i) (pb [(l0, b0), (l1, b1), (l2, b2), (l3, b3)] i)) = fun i => bsl (nth 0 [l0, l1, l2, l3] i) (nth (fun _ => 0) [b0, b1, b2, b3] i) := by
    funext i
    rcases i with _ | _ | _ | _ | i <;> rfl
  show AV.imm false _ 4 _ = AV.imm false _ 4 _
  rw [this]
def C_r1_Join_4 : SpecR := fun A K => ∃ l0 b0 l1 b1 l2 b2 l3 b3, A [prs [l0, l1, l2, l3] [b0, b1, b2, b3]] ∧ l0 + l1 + l2 + l3 ≤ 1000000000 ∧ K (.gsl 5 8 (l0 + l1 + l2 + l3)) [(8, .grow 5 (l0 + l1 + l2 + l3) (bys (at8 (lw l0 b0 ++ lw l1 b1 ++ lw l2 b2 ++ lw l3 b3))))]
theorem g_r1_Join_4 : Gd 13 (pureR ty C_r1_Join_4) := good_imp g_r1_Join fun args m key K ⟨l0, b0, l1, b1, l2, b2, l3, b3, hA, h0, hK⟩ => by
  have e : cat [(l0, b0), (l1, b1), (l2, b2), (l3, b3)] = lw l0 b0 ++ lw l1 b1 ++ lw l2 b2 ++ lw l3 b3 := by simp [cat]
  have el : (cat [(l0, b0), (l1, b1), (l2, b2), (l3, b3)]).length = l0 + l1 + l2 + l3 := by rw [e]; simp only [List.length_append, lw_len]
  refine ⟨[(l0, b0), (l1, b1), (l2, b2), (l3, b3)], (by rw [prt4]; exact hA), by rw [el]; exact h0, (show 4 ≤ 1000000 by omega), ?_⟩
  rw [el, e]
  exact hK
end Go.Proofs.Ytobilidppfmdkaa
