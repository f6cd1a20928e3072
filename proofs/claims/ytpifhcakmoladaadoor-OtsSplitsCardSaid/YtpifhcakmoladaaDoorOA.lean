/- One-time signatures: messages' digests, keys of ends. -/
import Derived.Test.YtpifhcakmoladaaDoorO9
namespace Go.Proofs.YtpifhcakmoladaaDoor
open Go.RowKit
set_option maxRecDepth 100000
set_option maxHeartbeats 20000000
attribute [local irreducible] hsh rst sha256 press dig st1 at8 ch mash fold digs
theorem prt3' (l0 l1 l2 : Nat) (b0 b1 b2 : Nat → BitVec 8) : prt [(l0, b0), (l1, b1), (l2, b2)] = prs [l0, l1, l2] [b0, b1, b2] := by
  have : (fun i => bsl (pl [(l0, b0), (l1, b1), (l2, b2)] i) (pb [(l0, b0), (l1, b1), (l2, b2)] i)) = fun i => bsl (nth 0 [l0, l1, l2] i) (nth (fun _ => 0) [b0, b1, b2] i) := by
    funext i
    rcases i with _ | _ | _ | i <;> rfl
  show AV.imm false _ 3 _ = AV.imm false _ 3 _
  rw [this]
def C_r1_Join_3 : SpecR := fun A K => ∃ l0 b0 l1 b1 l2 b2, A [prs [l0, l1, l2] [b0, b1, b2]] ∧ l0 + l1 + l2 ≤ 1000000000 ∧ K (.gsl 5 8 (l0 + l1 + l2)) [(8, .grow 5 (l0 + l1 + l2) (bys (at8 (lw l0 b0 ++ lw l1 b1 ++ lw l2 b2))))]
theorem g_r1_Join_3 : Gd 34 (pureR ty C_r1_Join_3) := good_imp g_r1_Join fun args m key K ⟨l0, b0, l1, b1, l2, b2, hA, h0, hK⟩ => by
  have e : cat [(l0, b0), (l1, b1), (l2, b2)] = lw l0 b0 ++ lw l1 b1 ++ lw l2 b2 := by simp [cat]
  have el : (cat [(l0, b0), (l1, b1), (l2, b2)]).length = l0 + l1 + l2 := by rw [e]; simp only [List.length_append, lw_len]
  refine ⟨[(l0, b0), (l1, b1), (l2, b2)], (by rw [prt3']; exact hA), by rw [el]; exact h0, (show 3 ≤ 1000000 by omega), ?_⟩
  rw [el, e]
  exact hK
theorem r5_hd (id : Nat → BitVec 8) (q : BitVec 32) (n : Nat) (hn : n < 9223372036854775808) (x : Nat) : at8 ((lw (16 - 0) fun x => id (0 + x)) ++ lw 4 (at8 (be (BitVec.setWidth 64 q) (Int.toNat 4))) ++ lw 2 (at8 (be (BitVec.ofInt 64 n) (Int.toNat 2)))) x = at8 (hd id q n) x := by
  show at8 (lw 16 (fun x => id (0 + x)) ++ lw 4 (at8 (be (BitVec.setWidth 64 q) 4)) ++ lw 2 (at8 (be (BitVec.ofInt 64 n) 2))) x = _
  rw [lw_at8 _ 4 (be_len _ _), lw_at8 _ 2 (be_len _ _)]
  have e : (fun x => id (0 + x)) = id := funext fun x => congrArg id (Nat.zero_add x)
  have e2 : BitVec.ofInt 64 (n : Int) = BitVec.ofNat 64 n := by
    apply BitVec.eq_of_toNat_eq
    rw [BitVec.toNat_ofInt, BitVec.toNat_ofNat]; omega
  rw [e, e2]; unfold hd; rfl
theorem fold_app (h : Msg) (k : Nat) (f : Nat → Nat → BitVec 8) : h ++ digs (k + 1) f = h ++ digs k f ++ lw 32 (f k) := by rw [digs_succ, List.append_assoc]
theorem fold_at (id : Nat → BitVec 8) (q : BitVec 32) (k : Nat) (f : Nat → Nat → BitVec 8) (j : Nat) (g : Nat → BitVec 8) (hg : ∀ i, i < 32 → g i = f k i) (hj : j < 22 + 32 * k + 32) : (if j < 22 + 32 * k then at8 (hd id q 32896 ++ digs k f) j else g (j - (22 + 32 * k))) = at8 (hd id q 32896 ++ digs (k + 1) f) j := by
  have hl : (hd id q 32896 ++ digs k f).length = 22 + 32 * k := by rw [List.length_append, hd_len, digs_len]
  rw [fold_app, at8_app (hd id q 32896 ++ digs k f) (lw 32 (f k)) j, hl]
  by_cases h : j < 22 + 32 * k
  · rw [if_pos h, if_pos h]
  · rw [if_neg h, if_neg h, hg _ (by omega), at8_lw _ _ _ (by omega)]
def C_r5_FoldZ : SpecP := fun A K => ∃ id q n f Z, A [arr8 16 id, .u32 q, dgs n f] ∧ n ≤ 1000 ∧ at8 (fold id q n f) = Z ∧ K (arr8 32 Z)
def L_r5_Fold (id : Nat → BitVec 8) (q : BitVec 32) (n : Nat) (f : Nat → Nat → BitVec 8) : LI := ⟨Nat, (· ≤ n), fun k => [(6, .ptr TD 16 []), (7, .gsl 5 1080 (22 + 32 * k)), (17, dgs n f), (18, .nat n), (19, .nat k)],
  fun k => [(16, .var TD TD.zero), (1080, .grow 5 (22 + 32 * k) (bys (at8 (hd id q 32896 ++ digs k f))))], fun k => n - k, some, some⟩
def C_r5_MashZ : SpecP := fun A K => ∃ id q c l m Z, A [arr8 16 id, .u32 q, arr8 32 c, bsl l m] ∧ l ≤ 100000 ∧ at8 (mash id q (lw 32 c) (lw l m)) = Z ∧ K (arr8 32 Z)
theorem g_r5_MashZ : Gd 23 (pureP ty C_r5_MashZ) := good_imp g_r5_Mash fun args m key K ⟨id, q, c, l, ms, Z, hA, hn, hZ, hK⟩ => ⟨id, q, c, l, ms, hA, hn, by rw [hZ]; exact hK⟩
theorem g_r5_FoldZ : Gd 25 (pureP ty C_r5_FoldZ) := by
  refine goodP (E := PG [(31, pureP ty C_r1_Num), (34, pureR ty C_r1_Join_3), (35, pureP ty C_r1_Sum)]) (pgOK ⟨g_r1_Num, g_r1_Join_3, g_r1_Sum, trivial⟩) mixes Tryd.func25 (by kernel_rfl) (by kernel_rfl) ?_
  rintro A K ⟨id, q, n, f, Z, hA, hn, hZ, hK⟩
  refine ⟨_, _, loops [(3, L_r5_Fold id q n f)], hA, hK, by kernel_rfl, fun _ _ => trivial, ?_⟩
  repeat (first | ((conv => whnf); refine And.intro ?_ ?_; exact sideOf) | ((conv => whnf); refine NilE.some ?_ ?_; exact sideOf) | ((conv => whnf); refine And.intro (fun _ => ?_) (fun h => nomatch (show true = false from h))) | ((conv => whnf); refine And.intro (fun h => nomatch (show false = true from h)) (fun _ => ?_)) | ((conv => whnf); first | (apply Exists.intro; (repeat apply Exists.intro); refine And.intro ?_ ?_; exact leOf) | (refine Or.inl ?_; (conv => whnf); (repeat apply Exists.intro); refine And.intro ?_ ?_; exact leOf) | (refine Or.inr ?_; (conv => whnf); first | ((repeat apply Exists.intro); refine And.intro ?_ ?_; exact leOf) | (refine Or.inl ?_; (conv => whnf); (repeat apply Exists.intro); refine And.intro ?_ ?_; exact leOf) | (refine Or.inr ?_; (conv => whnf); (repeat apply Exists.intro); refine And.intro ?_ ?_; exact leOf))) | ((conv => whnf); first | refine And.intro (by assumption) ?_ | refine goT ?_ | refine goF ?_ | refine goL ?_ | refine goR ?_ | refine goRL ?_ | refine goRR ?_))
  all_goals try (conv => whnf)
  refine Exists.intro (fun _ => True) (And.intro (Enter.mk (0 : Nat) (Nat.zero_le _) trivial ?_) (fun (k : Nat) (hk : k ≤ n) _ => ?_))
  · ((repeat' ((conv => whnf) <;> first | exact trivial | (with_reducible first | refine And.intro ?_ ?_ | refine rows_lt1 ?_ | refine rows_lt2 ?_ ?_ | refine rows_lt3 ?_ ?_ ?_ | refine rows_lt4 ?_ ?_ ?_ ?_ | refine rows_lt5 ?_ ?_ ?_ ?_ ?_ | refine aggs_lt1 ?_ | refine aggs_lt2 ?_ ?_ | refine aggs_lt3 ?_ ?_ ?_ | refine fun (_ : Nat) => ?_) | refine fun (_ : (_ : Nat) < _) => ?_ | exact rfl | exact Nat.le_of_ble_eq_true rfl | (change (_ : Nat) ≤ _; omega) | (change (_ : Nat) = _; omega) | (change (_ : Int) = _; omega))); (all_goals try (conv => whnf)))
    rename_i x hx
    rw [digs_zero, List.append_nil]
    exact r5_hd id q 32896 (by decide) x
  rcases Nat.lt_or_ge k n with h | h
  · skip
    repeat (first | ((conv => whnf); refine And.intro ?_ ?_; exact sideOf) | ((conv => whnf); refine NilE.some ?_ ?_; exact sideOf) | ((conv => whnf); refine And.intro (fun _ => ?_) (fun h => nomatch (show true = false from h))) | ((conv => whnf); refine And.intro (fun h => nomatch (show false = true from h)) (fun _ => ?_)) | ((conv => whnf); first | (apply Exists.intro; (repeat apply Exists.intro); refine And.intro ?_ ?_; exact leOf) | (refine Or.inl ?_; (conv => whnf); (repeat apply Exists.intro); refine And.intro ?_ ?_; exact leOf) | (refine Or.inr ?_; (conv => whnf); first | ((repeat apply Exists.intro); refine And.intro ?_ ?_; exact leOf) | (refine Or.inl ?_; (conv => whnf); (repeat apply Exists.intro); refine And.intro ?_ ?_; exact leOf) | (refine Or.inr ?_; (conv => whnf); (repeat apply Exists.intro); refine And.intro ?_ ?_; exact leOf))) | ((conv => whnf); first | refine And.intro (by assumption) ?_ | refine goT ?_ | refine goF ?_ | refine goL ?_ | refine goR ?_ | refine goRL ?_ | refine goRR ?_))
    all_goals try (conv => whnf)
    refine Again.mk (k + 1 : Nat) (show k + 1 ≤ n by omega) trivial (show n - (k + 1) < n - k by omega) ?_
    ((repeat' ((conv => whnf) <;> first | exact trivial | (with_reducible first | refine And.intro ?_ ?_ | refine rows_lt1 ?_ | refine rows_lt2 ?_ ?_ | refine rows_lt3 ?_ ?_ ?_ | refine rows_lt4 ?_ ?_ ?_ ?_ | refine rows_lt5 ?_ ?_ ?_ ?_ ?_ | refine aggs_lt1 ?_ | refine aggs_lt2 ?_ ?_ | refine aggs_lt3 ?_ ?_ ?_ | refine fun (_ : Nat) => ?_) | refine fun (_ : (_ : Nat) < _) => ?_ | exact rfl | exact Nat.le_of_ble_eq_true rfl | (change (_ : Nat) ≤ _; omega) | (change (_ : Nat) = _; omega) | (change (_ : Int) = _; omega))); (all_goals try (conv => whnf)))
    rename_i x hx
    exact fold_at id q k f x (fun i => f k (0 + i)) (fun i _ => by rw [Nat.zero_add]) hx
  · obtain rfl : k = n := by omega
    repeat (first | ((conv => whnf); refine And.intro ?_ ?_; exact sideOf) | ((conv => whnf); refine NilE.some ?_ ?_; exact sideOf) | ((conv => whnf); refine And.intro (fun _ => ?_) (fun h => nomatch (show true = false from h))) | ((conv => whnf); refine And.intro (fun h => nomatch (show false = true from h)) (fun _ => ?_)) | ((conv => whnf); first | (apply Exists.intro; (repeat apply Exists.intro); refine And.intro ?_ ?_; exact leOf) | (refine Or.inl ?_; (conv => whnf); (repeat apply Exists.intro); refine And.intro ?_ ?_; exact leOf) | (refine Or.inr ?_; (conv => whnf); first | ((repeat apply Exists.intro); refine And.intro ?_ ?_; exact leOf) | (refine Or.inl ?_; (conv => whnf); (repeat apply Exists.intro); refine And.intro ?_ ?_; exact leOf) | (refine Or.inr ?_; (conv => whnf); (repeat apply Exists.intro); refine And.intro ?_ ?_; exact leOf))) | ((conv => whnf); first | refine And.intro (by assumption) ?_ | refine goT ?_ | refine goF ?_ | refine goL ?_ | refine goR ?_ | refine goRL ?_ | refine goRR ?_))
    all_goals try (conv => whnf)
    ((repeat' ((conv => whnf) <;> first | exact trivial | (with_reducible first | refine And.intro ?_ ?_ | refine rows_lt1 ?_ | refine rows_lt2 ?_ ?_ | refine rows_lt3 ?_ ?_ ?_ | refine rows_lt4 ?_ ?_ ?_ ?_ | refine rows_lt5 ?_ ?_ ?_ ?_ ?_ | refine aggs_lt1 ?_ | refine aggs_lt2 ?_ ?_ | refine aggs_lt3 ?_ ?_ ?_ | refine fun (_ : Nat) => ?_) | refine fun (_ : (_ : Nat) < _) => ?_ | exact rfl | exact Nat.le_of_ble_eq_true rfl | (change (_ : Nat) ≤ _; omega) | (change (_ : Nat) = _; omega) | (change (_ : Int) = _; omega))); (all_goals try (conv => whnf)))
    rw [← hZ, lw_at8 _ _ (by rw [List.length_append, hd_len, digs_len])]
    unfold fold; rfl
def C_l5_OtsFolds : SpecP := fun A K => ∃ id q c l m n f, A [arr8 16 id, .u32 q, arr8 32 c, bsl l m, dgs n f] ∧ l ≤ maxLen ∧ n ≤ maxLen ∧ K (.bo true)
theorem g_l5_OtsFolds : Gd 6 (pureP ty C_l5_OtsFolds) := by
  refine goodP (E := PG [(9, pureP ty C_l5_awake), (14, pureR ty C_r1_Cut), (22, pureP ty C_ots_MashZ), (23, pureP ty C_r5_MashZ), (24, pureP ty C_ots_FoldZ), (25, pureP ty C_r5_FoldZ)]) (pgOK ⟨g_l5_awake, g_r1_Cut, g_ots_MashZ, g_r5_MashZ, g_ots_FoldZ, g_r5_FoldZ, trivial⟩) mixes Tryd.func6 (by kernel_rfl) (by kernel_rfl) ?_
  rintro A K ⟨id, q, c, l, m, n, f, hA, hl, hn, hK⟩
  have hn' : n ≤ 9223372036854775807 := hn
  refine ⟨_, _, fun _ => none, hA, hK, by kernel_rfl, trivial, ?_⟩
  repeat (first | ((conv => whnf); refine And.intro ?_ ?_; exact sideOf) | ((conv => whnf); refine NilE.some ?_ ?_; exact sideOf) | ((conv => whnf); refine And.intro (fun _ => ?_) (fun h => nomatch (show true = false from h))) | ((conv => whnf); refine And.intro (fun h => nomatch (show false = true from h)) (fun _ => ?_)) | ((conv => whnf); first | (apply Exists.intro; (repeat apply Exists.intro); refine And.intro ?_ ?_; exact leOf) | (refine Or.inl ?_; (conv => whnf); (repeat apply Exists.intro); refine And.intro ?_ ?_; exact leOf) | (refine Or.inr ?_; (conv => whnf); first | ((repeat apply Exists.intro); refine And.intro ?_ ?_; exact leOf) | (refine Or.inl ?_; (conv => whnf); (repeat apply Exists.intro); refine And.intro ?_ ?_; exact leOf) | (refine Or.inr ?_; (conv => whnf); (repeat apply Exists.intro); refine And.intro ?_ ?_; exact leOf))) | ((conv => whnf); first | refine And.intro (by assumption) ?_ | refine goT ?_ | refine goF ?_ | refine goL ?_ | refine goR ?_ | refine goRL ?_ | refine goRR ?_))
  all_goals try (conv => whnf)
  refine And.intro (fun _ => ?_) (bad (eqB_agg fun i _ => Eq.refl _))
  repeat (first | ((conv => whnf); refine And.intro ?_ ?_; exact sideOf) | ((conv => whnf); refine NilE.some ?_ ?_; exact sideOf) | ((conv => whnf); refine And.intro (fun _ => ?_) (fun h => nomatch (show true = false from h))) | ((conv => whnf); refine And.intro (fun h => nomatch (show false = true from h)) (fun _ => ?_)) | ((conv => whnf); first | (apply Exists.intro; (repeat apply Exists.intro); refine And.intro ?_ ?_; exact leOf) | (refine Or.inl ?_; (conv => whnf); (repeat apply Exists.intro); refine And.intro ?_ ?_; exact leOf) | (refine Or.inr ?_; (conv => whnf); first | ((repeat apply Exists.intro); refine And.intro ?_ ?_; exact leOf) | (refine Or.inl ?_; (conv => whnf); (repeat apply Exists.intro); refine And.intro ?_ ?_; exact leOf) | (refine Or.inr ?_; (conv => whnf); (repeat apply Exists.intro); refine And.intro ?_ ?_; exact leOf))) | ((conv => whnf); first | refine And.intro (by assumption) ?_ | refine goT ?_ | refine goF ?_ | refine goL ?_ | refine goR ?_ | refine goRL ?_ | refine goRR ?_))
  all_goals try (conv => whnf)
  exact eqB_agg fun i _ => Eq.refl _
theorem lenq_of {c : Cx} {fr : Bool} {et : Ty} {l : Nat} {f : Nat → AV} {v : Value} (h : RV c (.imm fr et l f) v) : l ≤ maxLen := by
  obtain ⟨A, q, _, h1, h2, _⟩ := (show R c _ _ from h)
  exact Nat.le_trans h1 h2
end Go.Proofs.YtpifhcakmoladaaDoor
