/- The keyed hash: the reference's derived keys, the example, the laws. -/
import Derived.Test.YtjmeihmioecciaaDoorP13
namespace Go.Proofs.YtjmeihmioecciaaDoor
open Go.RowKit
set_option maxRecDepth 100000
set_option maxHeartbeats 20000000
attribute [local irreducible] hsh rst sha256 press dig valN
/-- Parts that are told one by one. -/
abbrev prs (ls : List Nat) (bs : List (Nat → BitVec 8)) : AV := .imm false (.sl 5) ls.length (fun i => bsl (nth 0 ls i) (nth (fun _ => 0) bs i))
theorem prt3 (l0 l1 l2 : Nat) (b0 b1 b2 : Nat → BitVec 8) : prt [(l0, b0), (l1, b1), (l2, b2)] = prs [l0, l1, l2] [b0, b1, b2] := by
  have : (fun i => bsl (pl [(l0, b0), (l1, b1), (l2, b2)] i) (pb [(l0, b0), (l1, b1), (l2, b2)] i)) = fun i => bsl (nth 0 [l0, l1, l2] i) (nth (fun _ => 0) [b0, b1, b2] i) := by
    funext i
    rcases i with _ | _ | _ | i <;> rfl
  show AV.imm false _ 3 _ = AV.imm false _ 3 _
  rw [this]
theorem prt2 (l0 l1 : Nat) (b0 b1 : Nat → BitVec 8) : prt [(l0, b0), (l1, b1)] = prs [l0, l1] [b0, b1] := by
  have : (fun i => bsl (pl [(l0, b0), (l1, b1)] i) (pb [(l0, b0), (l1, b1)] i)) = fun i => bsl (nth 0 [l0, l1] i) (nth (fun _ => 0) [b0, b1] i) := by
    funext i
    rcases i with _ | _ | i <;> rfl
  show AV.imm false _ 2 _ = AV.imm false _ 2 _
  rw [this]
theorem prt1 (l0 : Nat) (b0 : Nat → BitVec 8) : prt [(l0, b0)] = prs [l0] [b0] := by
  have : (fun i => bsl (pl [(l0, b0)] i) (pb [(l0, b0)] i)) = fun i => bsl (nth 0 [l0] i) (nth (fun _ => 0) [b0] i) := by
    funext i
    rcases i with _ | i <;> rfl
  show AV.imm false _ 1 _ = AV.imm false _ 1 _
  rw [this]
def C_r1_Join_c : SpecR := fun A K => ∃ l0 b0 l1 b1 l2 b2, A [prs [l0, l1, l2] [b0, b1, b2]] ∧ l0 + l1 + l2 ≤ 1000000000 ∧ K (.gsl 5 8 (l0 + l1 + l2)) [(8, .grow 5 (l0 + l1 + l2) (bys (at8 (lw l0 b0 ++ lw l1 b1 ++ lw l2 b2))))]
theorem g_r1_Join_c : Gd 26 (pureR ty C_r1_Join_c) := good_imp g_r1_Join fun args m key K ⟨l0, b0, l1, b1, l2, b2, hA, h0, hK⟩ => by
  have e : cat [(l0, b0), (l1, b1), (l2, b2)] = lw l0 b0 ++ lw l1 b1 ++ lw l2 b2 := by simp [cat]
  have el : (cat [(l0, b0), (l1, b1), (l2, b2)]).length = l0 + l1 + l2 := by rw [e, List.length_append, List.length_append, lw_len, lw_len, lw_len]
  refine ⟨[(l0, b0), (l1, b1), (l2, b2)], (by rw [prt3]; exact hA), by rw [el]; exact h0, (show 3 ≤ 1000000 by omega), ?_⟩
  rw [el, e]
  exact hK
def C_r2_Derive : SpecP := fun A K => ∃ l b s ps, A [bsl l b, .str s, prt ps] ∧ l ≤ 100000 ∧ (dtext s ps).length ≤ 100000 ∧ s.length ≤ 10000 ∧ (∀ i, pl ps i ≤ 1000000) ∧ ps.length ≤ 10000 ∧ K (arr8 32 (at8 (hmac (lw l b) (dtext s ps))))
def L_r2_Derive (l : Nat) (b : Nat → BitVec 8) (s : List UInt8) (ps : Parts) : LI := ⟨Nat, (· ≤ ps.length), fun i => [(0, bsl l b), (6, .ptr TD 8 []), (7, bsl (dtx s ps.length (ps.take i)).length (at8 (dtx s ps.length (ps.take i)))), (22, prt ps), (23, .nat ps.length), (24, .nat i)],
  fun i => [(8, .var TD (arr8 32 fun _ => 0))], fun i => ps.length - i, some, some⟩
section
attribute [local irreducible] cat pl pb at8 at32
theorem g_r2_Derive : Gd 15 (pureP ty C_r2_Derive) := by
  refine goodP (E := PG [(27, pureP ty C_r1_Num), (26, pureR ty C_r1_Join_c), (17, pureP ty C_r2_Sum)]) (pgOK ⟨g_r1_Num, g_r1_Join_c, g_r2_Sum, trivial⟩) mixes Tryd.func15 (by kernel_rfl) (by kernel_rfl) ?_
  rintro A K ⟨l, b, s, ps, hA, hl, ht, hs, hpl, hn, hK⟩
  refine ⟨_, _, loops [(3, L_r2_Derive l b s ps)], hA, hK, by kernel_rfl, fun _ _ => trivial, ?_⟩
  repeat (first | ((conv => whnf); refine And.intro ?_ ?_; exact sideOf) | ((conv => whnf); refine NilE.some ?_ ?_; exact sideOf) | ((conv => whnf); refine And.intro (fun _ => ?_) (fun h => nomatch (show true = false from h))) | ((conv => whnf); refine And.intro (fun h => nomatch (show false = true from h)) (fun _ => ?_)) | ((conv => whnf); first | (apply Exists.intro; (repeat apply Exists.intro); refine And.intro ?_ ?_; exact leOf) | (refine Or.inl ?_; (conv => whnf); (repeat apply Exists.intro); refine And.intro ?_ ?_; exact leOf) | (refine Or.inr ?_; (conv => whnf); first | ((repeat apply Exists.intro); refine And.intro ?_ ?_; exact leOf) | (refine Or.inl ?_; (conv => whnf); (repeat apply Exists.intro); refine And.intro ?_ ?_; exact leOf) | (refine Or.inr ?_; (conv => whnf); (repeat apply Exists.intro); refine And.intro ?_ ?_; exact leOf))))
  all_goals try (conv => whnf)
  refine Exists.intro (fun _ => True) (And.intro (Enter.mk (0 : Nat) (Nat.zero_le _) trivial ?_) (fun (k : Nat) (hk : k ≤ ps.length) _ => ?_))
  · ((repeat' ((conv => whnf) <;> first | exact trivial | (with_reducible first | refine And.intro ?_ ?_ | refine rows_lt1 ?_ | refine rows_lt2 ?_ ?_ | refine rows_lt3 ?_ ?_ ?_ | refine rows_lt4 ?_ ?_ ?_ ?_ | refine rows_lt5 ?_ ?_ ?_ ?_ ?_ | refine ints_lt1 ?_ | refine ints_lt2 ?_ ?_ | refine ints_lt3 ?_ ?_ ?_ | refine rows_lt7 ?_ ?_ ?_ ?_ ?_ ?_ ?_ | refine aggs_lt1 ?_ | refine aggs_lt2 ?_ ?_ | refine aggs_lt3 ?_ ?_ ?_ | refine fun (_ : Nat) => ?_) | refine fun (_ : (_ : Nat) < _) => ?_ | exact rfl | exact Nat.le_of_ble_eq_true rfl | (change (_ : Nat) ≤ _; omega) | (change (_ : Nat) = _; omega) | (change (_ : Int) = _; omega))); (all_goals try (conv => whnf)))
    · rw [dtx_nil, dhead_len]; simp only [Int.reduceToNat]; omega
    · change at8 (lw 4 (at8 (be (BitVec.ofNat 64 s.length) 4)) ++ sb s ++ lw 4 (at8 (be (BitVec.ofNat 64 ps.length) 4))) _ = _
      rw [dtx_nil, lw_at8 _ _ (be_len _ _), lw_at8 _ _ (be_len _ _)]
      unfold dhead
      rfl
  repeat (first | ((conv => whnf); refine And.intro ?_ ?_; exact sideOf) | ((conv => whnf); refine NilE.some ?_ ?_; exact sideOf) | ((conv => whnf); refine And.intro (fun _ => ?_) (fun h => nomatch (show true = false from h))) | ((conv => whnf); refine And.intro (fun h => nomatch (show false = true from h)) (fun _ => ?_)) | ((conv => whnf); first | (apply Exists.intro; (repeat apply Exists.intro); refine And.intro ?_ ?_; exact leOf) | (refine Or.inl ?_; (conv => whnf); (repeat apply Exists.intro); refine And.intro ?_ ?_; exact leOf) | (refine Or.inr ?_; (conv => whnf); first | ((repeat apply Exists.intro); refine And.intro ?_ ?_; exact leOf) | (refine Or.inl ?_; (conv => whnf); (repeat apply Exists.intro); refine And.intro ?_ ?_; exact leOf) | (refine Or.inr ?_; (conv => whnf); (repeat apply Exists.intro); refine And.intro ?_ ?_; exact leOf))))
  all_goals try (conv => whnf)
  refine And.intro (fun h => ?_) (fun h => ?_)
  · have h := of_decide_eq_true h
    have hlk := hpl k
    have hdl := dtx_len s ps.length ps k
    rw [show dtx s ps.length ps = dtext s ps from by unfold dtext; rfl] at hdl
    repeat (first | ((conv => whnf); refine And.intro ?_ ?_; exact sideOf) | ((conv => whnf); refine NilE.some ?_ ?_; exact sideOf) | ((conv => whnf); refine And.intro (fun _ => ?_) (fun h => nomatch (show true = false from h))) | ((conv => whnf); refine And.intro (fun h => nomatch (show false = true from h)) (fun _ => ?_)) | ((conv => whnf); first | (apply Exists.intro; (repeat apply Exists.intro); refine And.intro ?_ ?_; exact leOf) | (refine Or.inl ?_; (conv => whnf); (repeat apply Exists.intro); refine And.intro ?_ ?_; exact leOf) | (refine Or.inr ?_; (conv => whnf); first | ((repeat apply Exists.intro); refine And.intro ?_ ?_; exact leOf) | (refine Or.inl ?_; (conv => whnf); (repeat apply Exists.intro); refine And.intro ?_ ?_; exact leOf) | (refine Or.inr ?_; (conv => whnf); (repeat apply Exists.intro); refine And.intro ?_ ?_; exact leOf))))
    all_goals try (conv => whnf)
    refine Again.mk (k + 1 : Nat) (show k + 1 ≤ ps.length by omega) trivial (show ps.length - (k + 1) < ps.length - k by omega) ?_
    ((repeat' ((conv => whnf) <;> first | exact trivial | (with_reducible first | refine And.intro ?_ ?_ | refine rows_lt1 ?_ | refine rows_lt2 ?_ ?_ | refine rows_lt3 ?_ ?_ ?_ | refine rows_lt4 ?_ ?_ ?_ ?_ | refine rows_lt5 ?_ ?_ ?_ ?_ ?_ | refine ints_lt1 ?_ | refine ints_lt2 ?_ ?_ | refine ints_lt3 ?_ ?_ ?_ | refine rows_lt7 ?_ ?_ ?_ ?_ ?_ ?_ ?_ | refine aggs_lt1 ?_ | refine aggs_lt2 ?_ ?_ | refine aggs_lt3 ?_ ?_ ?_ | refine fun (_ : Nat) => ?_) | refine fun (_ : (_ : Nat) < _) => ?_ | exact rfl | exact Nat.le_of_ble_eq_true rfl | (change (_ : Nat) ≤ _; omega) | (change (_ : Nat) = _; omega) | (change (_ : Int) = _; omega))); (all_goals try (conv => whnf)))
    · rw [dtx_take _ _ _ _ h, List.length_append, List.length_append, be_len, lw_len]; simp only [Int.reduceToNat]; omega
    · change at8 (lw _ (at8 (dtx s ps.length (ps.take k))) ++ lw 4 (at8 (be (BitVec.ofNat 64 (pl ps k)) 4)) ++ lw (pl ps k) (pb ps k)) _ = _
      rw [dtx_take _ _ _ _ h, lw_at8 _ _ (be_len _ _), lw_at8 _ _ rfl, List.append_assoc]
  · have h := of_decide_eq_false h
    obtain rfl : k = ps.length := by omega
    have hall := dtx_all s ps
    rw [← hall] at ht
    repeat (first | ((conv => whnf); refine And.intro ?_ ?_; exact sideOf) | ((conv => whnf); refine NilE.some ?_ ?_; exact sideOf) | ((conv => whnf); refine And.intro (fun _ => ?_) (fun h => nomatch (show true = false from h))) | ((conv => whnf); refine And.intro (fun h => nomatch (show false = true from h)) (fun _ => ?_)) | ((conv => whnf); first | (apply Exists.intro; (repeat apply Exists.intro); refine And.intro ?_ ?_; exact leOf) | (refine Or.inl ?_; (conv => whnf); (repeat apply Exists.intro); refine And.intro ?_ ?_; exact leOf) | (refine Or.inr ?_; (conv => whnf); first | ((repeat apply Exists.intro); refine And.intro ?_ ?_; exact leOf) | (refine Or.inl ?_; (conv => whnf); (repeat apply Exists.intro); refine And.intro ?_ ?_; exact leOf) | (refine Or.inr ?_; (conv => whnf); (repeat apply Exists.intro); refine And.intro ?_ ?_; exact leOf))))
    all_goals try (conv => whnf)
    ((repeat' ((conv => whnf) <;> first | exact trivial | (with_reducible first | refine And.intro ?_ ?_ | refine rows_lt1 ?_ | refine rows_lt2 ?_ ?_ | refine rows_lt3 ?_ ?_ ?_ | refine rows_lt4 ?_ ?_ ?_ ?_ | refine rows_lt5 ?_ ?_ ?_ ?_ ?_ | refine ints_lt1 ?_ | refine ints_lt2 ?_ ?_ | refine ints_lt3 ?_ ?_ ?_ | refine rows_lt7 ?_ ?_ ?_ ?_ ?_ ?_ ?_ | refine aggs_lt1 ?_ | refine aggs_lt2 ?_ ?_ | refine aggs_lt3 ?_ ?_ ?_ | refine fun (_ : Nat) => ?_) | refine fun (_ : (_ : Nat) < _) => ?_ | exact rfl | exact Nat.le_of_ble_eq_true rfl | (change (_ : Nat) ≤ _; omega) | (change (_ : Nat) = _; omega) | (change (_ : Int) = _; omega))); (all_goals try (conv => whnf)))
    rw [lw_at8 _ _ rfl, dtx_all]
end
/-! ### Sums of one part, of two -/
def C_mac_Sum_a : SpecP := fun A K => ∃ l b l0 b0, A [bsl l b, prs [l0] [b0]] ∧ l ≤ 1000000000 ∧ l0 ≤ 1000000000 ∧ K (arr8 32 (at8 (hmac (lw l b) (lw l0 b0))))
def C_mac_Sum_b : SpecP := fun A K => ∃ l b l0 b0 l1 b1, A [bsl l b, prs [l0, l1] [b0, b1]] ∧ l ≤ 1000000000 ∧ l0 ≤ 1000000000 ∧ l1 ≤ 1000000000 ∧ K (arr8 32 (at8 (hmac (lw l b) (lw l0 b0 ++ lw l1 b1))))
theorem g_mac_Sum_a : Gd 38 (pureP ty C_mac_Sum_a) := good_imp g_mac_Sum fun args m key K ⟨l, b, l0, b0, hA, h, h0, hK⟩ =>
  ⟨l, b, [(l0, b0)], (by rw [prt1]; exact hA), h, fun i => (by rcases i with _ | i <;> first | exact h0 | exact Nat.zero_le _), (show 1 ≤ 1000000 by omega), (by
    have e : cat [(l0, b0)] = lw l0 b0 := by simp [cat]
    rw [e]; exact hK)⟩
theorem g_mac_Sum_b : Gd 38 (pureP ty C_mac_Sum_b) := good_imp g_mac_Sum fun args m key K ⟨l, b, l0, b0, l1, b1, hA, h, h0, h1, hK⟩ =>
  ⟨l, b, [(l0, b0), (l1, b1)], (by rw [prt2]; exact hA), h, fun i => (by rcases i with _ | _ | i <;> first | exact h0 | exact h1 | exact Nat.zero_le _), (show 2 ≤ 1000000 by omega), (by
    have e : cat [(l0, b0), (l1, b1)] = lw l0 b0 ++ lw l1 b1 := by simp [cat]
    rw [e]; exact hK)⟩
theorem fox_hex : hexL (hmac [107, 101, 121] ([84, 104, 101, 32, 113, 117, 105, 99, 107, 32, 98, 114, 111, 119, 110, 32, 102, 111, 120, 32] ++ [106, 117, 109, 112, 115, 32, 111, 118, 101, 114, 32, 116, 104, 101, 32, 108, 97, 122, 121, 32, 100, 111, 103])) = "f7bc83f430538424b13298e6aa6fb143ef4d59a14946175997479dbc2d1a3cd8".toUTF8.data.toList := by decide +kernel
theorem nbang {b : Bool} {p : Prop} (h2 : (!b) = true) (h1 : b = true) : p := by rw [h1] at h2; cases h2
def C_l2_awake : SpecP := fun A K => A [] ∧ K (.bo true)
attribute [local irreducible] hexL
def C_l2_MacEquals : SpecP := fun A K => ∃ a b k v, A [arr8 32 a, arr8 32 b, .u8 k, .u8 v] ∧ K (.bo true)
/-! MacKeys -/
theorem hmac_key {k k' m : Msg} (h : kblk k = kblk k') : hmac k m = hmac k' m := by unfold hmac; rw [h]
theorem kblk_sum (k : Msg) (h : 64 < k.length) : kblk k = kblk (sha256 k) := by
  unfold kblk; rw [if_pos h, if_neg (by rw [sha256_len]; omega)]
theorem kblk_more (k : Msg) (z : Nat) (h : k.length + z ≤ 64) : kblk (k ++ lw z fun _ => 0) = kblk k := by
  unfold kblk
  rw [if_neg (by rw [List.length_append, lw_len]; omega), if_neg (by omega)]
  have e : (lw z fun _ => (0 : BitVec 8)) = List.replicate z 0 := by
    apply List.ext_getElem?
    intro i
    simp only [lw, List.getElem?_map, List.getElem?_replicate]
    by_cases hi : i < z
    · rw [List.getElem?_range hi, if_pos hi]; rfl
    · rw [List.getElem?_eq_none (by simp; omega), if_neg hi]; rfl
  rw [e, zpad, zpad, List.append_assoc, List.length_append, List.length_replicate, List.replicate_append_replicate, show z + (64 - (k.length + z)) = 64 - k.length by omega]
def C_l2_MacKeys : SpecP := fun A K => ∃ l b l' b' n, A [bsl l b, bsl l' b', .u8 n] ∧ l ≤ maxLen ∧ l' ≤ maxLen ∧ K (.bo true)
def C_l2_MacSums : SpecP := fun A K => ∃ l b l' b' c, A [bsl l b, bsl l' b', .u16 c] ∧ l ≤ maxLen ∧ l' ≤ maxLen ∧ K (.bo true)
/-! MacDerives -/
theorem prt0 : prt [] = prs [] [] := rfl
theorem dtext_len (s : List UInt8) (ps : Parts) : (dtext s ps).length = s.length + 8 + (ps.map fun p => 4 + p.1).sum := by
  unfold dtext dtx
  rw [List.length_append, dhead_len, List.length_flatMap]
  congr 2
  refine List.map_congr_left fun p _ => ?_
  rw [dpart, List.length_append, be_len, lw_len]
def C_mac_Derive_0 : SpecP := fun A K => ∃ l b s, A [bsl l b, .str s, prs [] []] ∧ l ≤ 1000000000 ∧ s.length ≤ 1000000 ∧ K (arr8 32 (at8 (hmac (lw l b) (dtext s []))))
def C_mac_Derive_1 : SpecP := fun A K => ∃ l b s l0 b0, A [bsl l b, .str s, prs [l0] [b0]] ∧ l ≤ 1000000000 ∧ s.length ≤ 1000000 ∧ l0 ≤ 1000000 ∧ K (arr8 32 (at8 (hmac (lw l b) (dtext s [(l0, b0)]))))
def C_mac_Derive_2 : SpecP := fun A K => ∃ l b s l0 b0 l1 b1, A [bsl l b, .str s, prs [l0, l1] [b0, b1]] ∧ l ≤ 1000000000 ∧ s.length ≤ 1000000 ∧ l0 ≤ 1000000 ∧ l1 ≤ 1000000 ∧ K (arr8 32 (at8 (hmac (lw l b) (dtext s [(l0, b0), (l1, b1)]))))
theorem g_mac_Derive_0 : Gd 36 (pureP ty C_mac_Derive_0) := good_imp g_mac_Derive fun args m key K ⟨l, b, s, hA, h, hs, hK⟩ =>
  ⟨l, b, s, [], hA, h, hs, fun i => Nat.zero_le _, Nat.zero_le _, hK⟩
theorem g_mac_Derive_1 : Gd 36 (pureP ty C_mac_Derive_1) := good_imp g_mac_Derive fun args m key K ⟨l, b, s, l0, b0, hA, h, hs, h0, hK⟩ =>
  ⟨l, b, s, [(l0, b0)], (by rw [prt1]; exact hA), h, hs, fun i => (by rcases i with _ | i <;> first | exact Nat.le_trans h0 (by omega) | exact Nat.zero_le _), (show 1 ≤ 1000000 by omega), hK⟩
theorem g_mac_Derive_2 : Gd 36 (pureP ty C_mac_Derive_2) := good_imp g_mac_Derive fun args m key K ⟨l, b, s, l0, b0, l1, b1, hA, h, hs, h0, h1, hK⟩ =>
  ⟨l, b, s, [(l0, b0), (l1, b1)], (by rw [prt2]; exact hA), h, hs, fun i => (by rcases i with _ | _ | i <;> first | exact Nat.le_trans h0 (by omega) | exact Nat.le_trans h1 (by omega) | exact Nat.zero_le _), (show 2 ≤ 1000000 by omega), hK⟩
def C_r2_Derive_0 : SpecP := fun A K => ∃ l b s, A [bsl l b, .str s, prs [] []] ∧ l ≤ 100000 ∧ s.length ≤ 10000 ∧ K (arr8 32 (at8 (hmac (lw l b) (dtext s []))))
def C_r2_Derive_1 : SpecP := fun A K => ∃ l b s l0 b0, A [bsl l b, .str s, prs [l0] [b0]] ∧ l ≤ 100000 ∧ s.length ≤ 10000 ∧ l0 ≤ 10000 ∧ K (arr8 32 (at8 (hmac (lw l b) (dtext s [(l0, b0)]))))
def C_r2_Derive_2 : SpecP := fun A K => ∃ l b s l0 b0 l1 b1, A [bsl l b, .str s, prs [l0, l1] [b0, b1]] ∧ l ≤ 100000 ∧ s.length ≤ 10000 ∧ l0 ≤ 10000 ∧ l1 ≤ 10000 ∧ K (arr8 32 (at8 (hmac (lw l b) (dtext s [(l0, b0), (l1, b1)]))))
theorem g_r2_Derive_0 : Gd 15 (pureP ty C_r2_Derive_0) := good_imp g_r2_Derive fun args m key K ⟨l, b, s, hA, h, hs, hK⟩ =>
  ⟨l, b, s, [], hA, h, (by rw [dtext_len]; simp; omega), hs, fun i => Nat.zero_le _, Nat.zero_le _, hK⟩
theorem g_r2_Derive_1 : Gd 15 (pureP ty C_r2_Derive_1) := good_imp g_r2_Derive fun args m key K ⟨l, b, s, l0, b0, hA, h, hs, h0, hK⟩ =>
  ⟨l, b, s, [(l0, b0)], (by rw [prt1]; exact hA), h, (by rw [dtext_len]; simp; omega), hs, fun i => (by rcases i with _ | i <;> first | exact Nat.le_trans h0 (by omega) | exact Nat.zero_le _), (show 1 ≤ 10000 by omega), hK⟩
theorem g_r2_Derive_2 : Gd 15 (pureP ty C_r2_Derive_2) := good_imp g_r2_Derive fun args m key K ⟨l, b, s, l0, b0, l1, b1, hA, h, hs, h0, h1, hK⟩ =>
  ⟨l, b, s, [(l0, b0), (l1, b1)], (by rw [prt2]; exact hA), h, (by rw [dtext_len]; simp; omega), hs, fun i => (by rcases i with _ | _ | i <;> first | exact Nat.le_trans h0 (by omega) | exact Nat.le_trans h1 (by omega) | exact Nat.zero_le _), (show 2 ≤ 10000 by omega), hK⟩
def C_l2_MacDerives : SpecP := fun A K => ∃ l b l0 b0 l1 b1 s, A [bsl l b, bsl l0 b0, bsl l1 b1, .str s] ∧ l ≤ maxLen ∧ l0 ≤ maxLen ∧ l1 ≤ maxLen ∧ s.length ≤ maxLen ∧ K (.bo true)
end Go.Proofs.YtjmeihmioecciaaDoor
