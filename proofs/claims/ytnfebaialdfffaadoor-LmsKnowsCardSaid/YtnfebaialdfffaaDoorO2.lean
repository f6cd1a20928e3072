/- One-time signatures: heads, steps, chains. -/
import Derived.Test.YtnfebaialdfffaaDoorS1
namespace Go.Proofs.YtnfebaialdfffaaDoor
open Go.RowKit
set_option maxRecDepth 100000
set_option maxHeartbeats 20000000
attribute [local irreducible] hsh rst sha256 press dig valN
/-- A site. -/
def siA (id : Nat → BitVec 8) (q : BitVec 32) : AV := .agg false 2 (nth .junk [arr8 16 id, .u32 q])
abbrev TSi : Ty := ty 69
theorem own_si (id : Nat → BitVec 8) (q : BitVec 32) : Own (siA id q) := fun i hi => by
  rcases i with _ | _ | i
  · exact fun _ _ => trivial
  · exact trivial
  · omega
def hd (id : Nat → BitVec 8) (q : BitVec 32) (n : Nat) : Msg := lw 16 id ++ be (q.setWidth 64) 4 ++ be (BitVec.ofNat 64 n) 2
theorem hd_len (id : Nat → BitVec 8) (q : BitVec 32) (n : Nat) : (hd id q n).length = 22 := by simp only [hd, List.length_append, lw_len, be_len]
def C_ots_put : SpecM := fun A K => ∃ o l n f v, A [.sub (.int .u8) 0 [] o l, .u32 v] [(0, .var (T8 n) (arr8 n f))] ∧ o + l ≤ n ∧ n ≤ 1000000000 ∧ 4 ≤ l ∧ K (.tup 0 fun _ => .junk) [(0, .var (T8 n) (arr8 n (put4 f o v)))]
theorem g_ots_put : Gd 60 (mutF ty [true, false] C_ots_put) := by
  refine goodM (E := PG []) (pgOK trivial) mixes Tryd.func60 (by kernel_rfl) (by kernel_rfl) ?_
  rintro A K ⟨o, l, n, f, v, hA, hol, hn, h4, hK⟩
  refine ⟨_, _, _, _, fun _ => none, hA, hK, by kernel_rfl, by kernel_rfl, ⟨trivial, trivial⟩, ⟨fun _ _ => trivial, trivial⟩, fun _ h => by omega, ?_⟩
  repeat ((conv => whnf); first | refine sdO ?_ | refine nlO ?_ | refine goA ?_ | refine goB ?_ | (apply Exists.intro; (repeat apply Exists.intro); refine caO ?_) | (refine Or.inl ?_; (conv => whnf); (repeat apply Exists.intro); refine caO ?_) | (refine Or.inr ?_; (conv => whnf); first | ((repeat apply Exists.intro); refine caO ?_) | (refine Or.inl ?_; (conv => whnf); (repeat apply Exists.intro); refine caO ?_) | (refine Or.inr ?_; (conv => whnf); (repeat apply Exists.intro); refine caO ?_)))
  all_goals try (conv => whnf)
  refine ⟨some, ?_⟩
  ((repeat' ((conv => whnf) <;> first | exact trivial | (with_reducible first | refine And.intro ?_ ?_ | refine rows_lt1 ?_ | refine rows_lt2 ?_ ?_ | refine rows_lt3 ?_ ?_ ?_ | refine rows_lt4 ?_ ?_ ?_ ?_ | refine rows_lt5 ?_ ?_ ?_ ?_ ?_ | refine aggs_lt1 ?_ | refine aggs_lt2 ?_ ?_ | refine aggs_lt3 ?_ ?_ ?_ | refine fun (_ : Nat) => ?_) | refine fun (_ : (_ : Nat) < _) => ?_ | exact rfl | exact Nat.le_of_ble_eq_true rfl | (change (_ : Nat) ≤ _; omega) | (change (_ : Nat) = _; omega) | (change (_ : Int) = _; omega))); (all_goals try (conv => whnf)))
theorem byt_n (n : Nat) (k : Nat) (hn : n < 18446744073709551616) : byt (BitVec.ofNat 64 n) k = BitVec.ofNat 8 (n / 2 ^ (8 * k)) := by
  apply BitVec.eq_of_toNat_eq
  rw [byt_nat, BitVec.toNat_ofNat, BitVec.toNat_ofNat, Nat.mod_eq_of_lt (show n < 2 ^ 64 by omega)]
theorem hd_at (id : Nat → BitVec 8) (q : BitVec 32) (n j : Nat) (hn : n ≤ 1000000) (hj : j < 22) : (if j = 21 then BitVec.ofNat 8 n else if j = 20 then BitVec.ofNat 8 (n / 2 ^ 8) else put4 (fun x => if 0 ≤ x ∧ x < 0 + min (16 - 0) (22 - 0) then id (0 + (x - 0)) else 0) 16 q j) = at8 (hd id q n) j := by
  unfold hd
  rw [at8_app, at8_app]
  simp only [List.length_append, lw_len, be_len]
  by_cases h : j < 16
  · rw [if_neg (by omega), if_neg (by omega), if_pos (by omega), if_pos h, at8_lw _ _ _ h]
    unfold put4
    rw [if_neg (by omega), if_neg (by omega), if_neg (by omega), if_neg (by omega)]
    show (if 0 ≤ j ∧ j < 0 + min (16 - 0) (22 - 0) then id (0 + (j - 0)) else 0) = _
    rw [if_pos ⟨Nat.zero_le _, by omega⟩]
    congr 1; omega
  · obtain rfl | rfl | rfl | rfl | rfl | rfl : j = 16 ∨ j = 17 ∨ j = 18 ∨ j = 19 ∨ j = 20 ∨ j = 21 := by omega
    · rw [if_neg (by decide), if_neg (by decide), if_pos (by decide), if_neg (by decide), at8_be _ _ _ (by decide), byt_q]; rfl
    · rw [if_neg (by decide), if_neg (by decide), if_pos (by decide), if_neg (by decide), at8_be _ _ _ (by decide), byt_q]; rfl
    · rw [if_neg (by decide), if_neg (by decide), if_pos (by decide), if_neg (by decide), at8_be _ _ _ (by decide), byt_q]; rfl
    · rw [if_neg (by decide), if_neg (by decide), if_pos (by decide), if_neg (by decide), at8_be _ _ _ (by decide), byt_q]; rfl
    · rw [if_neg (by decide), if_pos rfl, if_neg (by decide), at8_be _ _ _ (by decide), byt_n _ _ (by omega)]
    · rw [if_pos rfl, if_neg (by decide), at8_be _ _ _ (by decide), byt_n _ _ (by omega)]; simp
def C_ots_head : SpecP := fun A K => ∃ id q n, A [siA id q, .nat n] ∧ n ≤ 1000000 ∧ K (arr8 22 (at8 (hd id q n)))
theorem g_ots_head : Gd 47 (pureP ty C_ots_head) := by
  refine goodP (E := PG [(60, mutF ty [true, false] C_ots_put)]) (pgOK ⟨g_ots_put, trivial⟩) mixes Tryd.func47 (by kernel_rfl) (by kernel_rfl) ?_
  rintro A K ⟨id, q, n, hA, hn, hK⟩
  refine ⟨_, _, fun _ => none, hA, hK, by kernel_rfl, fun _ _ => trivial, ?_⟩
  repeat ((conv => whnf); first | refine sdO ?_ | refine nlO ?_ | refine goA ?_ | refine goB ?_ | (apply Exists.intro; (repeat apply Exists.intro); refine caO ?_) | (refine Or.inl ?_; (conv => whnf); (repeat apply Exists.intro); refine caO ?_) | (refine Or.inr ?_; (conv => whnf); first | ((repeat apply Exists.intro); refine caO ?_) | (refine Or.inl ?_; (conv => whnf); (repeat apply Exists.intro); refine caO ?_) | (refine Or.inr ?_; (conv => whnf); (repeat apply Exists.intro); refine caO ?_)))
  all_goals try (conv => whnf)
  ((repeat' ((conv => whnf) <;> first | exact trivial | (with_reducible first | refine And.intro ?_ ?_ | refine rows_lt1 ?_ | refine rows_lt2 ?_ ?_ | refine rows_lt3 ?_ ?_ ?_ | refine rows_lt4 ?_ ?_ ?_ ?_ | refine rows_lt5 ?_ ?_ ?_ ?_ ?_ | refine aggs_lt1 ?_ | refine aggs_lt2 ?_ ?_ | refine aggs_lt3 ?_ ?_ ?_ | refine fun (_ : Nat) => ?_) | refine fun (_ : (_ : Nat) < _) => ?_ | exact rfl | exact Nat.le_of_ble_eq_true rfl | (change (_ : Nat) ≤ _; omega) | (change (_ : Nat) = _; omega) | (change (_ : Int) = _; omega))); (all_goals try (conv => whnf)))
  rename_i j hj
  exact hd_at id q n j hn hj
/-- A value's next one. -/
def st1 (id : Nat → BitVec 8) (q : BitVec 32) (i j : Nat) (x : Msg) : Msg := sha256 (hd id q i ++ [BitVec.ofNat 8 j] ++ x)
theorem st1_len (id : Nat → BitVec 8) (q : BitVec 32) (i j : Nat) (x : Msg) : (st1 id q i j x).length = 32 := sha256_len _
def C_sha_Sum_3 : SpecP := fun A K => ∃ l0 b0 l1 b1 l2 b2, A [prs [l0, l1, l2] [b0, b1, b2]] ∧ l0 ≤ 1000000000 ∧ l1 ≤ 1000000000 ∧ l2 ≤ 1000000000 ∧ K (arr8 32 (at8 (sha256 (lw l0 b0 ++ lw l1 b1 ++ lw l2 b2))))
theorem g_sha_Sum_3 : Gd 48 (pureP ty C_sha_Sum_3) := good_imp g_sha_Sum_c fun args m key K ⟨l0, b0, l1, b1, l2, b2, hA, h0, h1, h2, hK⟩ => ⟨l0, b0, l1, b1, l2, b2, (by rw [prt3]; exact hA), h0, h1, h2, hK⟩
attribute [irreducible] hd
attribute [local irreducible] st1 at8
def C_ots_Step : SpecP := fun A K => ∃ id q i j x, A [siA id q, .nat i, .nat j, arr8 32 x] ∧ i ≤ 1000000 ∧ K (arr8 32 (at8 (st1 id q i j (lw 32 x))))
theorem g_ots_Step : Gd 79 (pureP ty C_ots_Step) := by
  refine goodP (E := PG [(47, pureP ty C_ots_head), (48, pureP ty C_sha_Sum_3)]) (pgOK ⟨g_ots_head, g_sha_Sum_3, trivial⟩) mixes Tryd.func79 (by kernel_rfl) (by kernel_rfl) ?_
  rintro A K ⟨id, q, i, j, x, hA, hi, hK⟩
  refine ⟨_, _, fun _ => none, hA, hK, by kernel_rfl, fun _ _ => trivial, ?_⟩
  repeat ((conv => whnf); first | refine sdO ?_ | refine nlO ?_ | refine goA ?_ | refine goB ?_ | (apply Exists.intro; (repeat apply Exists.intro); refine caO ?_) | (refine Or.inl ?_; (conv => whnf); (repeat apply Exists.intro); refine caO ?_) | (refine Or.inr ?_; (conv => whnf); first | ((repeat apply Exists.intro); refine caO ?_) | (refine Or.inl ?_; (conv => whnf); (repeat apply Exists.intro); refine caO ?_) | (refine Or.inr ?_; (conv => whnf); (repeat apply Exists.intro); refine caO ?_)))
  all_goals try (conv => whnf)
  ((repeat' ((conv => whnf) <;> first | exact trivial | (with_reducible first | refine And.intro ?_ ?_ | refine rows_lt1 ?_ | refine rows_lt2 ?_ ?_ | refine rows_lt3 ?_ ?_ ?_ | refine rows_lt4 ?_ ?_ ?_ ?_ | refine rows_lt5 ?_ ?_ ?_ ?_ ?_ | refine aggs_lt1 ?_ | refine aggs_lt2 ?_ ?_ | refine aggs_lt3 ?_ ?_ ?_ | refine fun (_ : Nat) => ?_) | refine fun (_ : (_ : Nat) < _) => ?_ | exact rfl | exact Nat.le_of_ble_eq_true rfl | (change (_ : Nat) ≤ _; omega) | (change (_ : Nat) = _; omega) | (change (_ : Int) = _; omega))); (all_goals try (conv => whnf)))
  change at8 (sha256 (lw (22 - 0) (fun t => at8 (hd id q i) (0 + t)) ++ [BitVec.ofNat 8 j] ++ lw (32 - 0) (fun t => x (0 + t)))) _ = _
  simp only [Nat.zero_add, Nat.sub_zero]
  rw [lw_at8 _ _ (hd_len id q i)]
  unfold st1
  rfl
def ch (id : Nat → BitVec 8) (q : BitVec 32) (i a : Nat) (x : Msg) : Nat → Msg
  | 0 => x
  | n + 1 => st1 id q i (a + n) (ch id q i a x n)
theorem ch_len (id : Nat → BitVec 8) (q : BitVec 32) (i a : Nat) (x : Msg) (hx : x.length = 32) : ∀ k, (ch id q i a x k).length = 32
  | 0 => hx
  | k + 1 => st1_len _ _ _ _ _
def C_ots_Chain : SpecP := fun A K => ∃ id q i a b x, A [siA id q, .nat i, .nat a, .nat b, arr8 32 x] ∧ i ≤ 1000000 ∧ K (arr8 32 (at8 (ch id q i a (lw 32 x) (min b 256 - a))))
def L_ots_Chain (id : Nat → BitVec 8) (q : BitVec 32) (i a b : Nat) (x : Msg) : LI := ⟨Nat, (· ≤ min b 256 - a), fun k => [(1, .nat i), (3, .nat b), (5, .ptr TSi 8 []), (9, .ptr TD 16 []), (10, .ptr TD 24 []), (11, .nat (a + k))],
  fun k => [(8, .var TSi (siA id q)), (16, .var TD (arr8 32 (at8 (ch id q i a x k)))), (24, .var TD TD.zero)], fun k => min b 256 - a - k, some, some⟩
theorem g_ots_Chain : Gd 65 (pureP ty C_ots_Chain) := by
  refine goodP (E := PG [(79, pureP ty C_ots_Step)]) (pgOK ⟨g_ots_Step, trivial⟩) mixes Tryd.func65 (by kernel_rfl) (by kernel_rfl) ?_
  rintro A K ⟨id, q, i, a, b, x, hA, hi, hK⟩
  refine ⟨_, _, loops [(2, L_ots_Chain id q i a b (lw 32 x))], hA, hK, by kernel_rfl, fun _ _ => trivial, ?_⟩
  repeat ((conv => whnf); first | refine sdO ?_ | refine nlO ?_ | refine goA ?_ | refine goB ?_ | (apply Exists.intro; (repeat apply Exists.intro); refine caO ?_) | (refine Or.inl ?_; (conv => whnf); (repeat apply Exists.intro); refine caO ?_) | (refine Or.inr ?_; (conv => whnf); first | ((repeat apply Exists.intro); refine caO ?_) | (refine Or.inl ?_; (conv => whnf); (repeat apply Exists.intro); refine caO ?_) | (refine Or.inr ?_; (conv => whnf); (repeat apply Exists.intro); refine caO ?_)))
  all_goals try (conv => whnf)
  refine Exists.intro (fun _ => True) (And.intro (Enter.mk (0 : Nat) (Nat.zero_le _) trivial ?_) (fun (k : Nat) (hk : k ≤ min b 256 - a) _ => ?_))
  · ((repeat' ((conv => whnf) <;> first | exact trivial | (with_reducible first | refine And.intro ?_ ?_ | refine rows_lt1 ?_ | refine rows_lt2 ?_ ?_ | refine rows_lt3 ?_ ?_ ?_ | refine rows_lt4 ?_ ?_ ?_ ?_ | refine rows_lt5 ?_ ?_ ?_ ?_ ?_ | refine aggs_lt1 ?_ | refine aggs_lt2 ?_ ?_ | refine aggs_lt3 ?_ ?_ ?_ | refine fun (_ : Nat) => ?_) | refine fun (_ : (_ : Nat) < _) => ?_ | exact rfl | exact Nat.le_of_ble_eq_true rfl | (change (_ : Nat) ≤ _; omega) | (change (_ : Nat) = _; omega) | (change (_ : Int) = _; omega))); (all_goals try (conv => whnf)))
    rename_i j hj
    rw [ch, at8_lw _ _ _ hj]
  have hl := ch_len id q i a (lw 32 x) (lw_len _ _) k
  repeat ((conv => whnf); first | refine sdO ?_ | refine nlO ?_ | refine goA ?_ | refine goB ?_ | (apply Exists.intro; (repeat apply Exists.intro); refine caO ?_) | (refine Or.inl ?_; (conv => whnf); (repeat apply Exists.intro); refine caO ?_) | (refine Or.inr ?_; (conv => whnf); first | ((repeat apply Exists.intro); refine caO ?_) | (refine Or.inl ?_; (conv => whnf); (repeat apply Exists.intro); refine caO ?_) | (refine Or.inr ?_; (conv => whnf); (repeat apply Exists.intro); refine caO ?_)))
  all_goals try (conv => whnf)
  refine And.intro (fun h => ?_) (fun h => ?_)
  · have h := of_decide_eq_true h
    have h := show a + k < min b 256 from h
    repeat ((conv => whnf); first | refine sdO ?_ | refine nlO ?_ | refine goA ?_ | refine goB ?_ | (apply Exists.intro; (repeat apply Exists.intro); refine caO ?_) | (refine Or.inl ?_; (conv => whnf); (repeat apply Exists.intro); refine caO ?_) | (refine Or.inr ?_; (conv => whnf); first | ((repeat apply Exists.intro); refine caO ?_) | (refine Or.inl ?_; (conv => whnf); (repeat apply Exists.intro); refine caO ?_) | (refine Or.inr ?_; (conv => whnf); (repeat apply Exists.intro); refine caO ?_)))
    all_goals try (conv => whnf)
    refine Again.mk (k + 1 : Nat) (show k + 1 ≤ min b 256 - a by omega) trivial (show min b 256 - a - (k + 1) < min b 256 - a - k by omega) ?_
    ((repeat' ((conv => whnf) <;> first | exact trivial | (with_reducible first | refine And.intro ?_ ?_ | refine rows_lt1 ?_ | refine rows_lt2 ?_ ?_ | refine rows_lt3 ?_ ?_ ?_ | refine rows_lt4 ?_ ?_ ?_ ?_ | refine rows_lt5 ?_ ?_ ?_ ?_ ?_ | refine aggs_lt1 ?_ | refine aggs_lt2 ?_ ?_ | refine aggs_lt3 ?_ ?_ ?_ | refine fun (_ : Nat) => ?_) | refine fun (_ : (_ : Nat) < _) => ?_ | exact rfl | exact Nat.le_of_ble_eq_true rfl | (change (_ : Nat) ≤ _; omega) | (change (_ : Nat) = _; omega) | (change (_ : Int) = _; omega))); (all_goals try (conv => whnf)))
    rw [lw_at8 _ _ hl, ch]
  · have h := of_decide_eq_false h
    have h := show ¬ a + k < min b 256 from h
    obtain rfl : k = min b 256 - a := by omega
    repeat ((conv => whnf); first | refine sdO ?_ | refine nlO ?_ | refine goA ?_ | refine goB ?_ | (apply Exists.intro; (repeat apply Exists.intro); refine caO ?_) | (refine Or.inl ?_; (conv => whnf); (repeat apply Exists.intro); refine caO ?_) | (refine Or.inr ?_; (conv => whnf); first | ((repeat apply Exists.intro); refine caO ?_) | (refine Or.inl ?_; (conv => whnf); (repeat apply Exists.intro); refine caO ?_) | (refine Or.inr ?_; (conv => whnf); (repeat apply Exists.intro); refine caO ?_)))
    all_goals try (conv => whnf)
    ((repeat' ((conv => whnf) <;> first | exact trivial | (with_reducible first | refine And.intro ?_ ?_ | refine rows_lt1 ?_ | refine rows_lt2 ?_ ?_ | refine rows_lt3 ?_ ?_ ?_ | refine rows_lt4 ?_ ?_ ?_ ?_ | refine rows_lt5 ?_ ?_ ?_ ?_ ?_ | refine aggs_lt1 ?_ | refine aggs_lt2 ?_ ?_ | refine aggs_lt3 ?_ ?_ ?_ | refine fun (_ : Nat) => ?_) | refine fun (_ : (_ : Nat) < _) => ?_ | exact rfl | exact Nat.le_of_ble_eq_true rfl | (change (_ : Nat) ≤ _; omega) | (change (_ : Nat) = _; omega) | (change (_ : Int) = _; omega))); (all_goals try (conv => whnf)))
def C_ots_Secret : SpecP := fun A K => ∃ id q i x, A [siA id q, .nat i, arr8 32 x] ∧ i ≤ 1000000 ∧ K (arr8 32 (at8 (st1 id q i 255 (lw 32 x))))
theorem g_ots_Secret : Gd 66 (pureP ty C_ots_Secret) := by
  refine goodP (E := PG [(47, pureP ty C_ots_head), (48, pureP ty C_sha_Sum_3)]) (pgOK ⟨g_ots_head, g_sha_Sum_3, trivial⟩) mixes Tryd.func66 (by kernel_rfl) (by kernel_rfl) ?_
  rintro A K ⟨id, q, i, x, hA, hi, hK⟩
  refine ⟨_, _, fun _ => none, hA, hK, by kernel_rfl, fun _ _ => trivial, ?_⟩
  repeat ((conv => whnf); first | refine sdO ?_ | refine nlO ?_ | refine goA ?_ | refine goB ?_ | (apply Exists.intro; (repeat apply Exists.intro); refine caO ?_) | (refine Or.inl ?_; (conv => whnf); (repeat apply Exists.intro); refine caO ?_) | (refine Or.inr ?_; (conv => whnf); first | ((repeat apply Exists.intro); refine caO ?_) | (refine Or.inl ?_; (conv => whnf); (repeat apply Exists.intro); refine caO ?_) | (refine Or.inr ?_; (conv => whnf); (repeat apply Exists.intro); refine caO ?_)))
  all_goals try (conv => whnf)
  ((repeat' ((conv => whnf) <;> first | exact trivial | (with_reducible first | refine And.intro ?_ ?_ | refine rows_lt1 ?_ | refine rows_lt2 ?_ ?_ | refine rows_lt3 ?_ ?_ ?_ | refine rows_lt4 ?_ ?_ ?_ ?_ | refine rows_lt5 ?_ ?_ ?_ ?_ ?_ | refine aggs_lt1 ?_ | refine aggs_lt2 ?_ ?_ | refine aggs_lt3 ?_ ?_ ?_ | refine fun (_ : Nat) => ?_) | refine fun (_ : (_ : Nat) < _) => ?_ | exact rfl | exact Nat.le_of_ble_eq_true rfl | (change (_ : Nat) ≤ _; omega) | (change (_ : Nat) = _; omega) | (change (_ : Int) = _; omega))); (all_goals try (conv => whnf)))
  change at8 (sha256 (lw (22 - 0) (fun t => at8 (hd id q i) (0 + t)) ++ [255#8] ++ lw (32 - 0) (fun t => x (0 + t)))) _ = _
  simp only [Nat.zero_add, Nat.sub_zero]
  rw [lw_at8 _ _ (hd_len id q i)]
  unfold st1
  rfl
def mash (id : Nat → BitVec 8) (q : BitVec 32) (c m : Msg) : Msg := sha256 (hd id q 33153 ++ c ++ m)
attribute [local irreducible] mash
def C_ots_Mash : SpecP := fun A K => ∃ id q c l m, A [siA id q, arr8 32 c, bsl l m] ∧ l ≤ 1000000000 ∧ K (arr8 32 (at8 (mash id q (lw 32 c) (lw l m))))
theorem g_ots_Mash : Gd 25 (pureP ty C_ots_Mash) := by
  refine goodP (E := PG [(47, pureP ty C_ots_head), (48, pureP ty C_sha_Sum_3)]) (pgOK ⟨g_ots_head, g_sha_Sum_3, trivial⟩) mixes Tryd.func25 (by kernel_rfl) (by kernel_rfl) ?_
  rintro A K ⟨id, q, c, l, m, hA, hl, hK⟩
  refine ⟨_, _, fun _ => none, hA, hK, by kernel_rfl, fun _ _ => trivial, ?_⟩
  repeat ((conv => whnf); first | refine sdO ?_ | refine nlO ?_ | refine goA ?_ | refine goB ?_ | (apply Exists.intro; (repeat apply Exists.intro); refine caO ?_) | (refine Or.inl ?_; (conv => whnf); (repeat apply Exists.intro); refine caO ?_) | (refine Or.inr ?_; (conv => whnf); first | ((repeat apply Exists.intro); refine caO ?_) | (refine Or.inl ?_; (conv => whnf); (repeat apply Exists.intro); refine caO ?_) | (refine Or.inr ?_; (conv => whnf); (repeat apply Exists.intro); refine caO ?_)))
  all_goals try (conv => whnf)
  ((repeat' ((conv => whnf) <;> first | exact trivial | (with_reducible first | refine And.intro ?_ ?_ | refine rows_lt1 ?_ | refine rows_lt2 ?_ ?_ | refine rows_lt3 ?_ ?_ ?_ | refine rows_lt4 ?_ ?_ ?_ ?_ | refine rows_lt5 ?_ ?_ ?_ ?_ ?_ | refine aggs_lt1 ?_ | refine aggs_lt2 ?_ ?_ | refine aggs_lt3 ?_ ?_ ?_ | refine fun (_ : Nat) => ?_) | refine fun (_ : (_ : Nat) < _) => ?_ | exact rfl | exact Nat.le_of_ble_eq_true rfl | (change (_ : Nat) ≤ _; omega) | (change (_ : Nat) = _; omega) | (change (_ : Int) = _; omega))); (all_goals try (conv => whnf)))
  change at8 (sha256 (lw (22 - 0) (fun t => at8 (hd id q 33153) (0 + t)) ++ lw (32 - 0) (fun t => c (0 + t)) ++ lw l m)) _ = _
  simp only [Nat.zero_add, Nat.sub_zero]
  rw [lw_at8 _ _ (hd_len id q 33153)]
  unfold mash
  rfl
/-- Digests behind one another. -/
def digs (n : Nat) (f : Nat → Nat → BitVec 8) : Msg := (List.range n).flatMap fun i => lw 32 (f i)
theorem digs_succ (n : Nat) (f : Nat → Nat → BitVec 8) : digs (n + 1) f = digs n f ++ lw 32 (f n) := by simp [digs, List.range_succ]
theorem digs_zero (f : Nat → Nat → BitVec 8) : digs 0 f = [] := rfl
theorem digs_len (n : Nat) (f : Nat → Nat → BitVec 8) : (digs n f).length = 32 * n := by
  induction n with
  | zero => rfl
  | succ n ih => rw [digs_succ, List.length_append, ih, lw_len]; omega
def fold (id : Nat → BitVec 8) (q : BitVec 32) (n : Nat) (f : Nat → Nat → BitVec 8) : Msg := sha256 (hd id q 32896 ++ digs n f)
attribute [local irreducible] fold digs
abbrev dgs (n : Nat) (f : Nat → Nat → BitVec 8) : AV := .imm false TD n (fun i => arr8 32 (f i))
def C_ots_Fold : SpecP := fun A K => ∃ id q n f, A [siA id q, dgs n f] ∧ n ≤ 1000000 ∧ K (arr8 32 (at8 (fold id q n f)))
def L_ots_Fold (id : Nat → BitVec 8) (q : BitVec 32) (n : Nat) (f : Nat → Nat → BitVec 8) : LI := ⟨Nat, (· ≤ n), fun k => [(4, .ptr TD 16 []), (6, .ptr TSt 2080 []), (14, dgs n f), (15, .nat n), (16, .nat k)],
  fun k => [(16, .var TD TD.zero), (2080, .var TSt (stA (hd id q 32896 ++ digs k f)))], fun k => n - k, some, some⟩
theorem g_ots_Fold : Gd 74 (pureP ty C_ots_Fold) := by
  refine goodP (E := PG [(47, pureP ty C_ots_head), (61, pureP ty C_sha_New), (62, pureP ty C_sha_State_Feed), (63, pureP ty C_sha_State_Sum)]) (pgOK ⟨g_ots_head, g_sha_New, g_sha_State_Feed, g_sha_State_Sum, trivial⟩) mixes Tryd.func74 (by kernel_rfl) (by kernel_rfl) ?_
  rintro A K ⟨id, q, n, f, hA, hn, hK⟩
  refine ⟨_, _, loops [(4, L_ots_Fold id q n f)], hA, hK, by kernel_rfl, fun _ _ => trivial, ?_⟩
  repeat ((conv => whnf); first | refine sdO ?_ | refine nlO ?_ | refine goA ?_ | refine goB ?_ | (apply Exists.intro; (repeat apply Exists.intro); refine caO ?_) | (refine Or.inl ?_; (conv => whnf); (repeat apply Exists.intro); refine caO ?_) | (refine Or.inr ?_; (conv => whnf); first | ((repeat apply Exists.intro); refine caO ?_) | (refine Or.inl ?_; (conv => whnf); (repeat apply Exists.intro); refine caO ?_) | (refine Or.inr ?_; (conv => whnf); (repeat apply Exists.intro); refine caO ?_)))
  all_goals try (conv => whnf)
  refine Exists.intro (fun _ => True) (And.intro (Enter.mk (0 : Nat) (Nat.zero_le _) trivial ?_) (fun (k : Nat) (hk : k ≤ n) _ => ?_))
  · ((repeat' ((conv => whnf) <;> first | exact trivial | (with_reducible first | refine And.intro ?_ ?_ | refine rows_lt1 ?_ | refine rows_lt2 ?_ ?_ | refine rows_lt3 ?_ ?_ ?_ | refine rows_lt4 ?_ ?_ ?_ ?_ | refine rows_lt5 ?_ ?_ ?_ ?_ ?_ | refine aggs_lt1 ?_ | refine aggs_lt2 ?_ ?_ | refine aggs_lt3 ?_ ?_ ?_ | refine fun (_ : Nat) => ?_) | refine fun (_ : (_ : Nat) < _) => ?_ | exact rfl | exact Nat.le_of_ble_eq_true rfl | (change (_ : Nat) ≤ _; omega) | (change (_ : Nat) = _; omega) | (change (_ : Int) = _; omega))); (all_goals try (conv => whnf)))
    all_goals simp only [Nat.zero_add, Nat.sub_zero, List.nil_append, Int.reduceToNat]
    all_goals rw [lw_at8 _ _ (hd_len id q 32896), digs_zero, List.append_nil]
  repeat ((conv => whnf); first | refine sdO ?_ | refine nlO ?_ | refine goA ?_ | refine goB ?_ | (apply Exists.intro; (repeat apply Exists.intro); refine caO ?_) | (refine Or.inl ?_; (conv => whnf); (repeat apply Exists.intro); refine caO ?_) | (refine Or.inr ?_; (conv => whnf); first | ((repeat apply Exists.intro); refine caO ?_) | (refine Or.inl ?_; (conv => whnf); (repeat apply Exists.intro); refine caO ?_) | (refine Or.inr ?_; (conv => whnf); (repeat apply Exists.intro); refine caO ?_)))
  all_goals try (conv => whnf)
  refine And.intro (fun h => ?_) (fun h => ?_)
  · have h := of_decide_eq_true h
    repeat ((conv => whnf); first | refine sdO ?_ | refine nlO ?_ | refine goA ?_ | refine goB ?_ | (apply Exists.intro; (repeat apply Exists.intro); refine caO ?_) | (refine Or.inl ?_; (conv => whnf); (repeat apply Exists.intro); refine caO ?_) | (refine Or.inr ?_; (conv => whnf); first | ((repeat apply Exists.intro); refine caO ?_) | (refine Or.inl ?_; (conv => whnf); (repeat apply Exists.intro); refine caO ?_) | (refine Or.inr ?_; (conv => whnf); (repeat apply Exists.intro); refine caO ?_)))
    all_goals try (conv => whnf)
    refine Again.mk (k + 1 : Nat) (show k + 1 ≤ n by omega) trivial (show n - (k + 1) < n - k by omega) ?_
    ((repeat' ((conv => whnf) <;> first | exact trivial | (with_reducible first | refine And.intro ?_ ?_ | refine rows_lt1 ?_ | refine rows_lt2 ?_ ?_ | refine rows_lt3 ?_ ?_ ?_ | refine rows_lt4 ?_ ?_ ?_ ?_ | refine rows_lt5 ?_ ?_ ?_ ?_ ?_ | refine aggs_lt1 ?_ | refine aggs_lt2 ?_ ?_ | refine aggs_lt3 ?_ ?_ ?_ | refine fun (_ : Nat) => ?_) | refine fun (_ : (_ : Nat) < _) => ?_ | exact rfl | exact Nat.le_of_ble_eq_true rfl | (change (_ : Nat) ≤ _; omega) | (change (_ : Nat) = _; omega) | (change (_ : Int) = _; omega))); (all_goals try (conv => whnf)))
    all_goals simp only [Nat.zero_add, Nat.sub_zero]
    all_goals rw [digs_succ, List.append_assoc]
  · have h := of_decide_eq_false h
    obtain rfl : k = n := by omega
    repeat ((conv => whnf); first | refine sdO ?_ | refine nlO ?_ | refine goA ?_ | refine goB ?_ | (apply Exists.intro; (repeat apply Exists.intro); refine caO ?_) | (refine Or.inl ?_; (conv => whnf); (repeat apply Exists.intro); refine caO ?_) | (refine Or.inr ?_; (conv => whnf); first | ((repeat apply Exists.intro); refine caO ?_) | (refine Or.inl ?_; (conv => whnf); (repeat apply Exists.intro); refine caO ?_) | (refine Or.inr ?_; (conv => whnf); (repeat apply Exists.intro); refine caO ?_)))
    all_goals try (conv => whnf)
    ((repeat' ((conv => whnf) <;> first | exact trivial | (with_reducible first | refine And.intro ?_ ?_ | refine rows_lt1 ?_ | refine rows_lt2 ?_ ?_ | refine rows_lt3 ?_ ?_ ?_ | refine rows_lt4 ?_ ?_ ?_ ?_ | refine rows_lt5 ?_ ?_ ?_ ?_ ?_ | refine aggs_lt1 ?_ | refine aggs_lt2 ?_ ?_ | refine aggs_lt3 ?_ ?_ ?_ | refine fun (_ : Nat) => ?_) | refine fun (_ : (_ : Nat) < _) => ?_ | exact rfl | exact Nat.le_of_ble_eq_true rfl | (change (_ : Nat) ≤ _; omega) | (change (_ : Nat) = _; omega) | (change (_ : Int) = _; omega))); (all_goals try (conv => whnf)))
    unfold fold
    rfl
/-! ### The reference's -/
def C_r5_Mash : SpecP := fun A K => ∃ id q c l m, A [arr8 16 id, .u32 q, arr8 32 c, bsl l m] ∧ l ≤ 100000 ∧ K (arr8 32 (at8 (mash id q (lw 32 c) (lw l m))))
theorem g_r5_Mash : Gd 11 (pureP ty C_r5_Mash) := by
  refine goodP (E := PG [(31, pureP ty C_r1_Num), (30, pureR ty C_r1_Join_5), (32, pureP ty C_r1_Sum)]) (pgOK ⟨g_r1_Num, g_r1_Join_5, g_r1_Sum, trivial⟩) mixes Tryd.func11 (by kernel_rfl) (by kernel_rfl) ?_
  rintro A K ⟨id, q, c, l, m, hA, hl, hK⟩
  refine ⟨_, _, fun _ => none, hA, hK, by kernel_rfl, fun _ _ => trivial, ?_⟩
  repeat ((conv => whnf); first | refine sdO ?_ | refine nlO ?_ | refine goA ?_ | refine goB ?_ | (apply Exists.intro; (repeat apply Exists.intro); refine caO ?_) | (refine Or.inl ?_; (conv => whnf); (repeat apply Exists.intro); refine caO ?_) | (refine Or.inr ?_; (conv => whnf); first | ((repeat apply Exists.intro); refine caO ?_) | (refine Or.inl ?_; (conv => whnf); (repeat apply Exists.intro); refine caO ?_) | (refine Or.inr ?_; (conv => whnf); (repeat apply Exists.intro); refine caO ?_)))
  all_goals try (conv => whnf)
  ((repeat' ((conv => whnf) <;> first | exact trivial | (with_reducible first | refine And.intro ?_ ?_ | refine rows_lt1 ?_ | refine rows_lt2 ?_ ?_ | refine rows_lt3 ?_ ?_ ?_ | refine rows_lt4 ?_ ?_ ?_ ?_ | refine rows_lt5 ?_ ?_ ?_ ?_ ?_ | refine aggs_lt1 ?_ | refine aggs_lt2 ?_ ?_ | refine aggs_lt3 ?_ ?_ ?_ | refine fun (_ : Nat) => ?_) | refine fun (_ : (_ : Nat) < _) => ?_ | exact rfl | exact Nat.le_of_ble_eq_true rfl | (change (_ : Nat) ≤ _; omega) | (change (_ : Nat) = _; omega) | (change (_ : Int) = _; omega))); (all_goals try (conv => whnf)))
  simp only [Nat.zero_add, Nat.sub_zero, Int.reduceToNat, BitVec.reduceOfInt]
  rw [lw_at8 _ 4 (be_len _ _), lw_at8 _ 2 (be_len _ _), lw_at8 _ _ (by simp only [List.length_append, lw_len, be_len])]
  unfold mash hd
  rfl
end Go.Proofs.YtnfebaialdfffaaDoor
/- One-time signatures: digits. -/
namespace Go.Proofs.YtnfebaialdfffaaDoor
open Go.RowKit
set_option maxRecDepth 100000
set_option maxHeartbeats 20000000
attribute [local irreducible] hsh rst sha256 press dig
def wOK (w : Nat) : Prop := w = 1 ∨ w = 2 ∨ w = 4 ∨ w = 8
def C_ots_end : SpecP := fun A K => ∃ w p l, A [prA w p l] ∧ wOK w ∧ K (.nat (2 ^ w - 1))
theorem g_ots_end : Gd 59 (pureP ty C_ots_end) := by
  refine goodP (E := PG []) (pgOK trivial) mixes Tryd.func59 (by kernel_rfl) (by kernel_rfl) ?_
  rintro A K ⟨w, p, l, hA, hw, hK⟩
  obtain rfl | rfl | rfl | rfl := hw
  all_goals
    refine ⟨_, _, fun _ => none, hA, hK, by kernel_rfl, trivial, ?_⟩
    repeat ((conv => whnf); first | refine sdO ?_ | refine nlO ?_ | refine goA ?_ | refine goB ?_ | (apply Exists.intro; (repeat apply Exists.intro); refine caO ?_) | (refine Or.inl ?_; (conv => whnf); (repeat apply Exists.intro); refine caO ?_) | (refine Or.inr ?_; (conv => whnf); first | ((repeat apply Exists.intro); refine caO ?_) | (refine Or.inl ?_; (conv => whnf); (repeat apply Exists.intro); refine caO ?_) | (refine Or.inr ?_; (conv => whnf); (repeat apply Exists.intro); refine caO ?_)))
    all_goals try (conv => whnf)
    ((repeat' ((conv => whnf) <;> first | exact trivial | (with_reducible first | refine And.intro ?_ ?_ | refine rows_lt1 ?_ | refine rows_lt2 ?_ ?_ | refine rows_lt3 ?_ ?_ ?_ | refine rows_lt4 ?_ ?_ ?_ ?_ | refine rows_lt5 ?_ ?_ ?_ ?_ ?_ | refine aggs_lt1 ?_ | refine aggs_lt2 ?_ ?_ | refine aggs_lt3 ?_ ?_ ?_ | refine fun (_ : Nat) => ?_) | refine fun (_ : (_ : Nat) < _) => ?_ | exact rfl | exact Nat.le_of_ble_eq_true rfl | (change (_ : Nat) ≤ _; omega) | (change (_ : Nat) = _; omega) | (change (_ : Int) = _; omega))); (all_goals try (conv => whnf)))
def C_ots_length : SpecP := fun A K => ∃ w p l, A [prA w p l] ∧ p ≤ 1000 ∧ K (.nat (36 + 32 * p))
theorem g_ots_length : Gd 64 (pureP ty C_ots_length) := by
  refine goodP (E := PG []) (pgOK trivial) mixes Tryd.func64 (by kernel_rfl) (by kernel_rfl) ?_
  rintro A K ⟨w, p, l, hA, hp, hK⟩
  refine ⟨_, _, fun _ => none, hA, hK, by kernel_rfl, trivial, ?_⟩
  repeat ((conv => whnf); first | refine sdO ?_ | refine nlO ?_ | refine goA ?_ | refine goB ?_ | (apply Exists.intro; (repeat apply Exists.intro); refine caO ?_) | (refine Or.inl ?_; (conv => whnf); (repeat apply Exists.intro); refine caO ?_) | (refine Or.inr ?_; (conv => whnf); first | ((repeat apply Exists.intro); refine caO ?_) | (refine Or.inl ?_; (conv => whnf); (repeat apply Exists.intro); refine caO ?_) | (refine Or.inr ?_; (conv => whnf); (repeat apply Exists.intro); refine caO ?_)))
  all_goals try (conv => whnf)
  ((repeat' ((conv => whnf) <;> first | exact trivial | (with_reducible first | refine And.intro ?_ ?_ | refine rows_lt1 ?_ | refine rows_lt2 ?_ ?_ | refine rows_lt3 ?_ ?_ ?_ | refine rows_lt4 ?_ ?_ ?_ ?_ | refine rows_lt5 ?_ ?_ ?_ ?_ ?_ | refine aggs_lt1 ?_ | refine aggs_lt2 ?_ ?_ | refine aggs_lt3 ?_ ?_ ?_ | refine fun (_ : Nat) => ?_) | refine fun (_ : (_ : Nat) < _) => ?_ | exact rfl | exact Nat.le_of_ble_eq_true rfl | (change (_ : Nat) ≤ _; omega) | (change (_ : Nat) = _; omega) | (change (_ : Int) = _; omega))); (all_goals try (conv => whnf)))
def C_ots_word : SpecP := fun A K => ∃ l b, A [bsl l b] ∧ 4 ≤ l ∧ K (.u32 (w4 (b 0) (b 1) (b 2) (b 3)))
theorem g_ots_word : Gd 80 (pureP ty C_ots_word) := by
  refine goodP (E := PG []) (pgOK trivial) mixes Tryd.func80 (by kernel_rfl) (by kernel_rfl) ?_
  rintro A K ⟨l, b, hA, hl, hK⟩
  refine ⟨_, _, fun _ => none, hA, hK, by kernel_rfl, trivial, ?_⟩
  repeat ((conv => whnf); first | refine sdO ?_ | refine nlO ?_ | refine goA ?_ | refine goB ?_ | (apply Exists.intro; (repeat apply Exists.intro); refine caO ?_) | (refine Or.inl ?_; (conv => whnf); (repeat apply Exists.intro); refine caO ?_) | (refine Or.inr ?_; (conv => whnf); first | ((repeat apply Exists.intro); refine caO ?_) | (refine Or.inl ?_; (conv => whnf); (repeat apply Exists.intro); refine caO ?_) | (refine Or.inr ?_; (conv => whnf); (repeat apply Exists.intro); refine caO ?_)))
  all_goals try (conv => whnf)
  all_goals first | exact rfl | ((repeat' ((conv => whnf) <;> first | exact trivial | (with_reducible first | refine And.intro ?_ ?_ | refine rows_lt1 ?_ | refine rows_lt2 ?_ ?_ | refine rows_lt3 ?_ ?_ ?_ | refine rows_lt4 ?_ ?_ ?_ ?_ | refine rows_lt5 ?_ ?_ ?_ ?_ ?_ | refine aggs_lt1 ?_ | refine aggs_lt2 ?_ ?_ | refine aggs_lt3 ?_ ?_ ?_ | refine fun (_ : Nat) => ?_) | refine fun (_ : (_ : Nat) < _) => ?_ | exact rfl | exact Nat.le_of_ble_eq_true rfl | (change (_ : Nat) ≤ _; omega) | (change (_ : Nat) = _; omega) | (change (_ : Int) = _; omega))); (all_goals try (conv => whnf)))
def C_ots_hashAt : SpecP := fun A K => ∃ l b i, A [bsl l b, .nat i] ∧ 36 + 32 * i ≤ l ∧ l ≤ 1000000000 ∧ K (arr8 32 fun j => b (4 + 32 * i + j))
theorem g_ots_hashAt : Gd 81 (pureP ty C_ots_hashAt) := by
  refine goodP (E := PG []) (pgOK trivial) mixes Tryd.func81 (by kernel_rfl) (by kernel_rfl) ?_
  rintro A K ⟨l, b, i, hA, hl, hl2, hK⟩
  refine ⟨_, _, fun _ => none, hA, hK, by kernel_rfl, fun _ _ => trivial, ?_⟩
  repeat ((conv => whnf); first | refine sdO ?_ | refine nlO ?_ | refine goA ?_ | refine goB ?_ | (apply Exists.intro; (repeat apply Exists.intro); refine caO ?_) | (refine Or.inl ?_; (conv => whnf); (repeat apply Exists.intro); refine caO ?_) | (refine Or.inr ?_; (conv => whnf); first | ((repeat apply Exists.intro); refine caO ?_) | (refine Or.inl ?_; (conv => whnf); (repeat apply Exists.intro); refine caO ?_) | (refine Or.inr ?_; (conv => whnf); (repeat apply Exists.intro); refine caO ?_)))
  all_goals try (conv => whnf)
  ((repeat' ((conv => whnf) <;> first | exact trivial | (with_reducible first | refine And.intro ?_ ?_ | refine rows_lt1 ?_ | refine rows_lt2 ?_ ?_ | refine rows_lt3 ?_ ?_ ?_ | refine rows_lt4 ?_ ?_ ?_ ?_ | refine rows_lt5 ?_ ?_ ?_ ?_ ?_ | refine aggs_lt1 ?_ | refine aggs_lt2 ?_ ?_ | refine aggs_lt3 ?_ ?_ ?_ | refine fun (_ : Nat) => ?_) | refine fun (_ : (_ : Nat) < _) => ?_ | exact rfl | exact Nat.le_of_ble_eq_true rfl | (change (_ : Nat) ≤ _; omega) | (change (_ : Nat) = _; omega) | (change (_ : Int) = _; omega))); (all_goals try (conv => whnf)))
end Go.Proofs.YtnfebaialdfffaaDoor
