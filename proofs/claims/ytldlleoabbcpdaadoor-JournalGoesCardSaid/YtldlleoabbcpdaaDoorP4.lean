/- The state: fed, summed. -/
import Derived.Test.YtldlleoabbcpdaaDoorP3
namespace Go.Proofs.YtldlleoabbcpdaaDoor
open Go.RowKit
set_option maxRecDepth 100000
set_option maxHeartbeats 20000000
def stF (m : Msg) (n : Nat) : AV := .agg false 3 (nth .junk [arr32 8 (at32 (hsh m)), arr8 64 (at8 (rst m)), .u64 (BitVec.ofNat 64 n)])
def stA (m : Msg) : AV := stF m m.length
theorem own_st (m : Msg) (n : Nat) : Own (stF m n) := fun i hi => by
  rcases i with _ | _ | _ | i
  · exact fun _ _ => trivial
  · exact fun _ _ => trivial
  · exact trivial
  · omega
abbrev TSt : Ty := ty 92
theorem at8_zpad_nil (j : Nat) : at8 (zpad []) j = 0 := by
  simp only [at8, zpad, List.nil_append, List.getD_eq_getElem?_getD, List.getElem?_replicate]
  split <;> rfl
def C_sha_New : SpecP := fun A K => A [] ∧ K (stA [])
theorem g_sha_New : Gd 45 (pureP ty C_sha_New) := by
  refine goodP (E := PG []) (pgOK trivial) mixes Tryd.func45 (by kernel_rfl) (by kernel_rfl) ?_
  rintro A K ⟨hA, hK⟩
  refine ⟨_, _, fun _ => none, hA, hK, by kernel_rfl, own_st _ _, ?_⟩
  repeat ((conv => whnf); first | refine sdO ?_ | refine nlO ?_ | refine goA ?_ | refine goB ?_ | (apply Exists.intro; (repeat apply Exists.intro); refine caO ?_) | (refine Or.inl ?_; (conv => whnf); (repeat apply Exists.intro); refine caO ?_) | (refine Or.inr ?_; (conv => whnf); first | ((repeat apply Exists.intro); refine caO ?_) | (refine Or.inl ?_; (conv => whnf); (repeat apply Exists.intro); refine caO ?_) | (refine Or.inr ?_; (conv => whnf); (repeat apply Exists.intro); refine caO ?_)))
  all_goals try (conv => whnf)
  ((repeat' ((conv => whnf) <;> first | exact trivial | (with_reducible first | refine And.intro ?_ ?_ | refine rows_lt1 ?_ | refine rows_lt2 ?_ ?_ | refine rows_lt3 ?_ ?_ ?_ | refine rows_lt4 ?_ ?_ ?_ ?_ | refine rows_lt5 ?_ ?_ ?_ ?_ ?_ | refine ints_lt1 ?_ | refine ints_lt2 ?_ ?_ | refine ints_lt3 ?_ ?_ ?_ | refine rows_lt7 ?_ ?_ ?_ ?_ ?_ ?_ ?_ | refine aggs_lt1 ?_ | refine aggs_lt2 ?_ ?_ | refine aggs_lt3 ?_ ?_ ?_ | refine fun (_ : Nat) => ?_) | refine fun (_ : (_ : Nat) < _) => ?_ | exact rfl | exact Nat.le_of_ble_eq_true rfl | (change (_ : Nat) ≤ _; omega) | (change (_ : Nat) = _; omega) | (change (_ : Int) = _; omega))); (all_goals try (conv => whnf)))
  exact (at8_zpad_nil _).symm
theorem lw_add {α : Type} (n k : Nat) (f : Nat → α) : lw (n + k) f = lw n f ++ lw k (fun i => f (n + i)) := by
  simp [lw, List.range_add, List.map_map, Function.comp_def]
theorem get_at8 (L : Msg) (i : Nat) (h : i < L.length) : L[i]? = some (at8 L i) := by simp [at8, List.getD, h]
theorem lw_splice (L : Msg) (n o c : Nat) (g : Nat → BitVec 8) (hL : L.length = n) (h : o + c ≤ n) : lw n (fun x => if o ≤ x ∧ x < o + c then g (x - o) else at8 L x) = L.take o ++ lw c g ++ L.drop (o + c) := by
  apply List.ext_getElem?
  intro i
  simp only [lw, List.getElem?_append, List.getElem?_map, List.length_append, List.length_take, List.length_map, List.length_range, List.getElem?_take, List.getElem?_drop, hL]
  rw [show min o n = o by omega]
  by_cases hi : i < n
  · rw [List.getElem?_range hi, Option.map_some]
    by_cases ha : i < o
    · rw [if_neg (by omega), if_pos (by omega), if_pos ha, if_pos ha, get_at8 L i (by omega)]
    · by_cases hb : i < o + c
      · rw [if_pos ⟨by omega, hb⟩, if_pos hb, if_neg ha, List.getElem?_range (by omega)]; rfl
      · rw [if_neg (by omega), if_neg hb, show o + c + (i - (o + c)) = i by omega, get_at8 L i (by omega)]
  · rw [List.getElem?_eq_none (by simp; omega), if_neg (by omega), List.getElem?_eq_none (by omega)]; rfl
theorem feed_block (m : Msg) (q c : Nat) (b : Nat → BitVec 8) (w : Nat) (hw : w = (m.length + q) % 64) (hc : w + c ≤ 64) :
    lw 64 (fun x => if w ≤ x ∧ x < w + c then b (q + (x - w)) else at8 (rst (m ++ lw q b)) x) = zpad (tl (m ++ lw q b) ++ lw c (fun i => b (q + i))) := by
  have hl : (m ++ lw q b).length = m.length + q := by simp [lw_len]
  have e := lw_splice (rst (m ++ lw q b)) 64 w c (fun i => b (q + i)) (rst_len _) hc
  rw [e]
  have := put_rst (m ++ lw q b) (lw c (fun i => b (q + i))) (by rw [hl, lw_len]; omega)
  rw [hl, lw_len, ← hw] at this
  exact this
theorem feed_hash (m : Msg) (q c : Nat) (b : Nat → BitVec 8) (hc : (m.length + q) % 64 + c = 64) : press (hsh (m ++ lw q b)) (zpad (tl (m ++ lw q b) ++ lw c (fun i => b (q + i)))) = hsh (m ++ lw (q + c) b) := by
  have hl : (m ++ lw q b).length = m.length + q := by simp [lw_len]
  rw [zpad_exact _ _ (by rw [lw_len, hl]; omega), ← hsh_full _ _ (by rw [lw_len, hl]; omega), lw_add, List.append_assoc]
theorem feed_rest (m : Msg) (q c j : Nat) (b : Nat → BitVec 8) (hc : (m.length + q) % 64 + c = 64) : 0 = at8 (rst (m ++ lw (q + c) b)) j := by
  have hl : (m ++ lw q b).length = m.length + q := by simp [lw_len]
  rw [lw_add, ← List.append_assoc, rst_full _ _ (by rw [lw_len, hl]; omega), at8_zpad_nil]
theorem feed_same (m : Msg) (q c : Nat) (b : Nat → BitVec 8) (hc : (m.length + q) % 64 + c < 64) : hsh (m ++ lw q b) = hsh (m ++ lw (q + c) b) := by
  have hl : (m ++ lw q b).length = m.length + q := by simp [lw_len]
  rw [lw_add, ← List.append_assoc, hsh_part (m ++ lw q b) _ (by rw [lw_len, hl]; omega)]
theorem feed_part (m : Msg) (q c : Nat) (b : Nat → BitVec 8) (hc : (m.length + q) % 64 + c < 64) : zpad (tl (m ++ lw q b) ++ lw c (fun i => b (q + i))) = rst (m ++ lw (q + c) b) := by
  have hl : (m ++ lw q b).length = m.length + q := by simp [lw_len]
  rw [lw_add, ← List.append_assoc, rst, tl_part (m ++ lw q b) _ (by rw [lw_len, hl]; omega)]
def C_sha_State_Feed : SpecP := fun A K => ∃ m l b, A [stA m, bsl l b] ∧ l ≤ 1000000000 ∧ K (stA (m ++ lw l b))
def L_sha_State_Feed (m : Msg) (l : Nat) (b : Nat → BitVec 8) : LI := ⟨Nat, fun q => q ≤ l ∧ (q = 0 ∨ (m.length + q) % 64 = 0), fun q => [(1, bsl (l - q) (fun i => b (q + i))), (2, .ptr TSt 8 []), (4, .ptr TSt 16 []), (5, .nat ((m.length + q) % 64))],
  fun q => [(8, .var TSt (stF (m ++ lw q b) (m.length + l))), (16, .var TSt TSt.zero)], fun q => l - q, some, some⟩
theorem g_sha_State_Feed : Gd 46 (pureP ty C_sha_State_Feed) := by
  refine goodP (E := PG [(58, pureP ty C_sha_Press)]) (pgOK ⟨g_sha_Press, trivial⟩) mixes Tryd.func46 (by kernel_rfl) (by kernel_rfl) ?_
  rintro A K ⟨m, l, b, hA, hl, hK⟩
  refine ⟨_, _, loops [(3, L_sha_State_Feed m l b)], hA, hK, by kernel_rfl, own_st _ _, ?_⟩
  have hw : (BitVec.ofNat 64 m.length % BitVec.ofInt 64 64).toNat = m.length % 64 := by
    rw [BitVec.toNat_umod, BitVec.toNat_ofNat]; show m.length % 2 ^ 64 % 64 = _; omega
  have hw' : m.length % 64 < 64 := Nat.mod_lt _ (by omega)
  repeat ((conv => whnf); first | refine sdO ?_ | refine nlO ?_ | refine goA ?_ | refine goB ?_ | (apply Exists.intro; (repeat apply Exists.intro); refine caO ?_) | (refine Or.inl ?_; (conv => whnf); (repeat apply Exists.intro); refine caO ?_) | (refine Or.inr ?_; (conv => whnf); first | ((repeat apply Exists.intro); refine caO ?_) | (refine Or.inl ?_; (conv => whnf); (repeat apply Exists.intro); refine caO ?_) | (refine Or.inr ?_; (conv => whnf); (repeat apply Exists.intro); refine caO ?_)))
  all_goals try (conv => whnf)
  refine Exists.intro (fun _ => True) (And.intro (Enter.mk (0 : Nat) ⟨Nat.zero_le l, .inl rfl⟩ trivial ?_) (fun (q : Nat) (hq : q ≤ l ∧ (q = 0 ∨ (m.length + q) % 64 = 0)) _ => ?_))
  · ((repeat' ((conv => whnf) <;> first | exact trivial | (with_reducible first | refine And.intro ?_ ?_ | refine rows_lt1 ?_ | refine rows_lt2 ?_ ?_ | refine rows_lt3 ?_ ?_ ?_ | refine rows_lt4 ?_ ?_ ?_ ?_ | refine rows_lt5 ?_ ?_ ?_ ?_ ?_ | refine ints_lt1 ?_ | refine ints_lt2 ?_ ?_ | refine ints_lt3 ?_ ?_ ?_ | refine rows_lt7 ?_ ?_ ?_ ?_ ?_ ?_ ?_ | refine aggs_lt1 ?_ | refine aggs_lt2 ?_ ?_ | refine aggs_lt3 ?_ ?_ ?_ | refine fun (_ : Nat) => ?_) | refine fun (_ : (_ : Nat) < _) => ?_ | exact rfl | exact Nat.le_of_ble_eq_true rfl | (change (_ : Nat) ≤ _; omega) | (change (_ : Nat) = _; omega) | (change (_ : Int) = _; omega))); (all_goals try (conv => whnf)))
    · rw [show lw 0 b = [] from rfl, List.append_nil]
    · rw [show lw 0 b = [] from rfl, List.append_nil]
    · rw [BitVec.ofNat_add]
    · show b _ = b (0 + _); rw [Nat.zero_add]
  obtain ⟨hq1, hq2⟩ := hq
  have hq' : (m.length + q) % 64 < 64 := Nat.mod_lt _ (by omega)
  repeat ((conv => whnf); first | refine sdO ?_ | refine nlO ?_ | refine goA ?_ | refine goB ?_ | (apply Exists.intro; (repeat apply Exists.intro); refine caO ?_) | (refine Or.inl ?_; (conv => whnf); (repeat apply Exists.intro); refine caO ?_) | (refine Or.inr ?_; (conv => whnf); first | ((repeat apply Exists.intro); refine caO ?_) | (refine Or.inl ?_; (conv => whnf); (repeat apply Exists.intro); refine caO ?_) | (refine Or.inr ?_; (conv => whnf); (repeat apply Exists.intro); refine caO ?_)))
  all_goals try (conv => whnf)
  refine And.intro (fun h => ?_) (fun h => ?_)
  · have h := of_decide_eq_true h
    repeat ((conv => whnf); first | refine sdO ?_ | refine nlO ?_ | refine goA ?_ | refine goB ?_ | (apply Exists.intro; (repeat apply Exists.intro); refine caO ?_) | (refine Or.inl ?_; (conv => whnf); (repeat apply Exists.intro); refine caO ?_) | (refine Or.inr ?_; (conv => whnf); first | ((repeat apply Exists.intro); refine caO ?_) | (refine Or.inl ?_; (conv => whnf); (repeat apply Exists.intro); refine caO ?_) | (refine Or.inr ?_; (conv => whnf); (repeat apply Exists.intro); refine caO ?_)))
    all_goals try (conv => whnf)
    refine Again.mk (q + min (l - q) (64 - (m.length + q) % 64)) ⟨by omega, .inr (by omega)⟩ trivial (show l - (q + min (l - q) (64 - (m.length + q) % 64)) < l - q by omega) ?_
    have hmin : (m.length + q) % 64 + min (l - q) (64 - (m.length + q) % 64) = 64 := by omega
    ((repeat' ((conv => whnf) <;> first | exact trivial | (with_reducible first | refine And.intro ?_ ?_ | refine rows_lt1 ?_ | refine rows_lt2 ?_ ?_ | refine rows_lt3 ?_ ?_ ?_ | refine rows_lt4 ?_ ?_ ?_ ?_ | refine rows_lt5 ?_ ?_ ?_ ?_ ?_ | refine ints_lt1 ?_ | refine ints_lt2 ?_ ?_ | refine ints_lt3 ?_ ?_ ?_ | refine rows_lt7 ?_ ?_ ?_ ?_ ?_ ?_ ?_ | refine aggs_lt1 ?_ | refine aggs_lt2 ?_ ?_ | refine aggs_lt3 ?_ ?_ ?_ | refine fun (_ : Nat) => ?_) | refine fun (_ : (_ : Nat) < _) => ?_ | exact rfl | exact Nat.le_of_ble_eq_true rfl | (change (_ : Nat) ≤ _; omega) | (change (_ : Nat) = _; omega) | (change (_ : Int) = _; omega))); (all_goals try (conv => whnf)))
    · rename_i j hj
      show at32 (press (lw 8 (at32 (hsh (m ++ lw q b)))) (lw 64 fun x => if _ ∧ _ then b (q + (x - (m.length + q) % 64)) else at8 (rst (m ++ lw q b)) x)) j = _
      rw [lw_at32 _ _ (hsh_len _), feed_block _ _ _ _ _ rfl (by omega), feed_hash _ _ _ _ hmin]
    · rename_i j hj
      exact feed_rest _ _ _ j _ hmin
    · rename_i j hj
      show b _ = b _
      congr 1; omega
  · have h := of_decide_eq_false h
    repeat ((conv => whnf); first | refine sdO ?_ | refine nlO ?_ | refine goA ?_ | refine goB ?_ | (apply Exists.intro; (repeat apply Exists.intro); refine caO ?_) | (refine Or.inl ?_; (conv => whnf); (repeat apply Exists.intro); refine caO ?_) | (refine Or.inr ?_; (conv => whnf); first | ((repeat apply Exists.intro); refine caO ?_) | (refine Or.inl ?_; (conv => whnf); (repeat apply Exists.intro); refine caO ?_) | (refine Or.inr ?_; (conv => whnf); (repeat apply Exists.intro); refine caO ?_)))
    all_goals try (conv => whnf)
    have hmin : (m.length + q) % 64 + min (l - q) (64 - (m.length + q) % 64) < 64 := by omega
    have hend : q + min (l - q) (64 - (m.length + q) % 64) = l := by omega
    ((repeat' ((conv => whnf) <;> first | exact trivial | (with_reducible first | refine And.intro ?_ ?_ | refine rows_lt1 ?_ | refine rows_lt2 ?_ ?_ | refine rows_lt3 ?_ ?_ ?_ | refine rows_lt4 ?_ ?_ ?_ ?_ | refine rows_lt5 ?_ ?_ ?_ ?_ ?_ | refine ints_lt1 ?_ | refine ints_lt2 ?_ ?_ | refine ints_lt3 ?_ ?_ ?_ | refine rows_lt7 ?_ ?_ ?_ ?_ ?_ ?_ ?_ | refine aggs_lt1 ?_ | refine aggs_lt2 ?_ ?_ | refine aggs_lt3 ?_ ?_ ?_ | refine fun (_ : Nat) => ?_) | refine fun (_ : (_ : Nat) < _) => ?_ | exact rfl | exact Nat.le_of_ble_eq_true rfl | (change (_ : Nat) ≤ _; omega) | (change (_ : Nat) = _; omega) | (change (_ : Int) = _; omega))); (all_goals try (conv => whnf)))
    · rename_i j hj
      rw [feed_same _ _ _ _ hmin, hend]
    · rename_i j hj
      show (if _ ∧ _ then b (q + (j - (m.length + q) % 64)) else at8 (rst (m ++ lw q b)) j) = _
      rw [← at8_lw 64 (fun x => if (m.length + q) % 64 ≤ x ∧ x < (m.length + q) % 64 + min (l - q) (64 - (m.length + q) % 64) then b (q + (x - (m.length + q) % 64)) else at8 (rst (m ++ lw q b)) x) j hj, feed_block _ _ _ _ _ rfl (by omega), feed_part _ _ _ _ hmin, hend]
    · rw [List.length_append, lw_len]
def C_sha_State_Sum : SpecP := fun A K => ∃ m, A [stA m] ∧ K (arr8 32 (at8 (sha256 m)))
theorem g_sha_State_Sum : Gd 47 (pureP ty C_sha_State_Sum) := by
  refine goodP (E := PG [(60, pureP ty C_sha_Pad), (46, pureP ty C_sha_State_Feed), (59, pureP ty C_sha_Digest)]) (pgOK ⟨g_sha_Pad, g_sha_State_Feed, g_sha_Digest, trivial⟩) mixes Tryd.func47 (by kernel_rfl) (by kernel_rfl) ?_
  rintro A K ⟨m, hA, hK⟩
  refine ⟨_, _, fun _ => none, hA, hK, by kernel_rfl, fun _ _ => trivial, ?_⟩
  have hz : padZs (BitVec.ofNat 64 m.length) < 64 := by unfold padZs; omega
  repeat ((conv => whnf); first | refine sdO ?_ | refine nlO ?_ | refine goA ?_ | refine goB ?_ | (apply Exists.intro; (repeat apply Exists.intro); refine caO ?_) | (refine Or.inl ?_; (conv => whnf); (repeat apply Exists.intro); refine caO ?_) | (refine Or.inr ?_; (conv => whnf); first | ((repeat apply Exists.intro); refine caO ?_) | (refine Or.inl ?_; (conv => whnf); (repeat apply Exists.intro); refine caO ?_) | (refine Or.inr ?_; (conv => whnf); (repeat apply Exists.intro); refine caO ?_)))
  all_goals try (conv => whnf)
  ((repeat' ((conv => whnf) <;> first | exact trivial | (with_reducible first | refine And.intro ?_ ?_ | refine rows_lt1 ?_ | refine rows_lt2 ?_ ?_ | refine rows_lt3 ?_ ?_ ?_ | refine rows_lt4 ?_ ?_ ?_ ?_ | refine rows_lt5 ?_ ?_ ?_ ?_ ?_ | refine ints_lt1 ?_ | refine ints_lt2 ?_ ?_ | refine ints_lt3 ?_ ?_ ?_ | refine rows_lt7 ?_ ?_ ?_ ?_ ?_ ?_ ?_ | refine aggs_lt1 ?_ | refine aggs_lt2 ?_ ?_ | refine aggs_lt3 ?_ ?_ ?_ | refine fun (_ : Nat) => ?_) | refine fun (_ : (_ : Nat) < _) => ?_ | exact rfl | exact Nat.le_of_ble_eq_true rfl | (change (_ : Nat) ≤ _; omega) | (change (_ : Nat) = _; omega) | (change (_ : Int) = _; omega))); (all_goals try (conv => whnf)))
  rw [lw_at8 _ _ (padL_len _), lw_at32 _ _ (hsh_len _)]; rfl
end Go.Proofs.YtldlleoabbcpdaaDoor
