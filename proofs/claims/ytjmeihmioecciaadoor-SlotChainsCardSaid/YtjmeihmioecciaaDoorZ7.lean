/- Key slots: chains of keys. -/
import Derived.Test.YtjmeihmioecciaaDoorZ6
namespace Go.Proofs.YtjmeihmioecciaaDoor
open Go.RowKit
set_option maxRecDepth 100000
set_option maxHeartbeats 20000000
attribute [local irreducible] hsh rst sha256 press dig valN cat
def C_sl_Wipe_3 : SpecM := fun A K => ∃ kd ky lk dd h h' h'', A [.ptr TSl 0 [], int3 h h' h''] (slR (Sl.mk kd ky lk dd)) ∧ K (.nat (wpN (Sl.mk kd ky lk dd) [h, h', h''] 3)) (slR (wpS (Sl.mk kd ky lk dd) [h, h', h''] 3))
theorem g_sl_Wipe_3 : Gd 19 (mutD ty [true, false] C_sl_Wipe_3) := good_imp g_sl_Wipe fun args m key K ⟨kd, ky, lk, dd, h, h', h'', hA, hK⟩ =>
  ⟨kd, ky, lk, dd, [h, h', h''], hA, (by show 3 ≤ 10; omega), hK⟩
theorem cn_mac' {s : Sl} {k : Nat} (hc : Cn s k) (hk : k < 7) (lab : List UInt8) (l1 l2 : Nat) (b1 b2 : Nat → BitVec 8) (i : Nat) : macD (derS s k (k + 1 : Nat) lab [(l1, b1)]) (k + 1 : Nat) [(l2, b2)] i = at8 (hmac (lw (32 - 0) fun x => at8 (hmac (lw (32 - 0) fun x => s.ky k (0 + x)) (dtext lab [(l1, b1)])) (0 + x)) (lw l2 b2)) i := by
  rw [lw320 (s.ky k), lw320 (at8 (hmac (lw 32 (s.ky k)) (dtext lab [(l1, b1)]))), cn_macD (cn_step hc hk lab _), cn_ky hc hk, cat1]
theorem cn_ky' {s : Sl} {k : Nat} (hc : Cn s k) (hk : k < 7) (lab : List UInt8) (l1 : Nat) (b1 : Nat → BitVec 8) (i : Nat) : at8 (hmac (lw (32 - 0) fun x => s.ky k (0 + x)) (dtext lab [(l1, b1)])) i = (derS s k (k + 1 : Nat) lab [(l1, b1)]).ky (k + 1) i := by
  rw [lw320 (s.ky k), cn_ky hc hk]
def bK (k : Nat) : Nat → BitVec 8 := fun x => asU8 (look [(0, AV.u8 (BitVec.ofNat 8 k))] (.u8 0) x)
abbrev strS (n : Nat) (lab : Nat → List UInt8) : AV := .imm false .str n (fun i => .str (lab i))
structure GC where
  k : Nat
  s : Sl
def L_SC (n : Nat) (lab : Nat → List UInt8) : LI := ⟨GC, fun p => p.k ≤ n ∧ Cn p.s p.k, fun p => [(1, strS n lab), (5, .ptr TSl 2056 []), (6, .ptr TD 4112 []), (19, strS n lab), (20, .nat n), (21, .nat p.k)],
  fun p => [(2056, .var TSl (slV p.s)), (4112, .var TD (arr8 32 (p.s.ky p.k)))], fun p => n - p.k, some, some⟩
def C_l15_SlotChains : SpecP := fun A K => ∃ key n lab, A [arr8 32 key, strS n lab] ∧ n ≤ maxLen ∧ (∀ k, (lab k).length ≤ maxLen) ∧ K (.bo true)
theorem g_l15_SlotChains : Gd 4 (pureP ty C_l15_SlotChains) := by
  refine goodP (E := PG [(6, pureP ty C_l15_awake), (13, pureP ty C_r1_Text), (7, pureR ty C_sl_New), (12, mutD ty [true, false, false, false] C_sl_Lay), (14, mutD ty [true, false, false, false, false] C_sl_Derive_1), (16, pureP ty C_sl_Mac_1), (15, pureP ty C_r2_Derive_1), (17, pureP ty C_r2_Sum), (18, pureP ty C_sl_Kind), (11, pureP ty C_sl_Count), (19, orC (mutD ty [true, false] C_sl_Wipe_3) (mutD ty [true, false] C_sl_Wipe_2))]) (pgOK ⟨g_l15_awake, g_r1_Text, g_sl_New, g_sl_Lay, g_sl_Derive_1, g_sl_Mac_1, g_r2_Derive_1, g_r2_Sum, g_sl_Kind, g_sl_Count, (good_or g_sl_Wipe_3 g_sl_Wipe_2), trivial⟩) mixes Tryd.func4 (by kernel_rfl) (by kernel_rfl) ?_
  rintro A K ⟨key, n, lab, hA, hn, hlb, hK⟩
  refine ⟨_, _, loops [(7, L_SC n lab)], hA, hK, by kernel_rfl, trivial, ?_⟩
  repeat (first | ((conv => whnf); refine And.intro ?_ ?_; exact sideOf) | ((conv => whnf); refine NilE.some ?_ ?_; exact sideOf) | ((conv => whnf); refine And.intro (fun _ => ?_) (fun h => nomatch (show true = false from h))) | ((conv => whnf); refine And.intro (fun h => nomatch (show false = true from h)) (fun _ => ?_)) | ((conv => whnf); first | (apply Exists.intro; (repeat apply Exists.intro); refine And.intro ?_ ?_; exact leOf) | (refine Or.inl ?_; (conv => whnf); (repeat apply Exists.intro); refine And.intro ?_ ?_; exact leOf) | (refine Or.inr ?_; (conv => whnf); first | ((repeat apply Exists.intro); refine And.intro ?_ ?_; exact leOf) | (refine Or.inl ?_; (conv => whnf); (repeat apply Exists.intro); refine And.intro ?_ ?_; exact leOf) | (refine Or.inr ?_; (conv => whnf); (repeat apply Exists.intro); refine And.intro ?_ ?_; exact leOf))) | ((conv => whnf); first | refine And.intro (by assumption) ?_ | refine goT ?_ | refine goF ?_ | refine goL ?_ | refine goR ?_ | refine goRL ?_ | refine goRR ?_))
  all_goals try (conv => whnf)
  refine Exists.intro (fun _ => True) (And.intro (Enter.mk (⟨0, layS sl0 0 1 key⟩ : GC) ⟨Nat.zero_le _, cn0 key⟩ trivial ?_) (fun (p : GC) (hp : p.k ≤ n ∧ Cn p.s p.k) _ => ?_))
  · ((repeat' ((conv => whnf) <;> first | exact trivial | (with_reducible first | refine And.intro ?_ ?_ | refine rows_lt1 ?_ | refine rows_lt2 ?_ ?_ | refine rows_lt3 ?_ ?_ ?_ | refine rows_lt4 ?_ ?_ ?_ ?_ | refine rows_lt5 ?_ ?_ ?_ ?_ ?_ | refine ints_lt1 ?_ | refine ints_lt2 ?_ ?_ | refine ints_lt3 ?_ ?_ ?_ | refine rows_lt7 ?_ ?_ ?_ ?_ ?_ ?_ ?_ | refine aggs_lt1 ?_ | refine aggs_lt2 ?_ ?_ | refine aggs_lt3 ?_ ?_ ?_ | refine fun (_ : Nat) => ?_) | refine fun (_ : (_ : Nat) < _) => ?_ | exact rfl | exact Nat.le_of_ble_eq_true rfl | (change (_ : Nat) ≤ _; omega) | (change (_ : Nat) = _; omega) | (change (_ : Int) = _; omega))); (all_goals try (conv => whnf)))
  obtain ⟨hk, hc⟩ := hp
  have hlk := hlb p.k
  have h7 := hc.le
  rcases Nat.lt_or_ge p.k n with h | h
  rotate_left
  · have h : p.k = n := by omega
    have hm : min n (Int.toNat 7) = p.k := by simp only [Int.reduceToNat]; omega
    have e1 : cntN p.s.kd 8 = min n (Int.toNat 7) + Int.toNat 1 := by rw [hm]; exact cn_cnt hc
    have e2 : wpN p.s [((Int.toNat 0 : Nat) : Int), ((Int.toNat 0 : Nat) : Int), ((min n (Int.toNat 7) : Nat) : Int)] 3 = Int.toNat 1 + min (min n (Int.toNat 7)) (Int.toNat 1) := by rw [hm]; exact cn_wpN hc
    have e3 : ∀ t : Sl, wpN t [-1, ((Int.toNat 9 : Nat) : Int)] 2 = Int.toNat 0 := fun t => wpN_out t
    repeat (first | ((conv => whnf); refine And.intro ?_ ?_; exact sideOf) | ((conv => whnf); refine NilE.some ?_ ?_; exact sideOf) | ((conv => whnf); refine And.intro (fun _ => ?_) (fun h => nomatch (show true = false from h))) | ((conv => whnf); refine And.intro (fun h => nomatch (show false = true from h)) (fun _ => ?_)) | ((conv => whnf); first | (apply Exists.intro; (repeat apply Exists.intro); refine And.intro ?_ ?_; exact leOf) | (refine Or.inl ?_; (conv => whnf); (repeat apply Exists.intro); refine And.intro ?_ ?_; exact leOf) | (refine Or.inr ?_; (conv => whnf); first | ((repeat apply Exists.intro); refine And.intro ?_ ?_; exact leOf) | (refine Or.inl ?_; (conv => whnf); (repeat apply Exists.intro); refine And.intro ?_ ?_; exact leOf) | (refine Or.inr ?_; (conv => whnf); (repeat apply Exists.intro); refine And.intro ?_ ?_; exact leOf))) | ((conv => whnf); first | refine And.intro (by assumption) ?_ | refine goT ?_ | refine goF ?_ | refine goL ?_ | refine goR ?_ | refine goRL ?_ | refine goRR ?_))
    all_goals try (conv => whnf)
    exact decide_eq_true (e3 _)
  rcases Nat.lt_or_ge p.k 7 with hk7 | hk7
  rotate_left
  · skip
    have hm : min n (Int.toNat 7) = p.k := by simp only [Int.reduceToNat]; omega
    have e1 : cntN p.s.kd 8 = min n (Int.toNat 7) + Int.toNat 1 := by rw [hm]; exact cn_cnt hc
    have e2 : wpN p.s [((Int.toNat 0 : Nat) : Int), ((Int.toNat 0 : Nat) : Int), ((min n (Int.toNat 7) : Nat) : Int)] 3 = Int.toNat 1 + min (min n (Int.toNat 7)) (Int.toNat 1) := by rw [hm]; exact cn_wpN hc
    have e3 : ∀ t : Sl, wpN t [-1, ((Int.toNat 9 : Nat) : Int)] 2 = Int.toNat 0 := fun t => wpN_out t
    repeat (first | ((conv => whnf); refine And.intro ?_ ?_; exact sideOf) | ((conv => whnf); refine NilE.some ?_ ?_; exact sideOf) | ((conv => whnf); refine And.intro (fun _ => ?_) (fun h => nomatch (show true = false from h))) | ((conv => whnf); refine And.intro (fun h => nomatch (show false = true from h)) (fun _ => ?_)) | ((conv => whnf); first | (apply Exists.intro; (repeat apply Exists.intro); refine And.intro ?_ ?_; exact leOf) | (refine Or.inl ?_; (conv => whnf); (repeat apply Exists.intro); refine And.intro ?_ ?_; exact leOf) | (refine Or.inr ?_; (conv => whnf); first | ((repeat apply Exists.intro); refine And.intro ?_ ?_; exact leOf) | (refine Or.inl ?_; (conv => whnf); (repeat apply Exists.intro); refine And.intro ?_ ?_; exact leOf) | (refine Or.inr ?_; (conv => whnf); (repeat apply Exists.intro); refine And.intro ?_ ?_; exact leOf))) | ((conv => whnf); first | refine And.intro (by assumption) ?_ | refine goT ?_ | refine goF ?_ | refine goL ?_ | refine goR ?_ | refine goRL ?_ | refine goRR ?_))
    all_goals try (conv => whnf)
    exact decide_eq_true (e3 _)
  have eE := cn_derE hc hk7
  have hl20 : ((lab p.k).take 20).length ≤ 20 := List.length_take_le _ _
  repeat (first | ((conv => whnf); refine And.intro ?_ ?_; exact sideOf) | ((conv => whnf); refine NilE.some ?_ ?_; exact sideOf) | ((conv => whnf); refine And.intro (fun _ => ?_) (fun h => nomatch (show true = false from h))) | ((conv => whnf); refine And.intro (fun h => nomatch (show false = true from h)) (fun _ => ?_)) | ((conv => whnf); first | (apply Exists.intro; (repeat apply Exists.intro); refine And.intro ?_ ?_; exact leOf) | (refine Or.inl ?_; (conv => whnf); (repeat apply Exists.intro); refine And.intro ?_ ?_; exact leOf) | (refine Or.inr ?_; (conv => whnf); first | ((repeat apply Exists.intro); refine And.intro ?_ ?_; exact leOf) | (refine Or.inl ?_; (conv => whnf); (repeat apply Exists.intro); refine And.intro ?_ ?_; exact leOf) | (refine Or.inr ?_; (conv => whnf); (repeat apply Exists.intro); refine And.intro ?_ ?_; exact leOf))) | ((conv => whnf); first | refine And.intro (by assumption) ?_ | refine goT ?_ | refine goF ?_ | refine goL ?_ | refine goR ?_ | refine goRL ?_ | refine goRR ?_))
  all_goals try (conv => whnf)
  refine And.intro (fun h => absurd (cn_keyE (cn_step hc hk7 _ _)) (of_decide_eq_true h)) (fun _ => ?_)
  repeat (first | ((conv => whnf); refine And.intro ?_ ?_; exact sideOf) | ((conv => whnf); refine NilE.some ?_ ?_; exact sideOf) | ((conv => whnf); refine And.intro (fun _ => ?_) (fun h => nomatch (show true = false from h))) | ((conv => whnf); refine And.intro (fun h => nomatch (show false = true from h)) (fun _ => ?_)) | ((conv => whnf); first | (apply Exists.intro; (repeat apply Exists.intro); refine And.intro ?_ ?_; exact leOf) | (refine Or.inl ?_; (conv => whnf); (repeat apply Exists.intro); refine And.intro ?_ ?_; exact leOf) | (refine Or.inr ?_; (conv => whnf); first | ((repeat apply Exists.intro); refine And.intro ?_ ?_; exact leOf) | (refine Or.inl ?_; (conv => whnf); (repeat apply Exists.intro); refine And.intro ?_ ?_; exact leOf) | (refine Or.inr ?_; (conv => whnf); (repeat apply Exists.intro); refine And.intro ?_ ?_; exact leOf))) | ((conv => whnf); first | refine And.intro (by assumption) ?_ | refine goT ?_ | refine goF ?_ | refine goL ?_ | refine goR ?_ | refine goRL ?_ | refine goRR ?_))
  all_goals try (conv => whnf)
  refine And.intro (fun h => nbang h (eqB_agg fun i hi => cn_mac' hc hk7 _ _ _ _ _ i)) (fun _ => ?_)
  repeat (first | ((conv => whnf); refine And.intro ?_ ?_; exact sideOf) | ((conv => whnf); refine NilE.some ?_ ?_; exact sideOf) | ((conv => whnf); refine And.intro (fun _ => ?_) (fun h => nomatch (show true = false from h))) | ((conv => whnf); refine And.intro (fun h => nomatch (show false = true from h)) (fun _ => ?_)) | ((conv => whnf); first | (apply Exists.intro; (repeat apply Exists.intro); refine And.intro ?_ ?_; exact leOf) | (refine Or.inl ?_; (conv => whnf); (repeat apply Exists.intro); refine And.intro ?_ ?_; exact leOf) | (refine Or.inr ?_; (conv => whnf); first | ((repeat apply Exists.intro); refine And.intro ?_ ?_; exact leOf) | (refine Or.inl ?_; (conv => whnf); (repeat apply Exists.intro); refine And.intro ?_ ?_; exact leOf) | (refine Or.inr ?_; (conv => whnf); (repeat apply Exists.intro); refine And.intro ?_ ?_; exact leOf))) | ((conv => whnf); first | refine And.intro (by assumption) ?_ | refine goT ?_ | refine goF ?_ | refine goL ?_ | refine goR ?_ | refine goRL ?_ | refine goRR ?_))
  all_goals try (conv => whnf)
  refine And.intro (fun h => absurd (cn_kdF (cn_step hc hk7 _ _) (Nat.succ_pos _)) (of_decide_eq_true h)) (fun _ => ?_)
  repeat (first | ((conv => whnf); refine And.intro ?_ ?_; exact sideOf) | ((conv => whnf); refine NilE.some ?_ ?_; exact sideOf) | ((conv => whnf); refine And.intro (fun _ => ?_) (fun h => nomatch (show true = false from h))) | ((conv => whnf); refine And.intro (fun h => nomatch (show false = true from h)) (fun _ => ?_)) | ((conv => whnf); first | (apply Exists.intro; (repeat apply Exists.intro); refine And.intro ?_ ?_; exact leOf) | (refine Or.inl ?_; (conv => whnf); (repeat apply Exists.intro); refine And.intro ?_ ?_; exact leOf) | (refine Or.inr ?_; (conv => whnf); first | ((repeat apply Exists.intro); refine And.intro ?_ ?_; exact leOf) | (refine Or.inl ?_; (conv => whnf); (repeat apply Exists.intro); refine And.intro ?_ ?_; exact leOf) | (refine Or.inr ?_; (conv => whnf); (repeat apply Exists.intro); refine And.intro ?_ ?_; exact leOf))) | ((conv => whnf); first | refine And.intro (by assumption) ?_ | refine goT ?_ | refine goF ?_ | refine goL ?_ | refine goR ?_ | refine goRL ?_ | refine goRR ?_))
  all_goals try (conv => whnf)
  refine Again.mk (⟨p.k + 1, derS p.s p.k (p.k + 1 : Nat) ((lab p.k).take 20) [(1, bK p.k)]⟩ : GC) ⟨h, cn_step hc hk7 _ _⟩ trivial (show n - (p.k + 1) < n - p.k by omega) ?_
  ((repeat' ((conv => whnf) <;> first | exact trivial | (with_reducible first | refine And.intro ?_ ?_ | refine rows_lt1 ?_ | refine rows_lt2 ?_ ?_ | refine rows_lt3 ?_ ?_ ?_ | refine rows_lt4 ?_ ?_ ?_ ?_ | refine rows_lt5 ?_ ?_ ?_ ?_ ?_ | refine ints_lt1 ?_ | refine ints_lt2 ?_ ?_ | refine ints_lt3 ?_ ?_ ?_ | refine rows_lt7 ?_ ?_ ?_ ?_ ?_ ?_ ?_ | refine aggs_lt1 ?_ | refine aggs_lt2 ?_ ?_ | refine aggs_lt3 ?_ ?_ ?_ | refine fun (_ : Nat) => ?_) | refine fun (_ : (_ : Nat) < _) => ?_ | exact rfl | exact Nat.le_of_ble_eq_true rfl | (change (_ : Nat) ≤ _; omega) | (change (_ : Nat) = _; omega) | (change (_ : Int) = _; omega))); (all_goals try (conv => whnf)))
  exact cn_ky' hc hk7 _ _ _ _
end Go.Proofs.YtjmeihmioecciaaDoor
