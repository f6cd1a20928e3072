/- The compression, words and digests, the padding. -/
import Derived.Test.YtldlleoabbcpdaaDoorP2
namespace Go.Proofs.YtldlleoabbcpdaaDoor
open Go.RowKit
set_option maxRecDepth 100000
set_option maxHeartbeats 20000000
def C_sha_Press : SpecP := fun A K => ∃ f b, A [arr32 8 f, arr8 64 b] ∧ K (arr32 8 (at32 (press (lw 8 f) (lw 64 b))))
theorem lw_at {α : Type} (d : α) (l : List α) (n : Nat) (h : l.length = n) : lw n (fun i => l.getD i d) = l := by
  subst h
  apply List.ext_getElem (by simp [lw])
  intro i h1 h2
  simp [lw, List.getD, h2]
theorem lw_at32 (l : List (BitVec 32)) (n : Nat) (h : l.length = n) : lw n (at32 l) = l := lw_at 0 l n h
theorem lw_at8 (l : List (BitVec 8)) (n : Nat) (h : l.length = n) : lw n (at8 l) = l := lw_at 0 l n h
theorem g_sha_Press : Gd 58 (pureP ty C_sha_Press) := by
  refine goodP (E := PG [(67, pureP ty C_sha_rounds), (68, pureP ty C_sha_schedule)]) (pgOK ⟨g_sha_rounds, g_sha_schedule, trivial⟩) mixes Tryd.func58 (by kernel_rfl) (by kernel_rfl) ?_
  rintro A K ⟨f, b, hA, hK⟩
  refine ⟨_, _, fun _ => none, hA, hK, by kernel_rfl, fun _ _ => trivial, ?_⟩
  repeat ((conv => whnf); first | refine sdO ?_ | refine nlO ?_ | refine goA ?_ | refine goB ?_ | (apply Exists.intro; (repeat apply Exists.intro); refine caO ?_) | (refine Or.inl ?_; (conv => whnf); (repeat apply Exists.intro); refine caO ?_) | (refine Or.inr ?_; (conv => whnf); first | ((repeat apply Exists.intro); refine caO ?_) | (refine Or.inl ?_; (conv => whnf); (repeat apply Exists.intro); refine caO ?_) | (refine Or.inr ?_; (conv => whnf); (repeat apply Exists.intro); refine caO ?_)))
  all_goals try (conv => whnf)
  intro j hj
  conv => whnf
  rw [lw_at32 _ _ (sched_len _)]; rfl
/-! ### A number's bytes -/
def putF (f : Nat → BitVec 8) (o l : Nat) (v : BitVec 64) (k j : Nat) : BitVec 8 := if o + (l - k) ≤ j ∧ j < o + l then byt v (o + l - 1 - j) else f j
theorem putF_zero (f : Nat → BitVec 8) (o l : Nat) (v : BitVec 64) (j : Nat) : f j = putF f o l v 0 j := by
  unfold putF; rw [if_neg (by omega)]
theorem putF_step (f : Nat → BitVec 8) (o l : Nat) (v : BitVec 64) (k j p : Nat) (hk : k < l) (hp : p = o + (l - 1 - k)) : (if j = p then byt v k else putF f o l v k j) = putF f o l v (k + 1) j := by
  subst hp
  unfold putF
  by_cases h : j = o + (l - 1 - k)
  · subst h
    rw [if_pos rfl, if_pos (by omega)]
    congr 1; omega
  · rw [if_neg h]
    by_cases h2 : o + (l - k) ≤ j ∧ j < o + l
    · rw [if_pos h2, if_pos (by omega)]
    · rw [if_neg h2, if_neg (by omega)]
attribute [irreducible] putF
abbrev T8 (n : Nat) : Ty := .agg true n fun _ => .int .u8
def C_sha_put : SpecM := fun A K => ∃ o l n f v, A [.sub (.int .u8) 0 [] o l, .u64 v] [(0, .var (T8 n) (arr8 n f))] ∧ o + l ≤ n ∧ n ≤ 1000000000 ∧ K (.tup 0 fun _ => .junk) [(0, .var (T8 n) (arr8 n (putF f o l v l)))]
def L_sha_put (o l n : Nat) (f : Nat → BitVec 8) (v : BitVec 64) : LI := ⟨Nat, (· ≤ l), fun k => [(0, .sub (.int .u8) 0 [] o l), (1, .u64 v), (6, .nat l), (7, .nat k)], fun k => [(0, .var (T8 n) (arr8 n (putF f o l v k)))], fun k => l - k, some, some⟩
theorem g_sha_put : Gd 69 (mutF ty [true, false] C_sha_put) := by
  refine goodM (E := PG []) (pgOK trivial) mixes Tryd.func69 (by kernel_rfl) (by kernel_rfl) ?_
  rintro A K ⟨o, l, n, f, v, hA, hol, hn, hK⟩
  refine ⟨_, _, _, _, loops [(1, L_sha_put o l n f v)], hA, hK, by kernel_rfl, by kernel_rfl, ⟨trivial, trivial⟩, ⟨fun _ _ => trivial, trivial⟩, fun _ h => by omega, ?_⟩
  repeat ((conv => whnf); first | refine sdO ?_ | refine nlO ?_ | refine goA ?_ | refine goB ?_ | (apply Exists.intro; (repeat apply Exists.intro); refine caO ?_) | (refine Or.inl ?_; (conv => whnf); (repeat apply Exists.intro); refine caO ?_) | (refine Or.inr ?_; (conv => whnf); first | ((repeat apply Exists.intro); refine caO ?_) | (refine Or.inl ?_; (conv => whnf); (repeat apply Exists.intro); refine caO ?_) | (refine Or.inr ?_; (conv => whnf); (repeat apply Exists.intro); refine caO ?_)))
  all_goals try (conv => whnf)
  refine Exists.intro (fun _ => True) (And.intro (Enter.mk (0 : Nat) (Nat.zero_le l) trivial ?_) (fun (k : Nat) (hk : k ≤ l) _ => ?_))
  · ((repeat' ((conv => whnf) <;> first | exact trivial | (with_reducible first | refine And.intro ?_ ?_ | refine rows_lt1 ?_ | refine rows_lt2 ?_ ?_ | refine rows_lt3 ?_ ?_ ?_ | refine rows_lt4 ?_ ?_ ?_ ?_ | refine rows_lt5 ?_ ?_ ?_ ?_ ?_ | refine ints_lt1 ?_ | refine ints_lt2 ?_ ?_ | refine ints_lt3 ?_ ?_ ?_ | refine rows_lt7 ?_ ?_ ?_ ?_ ?_ ?_ ?_ | refine aggs_lt1 ?_ | refine aggs_lt2 ?_ ?_ | refine aggs_lt3 ?_ ?_ ?_ | refine fun (_ : Nat) => ?_) | refine fun (_ : (_ : Nat) < _) => ?_ | exact rfl | exact Nat.le_of_ble_eq_true rfl | (change (_ : Nat) ≤ _; omega) | (change (_ : Nat) = _; omega) | (change (_ : Int) = _; omega))); (all_goals try (conv => whnf)))
    exact putF_zero _ _ _ _ _
  repeat ((conv => whnf); first | refine sdO ?_ | refine nlO ?_ | refine goA ?_ | refine goB ?_ | (apply Exists.intro; (repeat apply Exists.intro); refine caO ?_) | (refine Or.inl ?_; (conv => whnf); (repeat apply Exists.intro); refine caO ?_) | (refine Or.inr ?_; (conv => whnf); first | ((repeat apply Exists.intro); refine caO ?_) | (refine Or.inl ?_; (conv => whnf); (repeat apply Exists.intro); refine caO ?_) | (refine Or.inr ?_; (conv => whnf); (repeat apply Exists.intro); refine caO ?_)))
  all_goals try (conv => whnf)
  refine And.intro (fun h => ?_) (fun h => ?_)
  · have h := of_decide_eq_true h
    repeat ((conv => whnf); first | refine sdO ?_ | refine nlO ?_ | refine goA ?_ | refine goB ?_ | (apply Exists.intro; (repeat apply Exists.intro); refine caO ?_) | (refine Or.inl ?_; (conv => whnf); (repeat apply Exists.intro); refine caO ?_) | (refine Or.inr ?_; (conv => whnf); first | ((repeat apply Exists.intro); refine caO ?_) | (refine Or.inl ?_; (conv => whnf); (repeat apply Exists.intro); refine caO ?_) | (refine Or.inr ?_; (conv => whnf); (repeat apply Exists.intro); refine caO ?_)))
    all_goals try (conv => whnf)
    refine Again.mk (k + 1 : Nat) (show k + 1 ≤ l by omega) trivial (show l - (k + 1) < l - k by omega) ?_
    ((repeat' ((conv => whnf) <;> first | exact trivial | (with_reducible first | refine And.intro ?_ ?_ | refine rows_lt1 ?_ | refine rows_lt2 ?_ ?_ | refine rows_lt3 ?_ ?_ ?_ | refine rows_lt4 ?_ ?_ ?_ ?_ | refine rows_lt5 ?_ ?_ ?_ ?_ ?_ | refine ints_lt1 ?_ | refine ints_lt2 ?_ ?_ | refine ints_lt3 ?_ ?_ ?_ | refine rows_lt7 ?_ ?_ ?_ ?_ ?_ ?_ ?_ | refine aggs_lt1 ?_ | refine aggs_lt2 ?_ ?_ | refine aggs_lt3 ?_ ?_ ?_ | refine fun (_ : Nat) => ?_) | refine fun (_ : (_ : Nat) < _) => ?_ | exact rfl | exact Nat.le_of_ble_eq_true rfl | (change (_ : Nat) ≤ _; omega) | (change (_ : Nat) = _; omega) | (change (_ : Int) = _; omega))); (all_goals try (conv => whnf)))
    exact putF_step f o l v k _ _ h (by omega)
  · have h := of_decide_eq_false h
    obtain rfl : k = l := by omega
    repeat ((conv => whnf); first | refine sdO ?_ | refine nlO ?_ | refine goA ?_ | refine goB ?_ | (apply Exists.intro; (repeat apply Exists.intro); refine caO ?_) | (refine Or.inl ?_; (conv => whnf); (repeat apply Exists.intro); refine caO ?_) | (refine Or.inr ?_; (conv => whnf); first | ((repeat apply Exists.intro); refine caO ?_) | (refine Or.inl ?_; (conv => whnf); (repeat apply Exists.intro); refine caO ?_) | (refine Or.inr ?_; (conv => whnf); (repeat apply Exists.intro); refine caO ?_)))
    all_goals try (conv => whnf)
    refine ⟨some, ?_⟩
    ((repeat' ((conv => whnf) <;> first | exact trivial | (with_reducible first | refine And.intro ?_ ?_ | refine rows_lt1 ?_ | refine rows_lt2 ?_ ?_ | refine rows_lt3 ?_ ?_ ?_ | refine rows_lt4 ?_ ?_ ?_ ?_ | refine rows_lt5 ?_ ?_ ?_ ?_ ?_ | refine ints_lt1 ?_ | refine ints_lt2 ?_ ?_ | refine ints_lt3 ?_ ?_ ?_ | refine rows_lt7 ?_ ?_ ?_ ?_ ?_ ?_ ?_ | refine aggs_lt1 ?_ | refine aggs_lt2 ?_ ?_ | refine aggs_lt3 ?_ ?_ ?_ | refine fun (_ : Nat) => ?_) | refine fun (_ : (_ : Nat) < _) => ?_ | exact rfl | exact Nat.le_of_ble_eq_true rfl | (change (_ : Nat) ≤ _; omega) | (change (_ : Nat) = _; omega) | (change (_ : Int) = _; omega))); (all_goals try (conv => whnf)))
def C_sha_put_g : SpecM := fun A K => ∃ o l n f v, A [.gsub 5 0 n o l, .u64 v] [(0, .grow 5 n (bys f))] ∧ o + l ≤ n ∧ n ≤ 1000000000 ∧ K (.tup 0 fun _ => .junk) [(0, .grow 5 n (bys (putF f o l v l)))]
def L_sha_put_g (o l n : Nat) (f : Nat → BitVec 8) (v : BitVec 64) : LI := ⟨Nat, (· ≤ l), fun k => [(0, .gsub 5 0 n o l), (1, .u64 v), (6, .nat l), (7, .nat k)], fun k => [(0, .grow 5 n (bys (putF f o l v k)))], fun k => l - k, some, some⟩
theorem g_sha_put_g : Gd 69 (mutF ty [true, false] C_sha_put_g) := by
  refine goodM (E := PG []) (pgOK trivial) mixes Tryd.func69 (by kernel_rfl) (by kernel_rfl) ?_
  rintro A K ⟨o, l, n, f, v, hA, hol, hn, hK⟩
  refine ⟨_, _, _, _, loops [(1, L_sha_put_g o l n f v)], hA, hK, by kernel_rfl, by kernel_rfl, ⟨rfl, trivial⟩, ⟨fun _ _ => trivial, trivial⟩, fun _ h => by omega, ?_⟩
  repeat ((conv => whnf); first | refine sdO ?_ | refine nlO ?_ | refine goA ?_ | refine goB ?_ | (apply Exists.intro; (repeat apply Exists.intro); refine caO ?_) | (refine Or.inl ?_; (conv => whnf); (repeat apply Exists.intro); refine caO ?_) | (refine Or.inr ?_; (conv => whnf); first | ((repeat apply Exists.intro); refine caO ?_) | (refine Or.inl ?_; (conv => whnf); (repeat apply Exists.intro); refine caO ?_) | (refine Or.inr ?_; (conv => whnf); (repeat apply Exists.intro); refine caO ?_)))
  all_goals try (conv => whnf)
  refine Exists.intro (fun _ => True) (And.intro (Enter.mk (0 : Nat) (Nat.zero_le l) trivial ?_) (fun (k : Nat) (hk : k ≤ l) _ => ?_))
  · ((repeat' ((conv => whnf) <;> first | exact trivial | (with_reducible first | refine And.intro ?_ ?_ | refine rows_lt1 ?_ | refine rows_lt2 ?_ ?_ | refine rows_lt3 ?_ ?_ ?_ | refine rows_lt4 ?_ ?_ ?_ ?_ | refine rows_lt5 ?_ ?_ ?_ ?_ ?_ | refine ints_lt1 ?_ | refine ints_lt2 ?_ ?_ | refine ints_lt3 ?_ ?_ ?_ | refine rows_lt7 ?_ ?_ ?_ ?_ ?_ ?_ ?_ | refine aggs_lt1 ?_ | refine aggs_lt2 ?_ ?_ | refine aggs_lt3 ?_ ?_ ?_ | refine fun (_ : Nat) => ?_) | refine fun (_ : (_ : Nat) < _) => ?_ | exact rfl | exact Nat.le_of_ble_eq_true rfl | (change (_ : Nat) ≤ _; omega) | (change (_ : Nat) = _; omega) | (change (_ : Int) = _; omega))); (all_goals try (conv => whnf)))
    exact putF_zero _ _ _ _ _
  repeat ((conv => whnf); first | refine sdO ?_ | refine nlO ?_ | refine goA ?_ | refine goB ?_ | (apply Exists.intro; (repeat apply Exists.intro); refine caO ?_) | (refine Or.inl ?_; (conv => whnf); (repeat apply Exists.intro); refine caO ?_) | (refine Or.inr ?_; (conv => whnf); first | ((repeat apply Exists.intro); refine caO ?_) | (refine Or.inl ?_; (conv => whnf); (repeat apply Exists.intro); refine caO ?_) | (refine Or.inr ?_; (conv => whnf); (repeat apply Exists.intro); refine caO ?_)))
  all_goals try (conv => whnf)
  refine And.intro (fun h => ?_) (fun h => ?_)
  · have h := of_decide_eq_true h
    repeat ((conv => whnf); first | refine sdO ?_ | refine nlO ?_ | refine goA ?_ | refine goB ?_ | (apply Exists.intro; (repeat apply Exists.intro); refine caO ?_) | (refine Or.inl ?_; (conv => whnf); (repeat apply Exists.intro); refine caO ?_) | (refine Or.inr ?_; (conv => whnf); first | ((repeat apply Exists.intro); refine caO ?_) | (refine Or.inl ?_; (conv => whnf); (repeat apply Exists.intro); refine caO ?_) | (refine Or.inr ?_; (conv => whnf); (repeat apply Exists.intro); refine caO ?_)))
    all_goals try (conv => whnf)
    refine Again.mk (k + 1 : Nat) (show k + 1 ≤ l by omega) trivial (show l - (k + 1) < l - k by omega) ?_
    ((repeat' ((conv => whnf) <;> first | exact trivial | (with_reducible first | refine And.intro ?_ ?_ | refine rows_lt1 ?_ | refine rows_lt2 ?_ ?_ | refine rows_lt3 ?_ ?_ ?_ | refine rows_lt4 ?_ ?_ ?_ ?_ | refine rows_lt5 ?_ ?_ ?_ ?_ ?_ | refine ints_lt1 ?_ | refine ints_lt2 ?_ ?_ | refine ints_lt3 ?_ ?_ ?_ | refine rows_lt7 ?_ ?_ ?_ ?_ ?_ ?_ ?_ | refine aggs_lt1 ?_ | refine aggs_lt2 ?_ ?_ | refine aggs_lt3 ?_ ?_ ?_ | refine fun (_ : Nat) => ?_) | refine fun (_ : (_ : Nat) < _) => ?_ | exact rfl | exact Nat.le_of_ble_eq_true rfl | (change (_ : Nat) ≤ _; omega) | (change (_ : Nat) = _; omega) | (change (_ : Int) = _; omega))); (all_goals try (conv => whnf)))
    exact putF_step f o l v k _ _ h (by omega)
  · have h := of_decide_eq_false h
    obtain rfl : k = l := by omega
    repeat ((conv => whnf); first | refine sdO ?_ | refine nlO ?_ | refine goA ?_ | refine goB ?_ | (apply Exists.intro; (repeat apply Exists.intro); refine caO ?_) | (refine Or.inl ?_; (conv => whnf); (repeat apply Exists.intro); refine caO ?_) | (refine Or.inr ?_; (conv => whnf); first | ((repeat apply Exists.intro); refine caO ?_) | (refine Or.inl ?_; (conv => whnf); (repeat apply Exists.intro); refine caO ?_) | (refine Or.inr ?_; (conv => whnf); (repeat apply Exists.intro); refine caO ?_)))
    all_goals try (conv => whnf)
    refine ⟨some, ?_⟩
    ((repeat' ((conv => whnf) <;> first | exact trivial | (with_reducible first | refine And.intro ?_ ?_ | refine rows_lt1 ?_ | refine rows_lt2 ?_ ?_ | refine rows_lt3 ?_ ?_ ?_ | refine rows_lt4 ?_ ?_ ?_ ?_ | refine rows_lt5 ?_ ?_ ?_ ?_ ?_ | refine ints_lt1 ?_ | refine ints_lt2 ?_ ?_ | refine ints_lt3 ?_ ?_ ?_ | refine rows_lt7 ?_ ?_ ?_ ?_ ?_ ?_ ?_ | refine aggs_lt1 ?_ | refine aggs_lt2 ?_ ?_ | refine aggs_lt3 ?_ ?_ ?_ | refine fun (_ : Nat) => ?_) | refine fun (_ : (_ : Nat) < _) => ?_ | exact rfl | exact Nat.le_of_ble_eq_true rfl | (change (_ : Nat) ≤ _; omega) | (change (_ : Nat) = _; omega) | (change (_ : Int) = _; omega))); (all_goals try (conv => whnf)))
/-! ### Words and digests -/
def digF (w : Nat → BitVec 32) (k j : Nat) : BitVec 8 := if j < 4 * k then byt ((w (j / 4)).setWidth 64) (3 - j % 4) else 0
theorem digF_zero (w : Nat → BitVec 32) (j : Nat) : 0 = digF w 0 j := by unfold digF; rw [if_neg (by omega)]
theorem digF_step (w : Nat → BitVec 32) (k l j : Nat) (hl : l = 4) : putF (digF w k) (4 * k) l ((w k).setWidth 64) l j = digF w (k + 1) j := by
  subst hl
  unfold putF digF
  by_cases h : 4 * k + (4 - 4) ≤ j ∧ j < 4 * k + 4
  · rw [if_pos h, if_pos (by omega), show j / 4 = k by omega]
    congr 1; omega
  · rw [if_neg h]
    by_cases h2 : j < 4 * k
    · rw [if_pos h2, if_pos (by omega)]
    · rw [if_neg h2, if_neg (by omega)]
theorem digF_dig (w : Nat → BitVec 32) (j : Nat) (hj : j < 32) : digF w 8 j = at8 (dig (lw 8 w)) j := by
  have : ∀ j : Nat, j < 32 → at8 (dig (lw 8 w)) j = byt ((w (j / 4)).setWidth 64) (3 - j % 4) := by
    intro j hj
    have e : lw 8 w = [w 0, w 1, w 2, w 3, w 4, w 5, w 6, w 7] := rfl
    rw [e]
    rcases j with _ | _ | _ | _ | _ | _ | _ | _ | _ | _ | _ | _ | _ | _ | _ | _ | _ | _ | _ | _ | _ | _ | _ | _ | _ | _ | _ | _ | _ | _ | _ | _ | j
    all_goals first | rfl | omega
  rw [this j hj]; unfold digF; rw [if_pos (by omega)]
attribute [irreducible] digF
def C_sha_Digest : SpecP := fun A K => ∃ w, A [arr32 8 w] ∧ K (arr8 32 (at8 (dig (lw 8 w))))
def L_sha_Digest (w : Nat → BitVec 32) : LI := ⟨Nat, (· ≤ 8), fun k => [(2, .ptr (ty 66) 16 []), (3, .ptr (ty 66) 1032 []), (6, arr32 8 w), (7, .nat k)],
  fun k => [(16, .var (ty 66) (arr8 32 fun _ => 0)), (1032, .var (ty 66) (arr8 32 (digF w k)))], fun k => 8 - k, some, some⟩
theorem g_sha_Digest : Gd 59 (pureP ty C_sha_Digest) := by
  refine goodP (E := PG [(69, mutF ty [true, false] C_sha_put)]) (pgOK ⟨g_sha_put, trivial⟩) mixes Tryd.func59 (by kernel_rfl) (by kernel_rfl) ?_
  rintro A K ⟨w, hA, hK⟩
  refine ⟨_, _, loops [(3, L_sha_Digest w)], hA, hK, by kernel_rfl, fun _ _ => trivial, ?_⟩
  repeat ((conv => whnf); first | refine sdO ?_ | refine nlO ?_ | refine goA ?_ | refine goB ?_ | (apply Exists.intro; (repeat apply Exists.intro); refine caO ?_) | (refine Or.inl ?_; (conv => whnf); (repeat apply Exists.intro); refine caO ?_) | (refine Or.inr ?_; (conv => whnf); first | ((repeat apply Exists.intro); refine caO ?_) | (refine Or.inl ?_; (conv => whnf); (repeat apply Exists.intro); refine caO ?_) | (refine Or.inr ?_; (conv => whnf); (repeat apply Exists.intro); refine caO ?_)))
  all_goals try (conv => whnf)
  refine Exists.intro (fun _ => True) (And.intro (Enter.mk (0 : Nat) (Nat.zero_le 8) trivial ?_) (fun (k : Nat) (hk : k ≤ 8) _ => ?_))
  · ((repeat' ((conv => whnf) <;> first | exact trivial | (with_reducible first | refine And.intro ?_ ?_ | refine rows_lt1 ?_ | refine rows_lt2 ?_ ?_ | refine rows_lt3 ?_ ?_ ?_ | refine rows_lt4 ?_ ?_ ?_ ?_ | refine rows_lt5 ?_ ?_ ?_ ?_ ?_ | refine ints_lt1 ?_ | refine ints_lt2 ?_ ?_ | refine ints_lt3 ?_ ?_ ?_ | refine rows_lt7 ?_ ?_ ?_ ?_ ?_ ?_ ?_ | refine aggs_lt1 ?_ | refine aggs_lt2 ?_ ?_ | refine aggs_lt3 ?_ ?_ ?_ | refine fun (_ : Nat) => ?_) | refine fun (_ : (_ : Nat) < _) => ?_ | exact rfl | exact Nat.le_of_ble_eq_true rfl | (change (_ : Nat) ≤ _; omega) | (change (_ : Nat) = _; omega) | (change (_ : Int) = _; omega))); (all_goals try (conv => whnf)))
    exact digF_zero _ _
  repeat ((conv => whnf); first | refine sdO ?_ | refine nlO ?_ | refine goA ?_ | refine goB ?_ | (apply Exists.intro; (repeat apply Exists.intro); refine caO ?_) | (refine Or.inl ?_; (conv => whnf); (repeat apply Exists.intro); refine caO ?_) | (refine Or.inr ?_; (conv => whnf); first | ((repeat apply Exists.intro); refine caO ?_) | (refine Or.inl ?_; (conv => whnf); (repeat apply Exists.intro); refine caO ?_) | (refine Or.inr ?_; (conv => whnf); (repeat apply Exists.intro); refine caO ?_)))
  all_goals try (conv => whnf)
  refine And.intro (fun h => ?_) (fun h => ?_)
  · have h := of_decide_eq_true h
    repeat ((conv => whnf); first | refine sdO ?_ | refine nlO ?_ | refine goA ?_ | refine goB ?_ | (apply Exists.intro; (repeat apply Exists.intro); refine caO ?_) | (refine Or.inl ?_; (conv => whnf); (repeat apply Exists.intro); refine caO ?_) | (refine Or.inr ?_; (conv => whnf); first | ((repeat apply Exists.intro); refine caO ?_) | (refine Or.inl ?_; (conv => whnf); (repeat apply Exists.intro); refine caO ?_) | (refine Or.inr ?_; (conv => whnf); (repeat apply Exists.intro); refine caO ?_)))
    all_goals try (conv => whnf)
    refine Again.mk (k + 1 : Nat) (show k + 1 ≤ 8 by omega) trivial (show 8 - (k + 1) < 8 - k by omega) ?_
    ((repeat' ((conv => whnf) <;> first | exact trivial | (with_reducible first | refine And.intro ?_ ?_ | refine rows_lt1 ?_ | refine rows_lt2 ?_ ?_ | refine rows_lt3 ?_ ?_ ?_ | refine rows_lt4 ?_ ?_ ?_ ?_ | refine rows_lt5 ?_ ?_ ?_ ?_ ?_ | refine ints_lt1 ?_ | refine ints_lt2 ?_ ?_ | refine ints_lt3 ?_ ?_ ?_ | refine rows_lt7 ?_ ?_ ?_ ?_ ?_ ?_ ?_ | refine aggs_lt1 ?_ | refine aggs_lt2 ?_ ?_ | refine aggs_lt3 ?_ ?_ ?_ | refine fun (_ : Nat) => ?_) | refine fun (_ : (_ : Nat) < _) => ?_ | exact rfl | exact Nat.le_of_ble_eq_true rfl | (change (_ : Nat) ≤ _; omega) | (change (_ : Nat) = _; omega) | (change (_ : Int) = _; omega))); (all_goals try (conv => whnf)))
    exact digF_step w k _ _ (by simp only [Int.reduceToNat]; omega)
  · have h := of_decide_eq_false h
    obtain rfl : k = 8 := by omega
    repeat ((conv => whnf); first | refine sdO ?_ | refine nlO ?_ | refine goA ?_ | refine goB ?_ | (apply Exists.intro; (repeat apply Exists.intro); refine caO ?_) | (refine Or.inl ?_; (conv => whnf); (repeat apply Exists.intro); refine caO ?_) | (refine Or.inr ?_; (conv => whnf); first | ((repeat apply Exists.intro); refine caO ?_) | (refine Or.inl ?_; (conv => whnf); (repeat apply Exists.intro); refine caO ?_) | (refine Or.inr ?_; (conv => whnf); (repeat apply Exists.intro); refine caO ?_)))
    all_goals try (conv => whnf)
    intro j hj
    conv => whnf
    exact digF_dig w j hj
def wdF (d : Nat → BitVec 8) (k j : Nat) : BitVec 32 := if j < k then wAt d j else 0
theorem wdF_zero (d : Nat → BitVec 8) (j : Nat) : 0 = wdF d 0 j := by unfold wdF; rw [if_neg (by omega)]
theorem wdF_step (d : Nat → BitVec 8) (k j : Nat) : (if j = k then wordAt (fun i => d (4 * k + i)) 0 else wdF d k j) = wdF d (k + 1) j := by
  unfold wdF
  by_cases h : j = k
  · subst h; rw [if_pos rfl, if_pos (by omega)]; rfl
  · rw [if_neg h]
    by_cases h2 : j < k
    · rw [if_pos h2, if_pos (by omega)]
    · rw [if_neg h2, if_neg (by omega)]
theorem wdF_all (d : Nat → BitVec 8) (j : Nat) (hj : j < 8) : wdF d 8 j = at32 (L1 (lw 32 d) 8) j := by
  unfold wdF
  rw [if_pos hj]
  simp only [at32, L1, List.getD_eq_getElem?_getD, List.getElem?_map, List.getElem?_range hj, Option.map_some, Option.getD_some]
  unfold wAt wat
  rw [at8_lw _ _ _ (by omega), at8_lw _ _ _ (by omega), at8_lw _ _ _ (by omega), at8_lw _ _ _ (by omega)]
attribute [irreducible] wdF
/-! ### The padding -/
theorem at8_be (v : BitVec 64) (n i : Nat) (h : i < n) : at8 (be v n) i = byt v (n - 1 - i) := by
  simp [at8, be, List.getD, h]
theorem pad_put (n : BitVec 64) (z j : Nat) (hz : padZs n = z) (hj : j < z + 9) : putF (fun x => if x = 0 then 128#8 else 0#8) (z + 1) 8 (8#64 * n) 8 j = at8 (padL n) j := by
  unfold putF
  by_cases h : z + 1 + (8 - 8) ≤ j ∧ j < z + 1 + 8
  · rw [if_pos h]
    have := padL_end n (j - (z + 1))
    rw [hz, show z + 1 + (j - (z + 1)) = j by omega] at this
    rw [this, at8_be _ _ _ (by omega)]
    congr 1; omega
  · rw [if_neg h]
    by_cases h0 : j = 0
    · subst h0; exact (padL_at0 n).symm
    · show (if j = 0 then 128#8 else 0#8) = _
      rw [if_neg h0]
      have := padL_mid n (j - 1) (by omega)
      rw [show 1 + (j - 1) = j by omega] at this
      exact this.symm
def C_sha_Pad : SpecP := fun A K => ∃ n, A [.u64 n] ∧ K (bsf (padZs n + 9) (at8 (padL n)))
theorem g_sha_Pad : Gd 60 (pureP ty C_sha_Pad) := by
  refine goodP (E := PG [(69, mutF ty [true, false] C_sha_put_g)]) (pgOK ⟨g_sha_put_g, trivial⟩) mixes Tryd.func60 (by kernel_rfl) (by kernel_rfl) ?_
  rintro A K ⟨n, hA, hK⟩
  refine ⟨_, _, fun _ => none, hA, hK, by kernel_rfl, ⟨rfl, fun _ _ => trivial⟩, ?_⟩
  have hz : padZs n < 64 := by unfold padZs; omega
  have e0 : ((BitVec.ofInt 64 55 - n) % BitVec.ofInt 64 64).toNat = padZs n := by
    unfold padZs; rw [BitVec.toNat_umod]; rfl
  have e1 : (BitVec.ofInt 64 1 + (BitVec.ofInt 64 55 - n) % BitVec.ofInt 64 64).toNat = padZs n + 1 := by
    rw [BitVec.toNat_add, e0]; simp only [BitVec.reduceOfInt, BitVec.reduceToNat]; omega
  have e2 : (BitVec.ofInt 64 1 + (BitVec.ofInt 64 55 - n) % BitVec.ofInt 64 64 + BitVec.ofInt 64 8).toNat = padZs n + 9 := by
    rw [BitVec.toNat_add, e1]; simp only [BitVec.reduceOfInt, BitVec.reduceToNat]; omega
  repeat ((conv => whnf); first | refine sdO ?_ | refine nlO ?_ | refine goA ?_ | refine goB ?_ | (apply Exists.intro; (repeat apply Exists.intro); refine caO ?_) | (refine Or.inl ?_; (conv => whnf); (repeat apply Exists.intro); refine caO ?_) | (refine Or.inr ?_; (conv => whnf); first | ((repeat apply Exists.intro); refine caO ?_) | (refine Or.inl ?_; (conv => whnf); (repeat apply Exists.intro); refine caO ?_) | (refine Or.inr ?_; (conv => whnf); (repeat apply Exists.intro); refine caO ?_)))
  all_goals try (conv => whnf)
  ((repeat' ((conv => whnf) <;> first | exact trivial | (with_reducible first | refine And.intro ?_ ?_ | refine rows_lt1 ?_ | refine rows_lt2 ?_ ?_ | refine rows_lt3 ?_ ?_ ?_ | refine rows_lt4 ?_ ?_ ?_ ?_ | refine rows_lt5 ?_ ?_ ?_ ?_ ?_ | refine ints_lt1 ?_ | refine ints_lt2 ?_ ?_ | refine ints_lt3 ?_ ?_ ?_ | refine rows_lt7 ?_ ?_ ?_ ?_ ?_ ?_ ?_ | refine aggs_lt1 ?_ | refine aggs_lt2 ?_ ?_ | refine aggs_lt3 ?_ ?_ ?_ | refine fun (_ : Nat) => ?_) | refine fun (_ : (_ : Nat) < _) => ?_ | exact rfl | exact Nat.le_of_ble_eq_true rfl | (change (_ : Nat) ≤ _; omega) | (change (_ : Nat) = _; omega) | (change (_ : Int) = _; omega))); (all_goals try (conv => whnf)))
  rename_i j hj
  rw [e2] at hj
  rw [e1, e2, show padZs n + 9 - (padZs n + 1) = 8 by omega]
  exact pad_put n _ j rfl hj
end Go.Proofs.YtldlleoabbcpdaaDoor
