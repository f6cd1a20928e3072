/- Modes: the law of reach. -/
import Derived.Test.YtaajedeapmphpaaA20
namespace Go.Proofs.Ytaajedeapmphpaa
open Go.RowKit
set_option maxRecDepth 100000
set_option maxHeartbeats 20000000
/-- Joined texts: of one. -/
def C_r1_Join1 : SpecR := fun A K => ∃ l p, A [.imm false (.sl 5) 1 (fun _ => bsl l p)] ∧ l ≤ 1000000 ∧ K (.gsl 5 8 l) [(8, .grow 5 l (bys p))]
def L_r1_Join1 (l : Nat) (p : Nat → BitVec 8) : LI := ⟨Nat, (· ≤ 1), fun k => [(3, .gsl 5 8 (l * k)), (6, .imm false (.sl 5) 1 (fun _ => bsl l p)), (7, .nat 1), (8, .nat k)],
  fun k => [(8, .grow 5 (l * k) (bys p))], fun k => 1 - k, noK, some⟩
theorem g_r1_Join1 : Gd 14 (pureR ty C_r1_Join1) := by
  refine goodR (E := PG []) (pgOK trivial) mixes Try.func14 (by kernel_rfl) (by kernel_rfl) ?_
  rintro A K ⟨l, p, hA, hl, hK⟩
  refine ⟨_, _, _, loops [(3, L_r1_Join1 l p)], hA, hK, by kernel_rfl, by kernel_rfl, ⟨fun _ _ => trivial, trivial⟩, trivial, ?_⟩
  repeat (first | ((conv => whnf); refine And.intro ?_ ?_; exact sideOf) | ((conv => whnf); refine And.intro (fun _ => ?_) (fun h => nomatch (show true = false from h))) | ((conv => whnf); refine And.intro (fun h => nomatch (show false = true from h)) (fun _ => ?_)) | ((conv => whnf); first | (apply Exists.intro; (repeat apply Exists.intro); refine And.intro ?_ ?_; exact leOf) | (refine Or.inl ?_; (conv => whnf); (repeat apply Exists.intro); refine And.intro ?_ ?_; exact leOf) | (refine Or.inr ?_; (conv => whnf); first | ((repeat apply Exists.intro); refine And.intro ?_ ?_; exact leOf) | (refine Or.inl ?_; (conv => whnf); (repeat apply Exists.intro); refine And.intro ?_ ?_; exact leOf) | (refine Or.inr ?_; (conv => whnf); (repeat apply Exists.intro); refine And.intro ?_ ?_; exact leOf))))
  all_goals try (conv => whnf)
  refine Exists.intro (fun _ => True) (And.intro (Enter.mk (0 : Nat) (Nat.zero_le _) trivial ?_) (fun (k : Nat) (hk : k ≤ 1) _ => ?_))
  · ((repeat' ((conv => whnf) <;> first | exact trivial | (with_reducible first | refine And.intro ?_ ?_ | refine rows_lt1 ?_ | refine rows_lt2 ?_ ?_ | refine rows_lt3 ?_ ?_ ?_ | refine rows_lt4 ?_ ?_ ?_ ?_ | refine rows_lt5 ?_ ?_ ?_ ?_ ?_ | refine aggs_lt1 ?_ | refine aggs_lt2 ?_ ?_ | refine aggs_lt3 ?_ ?_ ?_ | refine fun (_ : Nat) => ?_) | refine fun (_ : (_ : Nat) < _) => ?_ | exact rfl | exact Nat.le_of_ble_eq_true rfl | (change (_ : Nat) ≤ _; omega) | (change (_ : Nat) = _; omega) | (change (_ : Int) = _; omega))); (all_goals try (conv => whnf)))
  repeat (first | ((conv => whnf); refine And.intro ?_ ?_; exact sideOf) | ((conv => whnf); refine And.intro (fun _ => ?_) (fun h => nomatch (show true = false from h))) | ((conv => whnf); refine And.intro (fun h => nomatch (show false = true from h)) (fun _ => ?_)) | ((conv => whnf); first | (apply Exists.intro; (repeat apply Exists.intro); refine And.intro ?_ ?_; exact leOf) | (refine Or.inl ?_; (conv => whnf); (repeat apply Exists.intro); refine And.intro ?_ ?_; exact leOf) | (refine Or.inr ?_; (conv => whnf); first | ((repeat apply Exists.intro); refine And.intro ?_ ?_; exact leOf) | (refine Or.inl ?_; (conv => whnf); (repeat apply Exists.intro); refine And.intro ?_ ?_; exact leOf) | (refine Or.inr ?_; (conv => whnf); (repeat apply Exists.intro); refine And.intro ?_ ?_; exact leOf))))
  all_goals try (conv => whnf)
  refine And.intro (fun h => ?_) (fun h => ?_)
  · have h := of_decide_eq_true h
    have h := show k < 1 from h
    obtain rfl : k = 0 := by omega
    repeat (first | ((conv => whnf); refine And.intro ?_ ?_; exact sideOf) | ((conv => whnf); refine And.intro (fun _ => ?_) (fun h => nomatch (show true = false from h))) | ((conv => whnf); refine And.intro (fun h => nomatch (show false = true from h)) (fun _ => ?_)) | ((conv => whnf); first | (apply Exists.intro; (repeat apply Exists.intro); refine And.intro ?_ ?_; exact leOf) | (refine Or.inl ?_; (conv => whnf); (repeat apply Exists.intro); refine And.intro ?_ ?_; exact leOf) | (refine Or.inr ?_; (conv => whnf); first | ((repeat apply Exists.intro); refine And.intro ?_ ?_; exact leOf) | (refine Or.inl ?_; (conv => whnf); (repeat apply Exists.intro); refine And.intro ?_ ?_; exact leOf) | (refine Or.inr ?_; (conv => whnf); (repeat apply Exists.intro); refine And.intro ?_ ?_; exact leOf))))
    all_goals try (conv => whnf)
    refine Again.mk (0 + 1 : Nat) (show 0 + 1 ≤ 1 by omega) trivial (show 1 - (0 + 1) < 1 - 0 by omega) ?_
    ((repeat' ((conv => whnf) <;> first | exact trivial | (with_reducible first | refine And.intro ?_ ?_ | refine rows_lt1 ?_ | refine rows_lt2 ?_ ?_ | refine rows_lt3 ?_ ?_ ?_ | refine rows_lt4 ?_ ?_ ?_ ?_ | refine rows_lt5 ?_ ?_ ?_ ?_ ?_ | refine aggs_lt1 ?_ | refine aggs_lt2 ?_ ?_ | refine aggs_lt3 ?_ ?_ ?_ | refine fun (_ : Nat) => ?_) | refine fun (_ : (_ : Nat) < _) => ?_ | exact rfl | exact Nat.le_of_ble_eq_true rfl | (change (_ : Nat) ≤ _; omega) | (change (_ : Nat) = _; omega) | (change (_ : Int) = _; omega))); (all_goals try (conv => whnf)))
  · have h := of_decide_eq_false h
    have h := show ¬ k < 1 from h
    obtain rfl : k = 1 := by omega
    repeat (first | ((conv => whnf); refine And.intro ?_ ?_; exact sideOf) | ((conv => whnf); refine And.intro (fun _ => ?_) (fun h => nomatch (show true = false from h))) | ((conv => whnf); refine And.intro (fun h => nomatch (show false = true from h)) (fun _ => ?_)) | ((conv => whnf); first | (apply Exists.intro; (repeat apply Exists.intro); refine And.intro ?_ ?_; exact leOf) | (refine Or.inl ?_; (conv => whnf); (repeat apply Exists.intro); refine And.intro ?_ ?_; exact leOf) | (refine Or.inr ?_; (conv => whnf); first | ((repeat apply Exists.intro); refine And.intro ?_ ?_; exact leOf) | (refine Or.inl ?_; (conv => whnf); (repeat apply Exists.intro); refine And.intro ?_ ?_; exact leOf) | (refine Or.inr ?_; (conv => whnf); (repeat apply Exists.intro); refine And.intro ?_ ?_; exact leOf))))
    all_goals try (conv => whnf)
    refine ⟨some, ?_⟩
    ((repeat' ((conv => whnf) <;> first | exact trivial | (with_reducible first | refine And.intro ?_ ?_ | refine rows_lt1 ?_ | refine rows_lt2 ?_ ?_ | refine rows_lt3 ?_ ?_ ?_ | refine rows_lt4 ?_ ?_ ?_ ?_ | refine rows_lt5 ?_ ?_ ?_ ?_ ?_ | refine aggs_lt1 ?_ | refine aggs_lt2 ?_ ?_ | refine aggs_lt3 ?_ ?_ ?_ | refine fun (_ : Nat) => ?_) | refine fun (_ : (_ : Nat) < _) => ?_ | exact rfl | exact Nat.le_of_ble_eq_true rfl | (change (_ : Nat) ≤ _; omega) | (change (_ : Nat) = _; omega) | (change (_ : Int) = _; omega))); (all_goals try (conv => whnf)))
/-! ### What a turned byte reaches -/
def qF (p : Nat → BitVec 8) (i : Nat) (t : BitVec 8) (j : Nat) : BitVec 8 := if j = i then p i ^^^ t else p j
theorem qF_off (p : Nat → BitVec 8) (i : Nat) (t : BitVec 8) (j : Nat) (h : t = 0#8 ∨ j ≠ i / 16) : q16 (blk p j) (blk (qF p i t) j) := fun x hx => by
  unfold blk qF
  by_cases e : 16 * j + x = i
  · rw [if_pos e]
    rcases h with h | h
    · rw [h, BitVec.xor_zero, e]
    · omega
  · rw [if_neg e]
theorem mch_eq (how : Nat) (bk : Bool) (nr : Nat) (w : Nat → BitVec 32) (v p q : Nat → BitVec 8) : ∀ i, (∀ t, t < i → q16 (blk p t) (blk q t)) → q16 (mch how bk nr w v p i) (mch how bk nr w v q i)
  | 0, _ => q16_rfl _
  | i + 1, h => by
    rw [mch, mch]
    exact (mstp_c (mch_eq how bk nr w v p q i fun t ht => h t (by omega)) (h i (by omega))).1
theorem mch_free (how nr : Nat) (w : Nat → BitVec 32) (v p q : Nat → BitVec 8) (h1 : how ≠ 1) : ∀ i, mch how false nr w v p i = mch how false nr w v q i
  | 0 => rfl
  | i + 1 => by
    rw [mch, mch, mch_free how nr w v p q h1 i]
    by_cases h2 : how = 2
    · subst h2; rw [st_t, st_t]
    · rw [st_e _ _ _ _ _ h1 h2, st_e _ _ _ _ _ h1 h2]
theorem mbl_q (how : Nat) (bk : Bool) (nr : Nat) (w : Nat → BitVec 32) (v p q : Nat → BitVec 8) (j : Nat) (h : q16 (mch how bk nr w v p j) (mch how bk nr w v q j)) (hb : q16 (blk p j) (blk q j)) :
    ∀ x, x < 16 → mout how bk nr w v p (16 * j + x) = mout how bk nr w v q (16 * j + x) := fun x hx => by
  rw [mout_blk _ _ _ _ _ _ _ _ hx, mout_blk _ _ _ _ _ _ _ _ hx]
  exact (mstp_c h hb).2 x hx
theorem reach_same (how nr : Nat) (w : Nat → BitVec 32) (v p : Nat → BitVec 8) (i : Nat) (t : BitVec 8) (j : Nat) (h : t = 0#8 ∨ j < i / 16 ∨ (j ≠ i / 16 ∧ how ≠ 1)) :
    ∀ x, x < 16 → mout how false nr w v p (16 * j + x) = mout how false nr w v (qF p i t) (16 * j + x) := by
  rcases h with h | h | h
  · exact mbl_q _ _ _ _ _ _ _ _ (mch_eq _ _ _ _ _ _ _ _ fun s _ => qF_off _ _ _ _ (.inl h)) (qF_off _ _ _ _ (.inl h))
  · exact mbl_q _ _ _ _ _ _ _ _ (mch_eq _ _ _ _ _ _ _ _ fun s hs => qF_off _ _ _ _ (.inr (by omega))) (qF_off _ _ _ _ (.inr (by omega)))
  · exact mbl_q _ _ _ _ _ _ _ _ (by rw [mch_free how nr w v p (qF p i t) h.2 j]; exact q16_rfl _) (qF_off _ _ _ _ (.inr h.1))
theorem xor_r {a b c : BitVec 8} (h : a ^^^ c = b ^^^ c) : a = b := by
  rw [← BitVec.xor_zero (x := a), ← BitVec.xor_self (x := c), ← BitVec.xor_assoc, h, BitVec.xor_assoc, BitVec.xor_self, BitVec.xor_zero]
theorem xor_own {a t : BitVec 8} (h : a = a ^^^ t) : t = 0#8 := by
  have h2 : a ^^^ a = a ^^^ (a ^^^ t) := congrArg (a ^^^ ·) h
  rw [← BitVec.xor_assoc, BitVec.xor_self, BitVec.zero_xor] at h2
  exact h2.symm
theorem enc_inj {nr : Nat} {w : Nat → BitVec 32} {f g : Nat → BitVec 8} (h : q16 (enc nr w f) (enc nr w g)) : q16 f g := q16_trans (q16_symm (dec_enc nr w f)) (q16_trans (dec_c h) (dec_enc nr w g))
theorem mstp_inj {how nr : Nat} {w : Nat → BitVec 32} {v v' b b' : Nat → BitVec 8} (hv : q16 v v') (h : q16 (mstp how false nr w v b).2 (mstp how false nr w v' b').2) : q16 b b' := by
  by_cases h1 : how = 1
  · subst h1
    rw [st_f, st_f] at h
    have := enc_inj h
    intro x hx
    have e := this x hx
    have e : b x ^^^ v x = b' x ^^^ v' x := e
    rw [hv x hx] at e
    exact xor_r e
  by_cases h2 : how = 2
  · subst h2
    intro x hx
    have e := h x hx
    have e : b x ^^^ enc nr w v x = b' x ^^^ enc nr w v' x := e
    rw [enc_c hv x hx] at e
    exact xor_r e
  · rw [st_e _ _ _ _ _ h1 h2, st_e _ _ _ _ _ h1 h2] at h
    exact enc_inj h
theorem reach_own (how nr : Nat) (w : Nat → BitVec 32) (v p : Nat → BitVec 8) (i : Nat) (t : BitVec 8) (j : Nat) (ht : t ≠ 0#8) (hj : j = i / 16)
    (h : ∀ x, x < 16 → mout how false nr w v p (16 * j + x) = mout how false nr w v (qF p i t) (16 * j + x)) : False := by
  have hb : q16 (blk p j) (blk (qF p i t) j) := by
    refine mstp_inj (how := how) (nr := nr) (w := w) (mch_eq how false nr w v p (qF p i t) j fun s hs => qF_off _ _ _ _ (.inr (by omega))) fun x hx => ?_
    have := h x hx
    rw [mout_blk _ _ _ _ _ _ _ _ hx, mout_blk _ _ _ _ _ _ _ _ hx] at this
    exact this
  have e := hb (i % 16) (Nat.mod_lt _ (by omega))
  unfold blk qF at e
  rw [show 16 * j + i % 16 = i by omega, if_pos rfl] at e
  exact ht (xor_own e)
end Go.Proofs.Ytaajedeapmphpaa
