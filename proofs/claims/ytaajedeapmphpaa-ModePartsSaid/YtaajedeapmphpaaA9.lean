/- AES: the reference's field. -/
import Derived.Test.YtaajedeapmphpaaA8
namespace Go.Proofs.Ytaajedeapmphpaa
open Go.RowKit
set_option maxRecDepth 100000
set_option maxHeartbeats 20000000
def r3p (a b : BitVec 8) : Nat → Nat
  | 0 => 0
  | k + 1 => if (b >>> k) % 2#8 = 1#8 then r3p a b k ^^^ (a.toNat * 2 ^ k) else r3p a b k
def r3q (p : Nat) : Nat → Nat
  | 0 => p
  | n + 1 => if r3q p n / 2 ^ (14 - n) % 2 = 1 then r3q p n ^^^ (283 * 2 ^ (14 - n - 8)) else r3q p n
def red (p : Nat) : BitVec 8 := BitVec.ofNat 8 (r3q p 7)
theorem bit_xor (p q i : Nat) : ((p ^^^ q) / 2 ^ i % 2 = 1) ↔ ¬ ((p / 2 ^ i % 2 = 1) ↔ (q / 2 ^ i % 2 = 1)) := by
  have h := Nat.testBit_xor p q i
  rw [Nat.testBit_eq_decide_div_mod_eq, Nat.testBit_eq_decide_div_mod_eq, Nat.testBit_eq_decide_div_mod_eq] at h
  by_cases h1 : p / 2 ^ i % 2 = 1 <;> by_cases h2 : q / 2 ^ i % 2 = 1 <;> simp only [h1, h2, decide_true, decide_false] at h ⊢ <;> simpa using h
theorem r3q_xor (p q : Nat) : ∀ n, r3q (p ^^^ q) n = r3q p n ^^^ r3q q n
  | 0 => rfl
  | n + 1 => by
    have h := bit_xor (r3q p n) (r3q q n) (14 - n)
    rw [r3q, r3q, r3q, r3q_xor p q n]
    by_cases h1 : r3q p n / 2 ^ (14 - n) % 2 = 1 <;> by_cases h2 : r3q q n / 2 ^ (14 - n) % 2 = 1
    · rw [if_neg (by rw [h]; simp [h1, h2]), if_pos h1, if_pos h2]
      rw [show (r3q p n ^^^ 283 * 2 ^ (14 - n - 8)) ^^^ (r3q q n ^^^ 283 * 2 ^ (14 - n - 8)) = (r3q p n ^^^ r3q q n) ^^^ ((283 * 2 ^ (14 - n - 8)) ^^^ (283 * 2 ^ (14 - n - 8))) by ac_rfl, Nat.xor_self, Nat.xor_zero]
    · rw [if_pos (by rw [h]; simp [h1, h2]), if_pos h1, if_neg h2]; ac_rfl
    · rw [if_pos (by rw [h]; simp [h1, h2]), if_neg h1, if_pos h2]; ac_rfl
    · rw [if_neg (by rw [h]; simp [h1, h2]), if_neg h1, if_neg h2]
theorem red_xor (p q : Nat) : red (p ^^^ q) = red p ^^^ red q := by
  unfold red
  rw [r3q_xor]
  apply BitVec.eq_of_toNat_eq
  rw [BitVec.toNat_xor, BitVec.toNat_ofNat, BitVec.toNat_ofNat, BitVec.toNat_ofNat, Nat.xor_mod_two_pow]
theorem red_shift0 : ∀ (k : Fin 8) (a : Fin 256), red (a.val * 2 ^ k.val) = xtN (BitVec.ofFin a) k.val := by decide +kernel
theorem red_shift (a : BitVec 8) (k : Nat) (hk : k < 8) : red (a.toNat * 2 ^ k) = xtN a k := red_shift0 ⟨k, hk⟩ a.toFin
theorem bit_and (x : BitVec 8) : (x % 2#8 = 1#8) ↔ (x &&& 1#8 ≠ 0#8) := all8 (p := fun x => (x % 2#8 = 1#8) ↔ (x &&& 1#8 ≠ 0#8)) (by decide +kernel) x
theorem red_r3p (a b : BitVec 8) : ∀ k, k ≤ 8 → red (r3p a b k) = mulN b a k
  | 0, _ => by rw [r3p, mulN]; decide
  | k + 1, h => by
    rw [r3p, mulN]
    by_cases hb : (b >>> k) % 2#8 = 1#8
    · rw [if_pos hb, if_pos ((bit_and _).1 hb), red_xor, red_r3p a b k (by omega), red_shift a k (by omega)]
    · rw [if_neg hb, if_neg (fun h => hb ((bit_and _).2 h)), red_r3p a b k (by omega)]
theorem red_gm (a b : BitVec 8) : red (r3p a b 8) = gm a b := by rw [red_r3p a b 8 (by omega), gm_comm]; rfl
theorem r3p_lt (a b : BitVec 8) : ∀ k, k ≤ 8 → r3p a b k < 2 ^ 16
  | 0, _ => by rw [r3p]; decide
  | k + 1, h => by
    rw [r3p]
    have ha := a.isLt
    have h1 : a.toNat * 2 ^ k < 2 ^ 16 := by
      have : 2 ^ k ≤ 2 ^ 7 := Nat.pow_le_pow_right (by omega) (by omega)
      have := Nat.mul_le_mul (Nat.le_of_lt_succ ha) this
      omega
    split
    · exact Nat.xor_lt_two_pow (r3p_lt a b k (by omega)) h1
    · exact r3p_lt a b k (by omega)
theorem r3q_lt (p : Nat) (hp : p < 2 ^ 16) : ∀ n, n ≤ 7 → r3q p n < 2 ^ 16
  | 0, _ => hp
  | n + 1, h => by
    rw [r3q]
    have h1 : 283 * 2 ^ (14 - n - 8) < 2 ^ 16 := by
      have : 2 ^ (14 - n - 8) ≤ 2 ^ 6 := Nat.pow_le_pow_right (by omega) (by omega)
      omega
    split
    · exact Nat.xor_lt_two_pow (r3q_lt p hp n (by omega)) h1
    · exact r3q_lt p hp n (by omega)
attribute [local irreducible] r3p r3q xt rol8 aff pw lg sbx isx gm sbN isN xtN mulN inv8
def C_r3_Mul : SpecP := fun A K => ∃ a b, A [.u8 a, .u8 b] ∧ K (.u8 (gm a b))
def L_r3_Mul_a (a b : BitVec 8) : LI := .plain Nat (· ≤ 8) (fun k => [(0, .u8 a), (1, .u8 b), (5, .nat (r3p a b k)), (6, .nat k)]) (fun k => 8 - k)
def L_r3_Mul_b (p : Nat) : LI := .plain Nat (· ≤ 7) (fun n => [(5, .nat (r3q p n)), (7, .int (14 - (n : Int)))]) (fun n => 7 - n)
theorem g_r3_Mul : Gd 40 (pureP ty C_r3_Mul) := by
  refine goodP (E := PG []) (pgOK trivial) mixes Try.func40 (by kernel_rfl) (by kernel_rfl) ?_
  rintro A K ⟨a, b, hA, hK⟩
  refine ⟨_, _, loops [(3, L_r3_Mul_a a b), (8, L_r3_Mul_b (r3p a b 8))], hA, hK, by kernel_rfl, trivial, ?_⟩
  repeat (first | ((conv => whnf); refine And.intro ?_ ?_; exact sideOf) | ((conv => whnf); refine And.intro (fun _ => ?_) (fun h => nomatch (show true = false from h))) | ((conv => whnf); refine And.intro (fun h => nomatch (show false = true from h)) (fun _ => ?_)) | ((conv => whnf); first | (apply Exists.intro; (repeat apply Exists.intro); refine And.intro ?_ ?_; exact leOf) | (refine Or.inl ?_; (conv => whnf); (repeat apply Exists.intro); refine And.intro ?_ ?_; exact leOf) | (refine Or.inr ?_; (conv => whnf); first | ((repeat apply Exists.intro); refine And.intro ?_ ?_; exact leOf) | (refine Or.inl ?_; (conv => whnf); (repeat apply Exists.intro); refine And.intro ?_ ?_; exact leOf) | (refine Or.inr ?_; (conv => whnf); (repeat apply Exists.intro); refine And.intro ?_ ?_; exact leOf))))
  all_goals try (conv => whnf)
  refine Exists.intro (fun _ => True) (And.intro (Enter.mk (0 : Nat) (Nat.zero_le _) trivial ?_) (fun (k : Nat) (hk : k ≤ 8) _ => ?_))
  · ((repeat' ((conv => whnf) <;> first | exact trivial | (with_reducible first | refine And.intro ?_ ?_ | refine rows_lt1 ?_ | refine rows_lt2 ?_ ?_ | refine rows_lt3 ?_ ?_ ?_ | refine rows_lt4 ?_ ?_ ?_ ?_ | refine rows_lt5 ?_ ?_ ?_ ?_ ?_ | refine aggs_lt1 ?_ | refine aggs_lt2 ?_ ?_ | refine aggs_lt3 ?_ ?_ ?_ | refine fun (_ : Nat) => ?_) | refine fun (_ : (_ : Nat) < _) => ?_ | exact rfl | exact Nat.le_of_ble_eq_true rfl | (change (_ : Nat) ≤ _; omega) | (change (_ : Nat) = _; omega) | (change (_ : Int) = _; omega))); (all_goals try (conv => whnf)))
    rw [r3p]; rfl
  repeat (first | ((conv => whnf); refine And.intro ?_ ?_; exact sideOf) | ((conv => whnf); refine And.intro (fun _ => ?_) (fun h => nomatch (show true = false from h))) | ((conv => whnf); refine And.intro (fun h => nomatch (show false = true from h)) (fun _ => ?_)) | ((conv => whnf); first | (apply Exists.intro; (repeat apply Exists.intro); refine And.intro ?_ ?_; exact leOf) | (refine Or.inl ?_; (conv => whnf); (repeat apply Exists.intro); refine And.intro ?_ ?_; exact leOf) | (refine Or.inr ?_; (conv => whnf); first | ((repeat apply Exists.intro); refine And.intro ?_ ?_; exact leOf) | (refine Or.inl ?_; (conv => whnf); (repeat apply Exists.intro); refine And.intro ?_ ?_; exact leOf) | (refine Or.inr ?_; (conv => whnf); (repeat apply Exists.intro); refine And.intro ?_ ?_; exact leOf))))
  all_goals try (conv => whnf)
  refine And.intro (fun h => ?_) (fun h => ?_)
  · have h := of_decide_eq_true h
    have h := show k < 8 from h
    have ha := a.isLt
    have hp := r3p_lt a b k hk
    have h2k : a.toNat * 2 ^ k ≤ 255 * 2 ^ 7 := Nat.mul_le_mul (by omega) (Nat.pow_le_pow_right (by omega) (by omega))
    repeat (first | ((conv => whnf); refine And.intro ?_ ?_; exact sideOf) | ((conv => whnf); refine And.intro (fun _ => ?_) (fun h => nomatch (show true = false from h))) | ((conv => whnf); refine And.intro (fun h => nomatch (show false = true from h)) (fun _ => ?_)) | ((conv => whnf); first | (apply Exists.intro; (repeat apply Exists.intro); refine And.intro ?_ ?_; exact leOf) | (refine Or.inl ?_; (conv => whnf); (repeat apply Exists.intro); refine And.intro ?_ ?_; exact leOf) | (refine Or.inr ?_; (conv => whnf); first | ((repeat apply Exists.intro); refine And.intro ?_ ?_; exact leOf) | (refine Or.inl ?_; (conv => whnf); (repeat apply Exists.intro); refine And.intro ?_ ?_; exact leOf) | (refine Or.inr ?_; (conv => whnf); (repeat apply Exists.intro); refine And.intro ?_ ?_; exact leOf))))
    all_goals try (conv => whnf)
    refine And.intro (fun h2 => ?_) (fun h2 => ?_)
    · have h2 : (b >>> k) % 2#8 = 1#8 := of_decide_eq_true h2
      repeat (first | ((conv => whnf); refine And.intro ?_ ?_; exact sideOf) | ((conv => whnf); refine And.intro (fun _ => ?_) (fun h => nomatch (show true = false from h))) | ((conv => whnf); refine And.intro (fun h => nomatch (show false = true from h)) (fun _ => ?_)) | ((conv => whnf); first | (apply Exists.intro; (repeat apply Exists.intro); refine And.intro ?_ ?_; exact leOf) | (refine Or.inl ?_; (conv => whnf); (repeat apply Exists.intro); refine And.intro ?_ ?_; exact leOf) | (refine Or.inr ?_; (conv => whnf); first | ((repeat apply Exists.intro); refine And.intro ?_ ?_; exact leOf) | (refine Or.inl ?_; (conv => whnf); (repeat apply Exists.intro); refine And.intro ?_ ?_; exact leOf) | (refine Or.inr ?_; (conv => whnf); (repeat apply Exists.intro); refine And.intro ?_ ?_; exact leOf))))
      all_goals try (conv => whnf)
      refine Again.mk (k + 1 : Nat) (show k + 1 ≤ 8 by omega) trivial (show 8 - (k + 1) < 8 - k by omega) ?_
      ((repeat' ((conv => whnf) <;> first | exact trivial | (with_reducible first | refine And.intro ?_ ?_ | refine rows_lt1 ?_ | refine rows_lt2 ?_ ?_ | refine rows_lt3 ?_ ?_ ?_ | refine rows_lt4 ?_ ?_ ?_ ?_ | refine rows_lt5 ?_ ?_ ?_ ?_ ?_ | refine aggs_lt1 ?_ | refine aggs_lt2 ?_ ?_ | refine aggs_lt3 ?_ ?_ ?_ | refine fun (_ : Nat) => ?_) | refine fun (_ : (_ : Nat) < _) => ?_ | exact rfl | exact Nat.le_of_ble_eq_true rfl | (change (_ : Nat) ≤ _; omega) | (change (_ : Nat) = _; omega) | (change (_ : Int) = _; omega))); (all_goals try (conv => whnf)))
      rw [r3p, if_pos h2]
    · have h2 : ¬ (b >>> k) % 2#8 = 1#8 := of_decide_eq_false h2
      repeat (first | ((conv => whnf); refine And.intro ?_ ?_; exact sideOf) | ((conv => whnf); refine And.intro (fun _ => ?_) (fun h => nomatch (show true = false from h))) | ((conv => whnf); refine And.intro (fun h => nomatch (show false = true from h)) (fun _ => ?_)) | ((conv => whnf); first | (apply Exists.intro; (repeat apply Exists.intro); refine And.intro ?_ ?_; exact leOf) | (refine Or.inl ?_; (conv => whnf); (repeat apply Exists.intro); refine And.intro ?_ ?_; exact leOf) | (refine Or.inr ?_; (conv => whnf); first | ((repeat apply Exists.intro); refine And.intro ?_ ?_; exact leOf) | (refine Or.inl ?_; (conv => whnf); (repeat apply Exists.intro); refine And.intro ?_ ?_; exact leOf) | (refine Or.inr ?_; (conv => whnf); (repeat apply Exists.intro); refine And.intro ?_ ?_; exact leOf))))
      all_goals try (conv => whnf)
      refine Again.mk (k + 1 : Nat) (show k + 1 ≤ 8 by omega) trivial (show 8 - (k + 1) < 8 - k by omega) ?_
      ((repeat' ((conv => whnf) <;> first | exact trivial | (with_reducible first | refine And.intro ?_ ?_ | refine rows_lt1 ?_ | refine rows_lt2 ?_ ?_ | refine rows_lt3 ?_ ?_ ?_ | refine rows_lt4 ?_ ?_ ?_ ?_ | refine rows_lt5 ?_ ?_ ?_ ?_ ?_ | refine aggs_lt1 ?_ | refine aggs_lt2 ?_ ?_ | refine aggs_lt3 ?_ ?_ ?_ | refine fun (_ : Nat) => ?_) | refine fun (_ : (_ : Nat) < _) => ?_ | exact rfl | exact Nat.le_of_ble_eq_true rfl | (change (_ : Nat) ≤ _; omega) | (change (_ : Nat) = _; omega) | (change (_ : Int) = _; omega))); (all_goals try (conv => whnf)))
      rw [r3p, if_neg h2]
  · have h := of_decide_eq_false h
    obtain rfl : k = 8 := by have h := show ¬ k < 8 from h; omega
    repeat (first | ((conv => whnf); refine And.intro ?_ ?_; exact sideOf) | ((conv => whnf); refine And.intro (fun _ => ?_) (fun h => nomatch (show true = false from h))) | ((conv => whnf); refine And.intro (fun h => nomatch (show false = true from h)) (fun _ => ?_)) | ((conv => whnf); first | (apply Exists.intro; (repeat apply Exists.intro); refine And.intro ?_ ?_; exact leOf) | (refine Or.inl ?_; (conv => whnf); (repeat apply Exists.intro); refine And.intro ?_ ?_; exact leOf) | (refine Or.inr ?_; (conv => whnf); first | ((repeat apply Exists.intro); refine And.intro ?_ ?_; exact leOf) | (refine Or.inl ?_; (conv => whnf); (repeat apply Exists.intro); refine And.intro ?_ ?_; exact leOf) | (refine Or.inr ?_; (conv => whnf); (repeat apply Exists.intro); refine And.intro ?_ ?_; exact leOf))))
    all_goals try (conv => whnf)
    refine Exists.intro (fun _ => True) (And.intro (Enter.mk (0 : Nat) (Nat.zero_le _) trivial ?_) (fun (n : Nat) (hn : n ≤ 7) _ => ?_))
    · ((repeat' ((conv => whnf) <;> first | exact trivial | (with_reducible first | refine And.intro ?_ ?_ | refine rows_lt1 ?_ | refine rows_lt2 ?_ ?_ | refine rows_lt3 ?_ ?_ ?_ | refine rows_lt4 ?_ ?_ ?_ ?_ | refine rows_lt5 ?_ ?_ ?_ ?_ ?_ | refine aggs_lt1 ?_ | refine aggs_lt2 ?_ ?_ | refine aggs_lt3 ?_ ?_ ?_ | refine fun (_ : Nat) => ?_) | refine fun (_ : (_ : Nat) < _) => ?_ | exact rfl | exact Nat.le_of_ble_eq_true rfl | (change (_ : Nat) ≤ _; omega) | (change (_ : Nat) = _; omega) | (change (_ : Int) = _; omega))); (all_goals try (conv => whnf)))
      rw [r3q]
    have hq := r3q_lt _ (r3p_lt a b 8 (by omega)) n hn
    repeat (first | ((conv => whnf); refine And.intro ?_ ?_; exact sideOf) | ((conv => whnf); refine And.intro (fun _ => ?_) (fun h => nomatch (show true = false from h))) | ((conv => whnf); refine And.intro (fun h => nomatch (show false = true from h)) (fun _ => ?_)) | ((conv => whnf); first | (apply Exists.intro; (repeat apply Exists.intro); refine And.intro ?_ ?_; exact leOf) | (refine Or.inl ?_; (conv => whnf); (repeat apply Exists.intro); refine And.intro ?_ ?_; exact leOf) | (refine Or.inr ?_; (conv => whnf); first | ((repeat apply Exists.intro); refine And.intro ?_ ?_; exact leOf) | (refine Or.inl ?_; (conv => whnf); (repeat apply Exists.intro); refine And.intro ?_ ?_; exact leOf) | (refine Or.inr ?_; (conv => whnf); (repeat apply Exists.intro); refine And.intro ?_ ?_; exact leOf))))
    all_goals try (conv => whnf)
    refine And.intro (fun h => ?_) (fun h => ?_)
    · have h := of_decide_eq_true h
      have h := show (8 : Int) ≤ 14 - (n : Int) from h
      have hn7 : n < 7 := by omega
      have e1 : (14 - (n : Int)).toNat = 14 - n := by omega
      have e2 : (14 - (n : Int) - ((Int.toNat 8 : Nat) : Int)).toNat = 14 - n - 8 := by simp only [Int.reduceToNat]; omega
      have hs : Int.toNat 283 * 2 ^ (14 - (n : Int) - ((Int.toNat 8 : Nat) : Int)).toNat ≤ 283 * 2 ^ 6 := by
        rw [e2]; exact Nat.mul_le_mul (Nat.le_refl 283) (Nat.pow_le_pow_right (by omega) (by omega))
      have hs2 := hs
      simp only [Int.reduceToNat] at hs2
      repeat (first | ((conv => whnf); refine And.intro ?_ ?_; exact sideOf) | ((conv => whnf); refine And.intro (fun _ => ?_) (fun h => nomatch (show true = false from h))) | ((conv => whnf); refine And.intro (fun h => nomatch (show false = true from h)) (fun _ => ?_)) | ((conv => whnf); first | (apply Exists.intro; (repeat apply Exists.intro); refine And.intro ?_ ?_; exact leOf) | (refine Or.inl ?_; (conv => whnf); (repeat apply Exists.intro); refine And.intro ?_ ?_; exact leOf) | (refine Or.inr ?_; (conv => whnf); first | ((repeat apply Exists.intro); refine And.intro ?_ ?_; exact leOf) | (refine Or.inl ?_; (conv => whnf); (repeat apply Exists.intro); refine And.intro ?_ ?_; exact leOf) | (refine Or.inr ?_; (conv => whnf); (repeat apply Exists.intro); refine And.intro ?_ ?_; exact leOf))))
      all_goals try (conv => whnf)
      refine And.intro (fun h2 => ?_) (fun h2 => ?_)
      · have h2 := of_decide_eq_true h2
        rw [e1] at h2
        repeat (first | ((conv => whnf); refine And.intro ?_ ?_; exact sideOf) | ((conv => whnf); refine And.intro (fun _ => ?_) (fun h => nomatch (show true = false from h))) | ((conv => whnf); refine And.intro (fun h => nomatch (show false = true from h)) (fun _ => ?_)) | ((conv => whnf); first | (apply Exists.intro; (repeat apply Exists.intro); refine And.intro ?_ ?_; exact leOf) | (refine Or.inl ?_; (conv => whnf); (repeat apply Exists.intro); refine And.intro ?_ ?_; exact leOf) | (refine Or.inr ?_; (conv => whnf); first | ((repeat apply Exists.intro); refine And.intro ?_ ?_; exact leOf) | (refine Or.inl ?_; (conv => whnf); (repeat apply Exists.intro); refine And.intro ?_ ?_; exact leOf) | (refine Or.inr ?_; (conv => whnf); (repeat apply Exists.intro); refine And.intro ?_ ?_; exact leOf))))
        all_goals try (conv => whnf)
        refine Again.mk (n + 1 : Nat) (show n + 1 ≤ 7 by omega) trivial (show 7 - (n + 1) < 7 - n by omega) ?_
        ((repeat' ((conv => whnf) <;> first | exact trivial | (with_reducible first | refine And.intro ?_ ?_ | refine rows_lt1 ?_ | refine rows_lt2 ?_ ?_ | refine rows_lt3 ?_ ?_ ?_ | refine rows_lt4 ?_ ?_ ?_ ?_ | refine rows_lt5 ?_ ?_ ?_ ?_ ?_ | refine aggs_lt1 ?_ | refine aggs_lt2 ?_ ?_ | refine aggs_lt3 ?_ ?_ ?_ | refine fun (_ : Nat) => ?_) | refine fun (_ : (_ : Nat) < _) => ?_ | exact rfl | exact Nat.le_of_ble_eq_true rfl | (change (_ : Nat) ≤ _; omega) | (change (_ : Nat) = _; omega) | (change (_ : Int) = _; omega))); (all_goals try (conv => whnf)))
        rw [e2, r3q, if_pos (show r3q (r3p a b 8) n / 2 ^ (14 - n) % 2 = 1 from h2)]
        rfl
      · have h2 := of_decide_eq_false h2
        rw [e1] at h2
        repeat (first | ((conv => whnf); refine And.intro ?_ ?_; exact sideOf) | ((conv => whnf); refine And.intro (fun _ => ?_) (fun h => nomatch (show true = false from h))) | ((conv => whnf); refine And.intro (fun h => nomatch (show false = true from h)) (fun _ => ?_)) | ((conv => whnf); first | (apply Exists.intro; (repeat apply Exists.intro); refine And.intro ?_ ?_; exact leOf) | (refine Or.inl ?_; (conv => whnf); (repeat apply Exists.intro); refine And.intro ?_ ?_; exact leOf) | (refine Or.inr ?_; (conv => whnf); first | ((repeat apply Exists.intro); refine And.intro ?_ ?_; exact leOf) | (refine Or.inl ?_; (conv => whnf); (repeat apply Exists.intro); refine And.intro ?_ ?_; exact leOf) | (refine Or.inr ?_; (conv => whnf); (repeat apply Exists.intro); refine And.intro ?_ ?_; exact leOf))))
        all_goals try (conv => whnf)
        refine Again.mk (n + 1 : Nat) (show n + 1 ≤ 7 by omega) trivial (show 7 - (n + 1) < 7 - n by omega) ?_
        ((repeat' ((conv => whnf) <;> first | exact trivial | (with_reducible first | refine And.intro ?_ ?_ | refine rows_lt1 ?_ | refine rows_lt2 ?_ ?_ | refine rows_lt3 ?_ ?_ ?_ | refine rows_lt4 ?_ ?_ ?_ ?_ | refine rows_lt5 ?_ ?_ ?_ ?_ ?_ | refine aggs_lt1 ?_ | refine aggs_lt2 ?_ ?_ | refine aggs_lt3 ?_ ?_ ?_ | refine fun (_ : Nat) => ?_) | refine fun (_ : (_ : Nat) < _) => ?_ | exact rfl | exact Nat.le_of_ble_eq_true rfl | (change (_ : Nat) ≤ _; omega) | (change (_ : Nat) = _; omega) | (change (_ : Int) = _; omega))); (all_goals try (conv => whnf)))
        rw [r3q, if_neg (show ¬ r3q (r3p a b 8) n / 2 ^ (14 - n) % 2 = 1 from h2)]
    · have h := of_decide_eq_false h
      have h := show ¬ (8 : Int) ≤ 14 - (n : Int) from h
      obtain rfl : n = 7 := by omega
      repeat (first | ((conv => whnf); refine And.intro ?_ ?_; exact sideOf) | ((conv => whnf); refine And.intro (fun _ => ?_) (fun h => nomatch (show true = false from h))) | ((conv => whnf); refine And.intro (fun h => nomatch (show false = true from h)) (fun _ => ?_)) | ((conv => whnf); first | (apply Exists.intro; (repeat apply Exists.intro); refine And.intro ?_ ?_; exact leOf) | (refine Or.inl ?_; (conv => whnf); (repeat apply Exists.intro); refine And.intro ?_ ?_; exact leOf) | (refine Or.inr ?_; (conv => whnf); first | ((repeat apply Exists.intro); refine And.intro ?_ ?_; exact leOf) | (refine Or.inl ?_; (conv => whnf); (repeat apply Exists.intro); refine And.intro ?_ ?_; exact leOf) | (refine Or.inr ?_; (conv => whnf); (repeat apply Exists.intro); refine And.intro ?_ ?_; exact leOf))))
      all_goals try (conv => whnf)
      exact red_gm a b
/-! ### The substitution by trying, bit by bit -/
theorem gm_inv0 : ∀ i : Fin 256, BitVec.ofFin i ≠ 0#8 → gm (BitVec.ofFin i) (inv8 (BitVec.ofFin i)) = 1#8 := by decide +kernel
theorem gm_inv (b : BitVec 8) (h : b ≠ 0#8) : gm b (inv8 b) = 1#8 := all8 (p := fun b => b ≠ 0#8 → gm b (inv8 b) = 1#8) gm_inv0 b h
theorem inv_zero : inv8 0#8 = 0#8 := by decide +kernel
theorem gm_only (b x : BitVec 8) (h : b ≠ 0#8) : gm b x = 1#8 ↔ x = inv8 b := by
  constructor
  · intro e
    have h1 : gm (gm (inv8 b) b) x = gm (inv8 b) (gm b x) := gm_assoc _ _ _
    rw [e, gm_one, gm_comm (inv8 b) b, gm_inv b h, one_gm] at h1
    exact h1
  · intro e; rw [e]; exact gm_inv b h
def ivF (b : BitVec 8) (i : Nat) : Nat := if (inv8 b).toNat < i then (inv8 b).toNat else 0
theorem ivF_yes (b : BitVec 8) (i : Nat) (hi : i < 256) (hb : b ≠ 0#8) (h : gm b (BitVec.ofNat 8 i) = 1#8) : i = ivF b (i + 1) := by
  have := (gm_only b _ hb).1 h
  unfold ivF
  rw [← this, ofN8 hi, if_pos (by omega)]
theorem ivF_no (b : BitVec 8) (i : Nat) (hi : i < 256) (hb : b ≠ 0#8) (h : ¬ gm b (BitVec.ofNat 8 i) = 1#8) : ivF b i = ivF b (i + 1) := by
  have : (inv8 b).toNat ≠ i := fun e => h ((gm_only b _ hb).2 (by rw [← e, BitVec.ofNat_toNat, BitVec.setWidth_eq]))
  unfold ivF
  by_cases h2 : (inv8 b).toNat < i
  · rw [if_pos h2, if_pos (by omega)]
  · rw [if_neg h2, if_neg (by omega)]
theorem ivF_end (b : BitVec 8) (i : Nat) (h : ¬ (i < 256 ∧ b ≠ 0#8)) (hi : i ≤ 256) : ivF b i = (inv8 b).toNat := by
  unfold ivF
  by_cases hb : b = 0#8
  · rw [hb, inv_zero]; split <;> rfl
  · have : i = 256 := by
      rcases Nat.lt_or_ge i 256 with h1 | h1
      · exact absurd ⟨h1, hb⟩ h
      · omega
    rw [if_pos (by have := (inv8 b).isLt; omega)]
def bJ (t : Nat) : Nat := nth 0 [0, 4, 5, 6, 7] t
theorem bJ_le (t : Nat) : bJ t ≤ 7 := by
  rcases t with _ | _ | _ | _ | _ | t <;> first | decide | exact Nat.zero_le _
def xF (v i : Nat) : Nat → Nat
  | 0 => 0
  | t + 1 => xF v i t + v / 2 ^ ((i + bJ t) % 8) % 2
def oF (v : Nat) : Nat → Nat
  | 0 => 0
  | i + 1 => oF v i + (xF v i 5 + 99 / 2 ^ i % 2) % 2 * 2 ^ i
theorem oF_all0 : ∀ v : Fin 256, BitVec.ofNat 8 (oF v.val 8) = aff (BitVec.ofFin v) := by decide +kernel
theorem oF_box (b : BitVec 8) : BitVec.ofNat 8 (oF (inv8 b).toNat 8) = sbx b := by
  rw [oF_all0 ⟨(inv8 b).toNat, (inv8 b).isLt⟩]
  unfold sbx
  rfl
theorem xF_le (v i : Nat) : ∀ t, xF v i t ≤ t
  | 0 => by rw [xF]; exact Nat.le_refl _
  | t + 1 => by
    have := xF_le v i t
    rw [xF]
    have : v / 2 ^ ((i + bJ t) % 8) % 2 < 2 := Nat.mod_lt _ (by omega)
    omega
theorem oF_lt (v : Nat) : ∀ i, oF v i < 2 ^ i
  | 0 => by rw [oF]; decide
  | i + 1 => by
    have := oF_lt v i
    rw [oF, Nat.pow_succ]
    have h : (xF v i 5 + 99 / 2 ^ i % 2) % 2 < 2 := Nat.mod_lt _ (by omega)
    have : (xF v i 5 + 99 / 2 ^ i % 2) % 2 * 2 ^ i ≤ 1 * 2 ^ i := Nat.mul_le_mul (by omega) (Nat.le_refl _)
    omega
attribute [local irreducible] xF oF ivF
def C_r3_Box : SpecP := fun A K => ∃ b, A [.u8 b] ∧ K (.u8 (sbx b))
def L_r3_Box_a (b : BitVec 8) : LI := .plain Nat (fun i => 1 ≤ i ∧ i ≤ 256) (fun i => [(0, .u8 b), (3, .nat (ivF b i)), (4, .nat i)]) (fun i => 256 - i)
def L_r3_Box_b (v : Nat) : LI := .plain Nat (· ≤ 8) (fun i => [(3, .nat v), (5, .nat (oF v i)), (6, .nat i)]) (fun i => 8 - i)
def L_r3_Box_c (v : Nat) : LI := .plain (Nat × Nat) (fun p => p.1 < 8 ∧ p.2 ≤ 5) (fun p => [(3, .nat v), (5, .nat (oF v p.1)), (6, .nat p.1), (7, .nat (xF v p.1 p.2)), (28, .imm true (.int .i64) 5 (fun j => .nat (bJ j))), (29, .nat 5), (30, .nat p.2)]) (fun p => 5 - p.2)
def L_r3_Box_j (v : Nat) : LI := .plain Unit (fun _ => True) (fun _ => [(3, .nat v)]) (fun _ => 0)
theorem g_r3_Box : Gd 52 (pureP ty C_r3_Box) := by
  refine goodP (E := PG [(40, pureP ty C_r3_Mul)]) (pgOK ⟨g_r3_Mul, trivial⟩) mixes Try.func52 (by kernel_rfl) (by kernel_rfl) ?_
  rintro A K ⟨b, hA, hK⟩
  refine ⟨_, _, loops [(100007, L_r3_Box_j (inv8 b).toNat), (3, L_r3_Box_a b), (9, L_r3_Box_b (inv8 b).toNat), (13, L_r3_Box_c (inv8 b).toNat)], hA, hK, by kernel_rfl, trivial, ?_⟩
  repeat (first | ((conv => whnf); refine And.intro ?_ ?_; exact sideOf) | ((conv => whnf); refine And.intro (fun _ => ?_) (fun h => nomatch (show true = false from h))) | ((conv => whnf); refine And.intro (fun h => nomatch (show false = true from h)) (fun _ => ?_)) | ((conv => whnf); first | (apply Exists.intro; (repeat apply Exists.intro); refine And.intro ?_ ?_; exact leOf) | (refine Or.inl ?_; (conv => whnf); (repeat apply Exists.intro); refine And.intro ?_ ?_; exact leOf) | (refine Or.inr ?_; (conv => whnf); first | ((repeat apply Exists.intro); refine And.intro ?_ ?_; exact leOf) | (refine Or.inl ?_; (conv => whnf); (repeat apply Exists.intro); refine And.intro ?_ ?_; exact leOf) | (refine Or.inr ?_; (conv => whnf); (repeat apply Exists.intro); refine And.intro ?_ ?_; exact leOf))))
  all_goals try (conv => whnf)
  refine Exists.intro (fun _ => True) (And.intro ?_ (fun _ _ _ => ?_))
  · skip
    repeat (first | ((conv => whnf); refine And.intro ?_ ?_; exact sideOf) | ((conv => whnf); refine And.intro (fun _ => ?_) (fun h => nomatch (show true = false from h))) | ((conv => whnf); refine And.intro (fun h => nomatch (show false = true from h)) (fun _ => ?_)) | ((conv => whnf); first | (apply Exists.intro; (repeat apply Exists.intro); refine And.intro ?_ ?_; exact leOf) | (refine Or.inl ?_; (conv => whnf); (repeat apply Exists.intro); refine And.intro ?_ ?_; exact leOf) | (refine Or.inr ?_; (conv => whnf); first | ((repeat apply Exists.intro); refine And.intro ?_ ?_; exact leOf) | (refine Or.inl ?_; (conv => whnf); (repeat apply Exists.intro); refine And.intro ?_ ?_; exact leOf) | (refine Or.inr ?_; (conv => whnf); (repeat apply Exists.intro); refine And.intro ?_ ?_; exact leOf))))
    all_goals try (conv => whnf)
    refine Exists.intro (fun _ => True) (And.intro (Enter.mk (1 : Nat) ⟨Nat.le_refl _, by omega⟩ trivial ?_) (fun (i : Nat) (hi : 1 ≤ i ∧ i ≤ 256) _ => ?_))
    · ((repeat' ((conv => whnf) <;> first | exact trivial | (with_reducible first | refine And.intro ?_ ?_ | refine rows_lt1 ?_ | refine rows_lt2 ?_ ?_ | refine rows_lt3 ?_ ?_ ?_ | refine rows_lt4 ?_ ?_ ?_ ?_ | refine rows_lt5 ?_ ?_ ?_ ?_ ?_ | refine aggs_lt1 ?_ | refine aggs_lt2 ?_ ?_ | refine aggs_lt3 ?_ ?_ ?_ | refine fun (_ : Nat) => ?_) | refine fun (_ : (_ : Nat) < _) => ?_ | exact rfl | exact Nat.le_of_ble_eq_true rfl | (change (_ : Nat) ≤ _; omega) | (change (_ : Nat) = _; omega) | (change (_ : Int) = _; omega))); (all_goals try (conv => whnf)))
      unfold ivF
      split
      · rename_i h; show 0 = _; omega
      · rfl
    repeat (first | ((conv => whnf); refine And.intro ?_ ?_; exact sideOf) | ((conv => whnf); refine And.intro (fun _ => ?_) (fun h => nomatch (show true = false from h))) | ((conv => whnf); refine And.intro (fun h => nomatch (show false = true from h)) (fun _ => ?_)) | ((conv => whnf); first | (apply Exists.intro; (repeat apply Exists.intro); refine And.intro ?_ ?_; exact leOf) | (refine Or.inl ?_; (conv => whnf); (repeat apply Exists.intro); refine And.intro ?_ ?_; exact leOf) | (refine Or.inr ?_; (conv => whnf); first | ((repeat apply Exists.intro); refine And.intro ?_ ?_; exact leOf) | (refine Or.inl ?_; (conv => whnf); (repeat apply Exists.intro); refine And.intro ?_ ?_; exact leOf) | (refine Or.inr ?_; (conv => whnf); (repeat apply Exists.intro); refine And.intro ?_ ?_; exact leOf))))
    all_goals try (conv => whnf)
    refine And.intro (fun h => ?_) (fun h => ?_)
    · have h := of_decide_eq_true h
      have h := show i < 256 from h
      repeat (first | ((conv => whnf); refine And.intro ?_ ?_; exact sideOf) | ((conv => whnf); refine And.intro (fun _ => ?_) (fun h => nomatch (show true = false from h))) | ((conv => whnf); refine And.intro (fun h => nomatch (show false = true from h)) (fun _ => ?_)) | ((conv => whnf); first | (apply Exists.intro; (repeat apply Exists.intro); refine And.intro ?_ ?_; exact leOf) | (refine Or.inl ?_; (conv => whnf); (repeat apply Exists.intro); refine And.intro ?_ ?_; exact leOf) | (refine Or.inr ?_; (conv => whnf); first | ((repeat apply Exists.intro); refine And.intro ?_ ?_; exact leOf) | (refine Or.inl ?_; (conv => whnf); (repeat apply Exists.intro); refine And.intro ?_ ?_; exact leOf) | (refine Or.inr ?_; (conv => whnf); (repeat apply Exists.intro); refine And.intro ?_ ?_; exact leOf))))
      all_goals try (conv => whnf)
      refine And.intro (fun h2 => ?_) (fun h2 => ?_)
      · have h2 := of_decide_eq_true h2
        have hb : b ≠ 0#8 := fun e => absurd (show (0#8 : BitVec 8) < b from h2) (by rw [e]; decide)
        repeat (first | ((conv => whnf); refine And.intro ?_ ?_; exact sideOf) | ((conv => whnf); refine And.intro (fun _ => ?_) (fun h => nomatch (show true = false from h))) | ((conv => whnf); refine And.intro (fun h => nomatch (show false = true from h)) (fun _ => ?_)) | ((conv => whnf); first | (apply Exists.intro; (repeat apply Exists.intro); refine And.intro ?_ ?_; exact leOf) | (refine Or.inl ?_; (conv => whnf); (repeat apply Exists.intro); refine And.intro ?_ ?_; exact leOf) | (refine Or.inr ?_; (conv => whnf); first | ((repeat apply Exists.intro); refine And.intro ?_ ?_; exact leOf) | (refine Or.inl ?_; (conv => whnf); (repeat apply Exists.intro); refine And.intro ?_ ?_; exact leOf) | (refine Or.inr ?_; (conv => whnf); (repeat apply Exists.intro); refine And.intro ?_ ?_; exact leOf))))
        all_goals try (conv => whnf)
        refine And.intro (fun h3 => ?_) (fun h3 => ?_)
        · have h3 : gm b (BitVec.ofNat 8 i) = 1#8 := of_decide_eq_true h3
          repeat (first | ((conv => whnf); refine And.intro ?_ ?_; exact sideOf) | ((conv => whnf); refine And.intro (fun _ => ?_) (fun h => nomatch (show true = false from h))) | ((conv => whnf); refine And.intro (fun h => nomatch (show false = true from h)) (fun _ => ?_)) | ((conv => whnf); first | (apply Exists.intro; (repeat apply Exists.intro); refine And.intro ?_ ?_; exact leOf) | (refine Or.inl ?_; (conv => whnf); (repeat apply Exists.intro); refine And.intro ?_ ?_; exact leOf) | (refine Or.inr ?_; (conv => whnf); first | ((repeat apply Exists.intro); refine And.intro ?_ ?_; exact leOf) | (refine Or.inl ?_; (conv => whnf); (repeat apply Exists.intro); refine And.intro ?_ ?_; exact leOf) | (refine Or.inr ?_; (conv => whnf); (repeat apply Exists.intro); refine And.intro ?_ ?_; exact leOf))))
          all_goals try (conv => whnf)
          refine Again.mk (i + 1 : Nat) ⟨by omega, show i + 1 ≤ 256 by omega⟩ trivial (show 256 - (i + 1) < 256 - i by omega) ?_
          ((repeat' ((conv => whnf) <;> first | exact trivial | (with_reducible first | refine And.intro ?_ ?_ | refine rows_lt1 ?_ | refine rows_lt2 ?_ ?_ | refine rows_lt3 ?_ ?_ ?_ | refine rows_lt4 ?_ ?_ ?_ ?_ | refine rows_lt5 ?_ ?_ ?_ ?_ ?_ | refine aggs_lt1 ?_ | refine aggs_lt2 ?_ ?_ | refine aggs_lt3 ?_ ?_ ?_ | refine fun (_ : Nat) => ?_) | refine fun (_ : (_ : Nat) < _) => ?_ | exact rfl | exact Nat.le_of_ble_eq_true rfl | (change (_ : Nat) ≤ _; omega) | (change (_ : Nat) = _; omega) | (change (_ : Int) = _; omega))); (all_goals try (conv => whnf)))
          exact ivF_yes b i h hb h3
        · have h3 : ¬ gm b (BitVec.ofNat 8 i) = 1#8 := of_decide_eq_false h3
          repeat (first | ((conv => whnf); refine And.intro ?_ ?_; exact sideOf) | ((conv => whnf); refine And.intro (fun _ => ?_) (fun h => nomatch (show true = false from h))) | ((conv => whnf); refine And.intro (fun h => nomatch (show false = true from h)) (fun _ => ?_)) | ((conv => whnf); first | (apply Exists.intro; (repeat apply Exists.intro); refine And.intro ?_ ?_; exact leOf) | (refine Or.inl ?_; (conv => whnf); (repeat apply Exists.intro); refine And.intro ?_ ?_; exact leOf) | (refine Or.inr ?_; (conv => whnf); first | ((repeat apply Exists.intro); refine And.intro ?_ ?_; exact leOf) | (refine Or.inl ?_; (conv => whnf); (repeat apply Exists.intro); refine And.intro ?_ ?_; exact leOf) | (refine Or.inr ?_; (conv => whnf); (repeat apply Exists.intro); refine And.intro ?_ ?_; exact leOf))))
          all_goals try (conv => whnf)
          refine Again.mk (i + 1 : Nat) ⟨by omega, show i + 1 ≤ 256 by omega⟩ trivial (show 256 - (i + 1) < 256 - i by omega) ?_
          ((repeat' ((conv => whnf) <;> first | exact trivial | (with_reducible first | refine And.intro ?_ ?_ | refine rows_lt1 ?_ | refine rows_lt2 ?_ ?_ | refine rows_lt3 ?_ ?_ ?_ | refine rows_lt4 ?_ ?_ ?_ ?_ | refine rows_lt5 ?_ ?_ ?_ ?_ ?_ | refine aggs_lt1 ?_ | refine aggs_lt2 ?_ ?_ | refine aggs_lt3 ?_ ?_ ?_ | refine fun (_ : Nat) => ?_) | refine fun (_ : (_ : Nat) < _) => ?_ | exact rfl | exact Nat.le_of_ble_eq_true rfl | (change (_ : Nat) ≤ _; omega) | (change (_ : Nat) = _; omega) | (change (_ : Int) = _; omega))); (all_goals try (conv => whnf)))
          exact ivF_no b i h hb h3
      · have h2 := of_decide_eq_false h2
        have hb : b = 0#8 := by
          have h2 : ¬ (0#8 : BitVec 8) < b := h2
          apply BitVec.eq_of_toNat_eq
          rw [BitVec.lt_def] at h2
          simp at h2 ⊢
          exact h2
        repeat (first | ((conv => whnf); refine And.intro ?_ ?_; exact sideOf) | ((conv => whnf); refine And.intro (fun _ => ?_) (fun h => nomatch (show true = false from h))) | ((conv => whnf); refine And.intro (fun h => nomatch (show false = true from h)) (fun _ => ?_)) | ((conv => whnf); first | (apply Exists.intro; (repeat apply Exists.intro); refine And.intro ?_ ?_; exact leOf) | (refine Or.inl ?_; (conv => whnf); (repeat apply Exists.intro); refine And.intro ?_ ?_; exact leOf) | (refine Or.inr ?_; (conv => whnf); first | ((repeat apply Exists.intro); refine And.intro ?_ ?_; exact leOf) | (refine Or.inl ?_; (conv => whnf); (repeat apply Exists.intro); refine And.intro ?_ ?_; exact leOf) | (refine Or.inr ?_; (conv => whnf); (repeat apply Exists.intro); refine And.intro ?_ ?_; exact leOf))))
        all_goals try (conv => whnf)
        refine Enter.mk () trivial trivial ?_
        ((repeat' ((conv => whnf) <;> first | exact trivial | (with_reducible first | refine And.intro ?_ ?_ | refine rows_lt1 ?_ | refine rows_lt2 ?_ ?_ | refine rows_lt3 ?_ ?_ ?_ | refine rows_lt4 ?_ ?_ ?_ ?_ | refine rows_lt5 ?_ ?_ ?_ ?_ ?_ | refine aggs_lt1 ?_ | refine aggs_lt2 ?_ ?_ | refine aggs_lt3 ?_ ?_ ?_ | refine fun (_ : Nat) => ?_) | refine fun (_ : (_ : Nat) < _) => ?_ | exact rfl | exact Nat.le_of_ble_eq_true rfl | (change (_ : Nat) ≤ _; omega) | (change (_ : Nat) = _; omega) | (change (_ : Int) = _; omega))); (all_goals try (conv => whnf)))
        exact ivF_end b i (fun h => h.2 hb) hi.2
    · have h := of_decide_eq_false h
      have h := show ¬ i < 256 from h
      repeat (first | ((conv => whnf); refine And.intro ?_ ?_; exact sideOf) | ((conv => whnf); refine And.intro (fun _ => ?_) (fun h => nomatch (show true = false from h))) | ((conv => whnf); refine And.intro (fun h => nomatch (show false = true from h)) (fun _ => ?_)) | ((conv => whnf); first | (apply Exists.intro; (repeat apply Exists.intro); refine And.intro ?_ ?_; exact leOf) | (refine Or.inl ?_; (conv => whnf); (repeat apply Exists.intro); refine And.intro ?_ ?_; exact leOf) | (refine Or.inr ?_; (conv => whnf); first | ((repeat apply Exists.intro); refine And.intro ?_ ?_; exact leOf) | (refine Or.inl ?_; (conv => whnf); (repeat apply Exists.intro); refine And.intro ?_ ?_; exact leOf) | (refine Or.inr ?_; (conv => whnf); (repeat apply Exists.intro); refine And.intro ?_ ?_; exact leOf))))
      all_goals try (conv => whnf)
      refine Enter.mk () trivial trivial ?_
      ((repeat' ((conv => whnf) <;> first | exact trivial | (with_reducible first | refine And.intro ?_ ?_ | refine rows_lt1 ?_ | refine rows_lt2 ?_ ?_ | refine rows_lt3 ?_ ?_ ?_ | refine rows_lt4 ?_ ?_ ?_ ?_ | refine rows_lt5 ?_ ?_ ?_ ?_ ?_ | refine aggs_lt1 ?_ | refine aggs_lt2 ?_ ?_ | refine aggs_lt3 ?_ ?_ ?_ | refine fun (_ : Nat) => ?_) | refine fun (_ : (_ : Nat) < _) => ?_ | exact rfl | exact Nat.le_of_ble_eq_true rfl | (change (_ : Nat) ≤ _; omega) | (change (_ : Nat) = _; omega) | (change (_ : Int) = _; omega))); (all_goals try (conv => whnf)))
      exact ivF_end b i (fun h' => h h'.1) hi.2
  have hv := (inv8 b).isLt
  have hob := oF_box b
  generalize (inv8 b).toNat = v at hv hob ⊢
  repeat (first | ((conv => whnf); refine And.intro ?_ ?_; exact sideOf) | ((conv => whnf); refine And.intro (fun _ => ?_) (fun h => nomatch (show true = false from h))) | ((conv => whnf); refine And.intro (fun h => nomatch (show false = true from h)) (fun _ => ?_)) | ((conv => whnf); first | (apply Exists.intro; (repeat apply Exists.intro); refine And.intro ?_ ?_; exact leOf) | (refine Or.inl ?_; (conv => whnf); (repeat apply Exists.intro); refine And.intro ?_ ?_; exact leOf) | (refine Or.inr ?_; (conv => whnf); first | ((repeat apply Exists.intro); refine And.intro ?_ ?_; exact leOf) | (refine Or.inl ?_; (conv => whnf); (repeat apply Exists.intro); refine And.intro ?_ ?_; exact leOf) | (refine Or.inr ?_; (conv => whnf); (repeat apply Exists.intro); refine And.intro ?_ ?_; exact leOf))))
  all_goals try (conv => whnf)
  refine Exists.intro (fun _ => True) (And.intro (Enter.mk (0 : Nat) (Nat.zero_le _) trivial ?_) (fun (i : Nat) (hi : i ≤ 8) _ => ?_))
  · ((repeat' ((conv => whnf) <;> first | exact trivial | (with_reducible first | refine And.intro ?_ ?_ | refine rows_lt1 ?_ | refine rows_lt2 ?_ ?_ | refine rows_lt3 ?_ ?_ ?_ | refine rows_lt4 ?_ ?_ ?_ ?_ | refine rows_lt5 ?_ ?_ ?_ ?_ ?_ | refine aggs_lt1 ?_ | refine aggs_lt2 ?_ ?_ | refine aggs_lt3 ?_ ?_ ?_ | refine fun (_ : Nat) => ?_) | refine fun (_ : (_ : Nat) < _) => ?_ | exact rfl | exact Nat.le_of_ble_eq_true rfl | (change (_ : Nat) ≤ _; omega) | (change (_ : Nat) = _; omega) | (change (_ : Int) = _; omega))); (all_goals try (conv => whnf)))
    rw [oF]; rfl
  repeat (first | ((conv => whnf); refine And.intro ?_ ?_; exact sideOf) | ((conv => whnf); refine And.intro (fun _ => ?_) (fun h => nomatch (show true = false from h))) | ((conv => whnf); refine And.intro (fun h => nomatch (show false = true from h)) (fun _ => ?_)) | ((conv => whnf); first | (apply Exists.intro; (repeat apply Exists.intro); refine And.intro ?_ ?_; exact leOf) | (refine Or.inl ?_; (conv => whnf); (repeat apply Exists.intro); refine And.intro ?_ ?_; exact leOf) | (refine Or.inr ?_; (conv => whnf); first | ((repeat apply Exists.intro); refine And.intro ?_ ?_; exact leOf) | (refine Or.inl ?_; (conv => whnf); (repeat apply Exists.intro); refine And.intro ?_ ?_; exact leOf) | (refine Or.inr ?_; (conv => whnf); (repeat apply Exists.intro); refine And.intro ?_ ?_; exact leOf))))
  all_goals try (conv => whnf)
  refine And.intro (fun h => ?_) (fun h => ?_)
  · have h := of_decide_eq_true h
    have h := show i < 8 from h
    repeat (first | ((conv => whnf); refine And.intro ?_ ?_; exact sideOf) | ((conv => whnf); refine And.intro (fun _ => ?_) (fun h => nomatch (show true = false from h))) | ((conv => whnf); refine And.intro (fun h => nomatch (show false = true from h)) (fun _ => ?_)) | ((conv => whnf); first | (apply Exists.intro; (repeat apply Exists.intro); refine And.intro ?_ ?_; exact leOf) | (refine Or.inl ?_; (conv => whnf); (repeat apply Exists.intro); refine And.intro ?_ ?_; exact leOf) | (refine Or.inr ?_; (conv => whnf); first | ((repeat apply Exists.intro); refine And.intro ?_ ?_; exact leOf) | (refine Or.inl ?_; (conv => whnf); (repeat apply Exists.intro); refine And.intro ?_ ?_; exact leOf) | (refine Or.inr ?_; (conv => whnf); (repeat apply Exists.intro); refine And.intro ?_ ?_; exact leOf))))
    all_goals try (conv => whnf)
    refine Exists.intro (fun p => p.1 = i) (And.intro (Enter.mk ((i, 0) : Nat × Nat) ⟨h, Nat.zero_le _⟩ rfl ?_) (fun (p : Nat × Nat) (hp : p.1 < 8 ∧ p.2 ≤ 5) (hk : p.1 = i) => ?_))
    · ((repeat' ((conv => whnf) <;> first | exact trivial | (with_reducible first | refine And.intro ?_ ?_ | refine rows_lt1 ?_ | refine rows_lt2 ?_ ?_ | refine rows_lt3 ?_ ?_ ?_ | refine rows_lt4 ?_ ?_ ?_ ?_ | refine rows_lt5 ?_ ?_ ?_ ?_ ?_ | refine aggs_lt1 ?_ | refine aggs_lt2 ?_ ?_ | refine aggs_lt3 ?_ ?_ ?_ | refine fun (_ : Nat) => ?_) | refine fun (_ : (_ : Nat) < _) => ?_ | exact rfl | exact Nat.le_of_ble_eq_true rfl | (change (_ : Nat) ≤ _; omega) | (change (_ : Nat) = _; omega) | (change (_ : Int) = _; omega))); (all_goals try (conv => whnf)))
      · rw [xF]; rfl
      · rename_i x hx
        rcases x with _ | _ | _ | _ | _ | x
        all_goals first | exact rfl | exact absurd hx (by omega)
    obtain ⟨i1, t⟩ := p
    obtain ⟨hp1, hp2⟩ := hp
    simp only at hp1 hp2 hk
    subst hk
    have hx := xF_le v i1 t
    have ho := oF_lt v i1
    repeat (first | ((conv => whnf); refine And.intro ?_ ?_; exact sideOf) | ((conv => whnf); refine And.intro (fun _ => ?_) (fun h => nomatch (show true = false from h))) | ((conv => whnf); refine And.intro (fun h => nomatch (show false = true from h)) (fun _ => ?_)) | ((conv => whnf); first | (apply Exists.intro; (repeat apply Exists.intro); refine And.intro ?_ ?_; exact leOf) | (refine Or.inl ?_; (conv => whnf); (repeat apply Exists.intro); refine And.intro ?_ ?_; exact leOf) | (refine Or.inr ?_; (conv => whnf); first | ((repeat apply Exists.intro); refine And.intro ?_ ?_; exact leOf) | (refine Or.inl ?_; (conv => whnf); (repeat apply Exists.intro); refine And.intro ?_ ?_; exact leOf) | (refine Or.inr ?_; (conv => whnf); (repeat apply Exists.intro); refine And.intro ?_ ?_; exact leOf))))
    all_goals try (conv => whnf)
    refine And.intro (fun h => ?_) (fun h => ?_)
    · have h := of_decide_eq_true h
      have h := show t < 5 from h
      have hJ := bJ_le t
      have hmod : (v / 2 ^ ((i1 + bJ t) % 8)) % 2 < 2 := Nat.mod_lt _ (by omega)
      have hm8 : (i1 + bJ t) % 8 < 8 := Nat.mod_lt _ (by omega)
      repeat (first | ((conv => whnf); refine And.intro ?_ ?_; exact sideOf) | ((conv => whnf); refine And.intro (fun _ => ?_) (fun h => nomatch (show true = false from h))) | ((conv => whnf); refine And.intro (fun h => nomatch (show false = true from h)) (fun _ => ?_)) | ((conv => whnf); first | (apply Exists.intro; (repeat apply Exists.intro); refine And.intro ?_ ?_; exact leOf) | (refine Or.inl ?_; (conv => whnf); (repeat apply Exists.intro); refine And.intro ?_ ?_; exact leOf) | (refine Or.inr ?_; (conv => whnf); first | ((repeat apply Exists.intro); refine And.intro ?_ ?_; exact leOf) | (refine Or.inl ?_; (conv => whnf); (repeat apply Exists.intro); refine And.intro ?_ ?_; exact leOf) | (refine Or.inr ?_; (conv => whnf); (repeat apply Exists.intro); refine And.intro ?_ ?_; exact leOf))))
      all_goals try (conv => whnf)
      refine Again.mk ((i1, t + 1) : Nat × Nat) ⟨hp1, show t + 1 ≤ 5 by omega⟩ rfl (show 5 - (t + 1) < 5 - t by omega) ?_
      ((repeat' ((conv => whnf) <;> first | exact trivial | (with_reducible first | refine And.intro ?_ ?_ | refine rows_lt1 ?_ | refine rows_lt2 ?_ ?_ | refine rows_lt3 ?_ ?_ ?_ | refine rows_lt4 ?_ ?_ ?_ ?_ | refine rows_lt5 ?_ ?_ ?_ ?_ ?_ | refine aggs_lt1 ?_ | refine aggs_lt2 ?_ ?_ | refine aggs_lt3 ?_ ?_ ?_ | refine fun (_ : Nat) => ?_) | refine fun (_ : (_ : Nat) < _) => ?_ | exact rfl | exact Nat.le_of_ble_eq_true rfl | (change (_ : Nat) ≤ _; omega) | (change (_ : Nat) = _; omega) | (change (_ : Int) = _; omega))); (all_goals try (conv => whnf)))
      rw [xF]; rfl
    · have h := of_decide_eq_false h
      obtain rfl : t = 5 := by have h := show ¬ t < 5 from h; omega
      have h2 : (xF v i1 5 + 99 / 2 ^ i1 % 2) % 2 < 2 := Nat.mod_lt _ (by omega)
      have hp : 2 ^ i1 ≤ 2 ^ 7 := Nat.pow_le_pow_right (by omega) (by omega)
      have hm : (xF v i1 5 + 99 / 2 ^ i1 % 2) % 2 * 2 ^ i1 ≤ 1 * 2 ^ 7 := Nat.mul_le_mul (by omega) hp
      repeat (first | ((conv => whnf); refine And.intro ?_ ?_; exact sideOf) | ((conv => whnf); refine And.intro (fun _ => ?_) (fun h => nomatch (show true = false from h))) | ((conv => whnf); refine And.intro (fun h => nomatch (show false = true from h)) (fun _ => ?_)) | ((conv => whnf); first | (apply Exists.intro; (repeat apply Exists.intro); refine And.intro ?_ ?_; exact leOf) | (refine Or.inl ?_; (conv => whnf); (repeat apply Exists.intro); refine And.intro ?_ ?_; exact leOf) | (refine Or.inr ?_; (conv => whnf); first | ((repeat apply Exists.intro); refine And.intro ?_ ?_; exact leOf) | (refine Or.inl ?_; (conv => whnf); (repeat apply Exists.intro); refine And.intro ?_ ?_; exact leOf) | (refine Or.inr ?_; (conv => whnf); (repeat apply Exists.intro); refine And.intro ?_ ?_; exact leOf))))
      all_goals try (conv => whnf)
      refine Again.mk (i1 + 1 : Nat) (show i1 + 1 ≤ 8 by omega) trivial (show 8 - (i1 + 1) < 8 - i1 by omega) ?_
      ((repeat' ((conv => whnf) <;> first | exact trivial | (with_reducible first | refine And.intro ?_ ?_ | refine rows_lt1 ?_ | refine rows_lt2 ?_ ?_ | refine rows_lt3 ?_ ?_ ?_ | refine rows_lt4 ?_ ?_ ?_ ?_ | refine rows_lt5 ?_ ?_ ?_ ?_ ?_ | refine aggs_lt1 ?_ | refine aggs_lt2 ?_ ?_ | refine aggs_lt3 ?_ ?_ ?_ | refine fun (_ : Nat) => ?_) | refine fun (_ : (_ : Nat) < _) => ?_ | exact rfl | exact Nat.le_of_ble_eq_true rfl | (change (_ : Nat) ≤ _; omega) | (change (_ : Nat) = _; omega) | (change (_ : Int) = _; omega))); (all_goals try (conv => whnf)))
      rw [oF]; rfl
  · have h := of_decide_eq_false h
    obtain rfl : i = 8 := by have h := show ¬ i < 8 from h; omega
    repeat (first | ((conv => whnf); refine And.intro ?_ ?_; exact sideOf) | ((conv => whnf); refine And.intro (fun _ => ?_) (fun h => nomatch (show true = false from h))) | ((conv => whnf); refine And.intro (fun h => nomatch (show false = true from h)) (fun _ => ?_)) | ((conv => whnf); first | (apply Exists.intro; (repeat apply Exists.intro); refine And.intro ?_ ?_; exact leOf) | (refine Or.inl ?_; (conv => whnf); (repeat apply Exists.intro); refine And.intro ?_ ?_; exact leOf) | (refine Or.inr ?_; (conv => whnf); first | ((repeat apply Exists.intro); refine And.intro ?_ ?_; exact leOf) | (refine Or.inl ?_; (conv => whnf); (repeat apply Exists.intro); refine And.intro ?_ ?_; exact leOf) | (refine Or.inr ?_; (conv => whnf); (repeat apply Exists.intro); refine And.intro ?_ ?_; exact leOf))))
    all_goals try (conv => whnf)
    exact hob
end Go.Proofs.Ytaajedeapmphpaa
