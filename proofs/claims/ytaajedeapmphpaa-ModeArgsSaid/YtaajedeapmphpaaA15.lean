/- AES: blocks encrypted by the reference. -/
import Derived.Test.YtaajedeapmphpaaA14
namespace Go.Proofs.Ytaajedeapmphpaa
open Go.RowKit
set_option maxRecDepth 100000
set_option maxHeartbeats 20000000
section
attribute [local irreducible] xt rol8 aff pw lg sbx isx gm sbN isN xtN at32 mkB shB suB miB enc inv8 wdB midB eS
/-- A round's block, ahead of it and before the key is joined. -/
def rV (w : Nat → BitVec 32) (f : Nat → BitVec 8) (r : Nat) : Nat → BitVec 8 := shB 1 (suB sbN (eS w f (r - 1)))
def rS (nr : Nat) (w : Nat → BitVec 32) (f : Nat → BitVec 8) : Nat → Nat → BitVec 8
  | 0 => f
  | r + 1 => if r < nr then eS w f r else enc nr w f
def rX (nr : Nat) (w : Nat → BitVec 32) (f : Nat → BitVec 8) (r : Nat) : Nat → BitVec 8 := if r = 0 then f else if r < nr then miB gE (rV w f r) else rV w f r
end
theorem rX_next (nr : Nat) (w : Nat → BitVec 32) (f : Nat → BitVec 8) (r j : Nat) (hr : r ≤ nr) (h0 : 0 < nr) : mkB w r (rX nr w f r) j = rS nr w f (r + 1) j := by
  rw [rS]
  unfold rX
  by_cases h : r = 0
  · subst h
    rw [if_pos rfl, if_pos h0, eS]
  · rw [if_neg h]
    by_cases h2 : r < nr
    · rw [if_pos h2, if_pos h2]
      obtain ⟨q, rfl⟩ : ∃ q, r = q + 1 := ⟨r - 1, by omega⟩
      rw [eS]
      rfl
    · rw [if_neg h2, if_neg h2]
      obtain rfl : r = nr := by omega
      rfl
theorem rS_pos (nr : Nat) (w : Nat → BitVec 32) (f : Nat → BitVec 8) (r j : Nat) (h : 0 < r) (hr : r ≤ nr) : rS nr w f r j = eS w f (r - 1) j := by
  obtain ⟨q, rfl⟩ : ∃ q, r = q + 1 := ⟨r - 1, by omega⟩
  rw [rS, if_pos (by omega)]
  rfl
theorem rV_at (w : Nat → BitVec 32) (f : Nat → BitVec 8) (r c k : Nat) (hc : c < 4) (hk : k < 4) : sbN (eS w f (r - 1) (4 * ((c + k) % 4) + k)).toNat = rV w f r (4 * c + k) := by
  show _ = sbN (eS w f (r - 1) ((4 * c + k + 4 * 1 * ((4 * c + k) % 4)) % 16)).toNat
  rw [show (4 * c + k + 4 * 1 * ((4 * c + k) % 4)) % 16 = 4 * ((c + k) % 4) + k by omega]
theorem mi_row (V : Nat → BitVec 8) (c k : Nat) (hk : k < 4) : gm (V (4 * c + k)) 2#8 ^^^ gm (V (4 * c + (k + 1) % 4)) 3#8 ^^^ V (4 * c + (k + 2) % 4) ^^^ V (4 * c + (k + 3) % 4) = miB gE V (4 * c + k) := by
  rw [miB_eq, show (4 * c + k) / 4 = c by omega, show (4 * c + k) % 4 = k by omega, show (k + 0) % 4 = k by omega]
  show _ = gm 2#8 _ ^^^ gm 3#8 _ ^^^ gm 1#8 _ ^^^ gm 1#8 _
  rw [one_gm, one_gm, gm_comm 2#8, gm_comm 3#8]
theorem mk_row (nk : Nat) (b X : Nat → BitVec 8) (r i : Nat) : X i ^^^ wdB nk b (4 * r + i / 4) (i % 4) = mkB (at32 (ksch nk b)) r X i := rfl
attribute [local irreducible] xt rol8 aff pw lg sbx isx gm sbN isN xtN at32 mkB shB suB miB enc dec inv8 wdB midB eS rV rX rS
abbrev esl (nk r : Nat) (more : List (Nat × AV)) : List (Nat × AV) := (4, .ptr TB 16 []) :: (5, bsf 256 sbN) :: (6, .gsl TSL 2064 (4 * nk + 28)) :: (7, .nat (nk + 6)) :: (8, .ptr TB 4112 []) :: (9, .nat r) :: more
abbrev erw (nk : Nat) (b s : Nat → BitVec 8) (more : List (Nat × Row)) : List (Nat × Row) := (16, .var TB TB.zero) :: (2064, .grow TSL (4 * nk + 28) (wRow nk b)) :: (4112, .var TB (arr8 16 s)) :: more
abbrev ewb (nk : Nat) (b : Nat → BitVec 8) : Nat → BitVec 32 := at32 (ksch nk b)
def L_r3_Enc_a (nk : Nat) (b f : Nat → BitVec 8) : LI := ⟨Nat, (· ≤ nk + 7), fun r => esl nk r [], fun r => erw nk b (rS (nk + 6) (ewb nk b) f r) [], fun r => nk + 7 - r, some, some⟩
def L_r3_Enc_c (nk : Nat) (b f : Nat → BitVec 8) : LI := ⟨Nat × Nat, fun p => 0 < p.1 ∧ p.1 ≤ nk + 6 ∧ p.2 ≤ 4, fun p => esl nk p.1 [(10, .ptr TB 6169 []), (11, .nat p.2)],
  fun p => erw nk b (eS (ewb nk b) f (p.1 - 1)) [(6169, .var TB (arr8 16 (fil (rV (ewb nk b) f p.1) (eS (ewb nk b) f (p.1 - 1)) (4 * p.2))))], fun p => 4 - p.2, some, some⟩
def L_r3_Enc_d (nk : Nat) (b f : Nat → BitVec 8) : LI := ⟨Nat × Nat × Nat, fun p => 0 < p.1 ∧ p.1 ≤ nk + 6 ∧ p.2.1 < 4 ∧ p.2.2 ≤ 4, fun p => esl nk p.1 [(10, .ptr TB 6169 []), (11, .nat p.2.1), (12, .nat p.2.2)],
  fun p => erw nk b (eS (ewb nk b) f (p.1 - 1)) [(6169, .var TB (arr8 16 (fil (rV (ewb nk b) f p.1) (eS (ewb nk b) f (p.1 - 1)) (4 * p.2.1 + p.2.2))))], fun p => 4 - p.2.2, some, some⟩
def L_r3_Enc_e (nk : Nat) (b f : Nat → BitVec 8) : LI := ⟨Nat × Nat, fun p => 0 < p.1 ∧ p.1 ≤ nk + 6 ∧ p.2 ≤ 4 ∧ (p.1 < nk + 6 ∨ p.2 = 0), fun p => esl nk p.1 [(10, .ptr TB 6169 []), (13, .nat p.2)],
  fun p => erw nk b (fil (miB gE (rV (ewb nk b) f p.1)) (rV (ewb nk b) f p.1) (4 * p.2)) [(6169, .var TB (arr8 16 (rV (ewb nk b) f p.1)))], fun p => 4 - p.2, some, some⟩
def L_r3_Enc_f (nk : Nat) (b f : Nat → BitVec 8) : LI := ⟨Nat × Nat × Nat, fun p => 0 < p.1 ∧ p.1 < nk + 6 ∧ p.2.1 < 4 ∧ p.2.2 ≤ 4, fun p => esl nk p.1 [(10, .ptr TB 6169 []), (13, .nat p.2.1), (14, .ptr T4 7354 []), (15, .nat p.2.2)],
  fun p => erw nk b (fil (miB gE (rV (ewb nk b) f p.1)) (rV (ewb nk b) f p.1) (4 * p.2.1 + p.2.2)) [(6169, .var TB (arr8 16 (rV (ewb nk b) f p.1))), (7354, .var T4 (arr8 4 (fun k => rV (ewb nk b) f p.1 (4 * p.2.1 + k))))], fun p => 4 - p.2.2, some, some⟩
def L_r3_Enc_j (nk : Nat) (b f : Nat → BitVec 8) : LI := ⟨Nat, (· ≤ nk + 6), fun r => esl nk r [], fun r => erw nk b (rX (nk + 6) (ewb nk b) f r) [], fun _ => 0, some, some⟩
def L_r3_Enc_k (nk : Nat) (b f : Nat → BitVec 8) : LI := ⟨Nat × Nat, fun p => p.1 ≤ nk + 6 ∧ p.2 ≤ 16, fun p => esl nk p.1 [(120, .nat p.2)],
  fun p => erw nk b (fil (mkB (ewb nk b) p.1 (rX (nk + 6) (ewb nk b) f p.1)) (rX (nk + 6) (ewb nk b) f p.1) p.2) [], fun p => 16 - p.2, some, some⟩
def C_r3_Encrypt : SpecP := fun A K => ∃ nk b f, A [bsl (4 * nk) b, arr8 16 f] ∧ (nk = 4 ∨ nk = 8) ∧ K (arr8 16 (enc (nk + 6) (at32 (ksch nk b)) f))
theorem g_r3_Encrypt : Gd 24 (pureP ty C_r3_Encrypt) := by
  refine goodP (E := PG [(38, pureP ty C_r3_Boxes), (39, pureR ty C_r3_Words), (40, pureP ty C_r3_Mul)]) (pgOK ⟨g_r3_Boxes, g_r3_Words, g_r3_Mul, trivial⟩) mixes Try.func24 (by kernel_rfl) (by kernel_rfl) ?_
  rintro A K ⟨nk, b, f, hA, hn, hK⟩
  have hn4 : 4 ≤ nk ∧ nk ≤ 8 := by omega
  refine ⟨_, _, loops [(6, L_r3_Enc_a nk b f), (11, L_r3_Enc_c nk b f), (14, L_r3_Enc_d nk b f), (19, L_r3_Enc_e nk b f), (23, L_r3_Enc_f nk b f), (100026, L_r3_Enc_j nk b f), (27, L_r3_Enc_k nk b f)], hA, hK, by kernel_rfl, fun _ _ => trivial, ?_⟩
  repeat (first | ((conv => whnf); refine And.intro ?_ ?_; exact sideOf) | ((conv => whnf); refine And.intro (fun _ => ?_) (fun h => nomatch (show true = false from h))) | ((conv => whnf); refine And.intro (fun h => nomatch (show false = true from h)) (fun _ => ?_)) | ((conv => whnf); first | (apply Exists.intro; (repeat apply Exists.intro); refine And.intro ?_ ?_; exact leOf) | (refine Or.inl ?_; (conv => whnf); (repeat apply Exists.intro); refine And.intro ?_ ?_; exact leOf) | (refine Or.inr ?_; (conv => whnf); first | ((repeat apply Exists.intro); refine And.intro ?_ ?_; exact leOf) | (refine Or.inl ?_; (conv => whnf); (repeat apply Exists.intro); refine And.intro ?_ ?_; exact leOf) | (refine Or.inr ?_; (conv => whnf); (repeat apply Exists.intro); refine And.intro ?_ ?_; exact leOf))))
  all_goals try (conv => whnf)
  refine Exists.intro (fun _ => True) (And.intro (Enter.mk (0 : Nat) (Nat.zero_le _) trivial ?_) (fun (r : Nat) (hr : r ≤ nk + 7) _ => ?_))
  · ((repeat' ((conv => whnf) <;> first | exact trivial | (with_reducible first | refine And.intro ?_ ?_ | refine rows_lt1 ?_ | refine rows_lt2 ?_ ?_ | refine rows_lt3 ?_ ?_ ?_ | refine rows_lt4 ?_ ?_ ?_ ?_ | refine rows_lt5 ?_ ?_ ?_ ?_ ?_ | refine aggs_lt1 ?_ | refine aggs_lt2 ?_ ?_ | refine aggs_lt3 ?_ ?_ ?_ | refine fun (_ : Nat) => ?_) | refine fun (_ : (_ : Nat) < _) => ?_ | exact rfl | exact Nat.le_of_ble_eq_true rfl | (change (_ : Nat) ≤ _; omega) | (change (_ : Nat) = _; omega) | (change (_ : Int) = _; omega))); (all_goals try (conv => whnf)))
    · rw [rS]
    · simp only [Int.reduceToNat]; omega
  repeat (first | ((conv => whnf); refine And.intro ?_ ?_; exact sideOf) | ((conv => whnf); refine And.intro (fun _ => ?_) (fun h => nomatch (show true = false from h))) | ((conv => whnf); refine And.intro (fun h => nomatch (show false = true from h)) (fun _ => ?_)) | ((conv => whnf); first | (apply Exists.intro; (repeat apply Exists.intro); refine And.intro ?_ ?_; exact leOf) | (refine Or.inl ?_; (conv => whnf); (repeat apply Exists.intro); refine And.intro ?_ ?_; exact leOf) | (refine Or.inr ?_; (conv => whnf); first | ((repeat apply Exists.intro); refine And.intro ?_ ?_; exact leOf) | (refine Or.inl ?_; (conv => whnf); (repeat apply Exists.intro); refine And.intro ?_ ?_; exact leOf) | (refine Or.inr ?_; (conv => whnf); (repeat apply Exists.intro); refine And.intro ?_ ?_; exact leOf))))
  all_goals try (conv => whnf)
  refine And.intro (fun h => ?_) (fun h => ?_)
  · have h := of_decide_eq_true h
    have h := show r ≤ nk + 6 from h
    repeat (first | ((conv => whnf); refine And.intro ?_ ?_; exact sideOf) | ((conv => whnf); refine And.intro (fun _ => ?_) (fun h => nomatch (show true = false from h))) | ((conv => whnf); refine And.intro (fun h => nomatch (show false = true from h)) (fun _ => ?_)) | ((conv => whnf); first | (apply Exists.intro; (repeat apply Exists.intro); refine And.intro ?_ ?_; exact leOf) | (refine Or.inl ?_; (conv => whnf); (repeat apply Exists.intro); refine And.intro ?_ ?_; exact leOf) | (refine Or.inr ?_; (conv => whnf); first | ((repeat apply Exists.intro); refine And.intro ?_ ?_; exact leOf) | (refine Or.inl ?_; (conv => whnf); (repeat apply Exists.intro); refine And.intro ?_ ?_; exact leOf) | (refine Or.inr ?_; (conv => whnf); (repeat apply Exists.intro); refine And.intro ?_ ?_; exact leOf))))
    all_goals try (conv => whnf)
    refine Exists.intro (fun k => k = r) (And.intro ?_ (fun (k : Nat) (hk : k ≤ nk + 6) (hJ : k = r) => ?_))
    · skip
      repeat (first | ((conv => whnf); refine And.intro ?_ ?_; exact sideOf) | ((conv => whnf); refine And.intro (fun _ => ?_) (fun h => nomatch (show true = false from h))) | ((conv => whnf); refine And.intro (fun h => nomatch (show false = true from h)) (fun _ => ?_)) | ((conv => whnf); first | (apply Exists.intro; (repeat apply Exists.intro); refine And.intro ?_ ?_; exact leOf) | (refine Or.inl ?_; (conv => whnf); (repeat apply Exists.intro); refine And.intro ?_ ?_; exact leOf) | (refine Or.inr ?_; (conv => whnf); first | ((repeat apply Exists.intro); refine And.intro ?_ ?_; exact leOf) | (refine Or.inl ?_; (conv => whnf); (repeat apply Exists.intro); refine And.intro ?_ ?_; exact leOf) | (refine Or.inr ?_; (conv => whnf); (repeat apply Exists.intro); refine And.intro ?_ ?_; exact leOf))))
      all_goals try (conv => whnf)
      refine And.intro (fun h0 => ?_) (fun h0 => ?_)
      · have h0 : 0 < r := of_decide_eq_true h0
        repeat (first | ((conv => whnf); refine And.intro ?_ ?_; exact sideOf) | ((conv => whnf); refine And.intro (fun _ => ?_) (fun h => nomatch (show true = false from h))) | ((conv => whnf); refine And.intro (fun h => nomatch (show false = true from h)) (fun _ => ?_)) | ((conv => whnf); first | (apply Exists.intro; (repeat apply Exists.intro); refine And.intro ?_ ?_; exact leOf) | (refine Or.inl ?_; (conv => whnf); (repeat apply Exists.intro); refine And.intro ?_ ?_; exact leOf) | (refine Or.inr ?_; (conv => whnf); first | ((repeat apply Exists.intro); refine And.intro ?_ ?_; exact leOf) | (refine Or.inl ?_; (conv => whnf); (repeat apply Exists.intro); refine And.intro ?_ ?_; exact leOf) | (refine Or.inr ?_; (conv => whnf); (repeat apply Exists.intro); refine And.intro ?_ ?_; exact leOf))))
        all_goals try (conv => whnf)
        refine Exists.intro (fun p => p.1 = r) (And.intro (Enter.mk ((r, 0) : Nat × Nat) ⟨h0, h, Nat.zero_le _⟩ rfl ?_) (fun (p : Nat × Nat) (hp : 0 < p.1 ∧ p.1 ≤ nk + 6 ∧ p.2 ≤ 4) (hJ : p.1 = r) => ?_))
        · ((repeat' ((conv => whnf) <;> first | exact trivial | (with_reducible first | refine And.intro ?_ ?_ | refine rows_lt1 ?_ | refine rows_lt2 ?_ ?_ | refine rows_lt3 ?_ ?_ ?_ | refine rows_lt4 ?_ ?_ ?_ ?_ | refine rows_lt5 ?_ ?_ ?_ ?_ ?_ | refine aggs_lt1 ?_ | refine aggs_lt2 ?_ ?_ | refine aggs_lt3 ?_ ?_ ?_ | refine fun (_ : Nat) => ?_) | refine fun (_ : (_ : Nat) < _) => ?_ | exact rfl | exact Nat.le_of_ble_eq_true rfl | (change (_ : Nat) ≤ _; omega) | (change (_ : Nat) = _; omega) | (change (_ : Int) = _; omega))); (all_goals try (conv => whnf)))
          · exact rS_pos _ _ _ _ _ h0 h
          · exact (rS_pos _ _ _ _ _ h0 h).trans (fil_zero _ _ _)
        obtain ⟨r1, c⟩ := p
        simp only at hp hJ
        subst hJ
        repeat (first | ((conv => whnf); refine And.intro ?_ ?_; exact sideOf) | ((conv => whnf); refine And.intro (fun _ => ?_) (fun h => nomatch (show true = false from h))) | ((conv => whnf); refine And.intro (fun h => nomatch (show false = true from h)) (fun _ => ?_)) | ((conv => whnf); first | (apply Exists.intro; (repeat apply Exists.intro); refine And.intro ?_ ?_; exact leOf) | (refine Or.inl ?_; (conv => whnf); (repeat apply Exists.intro); refine And.intro ?_ ?_; exact leOf) | (refine Or.inr ?_; (conv => whnf); first | ((repeat apply Exists.intro); refine And.intro ?_ ?_; exact leOf) | (refine Or.inl ?_; (conv => whnf); (repeat apply Exists.intro); refine And.intro ?_ ?_; exact leOf) | (refine Or.inr ?_; (conv => whnf); (repeat apply Exists.intro); refine And.intro ?_ ?_; exact leOf))))
        all_goals try (conv => whnf)
        refine And.intro (fun h2 => ?_) (fun h2 => ?_)
        · have h2 := of_decide_eq_true h2
          have h2 := show c < 4 from h2
          repeat (first | ((conv => whnf); refine And.intro ?_ ?_; exact sideOf) | ((conv => whnf); refine And.intro (fun _ => ?_) (fun h => nomatch (show true = false from h))) | ((conv => whnf); refine And.intro (fun h => nomatch (show false = true from h)) (fun _ => ?_)) | ((conv => whnf); first | (apply Exists.intro; (repeat apply Exists.intro); refine And.intro ?_ ?_; exact leOf) | (refine Or.inl ?_; (conv => whnf); (repeat apply Exists.intro); refine And.intro ?_ ?_; exact leOf) | (refine Or.inr ?_; (conv => whnf); first | ((repeat apply Exists.intro); refine And.intro ?_ ?_; exact leOf) | (refine Or.inl ?_; (conv => whnf); (repeat apply Exists.intro); refine And.intro ?_ ?_; exact leOf) | (refine Or.inr ?_; (conv => whnf); (repeat apply Exists.intro); refine And.intro ?_ ?_; exact leOf))))
          all_goals try (conv => whnf)
          refine Exists.intro (fun p => p.1 = r1 ∧ p.2.1 = c) (And.intro (Enter.mk ((r1, c, 0) : Nat × Nat × Nat) ⟨h0, h, h2, Nat.zero_le _⟩ ⟨rfl, rfl⟩ ?_) (fun (p : Nat × Nat × Nat) (hp : 0 < p.1 ∧ p.1 ≤ nk + 6 ∧ p.2.1 < 4 ∧ p.2.2 ≤ 4) (hJ : p.1 = r1 ∧ p.2.1 = c) => ?_))
          · ((repeat' ((conv => whnf) <;> first | exact trivial | (with_reducible first | refine And.intro ?_ ?_ | refine rows_lt1 ?_ | refine rows_lt2 ?_ ?_ | refine rows_lt3 ?_ ?_ ?_ | refine rows_lt4 ?_ ?_ ?_ ?_ | refine rows_lt5 ?_ ?_ ?_ ?_ ?_ | refine aggs_lt1 ?_ | refine aggs_lt2 ?_ ?_ | refine aggs_lt3 ?_ ?_ ?_ | refine fun (_ : Nat) => ?_) | refine fun (_ : (_ : Nat) < _) => ?_ | exact rfl | exact Nat.le_of_ble_eq_true rfl | (change (_ : Nat) ≤ _; omega) | (change (_ : Nat) = _; omega) | (change (_ : Int) = _; omega))); (all_goals try (conv => whnf)))
          obtain ⟨r2, c2, k⟩ := p
          simp only at hp hJ
          obtain ⟨rfl, rfl⟩ := hJ
          repeat (first | ((conv => whnf); refine And.intro ?_ ?_; exact sideOf) | ((conv => whnf); refine And.intro (fun _ => ?_) (fun h => nomatch (show true = false from h))) | ((conv => whnf); refine And.intro (fun h => nomatch (show false = true from h)) (fun _ => ?_)) | ((conv => whnf); first | (apply Exists.intro; (repeat apply Exists.intro); refine And.intro ?_ ?_; exact leOf) | (refine Or.inl ?_; (conv => whnf); (repeat apply Exists.intro); refine And.intro ?_ ?_; exact leOf) | (refine Or.inr ?_; (conv => whnf); first | ((repeat apply Exists.intro); refine And.intro ?_ ?_; exact leOf) | (refine Or.inl ?_; (conv => whnf); (repeat apply Exists.intro); refine And.intro ?_ ?_; exact leOf) | (refine Or.inr ?_; (conv => whnf); (repeat apply Exists.intro); refine And.intro ?_ ?_; exact leOf))))
          all_goals try (conv => whnf)
          refine And.intro (fun h3 => ?_) (fun h3 => ?_)
          · have h3 := of_decide_eq_true h3
            have h3 := show k < 4 from h3
            repeat (first | ((conv => whnf); refine And.intro ?_ ?_; exact sideOf) | ((conv => whnf); refine And.intro (fun _ => ?_) (fun h => nomatch (show true = false from h))) | ((conv => whnf); refine And.intro (fun h => nomatch (show false = true from h)) (fun _ => ?_)) | ((conv => whnf); first | (apply Exists.intro; (repeat apply Exists.intro); refine And.intro ?_ ?_; exact leOf) | (refine Or.inl ?_; (conv => whnf); (repeat apply Exists.intro); refine And.intro ?_ ?_; exact leOf) | (refine Or.inr ?_; (conv => whnf); first | ((repeat apply Exists.intro); refine And.intro ?_ ?_; exact leOf) | (refine Or.inl ?_; (conv => whnf); (repeat apply Exists.intro); refine And.intro ?_ ?_; exact leOf) | (refine Or.inr ?_; (conv => whnf); (repeat apply Exists.intro); refine And.intro ?_ ?_; exact leOf))))
            all_goals try (conv => whnf)
            refine Again.mk ((r2, c2, k + 1) : Nat × Nat × Nat) ⟨h0, h, h2, show k + 1 ≤ 4 by omega⟩ ⟨rfl, rfl⟩ (show 4 - (k + 1) < 4 - k by omega) ?_
            ((repeat' ((conv => whnf) <;> first | exact trivial | (with_reducible first | refine And.intro ?_ ?_ | refine rows_lt1 ?_ | refine rows_lt2 ?_ ?_ | refine rows_lt3 ?_ ?_ ?_ | refine rows_lt4 ?_ ?_ ?_ ?_ | refine rows_lt5 ?_ ?_ ?_ ?_ ?_ | refine aggs_lt1 ?_ | refine aggs_lt2 ?_ ?_ | refine aggs_lt3 ?_ ?_ ?_ | refine fun (_ : Nat) => ?_) | refine fun (_ : (_ : Nat) < _) => ?_ | exact rfl | exact Nat.le_of_ble_eq_true rfl | (change (_ : Nat) ≤ _; omega) | (change (_ : Nat) = _; omega) | (change (_ : Int) = _; omega))); (all_goals try (conv => whnf)))
            exact fil_step _ _ _ _ _ (rV_at _ _ _ _ _ h2 h3)
          · have h3 := of_decide_eq_false h3
            obtain rfl : k = 4 := by have h3 := show ¬ k < 4 from h3; omega
            repeat (first | ((conv => whnf); refine And.intro ?_ ?_; exact sideOf) | ((conv => whnf); refine And.intro (fun _ => ?_) (fun h => nomatch (show true = false from h))) | ((conv => whnf); refine And.intro (fun h => nomatch (show false = true from h)) (fun _ => ?_)) | ((conv => whnf); first | (apply Exists.intro; (repeat apply Exists.intro); refine And.intro ?_ ?_; exact leOf) | (refine Or.inl ?_; (conv => whnf); (repeat apply Exists.intro); refine And.intro ?_ ?_; exact leOf) | (refine Or.inr ?_; (conv => whnf); first | ((repeat apply Exists.intro); refine And.intro ?_ ?_; exact leOf) | (refine Or.inl ?_; (conv => whnf); (repeat apply Exists.intro); refine And.intro ?_ ?_; exact leOf) | (refine Or.inr ?_; (conv => whnf); (repeat apply Exists.intro); refine And.intro ?_ ?_; exact leOf))))
            all_goals try (conv => whnf)
            refine Again.mk ((r2, c2 + 1) : Nat × Nat) ⟨h0, h, show c2 + 1 ≤ 4 by omega⟩ rfl (show 4 - (c2 + 1) < 4 - c2 by omega) ?_
            ((repeat' ((conv => whnf) <;> first | exact trivial | (with_reducible first | refine And.intro ?_ ?_ | refine rows_lt1 ?_ | refine rows_lt2 ?_ ?_ | refine rows_lt3 ?_ ?_ ?_ | refine rows_lt4 ?_ ?_ ?_ ?_ | refine rows_lt5 ?_ ?_ ?_ ?_ ?_ | refine aggs_lt1 ?_ | refine aggs_lt2 ?_ ?_ | refine aggs_lt3 ?_ ?_ ?_ | refine fun (_ : Nat) => ?_) | refine fun (_ : (_ : Nat) < _) => ?_ | exact rfl | exact Nat.le_of_ble_eq_true rfl | (change (_ : Nat) ≤ _; omega) | (change (_ : Nat) = _; omega) | (change (_ : Int) = _; omega))); (all_goals try (conv => whnf)))
        · have h2 := of_decide_eq_false h2
          obtain rfl : c = 4 := by have h2 := show ¬ c < 4 from h2; omega
          repeat (first | ((conv => whnf); refine And.intro ?_ ?_; exact sideOf) | ((conv => whnf); refine And.intro (fun _ => ?_) (fun h => nomatch (show true = false from h))) | ((conv => whnf); refine And.intro (fun h => nomatch (show false = true from h)) (fun _ => ?_)) | ((conv => whnf); first | (apply Exists.intro; (repeat apply Exists.intro); refine And.intro ?_ ?_; exact leOf) | (refine Or.inl ?_; (conv => whnf); (repeat apply Exists.intro); refine And.intro ?_ ?_; exact leOf) | (refine Or.inr ?_; (conv => whnf); first | ((repeat apply Exists.intro); refine And.intro ?_ ?_; exact leOf) | (refine Or.inl ?_; (conv => whnf); (repeat apply Exists.intro); refine And.intro ?_ ?_; exact leOf) | (refine Or.inr ?_; (conv => whnf); (repeat apply Exists.intro); refine And.intro ?_ ?_; exact leOf))))
          all_goals try (conv => whnf)
          refine Exists.intro (fun p => p.1 = r1) (And.intro (Enter.mk ((r1, 0) : Nat × Nat) ⟨h0, h, Nat.zero_le _, Or.inr rfl⟩ rfl ?_) (fun (p : Nat × Nat) (hp : 0 < p.1 ∧ p.1 ≤ nk + 6 ∧ p.2 ≤ 4 ∧ (p.1 < nk + 6 ∨ p.2 = 0)) (hJ : p.1 = r1) => ?_))
          · ((repeat' ((conv => whnf) <;> first | exact trivial | (with_reducible first | refine And.intro ?_ ?_ | refine rows_lt1 ?_ | refine rows_lt2 ?_ ?_ | refine rows_lt3 ?_ ?_ ?_ | refine rows_lt4 ?_ ?_ ?_ ?_ | refine rows_lt5 ?_ ?_ ?_ ?_ ?_ | refine aggs_lt1 ?_ | refine aggs_lt2 ?_ ?_ | refine aggs_lt3 ?_ ?_ ?_ | refine fun (_ : Nat) => ?_) | refine fun (_ : (_ : Nat) < _) => ?_ | exact rfl | exact Nat.le_of_ble_eq_true rfl | (change (_ : Nat) ≤ _; omega) | (change (_ : Nat) = _; omega) | (change (_ : Int) = _; omega))); (all_goals try (conv => whnf)))
            · rename_i x hx
              exact (fil_all _ _ 16 x hx).trans (fil_zero _ _ _)
            · rename_i x hx
              exact fil_all _ _ 16 x hx
          obtain ⟨r2, c⟩ := p
          simp only at hp hJ
          have hq := hp.2.2
          subst hJ
          repeat (first | ((conv => whnf); refine And.intro ?_ ?_; exact sideOf) | ((conv => whnf); refine And.intro (fun _ => ?_) (fun h => nomatch (show true = false from h))) | ((conv => whnf); refine And.intro (fun h => nomatch (show false = true from h)) (fun _ => ?_)) | ((conv => whnf); first | (apply Exists.intro; (repeat apply Exists.intro); refine And.intro ?_ ?_; exact leOf) | (refine Or.inl ?_; (conv => whnf); (repeat apply Exists.intro); refine And.intro ?_ ?_; exact leOf) | (refine Or.inr ?_; (conv => whnf); first | ((repeat apply Exists.intro); refine And.intro ?_ ?_; exact leOf) | (refine Or.inl ?_; (conv => whnf); (repeat apply Exists.intro); refine And.intro ?_ ?_; exact leOf) | (refine Or.inr ?_; (conv => whnf); (repeat apply Exists.intro); refine And.intro ?_ ?_; exact leOf))))
          all_goals try (conv => whnf)
          refine And.intro (fun h3 => ?_) (fun h3 => ?_)
          · have h3 := of_decide_eq_true h3
            have h3 := show c < 4 from h3
            repeat (first | ((conv => whnf); refine And.intro ?_ ?_; exact sideOf) | ((conv => whnf); refine And.intro (fun _ => ?_) (fun h => nomatch (show true = false from h))) | ((conv => whnf); refine And.intro (fun h => nomatch (show false = true from h)) (fun _ => ?_)) | ((conv => whnf); first | (apply Exists.intro; (repeat apply Exists.intro); refine And.intro ?_ ?_; exact leOf) | (refine Or.inl ?_; (conv => whnf); (repeat apply Exists.intro); refine And.intro ?_ ?_; exact leOf) | (refine Or.inr ?_; (conv => whnf); first | ((repeat apply Exists.intro); refine And.intro ?_ ?_; exact leOf) | (refine Or.inl ?_; (conv => whnf); (repeat apply Exists.intro); refine And.intro ?_ ?_; exact leOf) | (refine Or.inr ?_; (conv => whnf); (repeat apply Exists.intro); refine And.intro ?_ ?_; exact leOf))))
            all_goals try (conv => whnf)
            refine And.intro (fun h4 => ?_) (fun h4 => ?_)
            · have h4 := of_decide_eq_true h4
              have h4 := show r2 < nk + 6 from h4
              repeat (first | ((conv => whnf); refine And.intro ?_ ?_; exact sideOf) | ((conv => whnf); refine And.intro (fun _ => ?_) (fun h => nomatch (show true = false from h))) | ((conv => whnf); refine And.intro (fun h => nomatch (show false = true from h)) (fun _ => ?_)) | ((conv => whnf); first | (apply Exists.intro; (repeat apply Exists.intro); refine And.intro ?_ ?_; exact leOf) | (refine Or.inl ?_; (conv => whnf); (repeat apply Exists.intro); refine And.intro ?_ ?_; exact leOf) | (refine Or.inr ?_; (conv => whnf); first | ((repeat apply Exists.intro); refine And.intro ?_ ?_; exact leOf) | (refine Or.inl ?_; (conv => whnf); (repeat apply Exists.intro); refine And.intro ?_ ?_; exact leOf) | (refine Or.inr ?_; (conv => whnf); (repeat apply Exists.intro); refine And.intro ?_ ?_; exact leOf))))
              all_goals try (conv => whnf)
              refine Exists.intro (fun p => p.1 = r2 ∧ p.2.1 = c) (And.intro (Enter.mk ((r2, c, 0) : Nat × Nat × Nat) ⟨h0, h4, h3, Nat.zero_le _⟩ ⟨rfl, rfl⟩ ?_) (fun (p : Nat × Nat × Nat) (hp : 0 < p.1 ∧ p.1 < nk + 6 ∧ p.2.1 < 4 ∧ p.2.2 ≤ 4) (hJ : p.1 = r2 ∧ p.2.1 = c) => ?_))
              · ((repeat' ((conv => whnf) <;> first | exact trivial | (with_reducible first | refine And.intro ?_ ?_ | refine rows_lt1 ?_ | refine rows_lt2 ?_ ?_ | refine rows_lt3 ?_ ?_ ?_ | refine rows_lt4 ?_ ?_ ?_ ?_ | refine rows_lt5 ?_ ?_ ?_ ?_ ?_ | refine aggs_lt1 ?_ | refine aggs_lt2 ?_ ?_ | refine aggs_lt3 ?_ ?_ ?_ | refine fun (_ : Nat) => ?_) | refine fun (_ : (_ : Nat) < _) => ?_ | exact rfl | exact Nat.le_of_ble_eq_true rfl | (change (_ : Nat) ≤ _; omega) | (change (_ : Nat) = _; omega) | (change (_ : Int) = _; omega))); (all_goals try (conv => whnf)))
                rename_i x hx
                rcases x with _ | _ | _ | _ | x
                · rfl
                · rfl
                · rfl
                · rfl
                · omega
              obtain ⟨r3, c3, k⟩ := p
              simp only at hp hJ
              obtain ⟨rfl, rfl⟩ := hJ
              repeat (first | ((conv => whnf); refine And.intro ?_ ?_; exact sideOf) | ((conv => whnf); refine And.intro (fun _ => ?_) (fun h => nomatch (show true = false from h))) | ((conv => whnf); refine And.intro (fun h => nomatch (show false = true from h)) (fun _ => ?_)) | ((conv => whnf); first | (apply Exists.intro; (repeat apply Exists.intro); refine And.intro ?_ ?_; exact leOf) | (refine Or.inl ?_; (conv => whnf); (repeat apply Exists.intro); refine And.intro ?_ ?_; exact leOf) | (refine Or.inr ?_; (conv => whnf); first | ((repeat apply Exists.intro); refine And.intro ?_ ?_; exact leOf) | (refine Or.inl ?_; (conv => whnf); (repeat apply Exists.intro); refine And.intro ?_ ?_; exact leOf) | (refine Or.inr ?_; (conv => whnf); (repeat apply Exists.intro); refine And.intro ?_ ?_; exact leOf))))
              all_goals try (conv => whnf)
              refine And.intro (fun h5 => ?_) (fun h5 => ?_)
              · have h5 := of_decide_eq_true h5
                have h5 := show k < 4 from h5
                repeat (first | ((conv => whnf); refine And.intro ?_ ?_; exact sideOf) | ((conv => whnf); refine And.intro (fun _ => ?_) (fun h => nomatch (show true = false from h))) | ((conv => whnf); refine And.intro (fun h => nomatch (show false = true from h)) (fun _ => ?_)) | ((conv => whnf); first | (apply Exists.intro; (repeat apply Exists.intro); refine And.intro ?_ ?_; exact leOf) | (refine Or.inl ?_; (conv => whnf); (repeat apply Exists.intro); refine And.intro ?_ ?_; exact leOf) | (refine Or.inr ?_; (conv => whnf); first | ((repeat apply Exists.intro); refine And.intro ?_ ?_; exact leOf) | (refine Or.inl ?_; (conv => whnf); (repeat apply Exists.intro); refine And.intro ?_ ?_; exact leOf) | (refine Or.inr ?_; (conv => whnf); (repeat apply Exists.intro); refine And.intro ?_ ?_; exact leOf))))
                all_goals try (conv => whnf)
                refine Again.mk ((r3, c3, k + 1) : Nat × Nat × Nat) ⟨h0, h4, h3, show k + 1 ≤ 4 by omega⟩ ⟨rfl, rfl⟩ (show 4 - (k + 1) < 4 - k by omega) ?_
                ((repeat' ((conv => whnf) <;> first | exact trivial | (with_reducible first | refine And.intro ?_ ?_ | refine rows_lt1 ?_ | refine rows_lt2 ?_ ?_ | refine rows_lt3 ?_ ?_ ?_ | refine rows_lt4 ?_ ?_ ?_ ?_ | refine rows_lt5 ?_ ?_ ?_ ?_ ?_ | refine aggs_lt1 ?_ | refine aggs_lt2 ?_ ?_ | refine aggs_lt3 ?_ ?_ ?_ | refine fun (_ : Nat) => ?_) | refine fun (_ : (_ : Nat) < _) => ?_ | exact rfl | exact Nat.le_of_ble_eq_true rfl | (change (_ : Nat) ≤ _; omega) | (change (_ : Nat) = _; omega) | (change (_ : Int) = _; omega))); (all_goals try (conv => whnf)))
                exact fil_step _ _ _ _ _ (mi_row _ _ _ h5)
              · have h5 := of_decide_eq_false h5
                obtain rfl : k = 4 := by have h5 := show ¬ k < 4 from h5; omega
                repeat (first | ((conv => whnf); refine And.intro ?_ ?_; exact sideOf) | ((conv => whnf); refine And.intro (fun _ => ?_) (fun h => nomatch (show true = false from h))) | ((conv => whnf); refine And.intro (fun h => nomatch (show false = true from h)) (fun _ => ?_)) | ((conv => whnf); first | (apply Exists.intro; (repeat apply Exists.intro); refine And.intro ?_ ?_; exact leOf) | (refine Or.inl ?_; (conv => whnf); (repeat apply Exists.intro); refine And.intro ?_ ?_; exact leOf) | (refine Or.inr ?_; (conv => whnf); first | ((repeat apply Exists.intro); refine And.intro ?_ ?_; exact leOf) | (refine Or.inl ?_; (conv => whnf); (repeat apply Exists.intro); refine And.intro ?_ ?_; exact leOf) | (refine Or.inr ?_; (conv => whnf); (repeat apply Exists.intro); refine And.intro ?_ ?_; exact leOf))))
                all_goals try (conv => whnf)
                refine Again.mk ((r3, c3 + 1) : Nat × Nat) ⟨h0, h, show c3 + 1 ≤ 4 by omega, Or.inl h4⟩ rfl (show 4 - (c3 + 1) < 4 - c3 by omega) ?_
                ((repeat' ((conv => whnf) <;> first | exact trivial | (with_reducible first | refine And.intro ?_ ?_ | refine rows_lt1 ?_ | refine rows_lt2 ?_ ?_ | refine rows_lt3 ?_ ?_ ?_ | refine rows_lt4 ?_ ?_ ?_ ?_ | refine rows_lt5 ?_ ?_ ?_ ?_ ?_ | refine aggs_lt1 ?_ | refine aggs_lt2 ?_ ?_ | refine aggs_lt3 ?_ ?_ ?_ | refine fun (_ : Nat) => ?_) | refine fun (_ : (_ : Nat) < _) => ?_ | exact rfl | exact Nat.le_of_ble_eq_true rfl | (change (_ : Nat) ≤ _; omega) | (change (_ : Nat) = _; omega) | (change (_ : Int) = _; omega))); (all_goals try (conv => whnf)))
                done
            · have h4 := of_decide_eq_false h4
              have h4 := show ¬ r2 < nk + 6 from h4
              have h5 := show r2 < nk + 6 ∨ c = 0 from hq.2
              obtain rfl : c = 0 := by omega
              repeat (first | ((conv => whnf); refine And.intro ?_ ?_; exact sideOf) | ((conv => whnf); refine And.intro (fun _ => ?_) (fun h => nomatch (show true = false from h))) | ((conv => whnf); refine And.intro (fun h => nomatch (show false = true from h)) (fun _ => ?_)) | ((conv => whnf); first | (apply Exists.intro; (repeat apply Exists.intro); refine And.intro ?_ ?_; exact leOf) | (refine Or.inl ?_; (conv => whnf); (repeat apply Exists.intro); refine And.intro ?_ ?_; exact leOf) | (refine Or.inr ?_; (conv => whnf); first | ((repeat apply Exists.intro); refine And.intro ?_ ?_; exact leOf) | (refine Or.inl ?_; (conv => whnf); (repeat apply Exists.intro); refine And.intro ?_ ?_; exact leOf) | (refine Or.inr ?_; (conv => whnf); (repeat apply Exists.intro); refine And.intro ?_ ?_; exact leOf))))
              all_goals try (conv => whnf)
              refine Enter.mk (r2 : Nat) h rfl ?_
              ((repeat' ((conv => whnf) <;> first | exact trivial | (with_reducible first | refine And.intro ?_ ?_ | refine rows_lt1 ?_ | refine rows_lt2 ?_ ?_ | refine rows_lt3 ?_ ?_ ?_ | refine rows_lt4 ?_ ?_ ?_ ?_ | refine rows_lt5 ?_ ?_ ?_ ?_ ?_ | refine aggs_lt1 ?_ | refine aggs_lt2 ?_ ?_ | refine aggs_lt3 ?_ ?_ ?_ | refine fun (_ : Nat) => ?_) | refine fun (_ : (_ : Nat) < _) => ?_ | exact rfl | exact Nat.le_of_ble_eq_true rfl | (change (_ : Nat) ≤ _; omega) | (change (_ : Nat) = _; omega) | (change (_ : Int) = _; omega))); (all_goals try (conv => whnf)))
              unfold rX
              rw [if_neg (by omega), if_neg h4]
              exact (fil_zero _ _ _).symm
          · have h3 := of_decide_eq_false h3
            have h3 := show ¬ c < 4 from h3
            have h5 := show r2 < nk + 6 ∨ c = 0 from hq.2
            obtain rfl : c = 4 := by have := hq.1; omega
            repeat (first | ((conv => whnf); refine And.intro ?_ ?_; exact sideOf) | ((conv => whnf); refine And.intro (fun _ => ?_) (fun h => nomatch (show true = false from h))) | ((conv => whnf); refine And.intro (fun h => nomatch (show false = true from h)) (fun _ => ?_)) | ((conv => whnf); first | (apply Exists.intro; (repeat apply Exists.intro); refine And.intro ?_ ?_; exact leOf) | (refine Or.inl ?_; (conv => whnf); (repeat apply Exists.intro); refine And.intro ?_ ?_; exact leOf) | (refine Or.inr ?_; (conv => whnf); first | ((repeat apply Exists.intro); refine And.intro ?_ ?_; exact leOf) | (refine Or.inl ?_; (conv => whnf); (repeat apply Exists.intro); refine And.intro ?_ ?_; exact leOf) | (refine Or.inr ?_; (conv => whnf); (repeat apply Exists.intro); refine And.intro ?_ ?_; exact leOf))))
            all_goals try (conv => whnf)
            refine Enter.mk (r2 : Nat) h rfl ?_
            ((repeat' ((conv => whnf) <;> first | exact trivial | (with_reducible first | refine And.intro ?_ ?_ | refine rows_lt1 ?_ | refine rows_lt2 ?_ ?_ | refine rows_lt3 ?_ ?_ ?_ | refine rows_lt4 ?_ ?_ ?_ ?_ | refine rows_lt5 ?_ ?_ ?_ ?_ ?_ | refine aggs_lt1 ?_ | refine aggs_lt2 ?_ ?_ | refine aggs_lt3 ?_ ?_ ?_ | refine fun (_ : Nat) => ?_) | refine fun (_ : (_ : Nat) < _) => ?_ | exact rfl | exact Nat.le_of_ble_eq_true rfl | (change (_ : Nat) ≤ _; omega) | (change (_ : Nat) = _; omega) | (change (_ : Int) = _; omega))); (all_goals try (conv => whnf)))
            rename_i x hx
            unfold rX
            rw [if_neg (by omega), if_pos (by omega)]
            exact fil_all _ _ 16 x hx
      · have h0 : ¬ 0 < r := of_decide_eq_false h0
        obtain rfl : r = 0 := by omega
        repeat (first | ((conv => whnf); refine And.intro ?_ ?_; exact sideOf) | ((conv => whnf); refine And.intro (fun _ => ?_) (fun h => nomatch (show true = false from h))) | ((conv => whnf); refine And.intro (fun h => nomatch (show false = true from h)) (fun _ => ?_)) | ((conv => whnf); first | (apply Exists.intro; (repeat apply Exists.intro); refine And.intro ?_ ?_; exact leOf) | (refine Or.inl ?_; (conv => whnf); (repeat apply Exists.intro); refine And.intro ?_ ?_; exact leOf) | (refine Or.inr ?_; (conv => whnf); first | ((repeat apply Exists.intro); refine And.intro ?_ ?_; exact leOf) | (refine Or.inl ?_; (conv => whnf); (repeat apply Exists.intro); refine And.intro ?_ ?_; exact leOf) | (refine Or.inr ?_; (conv => whnf); (repeat apply Exists.intro); refine And.intro ?_ ?_; exact leOf))))
        all_goals try (conv => whnf)
        refine Enter.mk (0 : Nat) (Nat.zero_le _) rfl ?_
        ((repeat' ((conv => whnf) <;> first | exact trivial | (with_reducible first | refine And.intro ?_ ?_ | refine rows_lt1 ?_ | refine rows_lt2 ?_ ?_ | refine rows_lt3 ?_ ?_ ?_ | refine rows_lt4 ?_ ?_ ?_ ?_ | refine rows_lt5 ?_ ?_ ?_ ?_ ?_ | refine aggs_lt1 ?_ | refine aggs_lt2 ?_ ?_ | refine aggs_lt3 ?_ ?_ ?_ | refine fun (_ : Nat) => ?_) | refine fun (_ : (_ : Nat) < _) => ?_ | exact rfl | exact Nat.le_of_ble_eq_true rfl | (change (_ : Nat) ≤ _; omega) | (change (_ : Nat) = _; omega) | (change (_ : Int) = _; omega))); (all_goals try (conv => whnf)))
        rw [rS]
        unfold rX
        rw [if_pos rfl]
    · subst hJ
      repeat (first | ((conv => whnf); refine And.intro ?_ ?_; exact sideOf) | ((conv => whnf); refine And.intro (fun _ => ?_) (fun h => nomatch (show true = false from h))) | ((conv => whnf); refine And.intro (fun h => nomatch (show false = true from h)) (fun _ => ?_)) | ((conv => whnf); first | (apply Exists.intro; (repeat apply Exists.intro); refine And.intro ?_ ?_; exact leOf) | (refine Or.inl ?_; (conv => whnf); (repeat apply Exists.intro); refine And.intro ?_ ?_; exact leOf) | (refine Or.inr ?_; (conv => whnf); first | ((repeat apply Exists.intro); refine And.intro ?_ ?_; exact leOf) | (refine Or.inl ?_; (conv => whnf); (repeat apply Exists.intro); refine And.intro ?_ ?_; exact leOf) | (refine Or.inr ?_; (conv => whnf); (repeat apply Exists.intro); refine And.intro ?_ ?_; exact leOf))))
      all_goals try (conv => whnf)
      refine Exists.intro (fun p => p.1 = k) (And.intro (Enter.mk ((k, 0) : Nat × Nat) ⟨hk, Nat.zero_le _⟩ rfl ?_) (fun (p : Nat × Nat) (hp : p.1 ≤ nk + 6 ∧ p.2 ≤ 16) (hJ : p.1 = k) => ?_))
      · ((repeat' ((conv => whnf) <;> first | exact trivial | (with_reducible first | refine And.intro ?_ ?_ | refine rows_lt1 ?_ | refine rows_lt2 ?_ ?_ | refine rows_lt3 ?_ ?_ ?_ | refine rows_lt4 ?_ ?_ ?_ ?_ | refine rows_lt5 ?_ ?_ ?_ ?_ ?_ | refine aggs_lt1 ?_ | refine aggs_lt2 ?_ ?_ | refine aggs_lt3 ?_ ?_ ?_ | refine fun (_ : Nat) => ?_) | refine fun (_ : (_ : Nat) < _) => ?_ | exact rfl | exact Nat.le_of_ble_eq_true rfl | (change (_ : Nat) ≤ _; omega) | (change (_ : Nat) = _; omega) | (change (_ : Int) = _; omega))); (all_goals try (conv => whnf)))
        exact fil_zero _ _ _
      obtain ⟨r1, i⟩ := p
      simp only at hp hJ
      subst hJ
      repeat (first | ((conv => whnf); refine And.intro ?_ ?_; exact sideOf) | ((conv => whnf); refine And.intro (fun _ => ?_) (fun h => nomatch (show true = false from h))) | ((conv => whnf); refine And.intro (fun h => nomatch (show false = true from h)) (fun _ => ?_)) | ((conv => whnf); first | (apply Exists.intro; (repeat apply Exists.intro); refine And.intro ?_ ?_; exact leOf) | (refine Or.inl ?_; (conv => whnf); (repeat apply Exists.intro); refine And.intro ?_ ?_; exact leOf) | (refine Or.inr ?_; (conv => whnf); first | ((repeat apply Exists.intro); refine And.intro ?_ ?_; exact leOf) | (refine Or.inl ?_; (conv => whnf); (repeat apply Exists.intro); refine And.intro ?_ ?_; exact leOf) | (refine Or.inr ?_; (conv => whnf); (repeat apply Exists.intro); refine And.intro ?_ ?_; exact leOf))))
      all_goals try (conv => whnf)
      refine And.intro (fun h2 => ?_) (fun h2 => ?_)
      · have h2 := of_decide_eq_true h2
        have h2 := show i < 16 from h2
        repeat (first | ((conv => whnf); refine And.intro ?_ ?_; exact sideOf) | ((conv => whnf); refine And.intro (fun _ => ?_) (fun h => nomatch (show true = false from h))) | ((conv => whnf); refine And.intro (fun h => nomatch (show false = true from h)) (fun _ => ?_)) | ((conv => whnf); first | (apply Exists.intro; (repeat apply Exists.intro); refine And.intro ?_ ?_; exact leOf) | (refine Or.inl ?_; (conv => whnf); (repeat apply Exists.intro); refine And.intro ?_ ?_; exact leOf) | (refine Or.inr ?_; (conv => whnf); first | ((repeat apply Exists.intro); refine And.intro ?_ ?_; exact leOf) | (refine Or.inl ?_; (conv => whnf); (repeat apply Exists.intro); refine And.intro ?_ ?_; exact leOf) | (refine Or.inr ?_; (conv => whnf); (repeat apply Exists.intro); refine And.intro ?_ ?_; exact leOf))))
        all_goals try (conv => whnf)
        refine Again.mk ((r1, i + 1) : Nat × Nat) ⟨hk, show i + 1 ≤ 16 by omega⟩ rfl (show 16 - (i + 1) < 16 - i by omega) ?_
        ((repeat' ((conv => whnf) <;> first | exact trivial | (with_reducible first | refine And.intro ?_ ?_ | refine rows_lt1 ?_ | refine rows_lt2 ?_ ?_ | refine rows_lt3 ?_ ?_ ?_ | refine rows_lt4 ?_ ?_ ?_ ?_ | refine rows_lt5 ?_ ?_ ?_ ?_ ?_ | refine aggs_lt1 ?_ | refine aggs_lt2 ?_ ?_ | refine aggs_lt3 ?_ ?_ ?_ | refine fun (_ : Nat) => ?_) | refine fun (_ : (_ : Nat) < _) => ?_ | exact rfl | exact Nat.le_of_ble_eq_true rfl | (change (_ : Nat) ≤ _; omega) | (change (_ : Nat) = _; omega) | (change (_ : Int) = _; omega))); (all_goals try (conv => whnf)))
        refine fil_step _ _ _ _ _ ?_
        rw [fil_at]
        exact mk_row _ _ _ _ _
      · have h2 := of_decide_eq_false h2
        obtain rfl : i = 16 := by have h2 := show ¬ i < 16 from h2; omega
        repeat (first | ((conv => whnf); refine And.intro ?_ ?_; exact sideOf) | ((conv => whnf); refine And.intro (fun _ => ?_) (fun h => nomatch (show true = false from h))) | ((conv => whnf); refine And.intro (fun h => nomatch (show false = true from h)) (fun _ => ?_)) | ((conv => whnf); first | (apply Exists.intro; (repeat apply Exists.intro); refine And.intro ?_ ?_; exact leOf) | (refine Or.inl ?_; (conv => whnf); (repeat apply Exists.intro); refine And.intro ?_ ?_; exact leOf) | (refine Or.inr ?_; (conv => whnf); first | ((repeat apply Exists.intro); refine And.intro ?_ ?_; exact leOf) | (refine Or.inl ?_; (conv => whnf); (repeat apply Exists.intro); refine And.intro ?_ ?_; exact leOf) | (refine Or.inr ?_; (conv => whnf); (repeat apply Exists.intro); refine And.intro ?_ ?_; exact leOf))))
        all_goals try (conv => whnf)
        refine Again.mk (r1 + 1 : Nat) (show r1 + 1 ≤ nk + 7 by omega) trivial (show nk + 7 - (r1 + 1) < nk + 7 - r1 by omega) ?_
        ((repeat' ((conv => whnf) <;> first | exact trivial | (with_reducible first | refine And.intro ?_ ?_ | refine rows_lt1 ?_ | refine rows_lt2 ?_ ?_ | refine rows_lt3 ?_ ?_ ?_ | refine rows_lt4 ?_ ?_ ?_ ?_ | refine rows_lt5 ?_ ?_ ?_ ?_ ?_ | refine aggs_lt1 ?_ | refine aggs_lt2 ?_ ?_ | refine aggs_lt3 ?_ ?_ ?_ | refine fun (_ : Nat) => ?_) | refine fun (_ : (_ : Nat) < _) => ?_ | exact rfl | exact Nat.le_of_ble_eq_true rfl | (change (_ : Nat) ≤ _; omega) | (change (_ : Nat) = _; omega) | (change (_ : Int) = _; omega))); (all_goals try (conv => whnf)))
        rename_i x hx
        exact (fil_all _ _ 16 x hx).trans (rX_next _ _ _ _ _ hk (by omega))
  · have h := of_decide_eq_false h
    have h := show ¬ r ≤ nk + 6 from h
    obtain rfl : r = nk + 7 := by omega
    repeat (first | ((conv => whnf); refine And.intro ?_ ?_; exact sideOf) | ((conv => whnf); refine And.intro (fun _ => ?_) (fun h => nomatch (show true = false from h))) | ((conv => whnf); refine And.intro (fun h => nomatch (show false = true from h)) (fun _ => ?_)) | ((conv => whnf); first | (apply Exists.intro; (repeat apply Exists.intro); refine And.intro ?_ ?_; exact leOf) | (refine Or.inl ?_; (conv => whnf); (repeat apply Exists.intro); refine And.intro ?_ ?_; exact leOf) | (refine Or.inr ?_; (conv => whnf); first | ((repeat apply Exists.intro); refine And.intro ?_ ?_; exact leOf) | (refine Or.inl ?_; (conv => whnf); (repeat apply Exists.intro); refine And.intro ?_ ?_; exact leOf) | (refine Or.inr ?_; (conv => whnf); (repeat apply Exists.intro); refine And.intro ?_ ?_; exact leOf))))
    all_goals try (conv => whnf)
    ((repeat' ((conv => whnf) <;> first | exact trivial | (with_reducible first | refine And.intro ?_ ?_ | refine rows_lt1 ?_ | refine rows_lt2 ?_ ?_ | refine rows_lt3 ?_ ?_ ?_ | refine rows_lt4 ?_ ?_ ?_ ?_ | refine rows_lt5 ?_ ?_ ?_ ?_ ?_ | refine aggs_lt1 ?_ | refine aggs_lt2 ?_ ?_ | refine aggs_lt3 ?_ ?_ ?_ | refine fun (_ : Nat) => ?_) | refine fun (_ : (_ : Nat) < _) => ?_ | exact rfl | exact Nat.le_of_ble_eq_true rfl | (change (_ : Nat) ≤ _; omega) | (change (_ : Nat) = _; omega) | (change (_ : Int) = _; omega))); (all_goals try (conv => whnf)))
    rw [rS, if_neg (by omega)]
def C_r3_Encrypt4 : SpecP := fun A K => ∃ b f, A [bsl 16 b, arr8 16 f] ∧ K (arr8 16 (enc 10 (at32 (ksch 4 b)) f))
def C_r3_Encrypt8 : SpecP := fun A K => ∃ b f, A [bsl 32 b, arr8 16 f] ∧ K (arr8 16 (enc 14 (at32 (ksch 8 b)) f))
theorem g_r3_Encrypt4 : Gd 24 (pureP ty C_r3_Encrypt4) := good_imp g_r3_Encrypt fun args m key K ⟨b, f, hA, hK⟩ => ⟨4, b, f, hA, .inl rfl, hK⟩
theorem g_r3_Encrypt8 : Gd 24 (pureP ty C_r3_Encrypt8) := good_imp g_r3_Encrypt fun args m key K ⟨b, f, hA, hK⟩ => ⟨8, b, f, hA, .inr rfl, hK⟩
def C_r3_Words4 : SpecR := fun A K => ∃ b, A [bsl 16 b] ∧ K (.gsl TSL 8 44) [(8, .grow TSL 44 (wRow 4 b))]
def C_r3_Words8 : SpecR := fun A K => ∃ b, A [bsl 32 b] ∧ K (.gsl TSL 8 60) [(8, .grow TSL 60 (wRow 8 b))]
theorem g_r3_Words4 : Gd 39 (pureR ty C_r3_Words4) := good_imp g_r3_Words fun args m key K ⟨b, hA, hK⟩ => ⟨4, b, hA, .inl rfl, hK⟩
theorem g_r3_Words8 : Gd 39 (pureR ty C_r3_Words8) := good_imp g_r3_Words fun args m key K ⟨b, hA, hK⟩ => ⟨8, b, hA, .inr rfl, hK⟩
end Go.Proofs.Ytaajedeapmphpaa
