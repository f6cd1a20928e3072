/- AES: the example; what was encrypted is decrypted again. -/
import Derived.Test.YtmpbaaplfbaelaaA7
namespace Go.Proofs.Ytmpbaaplfbaelaa
open Go.RowKit
set_option maxRecDepth 100000
set_option maxHeartbeats 20000000
theorem ksch_c {nk : Nat} {b b' : Nat → BitVec 8} (h : ∀ j, j < 4 * nk → b j = b' j) : ksch nk b = ksch nk b' := by
  have e : kfirst nk b = kfirst nk b' := by
    unfold kfirst lw
    refine List.map_congr_left fun i hi => ?_
    rw [List.mem_range] at hi
    simp only [wordAt]
    rw [h _ (by omega), h _ (by omega), h _ (by omega), h _ (by omega)]
  unfold ksch
  rw [e]
theorem lw_c8 {n : Nat} {f g : Nat → BitVec 8} (h : ∀ j, j < n → f j = g j) : lw n f = lw n g := by
  unfold lw
  exact List.map_congr_left fun i hi => h i (List.mem_range.1 hi)
theorem ex_hex : hexL exC = "69c4e0d86a7b0430d8cdb78070b4c55a".toUTF8.data.toList := by decide +kernel
theorem ex_box : sbx 0#8 = 99#8 := by decide +kernel
theorem lw_at8 (l : Msg) (n : Nat) (h : l.length = n) : lw n (at8 l) = l := by
  subst h
  apply List.ext_getElem (by simp [lw])
  intro i h1 h2
  simp [lw, at8, List.getD, h2]
attribute [local irreducible] xt rol8 aff pw lg sbx isx gm sbN isN xtN at32 mkB shB suB miB enc dec hexL at8 exC exK
def exF (k : Nat) : Nat → BitVec 8 := fil (fun j => BitVec.ofNat 8 j) (fun _ => 0) k
def exG (k : Nat) : Nat → BitVec 8 := fil (fun j => BitVec.ofNat 8 (17 * j)) (fun _ => 0) k
def C_l3_awake : SpecP := fun A K => A [] ∧ K (.bo true)
def L_l3_awake : LI := ⟨Nat, (· ≤ 16), fun k => [(1, .gsl 5 1032 16), (2, .ptr TB 2056 []), (9, .nat 16), (10, .nat k)],
  fun k => [(1032, .grow 5 16 (bys (exF k))), (2056, .var TB (arr8 16 (exG k)))], fun k => 16 - k, some, some⟩
theorem g_l3_awake : Gd 9 (pureP ty C_l3_awake) := by
  refine goodP (E := PG [(32, pureP ty C_aes_Box), (11, pureP ty C_aes_New4), (12, pureP ty C_aes_Key_Encrypt), (34, pureP ty C_aes_Key_Decrypt), (33, pureP ty C_r1_Hex)]) (pgOK ⟨g_aes_Box, g_aes_New4, g_aes_Key_Encrypt, g_aes_Key_Decrypt, g_r1_Hex, trivial⟩) mixes Try.func9 (by kernel_rfl) (by kernel_rfl) ?_
  rintro A K ⟨hA, hK⟩
  refine ⟨_, _, loops [(4, L_l3_awake)], hA, hK, by kernel_rfl, trivial, ?_⟩
  repeat (first | ((conv => whnf); refine And.intro ?_ ?_; exact sideOf) | ((conv => whnf); refine And.intro (fun _ => ?_) (fun h => nomatch (show true = false from h))) | ((conv => whnf); refine And.intro (fun h => nomatch (show false = true from h)) (fun _ => ?_)) | ((conv => whnf); first | (apply Exists.intro; (repeat apply Exists.intro); refine And.intro ?_ ?_; exact leOf) | (refine Or.inl ?_; (conv => whnf); (repeat apply Exists.intro); refine And.intro ?_ ?_; exact leOf) | (refine Or.inr ?_; (conv => whnf); first | ((repeat apply Exists.intro); refine And.intro ?_ ?_; exact leOf) | (refine Or.inl ?_; (conv => whnf); (repeat apply Exists.intro); refine And.intro ?_ ?_; exact leOf) | (refine Or.inr ?_; (conv => whnf); (repeat apply Exists.intro); refine And.intro ?_ ?_; exact leOf))))
  all_goals try (conv => whnf)
  refine Exists.intro (fun _ => True) (And.intro (Enter.mk (0 : Nat) (Nat.zero_le _) trivial ?_) (fun (k : Nat) (hk : k ≤ 16) _ => ?_))
  · ((repeat' ((conv => whnf) <;> first | exact trivial | (with_reducible first | refine And.intro ?_ ?_ | refine rows_lt1 ?_ | refine rows_lt2 ?_ ?_ | refine rows_lt3 ?_ ?_ ?_ | refine rows_lt4 ?_ ?_ ?_ ?_ | refine rows_lt5 ?_ ?_ ?_ ?_ ?_ | refine aggs_lt1 ?_ | refine aggs_lt2 ?_ ?_ | refine aggs_lt3 ?_ ?_ ?_ | refine fun (_ : Nat) => ?_) | refine fun (_ : (_ : Nat) < _) => ?_ | exact rfl | exact Nat.le_of_ble_eq_true rfl | (change (_ : Nat) ≤ _; omega) | (change (_ : Nat) = _; omega) | (change (_ : Int) = _; omega))); (all_goals try (conv => whnf)))
    · exact fil_zero _ (fun _ => 0) _
    · exact fil_zero _ (fun _ => 0) _
  repeat (first | ((conv => whnf); refine And.intro ?_ ?_; exact sideOf) | ((conv => whnf); refine And.intro (fun _ => ?_) (fun h => nomatch (show true = false from h))) | ((conv => whnf); refine And.intro (fun h => nomatch (show false = true from h)) (fun _ => ?_)) | ((conv => whnf); first | (apply Exists.intro; (repeat apply Exists.intro); refine And.intro ?_ ?_; exact leOf) | (refine Or.inl ?_; (conv => whnf); (repeat apply Exists.intro); refine And.intro ?_ ?_; exact leOf) | (refine Or.inr ?_; (conv => whnf); first | ((repeat apply Exists.intro); refine And.intro ?_ ?_; exact leOf) | (refine Or.inl ?_; (conv => whnf); (repeat apply Exists.intro); refine And.intro ?_ ?_; exact leOf) | (refine Or.inr ?_; (conv => whnf); (repeat apply Exists.intro); refine And.intro ?_ ?_; exact leOf))))
  all_goals try (conv => whnf)
  refine And.intro (fun h => ?_) (fun h => ?_)
  · have h := of_decide_eq_true h
    have h := show k < 16 from h
    repeat (first | ((conv => whnf); refine And.intro ?_ ?_; exact sideOf) | ((conv => whnf); refine And.intro (fun _ => ?_) (fun h => nomatch (show true = false from h))) | ((conv => whnf); refine And.intro (fun h => nomatch (show false = true from h)) (fun _ => ?_)) | ((conv => whnf); first | (apply Exists.intro; (repeat apply Exists.intro); refine And.intro ?_ ?_; exact leOf) | (refine Or.inl ?_; (conv => whnf); (repeat apply Exists.intro); refine And.intro ?_ ?_; exact leOf) | (refine Or.inr ?_; (conv => whnf); first | ((repeat apply Exists.intro); refine And.intro ?_ ?_; exact leOf) | (refine Or.inl ?_; (conv => whnf); (repeat apply Exists.intro); refine And.intro ?_ ?_; exact leOf) | (refine Or.inr ?_; (conv => whnf); (repeat apply Exists.intro); refine And.intro ?_ ?_; exact leOf))))
    all_goals try (conv => whnf)
    refine Again.mk (k + 1 : Nat) (show k + 1 ≤ 16 by omega) trivial (show 16 - (k + 1) < 16 - k by omega) ?_
    ((repeat' ((conv => whnf) <;> first | exact trivial | (with_reducible first | refine And.intro ?_ ?_ | refine rows_lt1 ?_ | refine rows_lt2 ?_ ?_ | refine rows_lt3 ?_ ?_ ?_ | refine rows_lt4 ?_ ?_ ?_ ?_ | refine rows_lt5 ?_ ?_ ?_ ?_ ?_ | refine aggs_lt1 ?_ | refine aggs_lt2 ?_ ?_ | refine aggs_lt3 ?_ ?_ ?_ | refine fun (_ : Nat) => ?_) | refine fun (_ : (_ : Nat) < _) => ?_ | exact rfl | exact Nat.le_of_ble_eq_true rfl | (change (_ : Nat) ≤ _; omega) | (change (_ : Nat) = _; omega) | (change (_ : Int) = _; omega))); (all_goals try (conv => whnf)))
    · exact fil_step _ _ _ _ _ rfl
    · exact fil_step _ _ _ _ _ rfl
  · have h := of_decide_eq_false h
    obtain rfl : k = 16 := by have h := show ¬ k < 16 from h; omega
    have eK : ksch 4 (exF 16) = exK := by
      rw [← exK_eq]
      exact ksch_c fun j hj => fil_all _ _ _ _ hj
    have eE : q16 (enc 10 (at32 exK) (exG 16)) (at8 exC) := q16_trans (enc_c fun j hj => fil_all _ _ _ _ hj) ex_enc
    repeat (first | ((conv => whnf); refine And.intro ?_ ?_; exact sideOf) | ((conv => whnf); refine And.intro (fun _ => ?_) (fun h => nomatch (show true = false from h))) | ((conv => whnf); refine And.intro (fun h => nomatch (show false = true from h)) (fun _ => ?_)) | ((conv => whnf); first | (apply Exists.intro; (repeat apply Exists.intro); refine And.intro ?_ ?_; exact leOf) | (refine Or.inl ?_; (conv => whnf); (repeat apply Exists.intro); refine And.intro ?_ ?_; exact leOf) | (refine Or.inr ?_; (conv => whnf); first | ((repeat apply Exists.intro); refine And.intro ?_ ?_; exact leOf) | (refine Or.inl ?_; (conv => whnf); (repeat apply Exists.intro); refine And.intro ?_ ?_; exact leOf) | (refine Or.inr ?_; (conv => whnf); (repeat apply Exists.intro); refine And.intro ?_ ?_; exact leOf))))
    all_goals try (conv => whnf)
    refine And.intro (dno (fun h => h ex_box)) (fun _ => ?_)
    repeat (first | ((conv => whnf); refine And.intro ?_ ?_; exact sideOf) | ((conv => whnf); refine And.intro (fun _ => ?_) (fun h => nomatch (show true = false from h))) | ((conv => whnf); refine And.intro (fun h => nomatch (show false = true from h)) (fun _ => ?_)) | ((conv => whnf); first | (apply Exists.intro; (repeat apply Exists.intro); refine And.intro ?_ ?_; exact leOf) | (refine Or.inl ?_; (conv => whnf); (repeat apply Exists.intro); refine And.intro ?_ ?_; exact leOf) | (refine Or.inr ?_; (conv => whnf); first | ((repeat apply Exists.intro); refine And.intro ?_ ?_; exact leOf) | (refine Or.inl ?_; (conv => whnf); (repeat apply Exists.intro); refine And.intro ?_ ?_; exact leOf) | (refine Or.inr ?_; (conv => whnf); (repeat apply Exists.intro); refine And.intro ?_ ?_; exact leOf))))
    all_goals try (conv => whnf)
    refine And.intro (fun _ => ?_) (dyes ?_)
    rotate_left
    · conv => whnf
      rw [eK, lw_c8 (g := at8 exC) (fun j hj => by rw [Nat.zero_add]; exact eE j hj)]
      change hexL (lw 16 (at8 exC)) = _
      rw [lw_at8 exC 16 (by unfold exC; rfl)]
      exact ex_hex
    repeat (first | ((conv => whnf); refine And.intro ?_ ?_; exact sideOf) | ((conv => whnf); refine And.intro (fun _ => ?_) (fun h => nomatch (show true = false from h))) | ((conv => whnf); refine And.intro (fun h => nomatch (show false = true from h)) (fun _ => ?_)) | ((conv => whnf); first | (apply Exists.intro; (repeat apply Exists.intro); refine And.intro ?_ ?_; exact leOf) | (refine Or.inl ?_; (conv => whnf); (repeat apply Exists.intro); refine And.intro ?_ ?_; exact leOf) | (refine Or.inr ?_; (conv => whnf); first | ((repeat apply Exists.intro); refine And.intro ?_ ?_; exact leOf) | (refine Or.inl ?_; (conv => whnf); (repeat apply Exists.intro); refine And.intro ?_ ?_; exact leOf) | (refine Or.inr ?_; (conv => whnf); (repeat apply Exists.intro); refine And.intro ?_ ?_; exact leOf))))
    all_goals try (conv => whnf)
    refine eqB_agg fun i hi => ?_
    exact dec_enc _ _ _ i hi
end Go.Proofs.Ytmpbaaplfbaelaa
