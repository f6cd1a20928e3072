/- AES: the reference's key schedule. -/
import Derived.Test.YtaajedeapmphpaaA9
import Derived.Test.YtaajedeapmphpaaA11
namespace Go.Proofs.Ytaajedeapmphpaa
open Go.RowKit
set_option maxRecDepth 100000
set_option maxHeartbeats 20000000
/-- The bytes of a word. -/
def byW (x : BitVec 32) (t : Nat) : BitVec 8 := (x >>> (24 - 8 * t)).setWidth 8
theorem byW_xor (x y : BitVec 32) (t : Nat) : byW (x ^^^ y) t = byW x t ^^^ byW y t := by
  unfold byW
  apply BitVec.eq_of_getLsbD_eq
  intro i hi
  simp [hi]
theorem byW_or (x y : BitVec 32) (t : Nat) : byW (x ||| y) t = byW x t ||| byW y t := by
  unfold byW
  apply BitVec.eq_of_getLsbD_eq
  intro i hi
  simp [hi]
theorem byW_at (x : BitVec 8) (s t : Nat) (hs : s < 4) (ht : t < 4) : byW (x.setWidth 32 <<< (24 - 8 * s)) t = if s = t then x else 0 := by
  have : ∀ s t : Fin 4, ∀ i : Fin 8, (byW (x.setWidth 32 <<< (24 - 8 * s.val)) t.val).getLsbD i.val = (if s.val = t.val then x else 0).getLsbD i.val := by
    intro s t i
    unfold byW
    rcases s with ⟨_ | _ | _ | _ | s, hs⟩ <;> rcases t with ⟨_ | _ | _ | _ | t, ht⟩ <;> first | omega | (rcases i with ⟨_ | _ | _ | _ | _ | _ | _ | _ | i, hi⟩ <;> first | omega | simp)
  apply BitVec.eq_of_getLsbD_eq
  intro i hi
  exact this ⟨s, hs⟩ ⟨t, ht⟩ ⟨i, hi⟩
theorem byW_4 (a b c d : BitVec 8) (t : Nat) (ht : t < 4) : byW (a.setWidth 32 <<< 24 ||| b.setWidth 32 <<< 16 ||| c.setWidth 32 <<< 8 ||| d.setWidth 32) t = nth 0 [a, b, c, d] t := by
  have h0 := byW_at a 0 t (by omega) ht
  have h1 := byW_at b 1 t (by omega) ht
  have h2 := byW_at c 2 t (by omega) ht
  have h3 := byW_at d 3 t (by omega) ht
  simp only [Nat.mul_zero, Nat.sub_zero, Nat.mul_one, Nat.reduceMul, Nat.reduceSub, BitVec.shiftLeft_zero] at h0 h1 h2 h3
  rw [byW_or, byW_or, byW_or, h0, h1, h2, h3]
  rcases t with _ | _ | _ | _ | t
  · simp [nth]
  · simp [nth]
  · simp [nth]
  · simp [nth]
  · omega
theorem byW_word (b : Nat → BitVec 8) (t : Nat) (ht : t < 4) : byW (wordAt b 0) t = b t := by
  unfold wordAt
  rw [byW_4 _ _ _ _ _ ht]
  rcases t with _ | _ | _ | _ | t <;> first | rfl | omega
theorem byW_nat (x : BitVec 32) (n : Nat) (h : n ≤ 24) : (x >>> n &&& 255#32).toNat = ((x >>> n).setWidth 8).toNat := by
  rw [BitVec.toNat_and, BitVec.toNat_setWidth]
  exact Nat.and_two_pow_sub_one_eq_mod _ 8
theorem byW_sub (T : Nat → BitVec 8) (x : BitVec 32) (t : Nat) (ht : t < 4) : byW (subW T x) t = T (byW x t).toNat := by
  unfold subW
  rw [byW_4 _ _ _ _ _ ht]
  have e0 : (x >>> 24).toNat = ((x >>> 24).setWidth 8).toNat := by
    rw [BitVec.toNat_setWidth, Nat.mod_eq_of_lt]
    exact shr24 x
  have e3 := byW_nat x 0 (by omega)
  rw [BitVec.ushiftRight_zero] at e3
  rcases t with _ | _ | _ | _ | t
  · show T (x >>> 24).toNat = T ((x >>> 24).setWidth 8).toNat
    rw [e0]
  · show T (x >>> 16 &&& 255#32).toNat = T ((x >>> 16).setWidth 8).toNat
    rw [byW_nat x 16 (by omega)]
  · show T (x >>> 8 &&& 255#32).toNat = T ((x >>> 8).setWidth 8).toNat
    rw [byW_nat x 8 (by omega)]
  · show T (x &&& 255#32).toNat = T ((x >>> 0).setWidth 8).toNat
    rw [e3, BitVec.ushiftRight_zero]
  · omega
theorem byW_rot (x : BitVec 32) (t : Nat) (ht : t < 4) : byW (rot8 x) t = byW x ((t + 1) % 4) := by
  have : ∀ t : Fin 4, ∀ i : Fin 8, (byW (rot8 x) t.val).getLsbD i.val = (byW x ((t.val + 1) % 4)).getLsbD i.val := by
    intro t i
    unfold byW rot8
    rcases t with ⟨_ | _ | _ | _ | t, ht⟩ <;> first | omega | (rcases i with ⟨_ | _ | _ | _ | _ | _ | _ | _ | i, hi⟩ <;> first | omega | simp)
  apply BitVec.eq_of_getLsbD_eq
  intro i hi
  exact this ⟨t, ht⟩ ⟨i, hi⟩
theorem byW_con (i nk t : Nat) (ht : t < 4) : byW (kcon i nk) t = if t = 0 then xtN 1#8 ((i - 1) / nk) else 0 := by
  unfold kcon
  have h := byW_at (xtN 1#8 ((i - 1) / nk)) 0 t (by omega) ht
  simp only [Nat.mul_zero, Nat.sub_zero] at h
  rw [h]
  by_cases e : t = 0
  · rw [if_pos e, if_pos e.symm]
  · rw [if_neg e, if_neg (fun h => e h.symm)]
/-- The schedule's words, byte by byte. -/
def wdB (nk : Nat) (b : Nat → BitVec 8) (i t : Nat) : BitVec 8 := byW (at32 (ksch nk b) i) t
/-- .. before the one of a key's length ahead is joined to it. -/
def midB (nk : Nat) (b : Nat → BitVec 8) (i t : Nat) : BitVec 8 := byW (kmid i nk (at32 (ksch nk b) (i - 1))) t
theorem wd_first (nk : Nat) (b : Nat → BitVec 8) (i t : Nat) (hi : i < nk) (ht : t < 4) : wdB nk b i t = b (4 * i + t) := by
  unfold wdB
  rw [ksch_first nk b i hi, byW_word _ _ ht]
theorem wd_next (nk : Nat) (b : Nat → BitVec 8) (i t : Nat) (h1 : nk ≤ i) (h2 : i < 4 * nk + 28) (h0 : 0 < nk) : midB nk b i t ^^^ wdB nk b (i - nk) t = wdB nk b i t := by
  have e : wdB nk b i t = wdB nk b (i - nk) t ^^^ midB nk b i t := by
    unfold wdB midB
    rw [ksch_rec nk b i h1 h2 h0, byW_xor]
  rw [e, BitVec.xor_comm]
theorem mid_0 (nk : Nat) (b : Nat → BitVec 8) (i t : Nat) (h : i % nk = 0) (ht : t < 4) : midB nk b i t = sbN (wdB nk b (i - 1) ((t + 1) % 4)).toNat ^^^ (if t = 0 then xtN 1#8 ((i - 1) / nk) else 0) := by
  unfold midB kmid
  rw [if_pos h, byW_xor, byW_sub _ _ _ ht, byW_rot _ _ ht, byW_con _ _ _ ht]
  rfl
theorem mid_4 (nk : Nat) (b : Nat → BitVec 8) (i t : Nat) (h : i % nk ≠ 0) (h4 : i % nk = 4) (ht : t < 4) : midB nk b i t = sbN (wdB nk b (i - 1) t).toNat := by
  unfold midB kmid
  rw [if_neg h, if_pos h4, byW_sub _ _ _ ht]
  rfl
theorem mid_n (nk : Nat) (b : Nat → BitVec 8) (i t : Nat) (h : i % nk ≠ 0) (h4 : i % nk ≠ 4) : midB nk b i t = wdB nk b (i - 1) t := by
  unfold midB kmid
  rw [if_neg h, if_neg h4]
  rfl
theorem gm_2 (x : BitVec 8) : gm x 2#8 = xt x := all8 (p := fun x => gm x 2#8 = xt x) (by decide +kernel) x
attribute [local irreducible] xt rol8 aff pw lg sbx isx gm sbN isN xtN at32 mkB shB suB miB enc dec inv8 wdB midB
def C_r3_Boxes : SpecP := fun A K => A [] ∧ K (bsf 256 sbN)
def L_r3_Boxes : LI := ⟨Nat, (· ≤ 256), fun k => [(1, .gsl 5 1032 256), (4, .gsl 5 1032 256), (5, .nat 256), (6, .nat k)], fun k => [(1032, .grow 5 256 (bys (fil sbN (fun _ => 0) k)))], fun k => 256 - k, some, some⟩
theorem g_r3_Boxes : Gd 38 (pureP ty C_r3_Boxes) := by
  refine goodP (E := PG [(52, pureP ty C_r3_Box)]) (pgOK ⟨g_r3_Box, trivial⟩) mixes Try.func38 (by kernel_rfl) (by kernel_rfl) ?_
  rintro A K ⟨hA, hK⟩
  refine ⟨_, _, loops [(3, L_r3_Boxes)], hA, hK, by kernel_rfl, ⟨rfl, fun _ _ => trivial⟩, ?_⟩
  repeat (first | ((conv => whnf); refine And.intro ?_ ?_; exact sideOf) | ((conv => whnf); refine And.intro (fun _ => ?_) (fun h => nomatch (show true = false from h))) | ((conv => whnf); refine And.intro (fun h => nomatch (show false = true from h)) (fun _ => ?_)) | ((conv => whnf); first | (apply Exists.intro; (repeat apply Exists.intro); refine And.intro ?_ ?_; exact leOf) | (refine Or.inl ?_; (conv => whnf); (repeat apply Exists.intro); refine And.intro ?_ ?_; exact leOf) | (refine Or.inr ?_; (conv => whnf); first | ((repeat apply Exists.intro); refine And.intro ?_ ?_; exact leOf) | (refine Or.inl ?_; (conv => whnf); (repeat apply Exists.intro); refine And.intro ?_ ?_; exact leOf) | (refine Or.inr ?_; (conv => whnf); (repeat apply Exists.intro); refine And.intro ?_ ?_; exact leOf))))
  all_goals try (conv => whnf)
  refine Exists.intro (fun _ => True) (And.intro (Enter.mk (0 : Nat) (Nat.zero_le _) trivial ?_) (fun (k : Nat) (hk : k ≤ 256) _ => ?_))
  · ((repeat' ((conv => whnf) <;> first | exact trivial | (with_reducible first | refine And.intro ?_ ?_ | refine rows_lt1 ?_ | refine rows_lt2 ?_ ?_ | refine rows_lt3 ?_ ?_ ?_ | refine rows_lt4 ?_ ?_ ?_ ?_ | refine rows_lt5 ?_ ?_ ?_ ?_ ?_ | refine aggs_lt1 ?_ | refine aggs_lt2 ?_ ?_ | refine aggs_lt3 ?_ ?_ ?_ | refine fun (_ : Nat) => ?_) | refine fun (_ : (_ : Nat) < _) => ?_ | exact rfl | exact Nat.le_of_ble_eq_true rfl | (change (_ : Nat) ≤ _; omega) | (change (_ : Nat) = _; omega) | (change (_ : Int) = _; omega))); (all_goals try (conv => whnf)))
    exact fil_zero _ (fun _ => 0) _
  repeat (first | ((conv => whnf); refine And.intro ?_ ?_; exact sideOf) | ((conv => whnf); refine And.intro (fun _ => ?_) (fun h => nomatch (show true = false from h))) | ((conv => whnf); refine And.intro (fun h => nomatch (show false = true from h)) (fun _ => ?_)) | ((conv => whnf); first | (apply Exists.intro; (repeat apply Exists.intro); refine And.intro ?_ ?_; exact leOf) | (refine Or.inl ?_; (conv => whnf); (repeat apply Exists.intro); refine And.intro ?_ ?_; exact leOf) | (refine Or.inr ?_; (conv => whnf); first | ((repeat apply Exists.intro); refine And.intro ?_ ?_; exact leOf) | (refine Or.inl ?_; (conv => whnf); (repeat apply Exists.intro); refine And.intro ?_ ?_; exact leOf) | (refine Or.inr ?_; (conv => whnf); (repeat apply Exists.intro); refine And.intro ?_ ?_; exact leOf))))
  all_goals try (conv => whnf)
  refine And.intro (fun h => ?_) (fun h => ?_)
  · have h := of_decide_eq_true h
    have h := show k < 256 from h
    repeat (first | ((conv => whnf); refine And.intro ?_ ?_; exact sideOf) | ((conv => whnf); refine And.intro (fun _ => ?_) (fun h => nomatch (show true = false from h))) | ((conv => whnf); refine And.intro (fun h => nomatch (show false = true from h)) (fun _ => ?_)) | ((conv => whnf); first | (apply Exists.intro; (repeat apply Exists.intro); refine And.intro ?_ ?_; exact leOf) | (refine Or.inl ?_; (conv => whnf); (repeat apply Exists.intro); refine And.intro ?_ ?_; exact leOf) | (refine Or.inr ?_; (conv => whnf); first | ((repeat apply Exists.intro); refine And.intro ?_ ?_; exact leOf) | (refine Or.inl ?_; (conv => whnf); (repeat apply Exists.intro); refine And.intro ?_ ?_; exact leOf) | (refine Or.inr ?_; (conv => whnf); (repeat apply Exists.intro); refine And.intro ?_ ?_; exact leOf))))
    all_goals try (conv => whnf)
    refine Again.mk (k + 1 : Nat) (show k + 1 ≤ 256 by omega) trivial (show 256 - (k + 1) < 256 - k by omega) ?_
    ((repeat' ((conv => whnf) <;> first | exact trivial | (with_reducible first | refine And.intro ?_ ?_ | refine rows_lt1 ?_ | refine rows_lt2 ?_ ?_ | refine rows_lt3 ?_ ?_ ?_ | refine rows_lt4 ?_ ?_ ?_ ?_ | refine rows_lt5 ?_ ?_ ?_ ?_ ?_ | refine aggs_lt1 ?_ | refine aggs_lt2 ?_ ?_ | refine aggs_lt3 ?_ ?_ ?_ | refine fun (_ : Nat) => ?_) | refine fun (_ : (_ : Nat) < _) => ?_ | exact rfl | exact Nat.le_of_ble_eq_true rfl | (change (_ : Nat) ≤ _; omega) | (change (_ : Nat) = _; omega) | (change (_ : Int) = _; omega))); (all_goals try (conv => whnf)))
    refine fil_step _ _ _ _ _ ?_
    unfold sbN
    rfl
  · have h := of_decide_eq_false h
    obtain rfl : k = 256 := by have h := show ¬ k < 256 from h; omega
    repeat (first | ((conv => whnf); refine And.intro ?_ ?_; exact sideOf) | ((conv => whnf); refine And.intro (fun _ => ?_) (fun h => nomatch (show true = false from h))) | ((conv => whnf); refine And.intro (fun h => nomatch (show false = true from h)) (fun _ => ?_)) | ((conv => whnf); first | (apply Exists.intro; (repeat apply Exists.intro); refine And.intro ?_ ?_; exact leOf) | (refine Or.inl ?_; (conv => whnf); (repeat apply Exists.intro); refine And.intro ?_ ?_; exact leOf) | (refine Or.inr ?_; (conv => whnf); first | ((repeat apply Exists.intro); refine And.intro ?_ ?_; exact leOf) | (refine Or.inl ?_; (conv => whnf); (repeat apply Exists.intro); refine And.intro ?_ ?_; exact leOf) | (refine Or.inr ?_; (conv => whnf); (repeat apply Exists.intro); refine And.intro ?_ ?_; exact leOf))))
    all_goals try (conv => whnf)
    ((repeat' ((conv => whnf) <;> first | exact trivial | (with_reducible first | refine And.intro ?_ ?_ | refine rows_lt1 ?_ | refine rows_lt2 ?_ ?_ | refine rows_lt3 ?_ ?_ ?_ | refine rows_lt4 ?_ ?_ ?_ ?_ | refine rows_lt5 ?_ ?_ ?_ ?_ ?_ | refine aggs_lt1 ?_ | refine aggs_lt2 ?_ ?_ | refine aggs_lt3 ?_ ?_ ?_ | refine fun (_ : Nat) => ?_) | refine fun (_ : (_ : Nat) < _) => ?_ | exact rfl | exact Nat.le_of_ble_eq_true rfl | (change (_ : Nat) ≤ _; omega) | (change (_ : Nat) = _; omega) | (change (_ : Int) = _; omega))); (all_goals try (conv => whnf)))
    rename_i j hj
    exact fil_all _ _ _ _ hj
end Go.Proofs.Ytaajedeapmphpaa
