/- One-time signatures: claims; the example. -/
import Derived.Test.YtnfebaialdfffaaDoorO5
namespace Go.Proofs.YtnfebaialdfffaaDoor
open Go.RowKit
set_option maxRecDepth 100000
set_option maxHeartbeats 20000000
attribute [local irreducible] hsh rst sha256 press dig st1 at8 mash fold digs ch tw tp tlS cf ckN dgT pubE upTo sgV sigB mashD
theorem lw_cong' {l : Nat} {f g : Nat → BitVec 8} (h : ∀ j, j < l → f j = g j) : lw l f = lw l g := by
  unfold lw
  exact List.map_congr_left fun j hj => h j (List.mem_range.1 hj)
abbrev wT (b : Nat → BitVec 8) : BitVec 32 := w4 (b 0) (b 1) (b 2) (b 3)
/-- A chain's end, of what a signature tells. -/
def clE (id : Nat → BitVec 8) (q : BitVec 32) (t : BitVec 32) (D : Nat → BitVec 8) (v : Nat → Nat → BitVec 8) (i : Nat) : Nat → BitVec 8 := at8 (ch id q i (dgT t D i) (lw 32 (v i)) (2 ^ tw t - 1 - dgT t D i))
def mixA (k : Nat) (f g : Nat → Nat → BitVec 8) (i : Nat) : Nat → BitVec 8 := if i < k then f i else g i
theorem mixA_S (k : Nat) (f g : Nat → Nat → BitVec 8) : mixA (k + 1) f g k = f k := if_pos (Nat.lt_succ_self k)
theorem mixA_k (k : Nat) (f g : Nat → Nat → BitVec 8) : mixA k f g k = g k := if_neg (Nat.lt_irrefl k)
theorem mixA_ne (k j : Nat) (f g : Nat → Nat → BitVec 8) (h : ¬ j = k) : mixA k f g j = mixA (k + 1) f g j := by
  unfold mixA
  by_cases e : j < k
  · rw [if_pos e, if_pos (by omega)]
  · rw [if_neg e, if_neg (by omega)]
theorem mixA_0 (f g : Nat → Nat → BitVec 8) (j : Nat) : g j = mixA 0 f g j := (if_neg (Nat.not_lt_zero j)).symm
theorem clE_step (id : Nat → BitVec 8) (q : BitVec 32) (t : BitVec 32) (D : Nat → BitVec 8) (v : Nat → Nat → BitVec 8) (k : Nat) (h : otOK t) : at8 (ch id q k (dgT t D k) (lw 32 (mixA k (clE id q t D v) v k)) (min (2 ^ tw t - 1) 256 - dgT t D k)) = clE id q t D v k := by
  have ⟨h1, h2⟩ := dgT_le t h D k
  rw [mixA_k, show min (2 ^ tw t - 1) 256 = 2 ^ tw t - 1 by omega]
  rfl
def clK (id : Nat → BitVec 8) (q : BitVec 32) (t : BitVec 32) (D : Nat → BitVec 8) (v : Nat → Nat → BitVec 8) : Nat → BitVec 8 := at8 (fold id q (tp t) (clE id q t D v))
theorem cl_fin (id : Nat → BitVec 8) (q : BitVec 32) (t : BitVec 32) (D : Nat → BitVec 8) (v : Nat → Nat → BitVec 8) : at8 (fold id q (tp t) (mixA (tp t) (clE id q t D v) v)) = clK id q t D v := by
  unfold clK
  rw [fold_cong id q (tp t) (mixA (tp t) (clE id q t D v) v) (clE id q t D v) fun i hi => if_pos hi]
attribute [local irreducible] clE mixA clK
def C_ots_Claim : SpecP := fun A K => ∃ id q l b lm m, A [siA id q, bsl l b, bsl lm m] ∧ otOK (wT b) ∧ l = 36 + 32 * tp (wT b) ∧ lm ≤ 1000000000 ∧ K (tupOf [arr8 32 (clK id q (wT b) (mashD id q (fun j => b (4 + j)) lm m) (splO b)), .nat 0])
def L_Claim (id : Nat → BitVec 8) (q : BitVec 32) (b : Nat → BitVec 8) (D : Nat → BitVec 8) : LI := ⟨Nat, (· ≤ tp (wT b)), fun k => [(3, .ptr TSi 8 []), (6, .ptr TD 16 []), (10, .gsl 23 1040 (tp (wT b))), (12, .ptr TPr 3120 []), (37, .gsl 3 4144 (tp (wT b))), (38, .nat (tp (wT b))), (39, .nat k)],
  fun k => [(8, .var TSi (siA id q)), (16, .var TD TD.zero), (1040, .grow 23 (tp (wT b)) (dgA (mixA k (clE id q (wT b) D (splO b)) (splO b)))), (3120, .var TPr (prA (tw (wT b)) (tp (wT b)) (tlS (wT b)))), (4144, .grow 3 (tp (wT b)) (nts (dgT (wT b) D)))], fun k => tp (wT b) - k, some, some⟩
theorem g_ots_Claim : Gd 54 (pureP ty C_ots_Claim) := by
  refine goodP (E := PG [(73, pureR ty C_ots_Split), (33, pureP ty C_ots_Params), (25, pureP ty C_ots_MashZ), (24, pureR ty C_ots_Digits), (59, pureP ty C_ots_end), (65, pureP ty C_ots_ChainZ), (74, pureP ty C_ots_FoldZ)]) (pgOK ⟨g_ots_Split, g_ots_Params, g_ots_MashZ, g_ots_Digits, g_ots_end, g_ots_ChainZ, g_ots_FoldZ, trivial⟩) mixes Tryd.func54 (by kernel_rfl) (by kernel_rfl) ?_
  rintro A K ⟨id, q, l, b, lm, m, hA, ht, hl, hlm, hK⟩
  obtain ⟨hw, hp1, hp2, hl7⟩ := ot_facts _ ht
  have hD : at8 (mash id q (lw 32 fun j => b (4 + j)) (lw lm m)) = mashD id q (fun j => b (4 + j)) lm m := by unfold mashD; rfl
  refine ⟨_, _, loops [(6, L_Claim id q b (mashD id q (fun j => b (4 + j)) lm m))], hA, hK, by kernel_rfl, own_dk [] _ _, ?_⟩
  repeat ((conv => whnf); first | refine sdO ?_ | refine nlO ?_ | refine goA ?_ | refine goB ?_ | (apply Exists.intro; (repeat apply Exists.intro); refine caO ?_) | (refine Or.inl ?_; (conv => whnf); (repeat apply Exists.intro); refine caO ?_) | (refine Or.inr ?_; (conv => whnf); first | ((repeat apply Exists.intro); refine caO ?_) | (refine Or.inl ?_; (conv => whnf); (repeat apply Exists.intro); refine caO ?_) | (refine Or.inr ?_; (conv => whnf); (repeat apply Exists.intro); refine caO ?_)) | refine And.intro (by assumption) ?_ | refine goT ?_ | refine goF ?_ | refine goL ?_ | refine goR ?_ | refine goRL ?_ | refine goRR ?_)
  all_goals try (conv => whnf)
  refine Exists.intro (fun _ => True) (And.intro (Enter.mk (0 : Nat) (Nat.zero_le _) trivial ?_) (fun (k : Nat) (hk : k ≤ tp (wT b)) _ => ?_))
  · ((repeat' ((conv => whnf) <;> first | exact trivial | (with_reducible first | refine And.intro ?_ ?_ | refine rows_lt1 ?_ | refine rows_lt2 ?_ ?_ | refine rows_lt3 ?_ ?_ ?_ | refine rows_lt4 ?_ ?_ ?_ ?_ | refine rows_lt5 ?_ ?_ ?_ ?_ ?_ | refine aggs_lt1 ?_ | refine aggs_lt2 ?_ ?_ | refine aggs_lt3 ?_ ?_ ?_ | refine fun (_ : Nat) => ?_) | refine fun (_ : (_ : Nat) < _) => ?_ | exact rfl | exact Nat.le_of_ble_eq_true rfl | (change (_ : Nat) ≤ _; omega) | (change (_ : Nat) = _; omega) | (change (_ : Int) = _; omega))); (all_goals try (conv => whnf)))
    all_goals exact congrFun (mixA_0 _ _ _) _
  rcases Nat.lt_or_ge k (tp (wT b)) with h | h
  · have hs := clE_step id q (wT b) (mashD id q (fun j => b (4 + j)) lm m) (splO b) k ht
    have hk6 : k ≤ 1000000 := by omega
    repeat ((conv => whnf); first | refine sdO ?_ | refine nlO ?_ | refine goA ?_ | refine goB ?_ | (apply Exists.intro; (repeat apply Exists.intro); refine caO ?_) | (refine Or.inl ?_; (conv => whnf); (repeat apply Exists.intro); refine caO ?_) | (refine Or.inr ?_; (conv => whnf); first | ((repeat apply Exists.intro); refine caO ?_) | (refine Or.inl ?_; (conv => whnf); (repeat apply Exists.intro); refine caO ?_) | (refine Or.inr ?_; (conv => whnf); (repeat apply Exists.intro); refine caO ?_)) | refine And.intro (by assumption) ?_ | refine goT ?_ | refine goF ?_ | refine goL ?_ | refine goR ?_ | refine goRL ?_ | refine goRR ?_)
    all_goals try (conv => whnf)
    refine Again.mk (k + 1 : Nat) (show k + 1 ≤ tp (wT b) by omega) trivial (show tp (wT b) - (k + 1) < tp (wT b) - k by omega) ?_
    ((repeat' ((conv => whnf) <;> first | exact trivial | (with_reducible first | refine And.intro ?_ ?_ | refine rows_lt1 ?_ | refine rows_lt2 ?_ ?_ | refine rows_lt3 ?_ ?_ ?_ | refine rows_lt4 ?_ ?_ ?_ ?_ | refine rows_lt5 ?_ ?_ ?_ ?_ ?_ | refine aggs_lt1 ?_ | refine aggs_lt2 ?_ ?_ | refine aggs_lt3 ?_ ?_ ?_ | refine fun (_ : Nat) => ?_) | refine fun (_ : (_ : Nat) < _) => ?_ | exact rfl | exact Nat.le_of_ble_eq_true rfl | (change (_ : Nat) ≤ _; omega) | (change (_ : Nat) = _; omega) | (change (_ : Int) = _; omega))); (all_goals try (conv => whnf)))
    rename_i j hj
    refine LeW_updN (fun _ => rfl) (fun e => ?_) (fun e => ?_)
    · subst e
      ((repeat' ((conv => whnf) <;> first | exact trivial | (with_reducible first | refine And.intro ?_ ?_ | refine rows_lt1 ?_ | refine rows_lt2 ?_ ?_ | refine rows_lt3 ?_ ?_ ?_ | refine rows_lt4 ?_ ?_ ?_ ?_ | refine rows_lt5 ?_ ?_ ?_ ?_ ?_ | refine aggs_lt1 ?_ | refine aggs_lt2 ?_ ?_ | refine aggs_lt3 ?_ ?_ ?_ | refine fun (_ : Nat) => ?_) | refine fun (_ : (_ : Nat) < _) => ?_ | exact rfl | exact Nat.le_of_ble_eq_true rfl | (change (_ : Nat) ≤ _; omega) | (change (_ : Nat) = _; omega) | (change (_ : Int) = _; omega))); (all_goals try (conv => whnf)))
      rw [mixA_S]
    · ((repeat' ((conv => whnf) <;> first | exact trivial | (with_reducible first | refine And.intro ?_ ?_ | refine rows_lt1 ?_ | refine rows_lt2 ?_ ?_ | refine rows_lt3 ?_ ?_ ?_ | refine rows_lt4 ?_ ?_ ?_ ?_ | refine rows_lt5 ?_ ?_ ?_ ?_ ?_ | refine aggs_lt1 ?_ | refine aggs_lt2 ?_ ?_ | refine aggs_lt3 ?_ ?_ ?_ | refine fun (_ : Nat) => ?_) | refine fun (_ : (_ : Nat) < _) => ?_ | exact rfl | exact Nat.le_of_ble_eq_true rfl | (change (_ : Nat) ≤ _; omega) | (change (_ : Nat) = _; omega) | (change (_ : Int) = _; omega))); (all_goals try (conv => whnf)))
      exact congrFun (mixA_ne _ _ _ _ e) _
  · have hk0 : k = tp (wT b) := by omega
    subst hk0
    have hz := cl_fin id q (wT b) (mashD id q (fun j => b (4 + j)) lm m) (splO b)
    have hp6 : tp (wT b) ≤ 1000000 := by omega
    repeat ((conv => whnf); first | refine sdO ?_ | refine nlO ?_ | refine goA ?_ | refine goB ?_ | (apply Exists.intro; (repeat apply Exists.intro); refine caO ?_) | (refine Or.inl ?_; (conv => whnf); (repeat apply Exists.intro); refine caO ?_) | (refine Or.inr ?_; (conv => whnf); first | ((repeat apply Exists.intro); refine caO ?_) | (refine Or.inl ?_; (conv => whnf); (repeat apply Exists.intro); refine caO ?_) | (refine Or.inr ?_; (conv => whnf); (repeat apply Exists.intro); refine caO ?_)) | refine And.intro (by assumption) ?_ | refine goT ?_ | refine goF ?_ | refine goL ?_ | refine goR ?_ | refine goRL ?_ | refine goRR ?_)
    all_goals try (conv => whnf)
    ((repeat' ((conv => whnf) <;> first | exact trivial | (with_reducible first | refine And.intro ?_ ?_ | refine rows_lt1 ?_ | refine rows_lt2 ?_ ?_ | refine rows_lt3 ?_ ?_ ?_ | refine rows_lt4 ?_ ?_ ?_ ?_ | refine rows_lt5 ?_ ?_ ?_ ?_ ?_ | refine aggs_lt1 ?_ | refine aggs_lt2 ?_ ?_ | refine aggs_lt3 ?_ ?_ ?_ | refine fun (_ : Nat) => ?_) | refine fun (_ : (_ : Nat) < _) => ?_ | exact rfl | exact Nat.le_of_ble_eq_true rfl | (change (_ : Nat) ≤ _; omega) | (change (_ : Nat) = _; omega) | (change (_ : Int) = _; omega))); (all_goals try (conv => whnf)))
/-! ### What is signed claims the key -/
section
attribute [local semireducible] ch
theorem ch_app (id : Nat → BitVec 8) (q : BitVec 32) (i a : Nat) (x : Msg) (m : Nat) : ∀ n, ch id q i a x (m + n) = ch id q i (a + m) (ch id q i a x m) n
  | 0 => rfl
  | n + 1 => by
    show st1 id q i (a + (m + n)) (ch id q i a x (m + n)) = st1 id q i (a + m + n) (ch id q i (a + m) (ch id q i a x m) n)
    rw [ch_app id q i a x m n, Nat.add_assoc]
end
/-- Of a signature's own bytes the ends are the key's. -/
theorem cl_pub (t : BitVec 32) (ht : otOK t) (id : Nat → BitVec 8) (q : BitVec 32) (seed D : Nat → BitVec 8) (v : Nat → Nat → BitVec 8) (i : Nat) (hv : ∀ j, j < 32 → v i j = sgV t id q seed D i j) : clE id q t D v i = pubE id q (tw t) seed i := by
  have ⟨h1, h2⟩ := dgT_le t ht D i
  have e : lw 32 (v i) = ch id q i 0 (st1 id q i 255 (lw 32 seed)) (dgT t D i) := by
    rw [lw_cong' hv]
    unfold sgV
    exact lw_at8 _ _ (ch_len _ _ _ _ _ (st1_len _ _ _ _ _) _)
  unfold clE pubE
  rw [e]
  have := ch_app id q i 0 (st1 id q i 255 (lw 32 seed)) (dgT t D i) (2 ^ tw t - 1 - dgT t D i)
  rw [Nat.zero_add, show dgT t D i + (2 ^ tw t - 1 - dgT t D i) = 2 ^ tw t - 1 by omega] at this
  rw [this]
theorem sig_t (t : BitVec 32) (c : Nat → BitVec 8) (v : Nat → Nat → BitVec 8) : wT (sigB t c v) = t := by
  show w4 (sigB t c v 0) (sigB t c v 1) (sigB t c v 2) (sigB t c v 3) = t
  have h : ∀ k, k < 4 → sigB t c v k = byt (t.setWidth 64) (3 - k) := fun k hk => by
    unfold sigB
    rw [if_pos hk, byt_q]
    unfold put4
    rcases k with _ | _ | _ | _ | k
    · rfl
    · rfl
    · rfl
    · rfl
    · omega
  rw [h 0 (by decide), h 1 (by decide), h 2 (by decide), h 3 (by decide)]
  exact w4_be t
theorem sig_c (t : BitVec 32) (c : Nat → BitVec 8) (v : Nat → Nat → BitVec 8) (j : Nat) (hj : j < 32) : sigB t c v (4 + j) = c j := by
  unfold sigB
  rw [if_neg (by omega), if_pos (by omega), Nat.add_sub_cancel_left]
theorem sig_v (t : BitVec 32) (c : Nat → BitVec 8) (v : Nat → Nat → BitVec 8) (i j : Nat) (hj : j < 32) : sigB t c v (36 + 32 * i + j) = v i j := by
  unfold sigB
  rw [if_neg (by omega), if_neg (by omega), show (36 + 32 * i + j - 36) / 32 = i by omega, show (36 + 32 * i + j - 36) % 32 = j by omega]
end Go.Proofs.YtnfebaialdfffaaDoor
