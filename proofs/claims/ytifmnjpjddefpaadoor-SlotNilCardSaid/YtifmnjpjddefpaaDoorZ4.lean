/- Key slots: what acts do to slots that are alike but for the keys; chains of keys. -/
import Derived.Test.YtifmnjpjddefpaaDoorZ3
namespace Go.Proofs.YtifmnjpjddefpaaDoor
open Go.RowKit
set_option maxRecDepth 100000
set_option maxHeartbeats 20000000
/-- Alike but for the keys. -/
def Lk (s t : Sl) : Prop := s.kd = t.kd ∧ s.lk = t.lk ∧ s.dd = t.dd
theorem lk_kdF {s t : Sl} (h : Lk s t) (i : Int) : kdF s i = kdF t i := by
  unfold kdF; rw [h.1]
theorem lk_keyE {s t : Sl} (h : Lk s t) (i : Int) : keyE s i = keyE t i := by
  unfold keyE; rw [h.1, h.2.2]
theorem lk_layE {s t : Sl} (h : Lk s t) (i k : Int) : layE s i k = layE t i k := by
  unfold layE; rw [h.1, h.2.1, h.2.2]
theorem lk_derE {s t : Sl} (h : Lk s t) (i k : Int) : derE s i k = derE t i k := by
  unfold derE; rw [h.1, h.2.2]
theorem lk_set1 {s t : Sl} (h : Lk s t) (i : Nat) (k : Int) (a b : Nat → BitVec 8) : Lk (set1 s i k a) (set1 t i k b) := ⟨by unfold set1; simp only [h.1], h.2⟩
theorem lk_layS {s t : Sl} (h : Lk s t) (i k : Int) (a b : Nat → BitVec 8) : Lk (layS s i k a) (layS t i k b) := by
  unfold layS; rw [(lk_layE h)]; split
  · exact (lk_set1 h) _ _ _ _
  · exact h
theorem lk_derS {s t : Sl} (h : Lk s t) (i k : Int) (a : List UInt8) (b : Parts) : Lk (derS s i k a b) (derS t i k a b) := by
  unfold derS; rw [(lk_derE h)]; split
  · exact (lk_set1 h) _ _ _ _
  · exact h
theorem lk_wp1 {s t : Sl} (h : Lk s t) (i : Int) : Lk (wp1 s i) (wp1 t i) := by
  unfold wp1; rw [(lk_kdF h)]; split
  · exact h
  · exact (lk_set1 h) _ _ _ _
theorem lk_rw1 {s t : Sl} (h : Lk s t) (i : Int) : Lk (rw1 s i) (wp1 t i) := by
  unfold wp1 rw1; rw [(lk_kdF h)]; split
  · exact h
  · exact ⟨by unfold set1; simp only [h.1], h.2⟩
theorem lk_wpS {s t : Sl} (h : Lk s t) (l : List Int) : ∀ k, Lk (wpS s l k) (wpS t l k)
  | 0 => h
  | k + 1 => lk_wp1 (lk_wpS h l k) _
theorem lk_rwS {s t : Sl} (h : Lk s t) (l : List Int) : ∀ k, Lk (rwS s l k) (wpS t l k)
  | 0 => h
  | k + 1 => lk_rw1 (lk_rwS h l k) _
theorem lk_wpN {s t : Sl} (h : Lk s t) (l : List Int) : ∀ k, wpN s l k = wpN t l k
  | 0 => rfl
  | k + 1 => by unfold wpN; rw [lk_wpN h l k, lk_kdF (lk_wpS h l k)]
theorem lk_apE {s t : Sl} (h : Lk s t) (a : Act15) (y : Nat → BitVec 8) : apE s a = apE t { a with key := y } := by
  unfold apE
  rw [show dk { a with key := y } = dk a from rfl]
  split
  · exact (lk_derE h) _ _
  · exact (lk_keyE h) _
  · exact (lk_wpN h) _ _
  · rfl
  · rfl
  · exact (lk_layE h) _ _
theorem lk_apS {s t : Sl} (h : Lk s t) (a : Act15) (y : Nat → BitVec 8) : Lk (apS s a) (apS t { a with key := y }) := by
  unfold apS
  rw [show dk { a with key := y } = dk a from rfl]
  split
  · exact (lk_derS h) _ _ _ _
  · exact h
  · exact (lk_wpS h) _ _
  · exact ⟨h.1, rfl, h.2.2⟩
  · exact ⟨rfl, h.2.1, rfl⟩
  · exact (lk_layS h) _ _ _ _
theorem lk_doX {x s : Sl} (h : Lk x s) (a : Act15) : Lk (doX x a) (apS s a) := by
  unfold doX apS
  split
  · exact (lk_derS h) _ _ _ _
  · exact h
  · exact (lk_rwS h) _ _
  · exact ⟨h.1, rfl, h.2.2⟩
  · exact ⟨rfl, h.2.1, rfl⟩
  · exact (lk_layS h) _ _ _ _
/-- Of the places that aren't secret the keys are one. -/
def Kn (s t : Sl) (sec : Nat → Bool) : Prop := ∀ i, ¬ s.kd i = 0 → sec i = false → s.ky i = t.ky i
/-- Which places are secret when an act is done: those whose key was derived of a secret one .. -/
def sec1 (x : Sl) (a : Act15) (sec : Nat → Bool) (i : Nat) : Bool := if dk a = 2 ∧ derE x a.h a.to = 0 ∧ sec a.h.toNat = true ∧ i = a.to.toNat then true else sec i
/-- .. and those in which a chip's key was laid. -/
def sec2 (x x' : Sl) (a : Act15) (sec : Nat → Bool) (i : Nat) : Bool := if x'.kd i = 0 then false else if x.kd i = 0 ∧ dk a < 2 then decide (a.k = 1) else sec1 x a sec i
theorem doD_kn {s t : Sl} {sec : Nat → Bool} (h : Lk s t) (hk : Kn s t sec) (a : Act15) (y : Nat → BitVec 8) (hn : ¬ (dk a = 3 ∧ InH a.h ∧ sec a.h.toNat = true)) : doD s a = doD t { a with key := y } := by
  unfold doD
  rw [show dk { a with key := y } = dk a from rfl]
  split
  · rename_i e
    show macD s a.h _ = macD t a.h _
    unfold macD
    rw [(lk_keyE h)]
    split
    · rename_i e0
      have e1 := e0
      rw [← (lk_keyE h)] at e1
      unfold keyE at e1
      by_cases hd : s.dd = true
      · rw [if_pos hd] at e1; cases e1
      rw [if_neg hd] at e1
      by_cases hi : InH a.h
      · rw [if_neg (fun q => q hi)] at e1
        by_cases h0 : s.kd a.h.toNat = 0
        · rw [if_pos h0] at e1; cases e1
        · rw [hk _ h0 (by
            cases hs : sec a.h.toNat
            · rfl
            · exact absurd ⟨e, hi, hs⟩ hn)]
      · rw [if_pos hi] at e1; cases e1
    · rfl
  · rfl
theorem kn_wp1 {s t : Sl} {sec : Nat → Bool} (h : Lk s t) (hk : Kn s t sec) (i : Int) : Kn (wp1 s i) (wp1 t i) sec := by
  unfold wp1
  rw [(lk_kdF h)]
  split
  · exact hk
  · intro j hj hs
    unfold set1 at hj ⊢
    by_cases e : j = i.toNat
    · exact absurd (if_pos e) hj
    · simp only [if_neg e] at hj ⊢
      exact hk j hj hs
theorem kn_wpS {s t : Sl} {sec : Nat → Bool} (h : Lk s t) (hk : Kn s t sec) (l : List Int) : ∀ k, Kn (wpS s l k) (wpS t l k) sec
  | 0 => hk
  | k + 1 => kn_wp1 (lk_wpS h l k) (kn_wpS h hk l k) _
theorem kn_step {s t : Sl} {sec : Nat → Bool} (h : Lk s t) (hk : Kn s t sec) (a : Act15) (y : Nat → BitVec 8) (hy : ¬ a.k = 1 → y = a.key) :
    Kn (apS s a) (apS t { a with key := y }) (sec2 s (apS s a) a sec) := by
  have key : ∀ i, ¬ (apS s a).kd i = 0 → sec2 s (apS s a) a sec i = if s.kd i = 0 ∧ dk a < 2 then decide (a.k = 1) else sec1 s a sec i := fun i hi => by unfold sec2; rw [if_neg hi]
  intro i hi hs
  rw [key i hi] at hs
  have e0 : dk { a with key := y } = dk a := rfl
  rcases (show dk a = 2 ∨ dk a = 3 ∨ dk a = 4 ∨ dk a = 5 ∨ dk a = 6 ∨ dk a < 2 by
    have : dk a < 7 := Nat.mod_lt _ (by decide)
    omega) with e | e | e | e | e | e
  · rw [if_neg (by omega)] at hs
    unfold apS at hi ⊢
    rw [e0]
    simp only [e] at hi ⊢
    unfold derS at hi ⊢
    rw [← (lk_derE h)]
    by_cases h0 : derE s a.h a.to = 0
    · simp only [if_pos h0] at hi ⊢
      unfold set1 at hi ⊢
      unfold sec1 at hs
      by_cases ei : i = a.to.toNat
      · simp only [if_pos ei]
        have hsf : sec a.h.toNat = false := by
          cases hx : sec a.h.toNat
          · rfl
          · rw [if_pos ⟨e, h0, hx, ei⟩] at hs; cases hs
        unfold derK
        rw [hk _ (fun h1 => by
          unfold derE at h0
          split at h0
          · cases h0
          split at h0
          · cases h0
          first | cases h0 | (rw [if_pos h1] at h0; cases h0)) hsf]
      · simp only [if_neg ei] at hi ⊢
        rw [if_neg (fun q => ei q.2.2.2)] at hs
        exact hk i hi hs
    · simp only [if_neg h0] at hi ⊢
      unfold sec1 at hs
      rw [if_neg (fun q => h0 q.2.1)] at hs
      exact hk i hi hs
  · unfold apS at hi ⊢
    rw [e0]
    simp only [e] at hi ⊢
    rw [if_neg (by omega)] at hs
    unfold sec1 at hs
    rw [if_neg (by omega)] at hs
    exact hk i hi hs
  · unfold apS at hi ⊢
    rw [e0]
    simp only [e] at hi ⊢
    rw [if_neg (by omega)] at hs
    unfold sec1 at hs
    rw [if_neg (by omega)] at hs
    exact kn_wpS h hk _ 2 i hi hs
  · unfold apS at hi ⊢
    rw [e0]
    simp only [e] at hi ⊢
    rw [if_neg (by omega)] at hs
    unfold sec1 at hs
    rw [if_neg (by omega)] at hs
    exact hk i hi hs
  · unfold apS at hi
    simp only [e] at hi
    exact absurd trivial hi
  · have e3 : ∀ (z : Sl) (c : Act15), dk c = dk a → apS z c = layS z c.h c.k c.key := fun z c hc => by
      unfold apS
      rw [hc]
      split <;> first | omega | rfl
    rw [e3 s a rfl] at hi ⊢
    rw [e3 t { a with key := y } rfl]
    unfold layS at hi ⊢
    rw [← (lk_layE h)]
    show (if layE s a.h a.k = 0 then _ else s).ky i = (if layE s a.h a.k = 0 then set1 t a.h.toNat a.k y else t).ky i
    by_cases h0 : layE s a.h a.k = 0
    · simp only [if_pos h0] at hi ⊢
      unfold set1 at hi ⊢
      by_cases ei : i = a.h.toNat
      · simp only [if_pos ei]
        have h1 : s.kd i = 0 := by
          unfold layE at h0
          split at h0
          · cases h0
          split at h0
          · cases h0
          split at h0
          · cases h0
          split at h0
          · cases h0
          split at h0
          · cases h0
          rename_i q
          rw [ei]
          exact Decidable.of_not_not q
        rw [if_pos ⟨h1, e⟩] at hs
        exact (hy (of_decide_eq_false hs)).symm
      · simp only [if_neg ei] at hi ⊢
        rw [if_neg (fun q => hi q.1)] at hs
        unfold sec1 at hs
        rw [if_neg (by omega)] at hs
        exact hk i hi hs
    · simp only [if_neg h0] at hi ⊢
      rw [if_neg (fun q => hi q.1)] at hs
      unfold sec1 at hs
      rw [if_neg (by omega)] at hs
      exact hk i hi hs
/-- The kinds when k keys have been derived of the first one. -/
def cK (k j : Nat) : Int := if j = 0 then 1 else if j ≤ k then 2 else 0
structure Cn (s : Sl) (k : Nat) : Prop where
  le : k ≤ 7
  dd : s.dd = false
  kd : ∀ j, s.kd j = cK k j
theorem cn_derE {s : Sl} {k : Nat} (h : Cn s k) (hk : k < 7) : derE s k (k + 1 : Nat) = 0 := by
  have h1 : InH (k : Int) ∧ InH ((k + 1 : Nat) : Int) := ⟨⟨by omega, by omega⟩, ⟨by omega, by omega⟩⟩
  unfold derE
  rw [if_neg (by rw [h.dd]; decide), if_neg (fun q => q h1), if_neg, if_neg]
  · rw [h.kd]; unfold cK; rw [Int.toNat_natCast, if_neg (by omega), if_neg (by omega)]; decide
  · rw [h.kd]; unfold cK; rw [Int.toNat_natCast]; split <;> (first | decide | (split <;> first | decide | omega))
theorem cn_step {s : Sl} {k : Nat} (h : Cn s k) (hk : k < 7) (lab : List UInt8) (ps : Parts) : Cn (derS s k (k + 1 : Nat) lab ps) (k + 1) := by
  unfold derS
  rw [if_pos (cn_derE h hk)]
  refine ⟨hk, h.dd, fun j => ?_⟩
  unfold set1
  show (if j = ((k + 1 : Nat) : Int).toNat then 2 else s.kd j) = _
  rw [h.kd, Int.toNat_natCast]
  unfold cK
  by_cases e : j = k + 1
  · rw [if_pos e, if_neg (by omega), if_pos (by omega)]
  · rw [if_neg e]
    by_cases e0 : j = 0
    · rw [if_pos e0, if_pos e0]
    · rw [if_neg e0, if_neg e0]
      by_cases e1 : j ≤ k
      · rw [if_pos e1, if_pos (by omega)]
      · rw [if_neg e1, if_neg (by omega)]
theorem cn_ky {s : Sl} {k : Nat} (h : Cn s k) (hk : k < 7) (lab : List UInt8) (ps : Parts) : (derS s k (k + 1 : Nat) lab ps).ky (k + 1) = at8 (hmac (lw 32 (s.ky k)) (dtext lab ps)) := by
  unfold derS
  rw [if_pos (cn_derE h hk)]
  unfold set1
  show (if k + 1 = ((k + 1 : Nat) : Int).toNat then _ else _) = _
  rw [Int.toNat_natCast, if_pos rfl]
  unfold derK
  rw [Int.toNat_natCast]
theorem cn_kdF {s : Sl} {k : Nat} (h : Cn s k) (hk : 0 < k) : kdF s k = 2 := by
  have h1 : InH (k : Int) := ⟨by omega, by have := h.le; omega⟩
  unfold kdF
  rw [if_pos h1, h.kd, Int.toNat_natCast]
  unfold cK
  rw [if_neg (by omega), if_pos (by omega)]
theorem cn_keyE {s : Sl} {k : Nat} (h : Cn s k) : keyE s k = 0 := by
  have h1 : InH (k : Int) := ⟨by omega, by have := h.le; omega⟩
  unfold keyE
  rw [if_neg (by rw [h.dd]; decide), if_neg (fun q => q h1), if_neg]
  rw [h.kd, Int.toNat_natCast]
  unfold cK
  split
  · decide
  · rw [if_pos (Nat.le_refl _)]; decide
theorem cn_macD {s : Sl} {k : Nat} (h : Cn s k) (ps : Parts) : macD s k ps = at8 (hmac (lw 32 (s.ky k)) (cat ps)) := by
  unfold macD
  rw [if_pos (cn_keyE h), Int.toNat_natCast]
theorem cn_cnt {s : Sl} {k : Nat} (h : Cn s k) : cntN s.kd 8 = k + 1 := by
  rw [show s.kd = cK k from funext h.kd]
  have hk := h.le
  clear h
  revert k
  decide
theorem cn_wpN {s : Sl} {k : Nat} (h : Cn s k) : wpN s [0, 0, (k : Int)] 3 = 1 + min k 1 := by
  have hk := h.le
  have h0 : kdF s 0 = 1 := by unfold kdF; rw [if_pos (by decide), h.kd]; rfl
  have e1 : wpS s [0, 0, (k : Int)] 1 = set1 s 0 0 fun _ => 0 := by
    show wp1 s 0 = _
    unfold wp1; rw [if_neg (by rw [h0]; decide)]; rfl
  have f1 : kdF (set1 s 0 0 fun _ => 0) 0 = 0 := by unfold kdF; rw [if_pos (by decide)]; rfl
  have e2 : wpS s [0, 0, (k : Int)] 2 = set1 s 0 0 fun _ => 0 := by
    show wp1 (wpS s [0, 0, (k : Int)] 1) 0 = _
    rw [e1]; unfold wp1; rw [if_pos f1]
  show (((0 + if kdF s 0 = 0 then 0 else 1) + if kdF (wpS s [0, 0, (k : Int)] 1) 0 = 0 then 0 else 1) + if kdF (wpS s [0, 0, (k : Int)] 2) (k : Int) = 0 then 0 else 1) = _
  rw [e2, e1, if_neg (by rw [h0]; decide), if_pos f1]
  by_cases e : k = 0
  · subst e
    have f2 : kdF (set1 s 0 0 fun _ => 0) ((0 : Nat) : Int) = 0 := f1
    rw [if_pos f2]; decide
  · have : kdF (set1 s 0 0 fun _ => 0) (k : Int) = 2 := by
      unfold kdF
      rw [if_pos ⟨by omega, by omega⟩, Int.toNat_natCast]
      show (if k = 0 then 0 else s.kd k) = 2
      rw [if_neg e, h.kd]; unfold cK; rw [if_neg e, if_pos (Nat.le_refl _)]
    rw [this, if_neg (by decide)]
    omega
theorem wpN_out (s : Sl) : wpN s [-1, 9] 2 = 0 := by
  have f : ∀ t : Sl, kdF t (-1) = 0 := fun t => by unfold kdF; rw [if_neg (by decide)]
  have g : ∀ t : Sl, kdF t 9 = 0 := fun t => by unfold kdF; rw [if_neg (by decide)]
  show ((0 + if kdF s (-1) = 0 then 0 else 1) + if kdF (wpS s [-1, 9] 1) 9 = 0 then 0 else 1) = _
  rw [if_pos (f _), if_pos (g _)]
end Go.Proofs.YtifmnjpjddefpaaDoor
