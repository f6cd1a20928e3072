/- A chip's fuses: fields, the life. -/
import Derived.Test.YtiafaeokfdpbjaaV1
import Derived.Test.YtiafaeokfdpbjaaU6
namespace Go.Proofs.Ytiafaeokfdpbjaa
open Go.RowKit
set_option maxRecDepth 100000
set_option maxHeartbeats 20000000
/-- How many of the k bits from a on are set. -/
def cntB (v : BitVec 32) (a : Nat) : Nat → Nat
  | 0 => 0
  | k + 1 => cntB v a k + (if v.getLsbD (a + k) then 1 else 0)
def fullV (f : Nat) : BitVec 32 := BitVec.ofInt 32 255 <<< (8 * f)
def C_ot_full : SpecP := fun A K => ∃ z : Int, A [.int z] ∧ 0 ≤ z ∧ z < 4 ∧ K (.u32 (fullV z.toNat))
theorem g_ot_full : Gd 53 (pureP ty C_ot_full) := by
  refine goodP (E := PG []) (pgOK trivial) mixes Try.func53 (by kernel_rfl) (by kernel_rfl) ?_
  rintro A K ⟨z, hA, h0, h1, hK⟩
  refine ⟨_, _, fun _ => none, hA, hK, by kernel_rfl, trivial, ?_⟩
  repeat (first | ((conv => whnf); refine And.intro ?_ ?_; exact sideOf) | ((conv => whnf); refine NilE.some ?_ ?_; exact sideOf) | ((conv => whnf); refine And.intro (fun _ => ?_) (fun h => nomatch (show true = false from h))) | ((conv => whnf); refine And.intro (fun h => nomatch (show false = true from h)) (fun _ => ?_)) | ((conv => whnf); first | (apply Exists.intro; (repeat apply Exists.intro); refine And.intro ?_ ?_; exact leOf) | (refine Or.inl ?_; (conv => whnf); (repeat apply Exists.intro); refine And.intro ?_ ?_; exact leOf) | (refine Or.inr ?_; (conv => whnf); first | ((repeat apply Exists.intro); refine And.intro ?_ ?_; exact leOf) | (refine Or.inl ?_; (conv => whnf); (repeat apply Exists.intro); refine And.intro ?_ ?_; exact leOf) | (refine Or.inr ?_; (conv => whnf); (repeat apply Exists.intro); refine And.intro ?_ ?_; exact leOf))) | ((conv => whnf); refine And.intro (by assumption) ?_) | ((conv => whnf); first | (refine brT (by first | assumption | exact decide_eq_true (by first | assumption | omega | (simp only [Int.reduceToNat]; omega) | (with_reducible exact Eq.refl _)) | exact notT (decide_eq_false (by first | assumption | omega | exact fun q => q (by assumption) | (simp only [Int.reduceToNat]; omega))) | exact notT (by assumption)) ?_) | (refine brF (by first | assumption | exact decide_eq_false (by first | assumption | omega | exact fun q => q (by assumption) | (simp only [Int.reduceToNat]; omega)) | exact notF (decide_eq_true (by first | assumption | omega | (simp only [Int.reduceToNat]; omega))) | exact notF (by assumption)) ?_)) | ((conv => whnf); first | (refine Or.inl (And.intro (by first | assumption | omega | decide | (dsimp only; omega)) ?_)) | (refine Or.inr (And.intro (by first | assumption | omega | decide | (dsimp only; omega)) ?_)) | (refine Or.inr (Or.inl (And.intro (by first | assumption | omega | decide | (dsimp only; omega)) ?_))) | (refine Or.inr (Or.inr (And.intro (by first | assumption | omega | decide | (dsimp only; omega)) ?_)))))
  all_goals try (conv => whnf)
  unfold fullV
  rw [show (((Int.toNat 8 : Nat) : Int) * z).toNat = 8 * z.toNat by simp only [Int.reduceToNat]; omega]
def C_ot_rowAt : SpecP := fun A K => ∃ z : Int, A [.int z] ∧ 0 ≤ z ∧ z < 4 ∧ K (.nat (27 + 9 * z.toNat))
theorem g_ot_rowAt : Gd 51 (pureP ty C_ot_rowAt) := by
  refine goodP (E := PG []) (pgOK trivial) mixes Try.func51 (by kernel_rfl) (by kernel_rfl) ?_
  rintro A K ⟨z, hA, h0, h1, hK⟩
  refine ⟨_, _, fun _ => none, hA, hK, by kernel_rfl, trivial, ?_⟩
  repeat (first | ((conv => whnf); refine And.intro ?_ ?_; exact sideOf) | ((conv => whnf); refine NilE.some ?_ ?_; exact sideOf) | ((conv => whnf); refine And.intro (fun _ => ?_) (fun h => nomatch (show true = false from h))) | ((conv => whnf); refine And.intro (fun h => nomatch (show false = true from h)) (fun _ => ?_)) | ((conv => whnf); first | (apply Exists.intro; (repeat apply Exists.intro); refine And.intro ?_ ?_; exact leOf) | (refine Or.inl ?_; (conv => whnf); (repeat apply Exists.intro); refine And.intro ?_ ?_; exact leOf) | (refine Or.inr ?_; (conv => whnf); first | ((repeat apply Exists.intro); refine And.intro ?_ ?_; exact leOf) | (refine Or.inl ?_; (conv => whnf); (repeat apply Exists.intro); refine And.intro ?_ ?_; exact leOf) | (refine Or.inr ?_; (conv => whnf); (repeat apply Exists.intro); refine And.intro ?_ ?_; exact leOf))) | ((conv => whnf); refine And.intro (by assumption) ?_) | ((conv => whnf); first | (refine brT (by first | assumption | exact decide_eq_true (by first | assumption | omega | (simp only [Int.reduceToNat]; omega) | (with_reducible exact Eq.refl _)) | exact notT (decide_eq_false (by first | assumption | omega | exact fun q => q (by assumption) | (simp only [Int.reduceToNat]; omega))) | exact notT (by assumption)) ?_) | (refine brF (by first | assumption | exact decide_eq_false (by first | assumption | omega | exact fun q => q (by assumption) | (simp only [Int.reduceToNat]; omega)) | exact notF (decide_eq_true (by first | assumption | omega | (simp only [Int.reduceToNat]; omega))) | exact notF (by assumption)) ?_)) | ((conv => whnf); first | (refine Or.inl (And.intro (by first | assumption | omega | decide | (dsimp only; omega)) ?_)) | (refine Or.inr (And.intro (by first | assumption | omega | decide | (dsimp only; omega)) ?_)) | (refine Or.inr (Or.inl (And.intro (by first | assumption | omega | decide | (dsimp only; omega)) ?_))) | (refine Or.inr (Or.inr (And.intro (by first | assumption | omega | decide | (dsimp only; omega)) ?_)))))
  all_goals try (conv => whnf)
  simp only [Int.reduceToNat]; omega
def C_ot_marksAt : SpecP := fun A K => ∃ z : Int, A [.int z] ∧ 0 ≤ z ∧ z < 4 ∧ K (.nat (35 + 9 * z.toNat))
theorem g_ot_marksAt : Gd 50 (pureP ty C_ot_marksAt) := by
  refine goodP (E := PG [(51, pureP ty C_ot_rowAt)]) (pgOK ⟨g_ot_rowAt, trivial⟩) mixes Try.func50 (by kernel_rfl) (by kernel_rfl) ?_
  rintro A K ⟨z, hA, h0, h1, hK⟩
  refine ⟨_, _, fun _ => none, hA, hK, by kernel_rfl, trivial, ?_⟩
  repeat (first | ((conv => whnf); refine And.intro ?_ ?_; exact sideOf) | ((conv => whnf); refine NilE.some ?_ ?_; exact sideOf) | ((conv => whnf); refine And.intro (fun _ => ?_) (fun h => nomatch (show true = false from h))) | ((conv => whnf); refine And.intro (fun h => nomatch (show false = true from h)) (fun _ => ?_)) | ((conv => whnf); first | (apply Exists.intro; (repeat apply Exists.intro); refine And.intro ?_ ?_; exact leOf) | (refine Or.inl ?_; (conv => whnf); (repeat apply Exists.intro); refine And.intro ?_ ?_; exact leOf) | (refine Or.inr ?_; (conv => whnf); first | ((repeat apply Exists.intro); refine And.intro ?_ ?_; exact leOf) | (refine Or.inl ?_; (conv => whnf); (repeat apply Exists.intro); refine And.intro ?_ ?_; exact leOf) | (refine Or.inr ?_; (conv => whnf); (repeat apply Exists.intro); refine And.intro ?_ ?_; exact leOf))) | ((conv => whnf); refine And.intro (by assumption) ?_) | ((conv => whnf); first | (refine brT (by first | assumption | exact decide_eq_true (by first | assumption | omega | (simp only [Int.reduceToNat]; omega) | (with_reducible exact Eq.refl _)) | exact notT (decide_eq_false (by first | assumption | omega | exact fun q => q (by assumption) | (simp only [Int.reduceToNat]; omega))) | exact notT (by assumption)) ?_) | (refine brF (by first | assumption | exact decide_eq_false (by first | assumption | omega | exact fun q => q (by assumption) | (simp only [Int.reduceToNat]; omega)) | exact notF (decide_eq_true (by first | assumption | omega | (simp only [Int.reduceToNat]; omega))) | exact notF (by assumption)) ?_)) | ((conv => whnf); first | (refine Or.inl (And.intro (by first | assumption | omega | decide | (dsimp only; omega)) ?_)) | (refine Or.inr (And.intro (by first | assumption | omega | decide | (dsimp only; omega)) ?_)) | (refine Or.inr (Or.inl (And.intro (by first | assumption | omega | decide | (dsimp only; omega)) ?_))) | (refine Or.inr (Or.inr (And.intro (by first | assumption | omega | decide | (dsimp only; omega)) ?_)))))
  all_goals try (conv => whnf)
  simp only [Int.reduceToNat]; omega
theorem by_lt (v : BitVec 32) : (v >>> (BitVec.ofInt 64 24).toNat).toNat < 256 := by
  rw [BitVec.toNat_ushiftRight, Nat.shiftRight_eq_div_pow]
  have := v.isLt
  show v.toNat / 16777216 < 256
  omega
theorem and_lt (v : BitVec 32) : (v &&& BitVec.ofInt 32 255).toNat < 256 := by
  rw [BitVec.toNat_and]
  exact Nat.lt_succ_of_le Nat.and_le_right
def popT : List UInt8 := [0, 1, 1, 2, 1, 2, 2, 3, 1, 2, 2, 3, 2, 3, 3, 4, 1, 2, 2, 3, 2, 3, 3, 4, 2, 3, 3, 4, 3, 4, 4, 5, 1, 2, 2, 3, 2, 3, 3, 4, 2, 3, 3, 4, 3, 4, 4, 5, 2, 3, 3, 4, 3, 4, 4, 5, 3, 4, 4, 5, 4, 5, 5, 6, 1, 2, 2, 3, 2, 3, 3, 4, 2, 3, 3, 4, 3, 4, 4, 5, 2, 3, 3, 4, 3, 4, 4, 5, 3, 4, 4, 5, 4, 5, 5, 6, 2, 3, 3, 4, 3, 4, 4, 5, 3, 4, 4, 5, 4, 5, 5, 6, 3, 4, 4, 5, 4, 5, 5, 6, 4, 5, 5, 6, 5, 6, 6, 7, 1, 2, 2, 3, 2, 3, 3, 4, 2, 3, 3, 4, 3, 4, 4, 5, 2, 3, 3, 4, 3, 4, 4, 5, 3, 4, 4, 5, 4, 5, 5, 6, 2, 3, 3, 4, 3, 4, 4, 5, 3, 4, 4, 5, 4, 5, 5, 6, 3, 4, 4, 5, 4, 5, 5, 6, 4, 5, 5, 6, 5, 6, 6, 7, 2, 3, 3, 4, 3, 4, 4, 5, 3, 4, 4, 5, 4, 5, 5, 6, 3, 4, 4, 5, 4, 5, 5, 6, 4, 5, 5, 6, 5, 6, 6, 7, 3, 4, 4, 5, 4, 5, 5, 6, 4, 5, 5, 6, 5, 6, 6, 7, 4, 5, 5, 6, 5, 6, 6, 7, 5, 6, 6, 7, 6, 7, 7, 8]
def cntN (b : Nat) : Nat → Nat
  | 0 => 0
  | k + 1 => cntN b k + (if b.testBit k then 1 else 0)
theorem popT_ok : ∀ b : Fin 256, (popT.getD b.val 0).toNat = cntN b.val 8 := by decide +kernel
theorem popT_at (b : Nat) (h : b < 256) : (popT.getD b 0).toNat = cntN b 8 := popT_ok ⟨b, h⟩
theorem cntB_eq (v : BitVec 32) (a : Nat) : ∀ k, cntB v a k = cntN (v >>> a).toNat k
  | 0 => rfl
  | k + 1 => by
    unfold cntB cntN
    rw [cntB_eq v a k]
    congr 2
    rw [← BitVec.getLsbD_ushiftRight]; rfl
theorem cntN_le (b : Nat) : ∀ k, cntN b k ≤ k
  | 0 => Nat.le_refl _
  | k + 1 => by
    have := cntN_le b k
    unfold cntN
    split <;> omega
theorem cntN_and (x : BitVec 32) : cntN (x &&& BitVec.ofInt 32 255).toNat 8 = cntN x.toNat 8 := by
  have h : ∀ k, k < 8 → (x &&& BitVec.ofInt 32 255).toNat.testBit k = x.toNat.testBit k := fun k hk => by
    show (x &&& BitVec.ofInt 32 255).getLsbD k = x.getLsbD k
    rw [BitVec.getLsbD_and]
    have : (BitVec.ofInt 32 255).getLsbD k = true := by
      have := (show ∀ k : Fin 8, (BitVec.ofInt 32 255).getLsbD k.val = true by decide) ⟨k, hk⟩
      exact this
    rw [this, Bool.and_true]
  have go : ∀ n, n ≤ 8 → cntN (x &&& BitVec.ofInt 32 255).toNat n = cntN x.toNat n := by
    intro n
    induction n with
    | zero => intro _; rfl
    | succ n ih =>
      intro hn
      unfold cntN
      rw [ih (by omega), h n (by omega)]
  exact go 8 (Nat.le_refl 8)
def pc32 (v : BitVec 32) : Nat := cntB v 24 8 + cntB v 16 8 + cntB v 8 8 + cntB v 0 8
theorem pop_sum (a b c d : Nat) (ha : a < 256) (hb : b < 256) (hc : c < 256) (hd : d < 256) :
    (BitVec.ofNat 8 (popT.getD a 0).toNat + BitVec.ofNat 8 (popT.getD b 0).toNat + BitVec.ofNat 8 (popT.getD c 0).toNat + BitVec.ofNat 8 (popT.getD d 0).toNat).toNat = cntN a 8 + cntN b 8 + cntN c 8 + cntN d 8 := by
  rw [popT_at a ha, popT_at b hb, popT_at c hc, popT_at d hd]
  have h1 := cntN_le a 8
  have h2 := cntN_le b 8
  have h3 := cntN_le c 8
  have h4 := cntN_le d 8
  simp only [BitVec.toNat_add, BitVec.toNat_ofNat]
  omega
theorem pop_fin (v : BitVec 32) :
    (BitVec.ofNat 8 (popT.getD (v >>> (BitVec.ofInt 64 24).toNat).toNat 0).toNat + BitVec.ofNat 8 (popT.getD (v >>> (BitVec.ofInt 64 16).toNat &&& BitVec.ofInt 32 255).toNat 0).toNat + BitVec.ofNat 8 (popT.getD (v >>> (BitVec.ofInt 64 8).toNat &&& BitVec.ofInt 32 255).toNat 0).toNat + BitVec.ofNat 8 (popT.getD (v &&& BitVec.ofInt 32 255).toNat 0).toNat).toNat = pc32 v := by
  rw [pop_sum _ _ _ _ (by_lt v) (and_lt _) (and_lt _) (and_lt _), cntN_and, cntN_and, cntN_and]
  unfold pc32
  rw [cntB_eq, cntB_eq, cntB_eq, cntB_eq]
  rfl
def C_ones : SpecP := fun A K => ∃ v, A [.u32 v] ∧ K (.nat (pc32 v))
theorem g_ones : Gd 65 (pureP ty C_ones) := by
  refine goodP (E := PG []) (pgOK trivial) mixes Try.func65 (by kernel_rfl) (by kernel_rfl) ?_
  rintro A K ⟨v, hA, hK⟩
  have h1 := by_lt v
  have h2 := and_lt (v >>> (BitVec.ofInt 64 16).toNat)
  have h3 := and_lt (v >>> (BitVec.ofInt 64 8).toNat)
  have h4 := and_lt v
  refine ⟨_, _, fun _ => none, hA, hK, by kernel_rfl, trivial, ?_⟩
  repeat (first | ((conv => whnf); refine And.intro ?_ ?_; exact sideOf) | ((conv => whnf); refine NilE.some ?_ ?_; exact sideOf) | ((conv => whnf); refine And.intro (fun _ => ?_) (fun h => nomatch (show true = false from h))) | ((conv => whnf); refine And.intro (fun h => nomatch (show false = true from h)) (fun _ => ?_)) | ((conv => whnf); first | (apply Exists.intro; (repeat apply Exists.intro); refine And.intro ?_ ?_; exact leOf) | (refine Or.inl ?_; (conv => whnf); (repeat apply Exists.intro); refine And.intro ?_ ?_; exact leOf) | (refine Or.inr ?_; (conv => whnf); first | ((repeat apply Exists.intro); refine And.intro ?_ ?_; exact leOf) | (refine Or.inl ?_; (conv => whnf); (repeat apply Exists.intro); refine And.intro ?_ ?_; exact leOf) | (refine Or.inr ?_; (conv => whnf); (repeat apply Exists.intro); refine And.intro ?_ ?_; exact leOf))) | ((conv => whnf); refine And.intro (by assumption) ?_) | ((conv => whnf); first | (refine brT (by first | assumption | exact decide_eq_true (by first | assumption | omega | (simp only [Int.reduceToNat]; omega) | (with_reducible exact Eq.refl _)) | exact notT (decide_eq_false (by first | assumption | omega | exact fun q => q (by assumption) | (simp only [Int.reduceToNat]; omega))) | exact notT (by assumption)) ?_) | (refine brF (by first | assumption | exact decide_eq_false (by first | assumption | omega | exact fun q => q (by assumption) | (simp only [Int.reduceToNat]; omega)) | exact notF (decide_eq_true (by first | assumption | omega | (simp only [Int.reduceToNat]; omega))) | exact notF (by assumption)) ?_)) | ((conv => whnf); first | (refine Or.inl (And.intro (by first | assumption | omega | decide | (dsimp only; omega)) ?_)) | (refine Or.inr (And.intro (by first | assumption | omega | decide | (dsimp only; omega)) ?_)) | (refine Or.inr (Or.inl (And.intro (by first | assumption | omega | decide | (dsimp only; omega)) ?_))) | (refine Or.inr (Or.inr (And.intro (by first | assumption | omega | decide | (dsimp only; omega)) ?_)))))
  all_goals try (conv => whnf)
  exact pop_fin v
/-- A field's bits. -/
theorem cntB_on (v m : BitVec 32) (a : Nat) (h : ∀ k, k < 8 → m.getLsbD (a + k) = true) : cntB (v &&& m) a 8 = cntB v a 8 := by
  have go : ∀ n, n ≤ 8 → cntB (v &&& m) a n = cntB v a n := by
    intro n
    induction n with
    | zero => intro _; rfl
    | succ n ih =>
      intro hn
      unfold cntB
      rw [ih (by omega), BitVec.getLsbD_and, h n (by omega), Bool.and_true]
  exact go 8 (Nat.le_refl 8)
theorem cntB_off (v m : BitVec 32) (a : Nat) (h : ∀ k, k < 8 → m.getLsbD (a + k) = false) : cntB (v &&& m) a 8 = 0 := by
  have go : ∀ n, n ≤ 8 → cntB (v &&& m) a n = 0 := by
    intro n
    induction n with
    | zero => intro _; rfl
    | succ n ih =>
      intro hn
      unfold cntB
      rw [ih (by omega), BitVec.getLsbD_and, h n (by omega), Bool.and_false]
      rfl
  exact go 8 (Nat.le_refl 8)
theorem lt4 {p : Nat → Prop} (h0 : p 0) (h1 : p 1) (h2 : p 2) (h3 : p 3) (f : Nat) (hf : f < 4) : p f := by
  rcases f with _ | _ | _ | _ | f
  · exact h0
  · exact h1
  · exact h2
  · exact h3
  · omega
theorem fullV_bit : ∀ f g : Fin 4, ∀ k : Fin 8, (fullV f.val).getLsbD (8 * g.val + k.val) = decide (f = g) := by decide +kernel
theorem pc_full (v : BitVec 32) (f : Nat) (hf : f < 4) : pc32 (v &&& fullV f) = cntB v (8 * f) 8 := by
  have on : ∀ g, g < 4 → f = g → cntB (v &&& fullV f) (8 * g) 8 = cntB v (8 * g) 8 := fun g hg e => cntB_on _ _ _ fun k hk => by
    have := fullV_bit ⟨f, hf⟩ ⟨g, hg⟩ ⟨k, hk⟩
    rw [this]; exact decide_eq_true (Fin.ext e)
  have off : ∀ g, g < 4 → ¬ f = g → cntB (v &&& fullV f) (8 * g) 8 = 0 := fun g hg e => cntB_off _ _ _ fun k hk => by
    have := fullV_bit ⟨f, hf⟩ ⟨g, hg⟩ ⟨k, hk⟩
    rw [this]; exact decide_eq_false fun q => e (Fin.mk.inj q)
  unfold pc32
  rcases f with _ | _ | _ | _ | f
  · rw [off 3 (by omega) (by omega), off 2 (by omega) (by omega), off 1 (by omega) (by omega), on 0 (by omega) rfl]; omega
  · rw [off 3 (by omega) (by omega), off 2 (by omega) (by omega), on 1 (by omega) rfl, off 0 (by omega) (by omega)]; show 0 + 0 + _ + 0 = cntB v (8 * 1) 8; omega
  · rw [off 3 (by omega) (by omega), on 2 (by omega) rfl, off 1 (by omega) (by omega), off 0 (by omega) (by omega)]; show 0 + _ + 0 + 0 = cntB v (8 * 2) 8; omega
  · rw [on 3 (by omega) rfl, off 2 (by omega) (by omega), off 1 (by omega) (by omega), off 0 (by omega) (by omega)]; show _ + 0 + 0 + 0 = cntB v (8 * 3) 8; omega
  · omega
def onF (v : BitVec 32) (f : Nat) : Bool := decide (5 ≤ cntB v (8 * f) 8)
def C_ot_on : SpecP := fun A K => ∃ v, ∃ z : Int, A [.u32 v, .int z] ∧ 0 ≤ z ∧ z < 4 ∧ K (.bo (onF v z.toNat))
theorem g_ot_on : Gd 44 (pureP ty C_ot_on) := by
  refine goodP (E := PG [(53, pureP ty C_ot_full), (65, pureP ty C_ones)]) (pgOK ⟨g_ot_full, g_ones, trivial⟩) mixes Try.func44 (by kernel_rfl) (by kernel_rfl) ?_
  rintro A K ⟨v, z, hA, h0, h1, hK⟩
  have hp := pc_full v z.toNat (by omega)
  refine ⟨_, _, fun _ => none, hA, hK, by kernel_rfl, trivial, ?_⟩
  repeat (first | ((conv => whnf); refine And.intro ?_ ?_; exact sideOf) | ((conv => whnf); refine NilE.some ?_ ?_; exact sideOf) | ((conv => whnf); refine And.intro (fun _ => ?_) (fun h => nomatch (show true = false from h))) | ((conv => whnf); refine And.intro (fun h => nomatch (show false = true from h)) (fun _ => ?_)) | ((conv => whnf); first | (apply Exists.intro; (repeat apply Exists.intro); refine And.intro ?_ ?_; exact leOf) | (refine Or.inl ?_; (conv => whnf); (repeat apply Exists.intro); refine And.intro ?_ ?_; exact leOf) | (refine Or.inr ?_; (conv => whnf); first | ((repeat apply Exists.intro); refine And.intro ?_ ?_; exact leOf) | (refine Or.inl ?_; (conv => whnf); (repeat apply Exists.intro); refine And.intro ?_ ?_; exact leOf) | (refine Or.inr ?_; (conv => whnf); (repeat apply Exists.intro); refine And.intro ?_ ?_; exact leOf))) | ((conv => whnf); refine And.intro (by assumption) ?_) | ((conv => whnf); first | (refine brT (by first | assumption | exact decide_eq_true (by first | assumption | omega | (simp only [Int.reduceToNat]; omega) | (with_reducible exact Eq.refl _)) | exact notT (decide_eq_false (by first | assumption | omega | exact fun q => q (by assumption) | (simp only [Int.reduceToNat]; omega))) | exact notT (by assumption)) ?_) | (refine brF (by first | assumption | exact decide_eq_false (by first | assumption | omega | exact fun q => q (by assumption) | (simp only [Int.reduceToNat]; omega)) | exact notF (decide_eq_true (by first | assumption | omega | (simp only [Int.reduceToNat]; omega))) | exact notF (by assumption)) ?_)) | ((conv => whnf); first | (refine Or.inl (And.intro (by first | assumption | omega | decide | (dsimp only; omega)) ?_)) | (refine Or.inr (And.intro (by first | assumption | omega | decide | (dsimp only; omega)) ?_)) | (refine Or.inr (Or.inl (And.intro (by first | assumption | omega | decide | (dsimp only; omega)) ?_))) | (refine Or.inr (Or.inr (And.intro (by first | assumption | omega | decide | (dsimp only; omega)) ?_)))))
  all_goals try (conv => whnf)
  unfold onF
  rw [hp]; rfl
/-! ### The reference's field -/
def L_ron (v : BitVec 32) (f : Nat) : LI := .plain Nat (· ≤ 8) (fun k => [(0, .u32 v), (1, .nat f), (5, .nat (cntB v (8 * f) k)), (6, .nat (8 * f + k))]) (fun k => 8 - k)
theorem cnt_step (v : BitVec 32) (a k : Nat) : cntB v a k + (v >>> (a + k) % BitVec.ofInt 32 2).toNat = cntB v a (k + 1) := by
  conv => rhs; unfold cntB
  congr 1
  have := bit_lsb v (a + k)
  cases h : v.getLsbD (a + k) with
  | true =>
    rw [h] at this
    rw [of_decide_eq_true this]; rfl
  | false => rw [bit_zero v _ h]; rfl
theorem cntB_le (v : BitVec 32) (a k : Nat) : cntB v a k ≤ k := by rw [cntB_eq]; exact cntN_le _ _
def C_ron : SpecP := fun A K => ∃ v, ∃ f, A [.u32 v, .nat f] ∧ f < 4 ∧ K (.bo (onF v f))
theorem g_ron : Gd 41 (pureP ty C_ron) := by
  refine goodP (E := PG []) (pgOK trivial) mixes Try.func41 (by kernel_rfl) (by kernel_rfl) ?_
  rintro A K ⟨v, f, hA, h1, hK⟩
  refine ⟨_, _, loops [(3, L_ron v f)], hA, hK, by kernel_rfl, trivial, ?_⟩
  repeat (first | ((conv => whnf); refine And.intro ?_ ?_; exact sideOf) | ((conv => whnf); refine NilE.some ?_ ?_; exact sideOf) | ((conv => whnf); refine And.intro (fun _ => ?_) (fun h => nomatch (show true = false from h))) | ((conv => whnf); refine And.intro (fun h => nomatch (show false = true from h)) (fun _ => ?_)) | ((conv => whnf); first | (apply Exists.intro; (repeat apply Exists.intro); refine And.intro ?_ ?_; exact leOf) | (refine Or.inl ?_; (conv => whnf); (repeat apply Exists.intro); refine And.intro ?_ ?_; exact leOf) | (refine Or.inr ?_; (conv => whnf); first | ((repeat apply Exists.intro); refine And.intro ?_ ?_; exact leOf) | (refine Or.inl ?_; (conv => whnf); (repeat apply Exists.intro); refine And.intro ?_ ?_; exact leOf) | (refine Or.inr ?_; (conv => whnf); (repeat apply Exists.intro); refine And.intro ?_ ?_; exact leOf))) | ((conv => whnf); refine And.intro (by assumption) ?_) | ((conv => whnf); first | (refine brT (by first | assumption | exact decide_eq_true (by first | assumption | omega | (simp only [Int.reduceToNat]; omega) | (with_reducible exact Eq.refl _)) | exact notT (decide_eq_false (by first | assumption | omega | exact fun q => q (by assumption) | (simp only [Int.reduceToNat]; omega))) | exact notT (by assumption)) ?_) | (refine brF (by first | assumption | exact decide_eq_false (by first | assumption | omega | exact fun q => q (by assumption) | (simp only [Int.reduceToNat]; omega)) | exact notF (decide_eq_true (by first | assumption | omega | (simp only [Int.reduceToNat]; omega))) | exact notF (by assumption)) ?_)) | ((conv => whnf); first | (refine Or.inl (And.intro (by first | assumption | omega | decide | (dsimp only; omega)) ?_)) | (refine Or.inr (And.intro (by first | assumption | omega | decide | (dsimp only; omega)) ?_)) | (refine Or.inr (Or.inl (And.intro (by first | assumption | omega | decide | (dsimp only; omega)) ?_))) | (refine Or.inr (Or.inr (And.intro (by first | assumption | omega | decide | (dsimp only; omega)) ?_)))))
  all_goals try (conv => whnf)
  refine Exists.intro (fun _ => True) (And.intro (Enter.mk (0 : Nat) (Nat.zero_le _) trivial ?_) (fun (k : Nat) (hk : k ≤ 8) _ => ?_))
  · ((repeat' ((conv => whnf) <;> first | exact trivial | (with_reducible first | refine And.intro ?_ ?_ | refine rows_lt1 ?_ | refine rows_lt2 ?_ ?_ | refine rows_lt3 ?_ ?_ ?_ | refine rows_lt4 ?_ ?_ ?_ ?_ | refine rows_lt5 ?_ ?_ ?_ ?_ ?_ | refine aggs_lt1 ?_ | refine aggs_lt2 ?_ ?_ | refine aggs_lt3 ?_ ?_ ?_ | refine fun (_ : Nat) => ?_) | refine fun (_ : (_ : Nat) < _) => ?_ | exact rfl | exact Nat.le_of_ble_eq_true rfl | (change (_ : Nat) ≤ _; omega) | (change (_ : Nat) = _; omega) | (change (_ : Int) = _; omega))); (all_goals try (conv => whnf)))
  have hc := cntB_le v (8 * f) k
  have ha := cnt_step v (8 * f) k
  rcases Nat.lt_or_ge k 8 with h | h
  · skip
    repeat (first | ((conv => whnf); refine And.intro ?_ ?_; exact sideOf) | ((conv => whnf); refine NilE.some ?_ ?_; exact sideOf) | ((conv => whnf); refine And.intro (fun _ => ?_) (fun h => nomatch (show true = false from h))) | ((conv => whnf); refine And.intro (fun h => nomatch (show false = true from h)) (fun _ => ?_)) | ((conv => whnf); first | (apply Exists.intro; (repeat apply Exists.intro); refine And.intro ?_ ?_; exact leOf) | (refine Or.inl ?_; (conv => whnf); (repeat apply Exists.intro); refine And.intro ?_ ?_; exact leOf) | (refine Or.inr ?_; (conv => whnf); first | ((repeat apply Exists.intro); refine And.intro ?_ ?_; exact leOf) | (refine Or.inl ?_; (conv => whnf); (repeat apply Exists.intro); refine And.intro ?_ ?_; exact leOf) | (refine Or.inr ?_; (conv => whnf); (repeat apply Exists.intro); refine And.intro ?_ ?_; exact leOf))) | ((conv => whnf); refine And.intro (by assumption) ?_) | ((conv => whnf); first | (refine brT (by first | assumption | exact decide_eq_true (by first | assumption | omega | (simp only [Int.reduceToNat]; omega) | (with_reducible exact Eq.refl _)) | exact notT (decide_eq_false (by first | assumption | omega | exact fun q => q (by assumption) | (simp only [Int.reduceToNat]; omega))) | exact notT (by assumption)) ?_) | (refine brF (by first | assumption | exact decide_eq_false (by first | assumption | omega | exact fun q => q (by assumption) | (simp only [Int.reduceToNat]; omega)) | exact notF (decide_eq_true (by first | assumption | omega | (simp only [Int.reduceToNat]; omega))) | exact notF (by assumption)) ?_)) | ((conv => whnf); first | (refine Or.inl (And.intro (by first | assumption | omega | decide | (dsimp only; omega)) ?_)) | (refine Or.inr (And.intro (by first | assumption | omega | decide | (dsimp only; omega)) ?_)) | (refine Or.inr (Or.inl (And.intro (by first | assumption | omega | decide | (dsimp only; omega)) ?_))) | (refine Or.inr (Or.inr (And.intro (by first | assumption | omega | decide | (dsimp only; omega)) ?_)))))
    all_goals try (conv => whnf)
    refine Again.mk (k + 1 : Nat) (show k + 1 ≤ 8 by omega) trivial (show 8 - (k + 1) < 8 - k by omega) ?_
    ((repeat' ((conv => whnf) <;> first | exact trivial | (with_reducible first | refine And.intro ?_ ?_ | refine rows_lt1 ?_ | refine rows_lt2 ?_ ?_ | refine rows_lt3 ?_ ?_ ?_ | refine rows_lt4 ?_ ?_ ?_ ?_ | refine rows_lt5 ?_ ?_ ?_ ?_ ?_ | refine aggs_lt1 ?_ | refine aggs_lt2 ?_ ?_ | refine aggs_lt3 ?_ ?_ ?_ | refine fun (_ : Nat) => ?_) | refine fun (_ : (_ : Nat) < _) => ?_ | exact rfl | exact Nat.le_of_ble_eq_true rfl | (change (_ : Nat) ≤ _; omega) | (change (_ : Nat) = _; omega) | (change (_ : Int) = _; omega))); (all_goals try (conv => whnf)))
  · obtain rfl : k = 8 := by omega
    repeat (first | ((conv => whnf); refine And.intro ?_ ?_; exact sideOf) | ((conv => whnf); refine NilE.some ?_ ?_; exact sideOf) | ((conv => whnf); refine And.intro (fun _ => ?_) (fun h => nomatch (show true = false from h))) | ((conv => whnf); refine And.intro (fun h => nomatch (show false = true from h)) (fun _ => ?_)) | ((conv => whnf); first | (apply Exists.intro; (repeat apply Exists.intro); refine And.intro ?_ ?_; exact leOf) | (refine Or.inl ?_; (conv => whnf); (repeat apply Exists.intro); refine And.intro ?_ ?_; exact leOf) | (refine Or.inr ?_; (conv => whnf); first | ((repeat apply Exists.intro); refine And.intro ?_ ?_; exact leOf) | (refine Or.inl ?_; (conv => whnf); (repeat apply Exists.intro); refine And.intro ?_ ?_; exact leOf) | (refine Or.inr ?_; (conv => whnf); (repeat apply Exists.intro); refine And.intro ?_ ?_; exact leOf))) | ((conv => whnf); refine And.intro (by assumption) ?_) | ((conv => whnf); first | (refine brT (by first | assumption | exact decide_eq_true (by first | assumption | omega | (simp only [Int.reduceToNat]; omega) | (with_reducible exact Eq.refl _)) | exact notT (decide_eq_false (by first | assumption | omega | exact fun q => q (by assumption) | (simp only [Int.reduceToNat]; omega))) | exact notT (by assumption)) ?_) | (refine brF (by first | assumption | exact decide_eq_false (by first | assumption | omega | exact fun q => q (by assumption) | (simp only [Int.reduceToNat]; omega)) | exact notF (decide_eq_true (by first | assumption | omega | (simp only [Int.reduceToNat]; omega))) | exact notF (by assumption)) ?_)) | ((conv => whnf); first | (refine Or.inl (And.intro (by first | assumption | omega | decide | (dsimp only; omega)) ?_)) | (refine Or.inr (And.intro (by first | assumption | omega | decide | (dsimp only; omega)) ?_)) | (refine Or.inr (Or.inl (And.intro (by first | assumption | omega | decide | (dsimp only; omega)) ?_))) | (refine Or.inr (Or.inr (And.intro (by first | assumption | omega | decide | (dsimp only; omega)) ?_)))))
    all_goals try (conv => whnf)
    exact rfl
/-! ### Lives -/
theorem cntB_zero (a : Nat) : ∀ k, cntB 0 a k = 0
  | 0 => rfl
  | k + 1 => by
    unfold cntB
    rw [cntB_zero a k]
    simp
theorem onF_zero (f : Nat) : onF 0 f = false := by
  unfold onF
  rw [cntB_zero]; rfl
def lifeW (v : BitVec 32) : Nat := if onF v 3 then 4 else if onF v 2 then 3 else if onF v 1 then 2 else if onF v 0 then 1 else 0
theorem lifeW_le (v : BitVec 32) : lifeW v ≤ 4 := by
  unfold lifeW
  cases onF v 3 <;> cases onF v 2 <;> cases onF v 1 <;> cases onF v 0 <;> decide
theorem lifeW_at (v : BitVec 32) (j : Nat) (hj : j < 4) (h : onF v j = true) (ha : ∀ i, j + 1 ≤ i → i < 4 → onF v i = false) : lifeW v = j + 1 := by
  unfold lifeW
  rcases j with _ | _ | _ | _ | j
  · rw [ha 3 (by omega) (by omega), ha 2 (by omega) (by omega), ha 1 (by omega) (by omega), h]; rfl
  · rw [ha 3 (by omega) (by omega), ha 2 (by omega) (by omega), h]; rfl
  · rw [ha 3 (by omega) (by omega), h]; rfl
  · rw [h]; rfl
  · omega
theorem lifeW_none (v : BitVec 32) (ha : ∀ i, i < 4 → onF v i = false) : lifeW v = 0 := by
  unfold lifeW
  rw [ha 3 (by omega), ha 2 (by omega), ha 1 (by omega), ha 0 (by omega)]; rfl
abbrev imI (w : Nat → BitVec 32) : AV := .ipt TIm (arr32 64 w)
def L_Life (w : Nat → BitVec 32) : LI := ⟨Nat, fun k => k ≤ 4 ∧ ∀ i, 4 - k ≤ i → i < 4 → onF (w 0) i = false, fun k => [(3, .ptr TIm 1040 []), (4, .int (4 - (k : Int)))], fun _ => [(1040, .var TIm (arr32 64 w))], fun k => 4 - k, some, some⟩
def C_ot_Life : SpecP := fun A K => ∃ w l, A [chI w l] ∧ K (.nat (lifeW (w 0)))
theorem g_ot_Life : Gd 19 (pureP ty C_ot_Life) := by
  refine goodP (E := PG [(43, pureR ty C_ot_image), (44, pureP ty C_ot_on)]) (pgOK ⟨g_ot_image, g_ot_on, trivial⟩) mixes Try.func19 (by kernel_rfl) (by kernel_rfl) ?_
  rintro A K ⟨w, l, hA, hK⟩
  refine ⟨_, _, loops [(3, L_Life w)], hA, hK, by kernel_rfl, trivial, ?_⟩
  repeat (first | ((conv => whnf); refine And.intro ?_ ?_; exact sideOf) | ((conv => whnf); refine NilE.some ?_ ?_; exact sideOf) | ((conv => whnf); refine And.intro (fun _ => ?_) (fun h => nomatch (show true = false from h))) | ((conv => whnf); refine And.intro (fun h => nomatch (show false = true from h)) (fun _ => ?_)) | ((conv => whnf); first | (apply Exists.intro; (repeat apply Exists.intro); refine And.intro ?_ ?_; exact leOf) | (refine Or.inl ?_; (conv => whnf); (repeat apply Exists.intro); refine And.intro ?_ ?_; exact leOf) | (refine Or.inr ?_; (conv => whnf); first | ((repeat apply Exists.intro); refine And.intro ?_ ?_; exact leOf) | (refine Or.inl ?_; (conv => whnf); (repeat apply Exists.intro); refine And.intro ?_ ?_; exact leOf) | (refine Or.inr ?_; (conv => whnf); (repeat apply Exists.intro); refine And.intro ?_ ?_; exact leOf))) | ((conv => whnf); refine And.intro (by assumption) ?_) | ((conv => whnf); first | (refine brT (by first | assumption | exact decide_eq_true (by first | assumption | omega | (simp only [Int.reduceToNat]; omega) | (with_reducible exact Eq.refl _)) | exact notT (decide_eq_false (by first | assumption | omega | exact fun q => q (by assumption) | (simp only [Int.reduceToNat]; omega))) | exact notT (by assumption)) ?_) | (refine brF (by first | assumption | exact decide_eq_false (by first | assumption | omega | exact fun q => q (by assumption) | (simp only [Int.reduceToNat]; omega)) | exact notF (decide_eq_true (by first | assumption | omega | (simp only [Int.reduceToNat]; omega))) | exact notF (by assumption)) ?_)) | ((conv => whnf); first | (refine Or.inl (And.intro (by first | assumption | omega | decide | (dsimp only; omega)) ?_)) | (refine Or.inr (And.intro (by first | assumption | omega | decide | (dsimp only; omega)) ?_)) | (refine Or.inr (Or.inl (And.intro (by first | assumption | omega | decide | (dsimp only; omega)) ?_))) | (refine Or.inr (Or.inr (And.intro (by first | assumption | omega | decide | (dsimp only; omega)) ?_)))))
  all_goals try (conv => whnf)
  refine Exists.intro (fun _ => True) (And.intro (Enter.mk (0 : Nat) ⟨Nat.zero_le _, fun i h1 h2 => absurd h2 (by omega)⟩ trivial ?_) (fun (k : Nat) (hk : k ≤ 4 ∧ ∀ i, 4 - k ≤ i → i < 4 → onF (w 0) i = false) _ => ?_))
  · ((repeat' ((conv => whnf) <;> first | exact trivial | (with_reducible first | refine And.intro ?_ ?_ | refine rows_lt1 ?_ | refine rows_lt2 ?_ ?_ | refine rows_lt3 ?_ ?_ ?_ | refine rows_lt4 ?_ ?_ ?_ ?_ | refine rows_lt5 ?_ ?_ ?_ ?_ ?_ | refine aggs_lt1 ?_ | refine aggs_lt2 ?_ ?_ | refine aggs_lt3 ?_ ?_ ?_ | refine fun (_ : Nat) => ?_) | refine fun (_ : (_ : Nat) < _) => ?_ | exact rfl | exact Nat.le_of_ble_eq_true rfl | (change (_ : Nat) ≤ _; omega) | (change (_ : Nat) = _; omega) | (change (_ : Int) = _; omega))); (all_goals try (conv => whnf)))
    all_goals skip
  obtain ⟨hk, hon⟩ := hk
  rcases Nat.lt_or_ge k 4 with h | h
  · cases ho : onF (w 0) (4 - (k : Int) - 1).toNat with
    | true =>
      have e : (4 - (k : Int) - 1).toNat = 3 - k := by omega
      rw [e] at ho
      have hl := lifeW_at (w 0) (3 - k) (by omega) ho fun i h1 h2 => hon i (by omega) h2
      rw [← e] at ho
      repeat (first | ((conv => whnf); refine And.intro ?_ ?_; exact sideOf) | ((conv => whnf); refine NilE.some ?_ ?_; exact sideOf) | ((conv => whnf); refine And.intro (fun _ => ?_) (fun h => nomatch (show true = false from h))) | ((conv => whnf); refine And.intro (fun h => nomatch (show false = true from h)) (fun _ => ?_)) | ((conv => whnf); first | (apply Exists.intro; (repeat apply Exists.intro); refine And.intro ?_ ?_; exact leOf) | (refine Or.inl ?_; (conv => whnf); (repeat apply Exists.intro); refine And.intro ?_ ?_; exact leOf) | (refine Or.inr ?_; (conv => whnf); first | ((repeat apply Exists.intro); refine And.intro ?_ ?_; exact leOf) | (refine Or.inl ?_; (conv => whnf); (repeat apply Exists.intro); refine And.intro ?_ ?_; exact leOf) | (refine Or.inr ?_; (conv => whnf); (repeat apply Exists.intro); refine And.intro ?_ ?_; exact leOf))) | ((conv => whnf); refine And.intro (by assumption) ?_) | ((conv => whnf); first | (refine brT (by first | assumption | exact decide_eq_true (by first | assumption | omega | (simp only [Int.reduceToNat]; omega) | (with_reducible exact Eq.refl _)) | exact notT (decide_eq_false (by first | assumption | omega | exact fun q => q (by assumption) | (simp only [Int.reduceToNat]; omega))) | exact notT (by assumption)) ?_) | (refine brF (by first | assumption | exact decide_eq_false (by first | assumption | omega | exact fun q => q (by assumption) | (simp only [Int.reduceToNat]; omega)) | exact notF (decide_eq_true (by first | assumption | omega | (simp only [Int.reduceToNat]; omega))) | exact notF (by assumption)) ?_)) | ((conv => whnf); first | (refine Or.inl (And.intro (by first | assumption | omega | decide | (dsimp only; omega)) ?_)) | (refine Or.inr (And.intro (by first | assumption | omega | decide | (dsimp only; omega)) ?_)) | (refine Or.inr (Or.inl (And.intro (by first | assumption | omega | decide | (dsimp only; omega)) ?_))) | (refine Or.inr (Or.inr (And.intro (by first | assumption | omega | decide | (dsimp only; omega)) ?_)))))
      all_goals try (conv => whnf)
      rw [hl]; omega
    | false =>
      repeat (first | ((conv => whnf); refine And.intro ?_ ?_; exact sideOf) | ((conv => whnf); refine NilE.some ?_ ?_; exact sideOf) | ((conv => whnf); refine And.intro (fun _ => ?_) (fun h => nomatch (show true = false from h))) | ((conv => whnf); refine And.intro (fun h => nomatch (show false = true from h)) (fun _ => ?_)) | ((conv => whnf); first | (apply Exists.intro; (repeat apply Exists.intro); refine And.intro ?_ ?_; exact leOf) | (refine Or.inl ?_; (conv => whnf); (repeat apply Exists.intro); refine And.intro ?_ ?_; exact leOf) | (refine Or.inr ?_; (conv => whnf); first | ((repeat apply Exists.intro); refine And.intro ?_ ?_; exact leOf) | (refine Or.inl ?_; (conv => whnf); (repeat apply Exists.intro); refine And.intro ?_ ?_; exact leOf) | (refine Or.inr ?_; (conv => whnf); (repeat apply Exists.intro); refine And.intro ?_ ?_; exact leOf))) | ((conv => whnf); refine And.intro (by assumption) ?_) | ((conv => whnf); first | (refine brT (by first | assumption | exact decide_eq_true (by first | assumption | omega | (simp only [Int.reduceToNat]; omega) | (with_reducible exact Eq.refl _)) | exact notT (decide_eq_false (by first | assumption | omega | exact fun q => q (by assumption) | (simp only [Int.reduceToNat]; omega))) | exact notT (by assumption)) ?_) | (refine brF (by first | assumption | exact decide_eq_false (by first | assumption | omega | exact fun q => q (by assumption) | (simp only [Int.reduceToNat]; omega)) | exact notF (decide_eq_true (by first | assumption | omega | (simp only [Int.reduceToNat]; omega))) | exact notF (by assumption)) ?_)) | ((conv => whnf); first | (refine Or.inl (And.intro (by first | assumption | omega | decide | (dsimp only; omega)) ?_)) | (refine Or.inr (And.intro (by first | assumption | omega | decide | (dsimp only; omega)) ?_)) | (refine Or.inr (Or.inl (And.intro (by first | assumption | omega | decide | (dsimp only; omega)) ?_))) | (refine Or.inr (Or.inr (And.intro (by first | assumption | omega | decide | (dsimp only; omega)) ?_)))))
      all_goals try (conv => whnf)
      refine Again.mk (k + 1 : Nat) ⟨show k + 1 ≤ 4 by omega, fun i h1 h2 => ?_⟩ trivial (show 4 - (k + 1) < 4 - k by omega) ?_
      · by_cases e : i = 3 - k
        · have e2 : (4 - (k : Int) - 1).toNat = i := by omega
          rw [e2] at ho; exact ho
        · exact hon i (by omega) h2
      ((repeat' ((conv => whnf) <;> first | exact trivial | (with_reducible first | refine And.intro ?_ ?_ | refine rows_lt1 ?_ | refine rows_lt2 ?_ ?_ | refine rows_lt3 ?_ ?_ ?_ | refine rows_lt4 ?_ ?_ ?_ ?_ | refine rows_lt5 ?_ ?_ ?_ ?_ ?_ | refine aggs_lt1 ?_ | refine aggs_lt2 ?_ ?_ | refine aggs_lt3 ?_ ?_ ?_ | refine fun (_ : Nat) => ?_) | refine fun (_ : (_ : Nat) < _) => ?_ | exact rfl | exact Nat.le_of_ble_eq_true rfl | (change (_ : Nat) ≤ _; omega) | (change (_ : Nat) = _; omega) | (change (_ : Int) = _; omega))); (all_goals try (conv => whnf)))
  · obtain rfl : k = 4 := by omega
    have hl := lifeW_none (w 0) fun i h => hon i (by omega) h
    repeat (first | ((conv => whnf); refine And.intro ?_ ?_; exact sideOf) | ((conv => whnf); refine NilE.some ?_ ?_; exact sideOf) | ((conv => whnf); refine And.intro (fun _ => ?_) (fun h => nomatch (show true = false from h))) | ((conv => whnf); refine And.intro (fun h => nomatch (show false = true from h)) (fun _ => ?_)) | ((conv => whnf); first | (apply Exists.intro; (repeat apply Exists.intro); refine And.intro ?_ ?_; exact leOf) | (refine Or.inl ?_; (conv => whnf); (repeat apply Exists.intro); refine And.intro ?_ ?_; exact leOf) | (refine Or.inr ?_; (conv => whnf); first | ((repeat apply Exists.intro); refine And.intro ?_ ?_; exact leOf) | (refine Or.inl ?_; (conv => whnf); (repeat apply Exists.intro); refine And.intro ?_ ?_; exact leOf) | (refine Or.inr ?_; (conv => whnf); (repeat apply Exists.intro); refine And.intro ?_ ?_; exact leOf))) | ((conv => whnf); refine And.intro (by assumption) ?_) | ((conv => whnf); first | (refine brT (by first | assumption | exact decide_eq_true (by first | assumption | omega | (simp only [Int.reduceToNat]; omega) | (with_reducible exact Eq.refl _)) | exact notT (decide_eq_false (by first | assumption | omega | exact fun q => q (by assumption) | (simp only [Int.reduceToNat]; omega))) | exact notT (by assumption)) ?_) | (refine brF (by first | assumption | exact decide_eq_false (by first | assumption | omega | exact fun q => q (by assumption) | (simp only [Int.reduceToNat]; omega)) | exact notF (decide_eq_true (by first | assumption | omega | (simp only [Int.reduceToNat]; omega))) | exact notF (by assumption)) ?_)) | ((conv => whnf); first | (refine Or.inl (And.intro (by first | assumption | omega | decide | (dsimp only; omega)) ?_)) | (refine Or.inr (And.intro (by first | assumption | omega | decide | (dsimp only; omega)) ?_)) | (refine Or.inr (Or.inl (And.intro (by first | assumption | omega | decide | (dsimp only; omega)) ?_))) | (refine Or.inr (Or.inr (And.intro (by first | assumption | omega | decide | (dsimp only; omega)) ?_)))))
    all_goals try (conv => whnf)
    exact hl.symm
def C_ot_Life_n : SpecP := fun A K => A [.nilp] ∧ K (.nat 0)
def L_Life_n : LI := ⟨Nat, fun k => k ≤ 4, fun k => [(3, .ptr TIm 1040 []), (4, .int (4 - (k : Int)))], fun _ => [(1040, .var TIm (arr32 64 fun _ => 0))], fun k => 4 - k, some, some⟩
theorem g_ot_Life_n : Gd 19 (pureP ty C_ot_Life_n) := by
  refine goodP (E := PG [(43, pureR ty C_ot_image_n), (44, pureP ty C_ot_on)]) (pgOK ⟨g_ot_image_n, g_ot_on, trivial⟩) mixes Try.func19 (by kernel_rfl) (by kernel_rfl) ?_
  rintro A K ⟨hA, hK⟩
  refine ⟨_, _, loops [(3, L_Life_n)], hA, hK, by kernel_rfl, trivial, ?_⟩
  repeat (first | ((conv => whnf); refine And.intro ?_ ?_; exact sideOf) | ((conv => whnf); refine NilE.some ?_ ?_; exact sideOf) | ((conv => whnf); refine And.intro (fun _ => ?_) (fun h => nomatch (show true = false from h))) | ((conv => whnf); refine And.intro (fun h => nomatch (show false = true from h)) (fun _ => ?_)) | ((conv => whnf); first | (apply Exists.intro; (repeat apply Exists.intro); refine And.intro ?_ ?_; exact leOf) | (refine Or.inl ?_; (conv => whnf); (repeat apply Exists.intro); refine And.intro ?_ ?_; exact leOf) | (refine Or.inr ?_; (conv => whnf); first | ((repeat apply Exists.intro); refine And.intro ?_ ?_; exact leOf) | (refine Or.inl ?_; (conv => whnf); (repeat apply Exists.intro); refine And.intro ?_ ?_; exact leOf) | (refine Or.inr ?_; (conv => whnf); (repeat apply Exists.intro); refine And.intro ?_ ?_; exact leOf))) | ((conv => whnf); refine And.intro (by assumption) ?_) | ((conv => whnf); first | (refine brT (by first | assumption | exact decide_eq_true (by first | assumption | omega | (simp only [Int.reduceToNat]; omega) | (with_reducible exact Eq.refl _)) | exact notT (decide_eq_false (by first | assumption | omega | exact fun q => q (by assumption) | (simp only [Int.reduceToNat]; omega))) | exact notT (by assumption)) ?_) | (refine brF (by first | assumption | exact decide_eq_false (by first | assumption | omega | exact fun q => q (by assumption) | (simp only [Int.reduceToNat]; omega)) | exact notF (decide_eq_true (by first | assumption | omega | (simp only [Int.reduceToNat]; omega))) | exact notF (by assumption)) ?_)) | ((conv => whnf); first | (refine Or.inl (And.intro (by first | assumption | omega | decide | (dsimp only; omega)) ?_)) | (refine Or.inr (And.intro (by first | assumption | omega | decide | (dsimp only; omega)) ?_)) | (refine Or.inr (Or.inl (And.intro (by first | assumption | omega | decide | (dsimp only; omega)) ?_))) | (refine Or.inr (Or.inr (And.intro (by first | assumption | omega | decide | (dsimp only; omega)) ?_)))))
  all_goals try (conv => whnf)
  refine Exists.intro (fun _ => True) (And.intro (Enter.mk (0 : Nat) (Nat.zero_le _) trivial ?_) (fun (k : Nat) (hk : k ≤ 4) _ => ?_))
  · ((repeat' ((conv => whnf) <;> first | exact trivial | (with_reducible first | refine And.intro ?_ ?_ | refine rows_lt1 ?_ | refine rows_lt2 ?_ ?_ | refine rows_lt3 ?_ ?_ ?_ | refine rows_lt4 ?_ ?_ ?_ ?_ | refine rows_lt5 ?_ ?_ ?_ ?_ ?_ | refine aggs_lt1 ?_ | refine aggs_lt2 ?_ ?_ | refine aggs_lt3 ?_ ?_ ?_ | refine fun (_ : Nat) => ?_) | refine fun (_ : (_ : Nat) < _) => ?_ | exact rfl | exact Nat.le_of_ble_eq_true rfl | (change (_ : Nat) ≤ _; omega) | (change (_ : Nat) = _; omega) | (change (_ : Int) = _; omega))); (all_goals try (conv => whnf)))
    all_goals skip
  rcases Nat.lt_or_ge k 4 with h | h
  · have ho := onF_zero (4 - (k : Int) - 1).toNat
    repeat (first | ((conv => whnf); refine And.intro ?_ ?_; exact sideOf) | ((conv => whnf); refine NilE.some ?_ ?_; exact sideOf) | ((conv => whnf); refine And.intro (fun _ => ?_) (fun h => nomatch (show true = false from h))) | ((conv => whnf); refine And.intro (fun h => nomatch (show false = true from h)) (fun _ => ?_)) | ((conv => whnf); first | (apply Exists.intro; (repeat apply Exists.intro); refine And.intro ?_ ?_; exact leOf) | (refine Or.inl ?_; (conv => whnf); (repeat apply Exists.intro); refine And.intro ?_ ?_; exact leOf) | (refine Or.inr ?_; (conv => whnf); first | ((repeat apply Exists.intro); refine And.intro ?_ ?_; exact leOf) | (refine Or.inl ?_; (conv => whnf); (repeat apply Exists.intro); refine And.intro ?_ ?_; exact leOf) | (refine Or.inr ?_; (conv => whnf); (repeat apply Exists.intro); refine And.intro ?_ ?_; exact leOf))) | ((conv => whnf); refine And.intro (by assumption) ?_) | ((conv => whnf); first | (refine brT (by first | assumption | exact decide_eq_true (by first | assumption | omega | (simp only [Int.reduceToNat]; omega) | (with_reducible exact Eq.refl _)) | exact notT (decide_eq_false (by first | assumption | omega | exact fun q => q (by assumption) | (simp only [Int.reduceToNat]; omega))) | exact notT (by assumption)) ?_) | (refine brF (by first | assumption | exact decide_eq_false (by first | assumption | omega | exact fun q => q (by assumption) | (simp only [Int.reduceToNat]; omega)) | exact notF (decide_eq_true (by first | assumption | omega | (simp only [Int.reduceToNat]; omega))) | exact notF (by assumption)) ?_)) | ((conv => whnf); first | (refine Or.inl (And.intro (by first | assumption | omega | decide | (dsimp only; omega)) ?_)) | (refine Or.inr (And.intro (by first | assumption | omega | decide | (dsimp only; omega)) ?_)) | (refine Or.inr (Or.inl (And.intro (by first | assumption | omega | decide | (dsimp only; omega)) ?_))) | (refine Or.inr (Or.inr (And.intro (by first | assumption | omega | decide | (dsimp only; omega)) ?_)))))
    all_goals try (conv => whnf)
    refine Again.mk (k + 1 : Nat) (show k + 1 ≤ 4 by omega) trivial (show 4 - (k + 1) < 4 - k by omega) ?_
    ((repeat' ((conv => whnf) <;> first | exact trivial | (with_reducible first | refine And.intro ?_ ?_ | refine rows_lt1 ?_ | refine rows_lt2 ?_ ?_ | refine rows_lt3 ?_ ?_ ?_ | refine rows_lt4 ?_ ?_ ?_ ?_ | refine rows_lt5 ?_ ?_ ?_ ?_ ?_ | refine aggs_lt1 ?_ | refine aggs_lt2 ?_ ?_ | refine aggs_lt3 ?_ ?_ ?_ | refine fun (_ : Nat) => ?_) | refine fun (_ : (_ : Nat) < _) => ?_ | exact rfl | exact Nat.le_of_ble_eq_true rfl | (change (_ : Nat) ≤ _; omega) | (change (_ : Nat) = _; omega) | (change (_ : Int) = _; omega))); (all_goals try (conv => whnf)))
    all_goals skip
  · obtain rfl : k = 4 := by omega
    repeat (first | ((conv => whnf); refine And.intro ?_ ?_; exact sideOf) | ((conv => whnf); refine NilE.some ?_ ?_; exact sideOf) | ((conv => whnf); refine And.intro (fun _ => ?_) (fun h => nomatch (show true = false from h))) | ((conv => whnf); refine And.intro (fun h => nomatch (show false = true from h)) (fun _ => ?_)) | ((conv => whnf); first | (apply Exists.intro; (repeat apply Exists.intro); refine And.intro ?_ ?_; exact leOf) | (refine Or.inl ?_; (conv => whnf); (repeat apply Exists.intro); refine And.intro ?_ ?_; exact leOf) | (refine Or.inr ?_; (conv => whnf); first | ((repeat apply Exists.intro); refine And.intro ?_ ?_; exact leOf) | (refine Or.inl ?_; (conv => whnf); (repeat apply Exists.intro); refine And.intro ?_ ?_; exact leOf) | (refine Or.inr ?_; (conv => whnf); (repeat apply Exists.intro); refine And.intro ?_ ?_; exact leOf))) | ((conv => whnf); refine And.intro (by assumption) ?_) | ((conv => whnf); first | (refine brT (by first | assumption | exact decide_eq_true (by first | assumption | omega | (simp only [Int.reduceToNat]; omega) | (with_reducible exact Eq.refl _)) | exact notT (decide_eq_false (by first | assumption | omega | exact fun q => q (by assumption) | (simp only [Int.reduceToNat]; omega))) | exact notT (by assumption)) ?_) | (refine brF (by first | assumption | exact decide_eq_false (by first | assumption | omega | exact fun q => q (by assumption) | (simp only [Int.reduceToNat]; omega)) | exact notF (decide_eq_true (by first | assumption | omega | (simp only [Int.reduceToNat]; omega))) | exact notF (by assumption)) ?_)) | ((conv => whnf); first | (refine Or.inl (And.intro (by first | assumption | omega | decide | (dsimp only; omega)) ?_)) | (refine Or.inr (And.intro (by first | assumption | omega | decide | (dsimp only; omega)) ?_)) | (refine Or.inr (Or.inl (And.intro (by first | assumption | omega | decide | (dsimp only; omega)) ?_))) | (refine Or.inr (Or.inr (And.intro (by first | assumption | omega | decide | (dsimp only; omega)) ?_)))))
    all_goals try (conv => whnf)
    ((repeat' ((conv => whnf) <;> first | exact trivial | (with_reducible first | refine And.intro ?_ ?_ | refine rows_lt1 ?_ | refine rows_lt2 ?_ ?_ | refine rows_lt3 ?_ ?_ ?_ | refine rows_lt4 ?_ ?_ ?_ ?_ | refine rows_lt5 ?_ ?_ ?_ ?_ ?_ | refine aggs_lt1 ?_ | refine aggs_lt2 ?_ ?_ | refine aggs_lt3 ?_ ?_ ?_ | refine fun (_ : Nat) => ?_) | refine fun (_ : (_ : Nat) < _) => ?_ | exact rfl | exact Nat.le_of_ble_eq_true rfl | (change (_ : Nat) ≤ _; omega) | (change (_ : Nat) = _; omega) | (change (_ : Int) = _; omega))); (all_goals try (conv => whnf)))
/-- The reference's. -/
def lifeUp (v : BitVec 32) : Nat → Nat
  | 0 => 0
  | k + 1 => if onF v k then k + 1 else lifeUp v k
def L_rLife (n : Nat) (w : Nat → BitVec 32) : LI := .plain Nat (· ≤ 4) (fun k => [(0, wsl n w), (3, .nat (lifeUp (w 0) k)), (4, .nat k)]) (fun k => 4 - k)
def C_rLife : SpecP := fun A K => ∃ n w, A [wsl n w] ∧ 0 < n ∧ K (.nat (lifeW (w 0)))
theorem g_rLife : Gd 16 (pureP ty C_rLife) := by
  refine goodP (E := PG [(41, pureP ty C_ron)]) (pgOK ⟨g_ron, trivial⟩) mixes Try.func16 (by kernel_rfl) (by kernel_rfl) ?_
  rintro A K ⟨n, w, hA, hn, hK⟩
  refine ⟨_, _, loops [(3, L_rLife n w)], hA, hK, by kernel_rfl, trivial, ?_⟩
  repeat (first | ((conv => whnf); refine And.intro ?_ ?_; exact sideOf) | ((conv => whnf); refine NilE.some ?_ ?_; exact sideOf) | ((conv => whnf); refine And.intro (fun _ => ?_) (fun h => nomatch (show true = false from h))) | ((conv => whnf); refine And.intro (fun h => nomatch (show false = true from h)) (fun _ => ?_)) | ((conv => whnf); first | (apply Exists.intro; (repeat apply Exists.intro); refine And.intro ?_ ?_; exact leOf) | (refine Or.inl ?_; (conv => whnf); (repeat apply Exists.intro); refine And.intro ?_ ?_; exact leOf) | (refine Or.inr ?_; (conv => whnf); first | ((repeat apply Exists.intro); refine And.intro ?_ ?_; exact leOf) | (refine Or.inl ?_; (conv => whnf); (repeat apply Exists.intro); refine And.intro ?_ ?_; exact leOf) | (refine Or.inr ?_; (conv => whnf); (repeat apply Exists.intro); refine And.intro ?_ ?_; exact leOf))) | ((conv => whnf); refine And.intro (by assumption) ?_) | ((conv => whnf); first | (refine brT (by first | assumption | exact decide_eq_true (by first | assumption | omega | (simp only [Int.reduceToNat]; omega) | (with_reducible exact Eq.refl _)) | exact notT (decide_eq_false (by first | assumption | omega | exact fun q => q (by assumption) | (simp only [Int.reduceToNat]; omega))) | exact notT (by assumption)) ?_) | (refine brF (by first | assumption | exact decide_eq_false (by first | assumption | omega | exact fun q => q (by assumption) | (simp only [Int.reduceToNat]; omega)) | exact notF (decide_eq_true (by first | assumption | omega | (simp only [Int.reduceToNat]; omega))) | exact notF (by assumption)) ?_)) | ((conv => whnf); first | (refine Or.inl (And.intro (by first | assumption | omega | decide | (dsimp only; omega)) ?_)) | (refine Or.inr (And.intro (by first | assumption | omega | decide | (dsimp only; omega)) ?_)) | (refine Or.inr (Or.inl (And.intro (by first | assumption | omega | decide | (dsimp only; omega)) ?_))) | (refine Or.inr (Or.inr (And.intro (by first | assumption | omega | decide | (dsimp only; omega)) ?_)))))
  all_goals try (conv => whnf)
  refine Exists.intro (fun _ => True) (And.intro (Enter.mk (0 : Nat) (Nat.zero_le _) trivial ?_) (fun (k : Nat) (hk : k ≤ 4) _ => ?_))
  · ((repeat' ((conv => whnf) <;> first | exact trivial | (with_reducible first | refine And.intro ?_ ?_ | refine rows_lt1 ?_ | refine rows_lt2 ?_ ?_ | refine rows_lt3 ?_ ?_ ?_ | refine rows_lt4 ?_ ?_ ?_ ?_ | refine rows_lt5 ?_ ?_ ?_ ?_ ?_ | refine aggs_lt1 ?_ | refine aggs_lt2 ?_ ?_ | refine aggs_lt3 ?_ ?_ ?_ | refine fun (_ : Nat) => ?_) | refine fun (_ : (_ : Nat) < _) => ?_ | exact rfl | exact Nat.le_of_ble_eq_true rfl | (change (_ : Nat) ≤ _; omega) | (change (_ : Nat) = _; omega) | (change (_ : Int) = _; omega))); (all_goals try (conv => whnf)))
  rcases Nat.lt_or_ge k 4 with h | h
  · cases ho : onF (w 0) k with
    | true =>
      repeat (first | ((conv => whnf); refine And.intro ?_ ?_; exact sideOf) | ((conv => whnf); refine NilE.some ?_ ?_; exact sideOf) | ((conv => whnf); refine And.intro (fun _ => ?_) (fun h => nomatch (show true = false from h))) | ((conv => whnf); refine And.intro (fun h => nomatch (show false = true from h)) (fun _ => ?_)) | ((conv => whnf); first | (apply Exists.intro; (repeat apply Exists.intro); refine And.intro ?_ ?_; exact leOf) | (refine Or.inl ?_; (conv => whnf); (repeat apply Exists.intro); refine And.intro ?_ ?_; exact leOf) | (refine Or.inr ?_; (conv => whnf); first | ((repeat apply Exists.intro); refine And.intro ?_ ?_; exact leOf) | (refine Or.inl ?_; (conv => whnf); (repeat apply Exists.intro); refine And.intro ?_ ?_; exact leOf) | (refine Or.inr ?_; (conv => whnf); (repeat apply Exists.intro); refine And.intro ?_ ?_; exact leOf))) | ((conv => whnf); refine And.intro (by assumption) ?_) | ((conv => whnf); first | (refine brT (by first | assumption | exact decide_eq_true (by first | assumption | omega | (simp only [Int.reduceToNat]; omega) | (with_reducible exact Eq.refl _)) | exact notT (decide_eq_false (by first | assumption | omega | exact fun q => q (by assumption) | (simp only [Int.reduceToNat]; omega))) | exact notT (by assumption)) ?_) | (refine brF (by first | assumption | exact decide_eq_false (by first | assumption | omega | exact fun q => q (by assumption) | (simp only [Int.reduceToNat]; omega)) | exact notF (decide_eq_true (by first | assumption | omega | (simp only [Int.reduceToNat]; omega))) | exact notF (by assumption)) ?_)) | ((conv => whnf); first | (refine Or.inl (And.intro (by first | assumption | omega | decide | (dsimp only; omega)) ?_)) | (refine Or.inr (And.intro (by first | assumption | omega | decide | (dsimp only; omega)) ?_)) | (refine Or.inr (Or.inl (And.intro (by first | assumption | omega | decide | (dsimp only; omega)) ?_))) | (refine Or.inr (Or.inr (And.intro (by first | assumption | omega | decide | (dsimp only; omega)) ?_)))))
      all_goals try (conv => whnf)
      refine Again.mk (k + 1 : Nat) (show k + 1 ≤ 4 by omega) trivial (show 4 - (k + 1) < 4 - k by omega) ?_
      ((repeat' ((conv => whnf) <;> first | exact trivial | (with_reducible first | refine And.intro ?_ ?_ | refine rows_lt1 ?_ | refine rows_lt2 ?_ ?_ | refine rows_lt3 ?_ ?_ ?_ | refine rows_lt4 ?_ ?_ ?_ ?_ | refine rows_lt5 ?_ ?_ ?_ ?_ ?_ | refine aggs_lt1 ?_ | refine aggs_lt2 ?_ ?_ | refine aggs_lt3 ?_ ?_ ?_ | refine fun (_ : Nat) => ?_) | refine fun (_ : (_ : Nat) < _) => ?_ | exact rfl | exact Nat.le_of_ble_eq_true rfl | (change (_ : Nat) ≤ _; omega) | (change (_ : Nat) = _; omega) | (change (_ : Int) = _; omega))); (all_goals try (conv => whnf)))
      all_goals (unfold lifeUp; rw [ho]; rfl)
    | false =>
      repeat (first | ((conv => whnf); refine And.intro ?_ ?_; exact sideOf) | ((conv => whnf); refine NilE.some ?_ ?_; exact sideOf) | ((conv => whnf); refine And.intro (fun _ => ?_) (fun h => nomatch (show true = false from h))) | ((conv => whnf); refine And.intro (fun h => nomatch (show false = true from h)) (fun _ => ?_)) | ((conv => whnf); first | (apply Exists.intro; (repeat apply Exists.intro); refine And.intro ?_ ?_; exact leOf) | (refine Or.inl ?_; (conv => whnf); (repeat apply Exists.intro); refine And.intro ?_ ?_; exact leOf) | (refine Or.inr ?_; (conv => whnf); first | ((repeat apply Exists.intro); refine And.intro ?_ ?_; exact leOf) | (refine Or.inl ?_; (conv => whnf); (repeat apply Exists.intro); refine And.intro ?_ ?_; exact leOf) | (refine Or.inr ?_; (conv => whnf); (repeat apply Exists.intro); refine And.intro ?_ ?_; exact leOf))) | ((conv => whnf); refine And.intro (by assumption) ?_) | ((conv => whnf); first | (refine brT (by first | assumption | exact decide_eq_true (by first | assumption | omega | (simp only [Int.reduceToNat]; omega) | (with_reducible exact Eq.refl _)) | exact notT (decide_eq_false (by first | assumption | omega | exact fun q => q (by assumption) | (simp only [Int.reduceToNat]; omega))) | exact notT (by assumption)) ?_) | (refine brF (by first | assumption | exact decide_eq_false (by first | assumption | omega | exact fun q => q (by assumption) | (simp only [Int.reduceToNat]; omega)) | exact notF (decide_eq_true (by first | assumption | omega | (simp only [Int.reduceToNat]; omega))) | exact notF (by assumption)) ?_)) | ((conv => whnf); first | (refine Or.inl (And.intro (by first | assumption | omega | decide | (dsimp only; omega)) ?_)) | (refine Or.inr (And.intro (by first | assumption | omega | decide | (dsimp only; omega)) ?_)) | (refine Or.inr (Or.inl (And.intro (by first | assumption | omega | decide | (dsimp only; omega)) ?_))) | (refine Or.inr (Or.inr (And.intro (by first | assumption | omega | decide | (dsimp only; omega)) ?_)))))
      all_goals try (conv => whnf)
      refine Again.mk (k + 1 : Nat) (show k + 1 ≤ 4 by omega) trivial (show 4 - (k + 1) < 4 - k by omega) ?_
      ((repeat' ((conv => whnf) <;> first | exact trivial | (with_reducible first | refine And.intro ?_ ?_ | refine rows_lt1 ?_ | refine rows_lt2 ?_ ?_ | refine rows_lt3 ?_ ?_ ?_ | refine rows_lt4 ?_ ?_ ?_ ?_ | refine rows_lt5 ?_ ?_ ?_ ?_ ?_ | refine aggs_lt1 ?_ | refine aggs_lt2 ?_ ?_ | refine aggs_lt3 ?_ ?_ ?_ | refine fun (_ : Nat) => ?_) | refine fun (_ : (_ : Nat) < _) => ?_ | exact rfl | exact Nat.le_of_ble_eq_true rfl | (change (_ : Nat) ≤ _; omega) | (change (_ : Nat) = _; omega) | (change (_ : Int) = _; omega))); (all_goals try (conv => whnf)))
      all_goals (conv => rhs; unfold lifeUp; rw [ho]); rfl
  · obtain rfl : k = 4 := by omega
    repeat (first | ((conv => whnf); refine And.intro ?_ ?_; exact sideOf) | ((conv => whnf); refine NilE.some ?_ ?_; exact sideOf) | ((conv => whnf); refine And.intro (fun _ => ?_) (fun h => nomatch (show true = false from h))) | ((conv => whnf); refine And.intro (fun h => nomatch (show false = true from h)) (fun _ => ?_)) | ((conv => whnf); first | (apply Exists.intro; (repeat apply Exists.intro); refine And.intro ?_ ?_; exact leOf) | (refine Or.inl ?_; (conv => whnf); (repeat apply Exists.intro); refine And.intro ?_ ?_; exact leOf) | (refine Or.inr ?_; (conv => whnf); first | ((repeat apply Exists.intro); refine And.intro ?_ ?_; exact leOf) | (refine Or.inl ?_; (conv => whnf); (repeat apply Exists.intro); refine And.intro ?_ ?_; exact leOf) | (refine Or.inr ?_; (conv => whnf); (repeat apply Exists.intro); refine And.intro ?_ ?_; exact leOf))) | ((conv => whnf); refine And.intro (by assumption) ?_) | ((conv => whnf); first | (refine brT (by first | assumption | exact decide_eq_true (by first | assumption | omega | (simp only [Int.reduceToNat]; omega) | (with_reducible exact Eq.refl _)) | exact notT (decide_eq_false (by first | assumption | omega | exact fun q => q (by assumption) | (simp only [Int.reduceToNat]; omega))) | exact notT (by assumption)) ?_) | (refine brF (by first | assumption | exact decide_eq_false (by first | assumption | omega | exact fun q => q (by assumption) | (simp only [Int.reduceToNat]; omega)) | exact notF (decide_eq_true (by first | assumption | omega | (simp only [Int.reduceToNat]; omega))) | exact notF (by assumption)) ?_)) | ((conv => whnf); first | (refine Or.inl (And.intro (by first | assumption | omega | decide | (dsimp only; omega)) ?_)) | (refine Or.inr (And.intro (by first | assumption | omega | decide | (dsimp only; omega)) ?_)) | (refine Or.inr (Or.inl (And.intro (by first | assumption | omega | decide | (dsimp only; omega)) ?_))) | (refine Or.inr (Or.inr (And.intro (by first | assumption | omega | decide | (dsimp only; omega)) ?_)))))
    all_goals try (conv => whnf)
    rfl
end Go.Proofs.Ytiafaeokfdpbjaa
