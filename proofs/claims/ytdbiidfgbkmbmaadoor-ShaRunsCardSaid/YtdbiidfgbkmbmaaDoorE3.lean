/- How plain values stand in memory. -/
import Derived.Test.YtdbiidfgbkmbmaaDoorE2
import Derived.Laws.OwnMore
namespace Go.Proofs.YtdbiidfgbkmbmaaDoor
open Go.RowKit

def U16 (x : BitVec 16) : Int := x.toNat

structure Cx where
  Mu : Nat → Prop
  base : Nat
  fb : Nat
  ty : TypeId → Ty
  m : Nat → Option Row
  bl : Nat → Option Nat
  sv : Nat → Value
  w : World

/-- The cells of a plain value. -/
def R (c : Cx) : AV → List Value → Prop
  | .junk, _ => True
  | .und, cs => cs = [undef]
  | .bo x, cs => cs = [.bool x]
  | .u8 x, cs => cs = [.int .u8 (U8 x)]
  | .u16 x, cs => cs = [.int .u16 (U16 x)]
  | .u32 x, cs => cs = [.int .u32 (U32 x)]
  | .u64 x, cs => cs = [.int .u64 (U64 x)]
  | .i32 x, cs => cs = [.int .i32 x.toInt]
  | .nat k, cs => cs = [.int .i64 (k : Int)]
  | .int z, cs => cs = [.int .i64 z]
  | .str s, cs => cs = [.string ⟨s.toArray⟩]
  | .nilp, cs => cs = [.pointer none]
  | .ptr τ' k p, cs => ∃ τ a b, c.m k = some (.var τ a) ∧ c.bl k = some b ∧ τ.inP p ∧ τ.at p = τ' ∧ cs = [.pointer (some ⟨b, τ.off p, none⟩)]
  | .ipt τ a, cs => ∃ b o ds, cs = [.pointer (some ⟨b, o, none⟩)] ∧ b < c.w.heap.size ∧ ¬ c.Mu b ∧ R c a ds ∧ Sh τ a ∧ c.w.rangeAt b o ds
  | .nils, cs => cs = [.slice none 0 0]
  | .imm fr et l f, cs => ∃ A q, cs = [.slice A l q] ∧ l ≤ q ∧ q ≤ maxLen ∧
      (0 < l → ∃ b o, A = some ⟨b, o, none⟩ ∧ b < c.w.heap.size ∧ ¬ c.Mu b ∧ (fr = true → c.fb ≤ b) ∧ ∀ i, i < l → Sh et (f i) ∧ ∃ ds, R c (f i) ds ∧ c.w.rangeAt b (o + i * et.size) ds)
  | .gsl e k l, cs => ∃ n f A q, c.m k = some (.grow e n f) ∧ l ≤ n ∧ cs = [.slice A l q] ∧ l ≤ q ∧ q ≤ maxLen ∧ (0 < l → ∃ ad, A = some ad) ∧ (n = l → c.sv k = .slice A l q)
  | .gpt τ e k l i p, cs => ∃ n f ad, c.m k = some (.grow e n f) ∧ l ≤ n ∧ cs = [.pointer (some ad)] ∧ (n = l → i < l ∧ (c.ty e).inP p ∧ (c.ty e).at p = τ ∧ ∃ b, c.bl k = some b ∧ ad = ⟨b, i * (c.ty e).size + (c.ty e).off p, none⟩)
  | .gsub e k al o l, cs => ∃ n f A q, c.m k = some (.grow e n f) ∧ al ≤ n ∧ cs = [.slice A l q] ∧ l ≤ q ∧ q ≤ maxLen ∧ o + l ≤ al ∧ (0 < l → ∃ ad, A = some ad ∧ (n = al → ∃ b, c.bl k = some b ∧ ad = ⟨b, o * (c.ty e).size, none⟩))
  | .sub et k p o l, cs => ∃ τ a b n g A q, c.m k = some (.var τ a) ∧ c.bl k = some b ∧ τ.inP p ∧ τ.at p = .agg true n g ∧ g 0 = et ∧ o + l ≤ n ∧ cs = [.slice A l q] ∧ l ≤ q ∧ q ≤ maxLen ∧ (0 < l → A = some ⟨b, τ.off p + o * et.size, none⟩)
  | .agg _ l f, cs => ∃ g : Nat → List Value, (∀ i, i < l → R c (f i) (g i)) ∧ cs = (List.range l).flatMap g
  | .tup l f, cs => ∃ (vs : Array Value) (g : Nat → List Value), cs = [.tuple vs] ∧ vs.size = l ∧ ∀ i, i < l → R c (f i) (g i) ∧ ∃ v, vs[i]? = some v ∧ match f i with
      | .agg _ _ _ => v = .agg (g i).toArray
      | .junk => True
      | _ => g i = [v]

/-- A slot's value. -/
def RV (c : Cx) : AV → Value → Prop
  | .junk, _ => True
  | .agg u l f, v => ∃ cs : List Value, v = .agg cs.toArray ∧ R c (.agg u l f) cs
  | a, v => R c a [v]

def RowOK (c : Cx) (k : Nat) : Row → Prop
  | .var τ a => ∃ b cs t, c.bl k = some b ∧ c.w.heap[b]? = some (.cells cs t (0, 0)) ∧ R c a cs.toList ∧ Sh τ a
  | .grow e n f => ∃ g : Nat → List Value, c.w.ownsRow c.base e (c.ty e).size (c.sv k) n ((List.range n).flatMap g) ∧ (c.sv k).ownBlock = c.bl k ∧ ∀ i, i < n → R c (f i) (g i) ∧ Sh (c.ty e) (f i)

structure MemOK (c : Cx) : Prop where
  rows : ∀ k r, c.m k = some r → RowOK c k r
  inj : ∀ k k' r r' b, c.m k = some r → c.m k' = some r' → c.bl k = some b → c.bl k' = some b → k = k'
  mu : ∀ k r b, c.m k = some r → c.bl k = some b → c.Mu b ∧ c.base ≤ b ∧ (8 ≤ k → c.fb ≤ b)
  bf : c.base ≤ c.fb

/-- What was told in the first still holds in the second. -/
structure Stab (c c' : Cx) : Prop where
  ty : c'.ty = c.ty
  base : c'.base ≤ c.base
  fb : c'.fb = c.fb
  var : ∀ k τ a, c.m k = some (.var τ a) → (∃ a', c'.m k = some (.var τ a')) ∧ c'.bl k = c.bl k
  grow : ∀ k e n f, c.m k = some (.grow e n f) → ∃ n' f', c'.m k = some (.grow e n' f') ∧ n ≤ n' ∧ (n' = n → c'.sv k = c.sv k ∧ c'.bl k = c.bl k)
  old : ∀ b, b < c.w.heap.size → ¬ c.Mu b → ¬ c'.Mu b ∧ (∀ o, c'.w.cell? ⟨b, o, none⟩ = c.w.cell? ⟨b, o, none⟩) ∧ (b < c.fb → c'.w.heap[b]? = c.w.heap[b]?)
  size : c.w.heap.size ≤ c'.w.heap.size

theorem same_old {w w' : World} {b : Nat} {p : Prop} (h : w'.heap[b]? = w.heap[b]?) : (∀ o, w'.cell? ⟨b, o, none⟩ = w.cell? ⟨b, o, none⟩) ∧ (p → w'.heap[b]? = w.heap[b]?) :=
  ⟨fun _ => World.cell?_of_block (w := w) h, fun _ => h⟩
theorem rangeAt_of_cells {w w' : World} {b o : Nat} {cs : List Value} (h : w.rangeAt b o cs) (hb : ∀ o, w'.cell? ⟨b, o, none⟩ = w.cell? ⟨b, o, none⟩) : w'.rangeAt b o cs :=
  fun j v hj => (hb _).trans (h j v hj)
theorem rangeAt_of_heap {w w' : World} {b o : Nat} {cs : List Value} (h : w.rangeAt b o cs) (hb : w'.heap[b]? = w.heap[b]?) : w'.rangeAt b o cs :=
  fun j v hj => (World.cell?_of_block (w := w) hb).trans (h j v hj)

theorem R_stab {c c' : Cx} (hs : Stab c c') : ∀ {a : AV} {cs : List Value}, R c a cs → R c' a cs := by
  intro a
  induction a with
  | ptr τ' k p =>
    rintro cs ⟨τ, a, b, hm, hb, hp, hat, rfl⟩
    obtain ⟨⟨a', hm'⟩, hb'⟩ := hs.var k τ a hm
    exact ⟨τ, a', b, hm', hb'.trans hb, hp, hat, rfl⟩
  | ipt τ a ih =>
    rintro cs ⟨b, o, ds, rfl, hlt, hmu, hr, hsh, hrg⟩
    obtain ⟨hmu', hb, _⟩ := hs.old b hlt hmu
    exact ⟨b, o, ds, rfl, Nat.lt_of_lt_of_le hlt hs.size, hmu', ih hr, hsh, rangeAt_of_cells hrg hb⟩
  | imm fr et l f ih =>
    rintro cs ⟨A, q, rfl, h1, h2, h3⟩
    refine ⟨A, q, rfl, h1, h2, fun hl => ?_⟩
    obtain ⟨b, o, rfl, hlt, hmu, hfr, hi⟩ := h3 hl
    obtain ⟨hmu', hb, _⟩ := hs.old b hlt hmu
    refine ⟨b, o, rfl, Nat.lt_of_lt_of_le hlt hs.size, hmu', fun h => hs.fb ▸ hfr h, fun i h => ?_⟩
    obtain ⟨hsh, ds, hr, hrg⟩ := hi i h
    exact ⟨hsh, ds, ih i hr, rangeAt_of_cells hrg hb⟩
  | gsl e k l =>
    rintro cs ⟨n, f, A, q, hm, hl, rfl, hq1, hq2, hA, hv⟩
    obtain ⟨n', f', hm', hn, hsv⟩ := hs.grow k e n f hm
    exact ⟨n', f', A, q, hm', Nat.le_trans hl hn, rfl, hq1, hq2, hA, fun h => by
      have : n = l := by omega
      rw [(hsv (by omega)).1]; exact hv this⟩
  | gpt τ e k l i p =>
    rintro cs ⟨n, f, A, hm, hl, rfl, hv⟩
    obtain ⟨n', f', hm', hn, hsv⟩ := hs.grow k e n f hm
    refine ⟨n', f', A, hm', Nat.le_trans hl hn, rfl, fun h => ?_⟩
    have h1 : n = l := by omega
    obtain ⟨hi, hp, hat, b, hb, hA⟩ := hv h1
    rw [hs.ty]
    exact ⟨hi, hp, hat, b, ((hsv (by omega)).2).trans hb, hA⟩
  | gsub e k al o l =>
    rintro cs ⟨n, f, A, q, hm, hl, rfl, hq, hq2, ho, hv⟩
    obtain ⟨n', f', hm', hn, hsv⟩ := hs.grow k e n f hm
    refine ⟨n', f', A, q, hm', Nat.le_trans hl hn, rfl, hq, hq2, ho, fun h0 => ?_⟩
    obtain ⟨ad, hA, hh⟩ := hv h0
    refine ⟨ad, hA, fun h => ?_⟩
    obtain ⟨b, hb, hA⟩ := hh (by omega)
    rw [hs.ty]
    exact ⟨b, ((hsv (by omega)).2).trans hb, hA⟩
  | sub et k p o l =>
    rintro cs ⟨τ, a, b, n, e, A, q, hm, hb, hp, hat, he, ho, rfl, h1, h2, hA⟩
    obtain ⟨⟨a', hm'⟩, hb'⟩ := hs.var k τ a hm
    exact ⟨τ, a', b, n, e, A, q, hm', hb'.trans hb, hp, hat, he, ho, rfl, h1, h2, hA⟩
  | agg u l f ih =>
    rintro cs ⟨g, hg, rfl⟩
    exact ⟨g, fun i hi => ih i (hg i hi), rfl⟩
  | tup l f ih =>
    rintro cs ⟨vs, g, rfl, hsz, hg⟩
    exact ⟨vs, g, rfl, hsz, fun i hi => ⟨ih i (hg i hi).1, (hg i hi).2⟩⟩
  | _ => exact fun h => h

theorem RV_stab {c c' : Cx} (hs : Stab c c') {a : AV} {v : Value} (h : RV c a v) : RV c' a v := by
  cases a with
  | junk => trivial
  | agg u l f =>
    obtain ⟨cs, rfl, hr⟩ := h
    exact ⟨cs, rfl, R_stab hs hr⟩
  | _ => exact R_stab (a := _) hs h

/-! ### Lists of cells behind one another -/
theorem sumN_congr {f g : Nat → Nat} : ∀ (n : Nat), (∀ i, i < n → f i = g i) → sumN f n = sumN g n
  | 0, _ => rfl
  | n + 1, h => by rw [sumN, sumN, sumN_congr n (fun i hi => h i (by omega)), h n (by omega)]
theorem sumN_const (s : Nat) : ∀ n, sumN (fun _ => s) n = n * s
  | 0 => by simp [sumN]
  | n + 1 => by rw [sumN, sumN_const s n, Nat.succ_mul]
theorem sumN_le {f : Nat → Nat} {i : Nat} : ∀ {n : Nat}, i < n → sumN f i + f i ≤ sumN f n
  | 0, h => by omega
  | n + 1, h => by
    rw [sumN]
    rcases Nat.lt_succ_iff_lt_or_eq.1 h with h | rfl
    · have := sumN_le (f := f) h; omega
    · omega
theorem fm_succ (g : Nat → List Value) (n : Nat) : (List.range (n + 1)).flatMap g = (List.range n).flatMap g ++ g n := by
  rw [List.range_succ, List.flatMap_append]; simp
theorem fm_len (g : Nat → List Value) : ∀ n, ((List.range n).flatMap g).length = sumN (fun i => (g i).length) n
  | 0 => rfl
  | n + 1 => by rw [fm_succ, List.length_append, fm_len g n, sumN]
theorem fm_congr {g h : Nat → List Value} : ∀ (n : Nat), (∀ i, i < n → g i = h i) → (List.range n).flatMap g = (List.range n).flatMap h
  | 0, _ => rfl
  | n + 1, hh => by rw [fm_succ, fm_succ, fm_congr n (fun i hi => hh i (by omega)), hh n (by omega)]
theorem fm_split (g : Nat → List Value) (i : Nat) : ∀ (n : Nat), i < n → ∃ post, (List.range n).flatMap g = (List.range i).flatMap g ++ g i ++ post
  | 0, h => by omega
  | n + 1, h => by
    rcases Nat.lt_succ_iff_lt_or_eq.1 h with h1 | rfl
    · obtain ⟨post, hp⟩ := fm_split g i n h1
      exact ⟨post ++ g n, by rw [fm_succ, hp]; simp⟩
    · exact ⟨[], by rw [fm_succ]; simp⟩
theorem fm_upd (g : Nat → List Value) (i : Nat) (x : List Value) : ∀ (n : Nat), i < n →
    (List.range n).flatMap (fun j => if j = i then x else g j) = ((List.range n).flatMap g).take (sumN (fun j => (g j).length) i) ++ x ++ ((List.range n).flatMap g).drop (sumN (fun j => (g j).length) i + (g i).length)
  | 0, h => by omega
  | n + 1, h => by
    rw [fm_succ, fm_succ]
    rcases Nat.lt_succ_iff_lt_or_eq.1 h with h1 | rfl
    · have hle := sumN_le (f := fun j => (g j).length) h1
      have hgl := fm_len g n
      rw [fm_upd g i x n h1, if_neg (by omega)]
      rw [List.take_append_of_le_length (by omega), List.drop_append_of_le_length (by omega), List.append_assoc _ _ (g n)]
    · rw [if_pos rfl]
      have hl := fm_len g i
      rw [fm_congr (h := g) i (fun j hj => if_neg (by omega))]
      rw [List.take_append_of_le_length (by omega), List.take_of_length_le (by omega), ← hl, List.drop_append, List.drop_of_length_le (by omega)]
      simp

/-! ### A value has as many cells as its type -/
theorem Sh_agg {τ : Ty} {u : Bool} {l : Nat} {g : Nat → AV} (h : Sh τ (.agg u l g)) : ∃ f, τ = .agg u l f ∧ ∀ i, i < l → Sh (el u f i) (g i) := by
  cases τ with
  | agg u' n f => obtain ⟨rfl, rfl, h⟩ := h; exact ⟨f, rfl, h⟩
  | int k => cases k <;> exact h.elim
  | _ => exact h.elim
theorem size_agg (u : Bool) (l : Nat) (f : Nat → Ty) : (Ty.agg u l f).size = sumN (fun i => (el u f i).size) l := by
  cases u with
  | true => rw [Ty.size]; exact (sumN_const _ l).symm
  | false => rw [Ty.size]; rfl
theorem off_agg (u : Bool) (l : Nat) (f : Nat → Ty) (i : Nat) (p : List Nat) : (Ty.agg u l f).off (i :: p) = sumN (fun j => (el u f j).size) i + (el u f i).off p := by
  cases u with
  | true => rw [Ty.off]; show _ = sumN (fun _ => (f 0).size) i + _; rw [sumN_const]; rfl
  | false => rw [Ty.off]; rfl
theorem at_agg (u : Bool) (l : Nat) (f : Nat → Ty) (i : Nat) (p : List Nat) : (Ty.agg u l f).at (i :: p) = (el u f i).at p := by
  cases u <;> rfl
theorem inP_agg (u : Bool) (l : Nat) (f : Nat → Ty) (i : Nat) (p : List Nat) : (Ty.agg u l f).inP (i :: p) = (i < l ∧ (el u f i).inP p) := by
  cases u <;> rfl
theorem at_nil (τ : Ty) : τ.at [] = τ := by cases τ <;> rfl
theorem off_nil (τ : Ty) : τ.off [] = 0 := by
  cases τ with
  | agg u l f => cases u <;> rfl
  | _ => rfl
theorem inP_nil (τ : Ty) : τ.inP [] := by
  cases τ with
  | agg u l f => cases u <;> trivial
  | _ => trivial
theorem avat_nil (a : AV) : a.at [] = a := by cases a <;> rfl
theorem R_facts {c : Cx} : ∀ {a : AV} {τ : Ty} {cs : List Value}, R c a cs → Sh τ a → cs.length = τ.size ∧ ∀ v ∈ cs, v.oneCell' = true := by
  intro a
  induction a with
  | agg u l f ih =>
    intro τ cs hr hs
    obtain ⟨t, rfl, ht⟩ := Sh_agg hs
    obtain ⟨g, hg, rfl⟩ := hr
    constructor
    · rw [fm_len, size_agg]
      exact sumN_congr l (fun i hi => (ih i (hg i hi) (ht i hi)).1)
    · intro v hv
      obtain ⟨i, hi, hvi⟩ := List.mem_flatMap.1 hv
      have hi : i < l := by simpa using hi
      exact (ih i (hg i hi) (ht i hi)).2 v hvi
  | ptr τ' k p =>
    intro τ cs hr hs
    obtain ⟨_, _, _, _, _, _, _, rfl⟩ := hr
    cases τ with
    | pt => simp [Ty.size, Value.oneCell']
    | int k => cases k <;> exact hs.elim
    | _ => exact hs.elim
  | ipt τ' a ih =>
    intro τ cs hr hs
    obtain ⟨_, _, _, rfl, _⟩ := hr
    cases τ with
    | pt => simp [Ty.size, Value.oneCell']
    | int k => cases k <;> exact hs.elim
    | _ => exact hs.elim
  | imm fr et l f ih =>
    intro τ cs hr hs
    obtain ⟨_, _, rfl, _⟩ := hr
    cases τ with
    | sl e => simp [Ty.size, Value.oneCell']
    | int k => cases k <;> exact hs.elim
    | _ => exact hs.elim
  | gsl e k l =>
    intro τ cs hr hs
    obtain ⟨_, _, _, _, _, _, rfl, _⟩ := hr
    cases τ with
    | sl e => simp [Ty.size, Value.oneCell']
    | int k => cases k <;> exact hs.elim
    | _ => exact hs.elim
  | gsub e k al o l =>
    intro τ cs hr hs
    obtain ⟨_, _, _, _, _, _, rfl, _⟩ := hr
    cases τ with
    | sl e => simp [Ty.size, Value.oneCell']
    | int k => cases k <;> exact hs.elim
    | _ => exact hs.elim
  | sub et k p o l =>
    intro τ cs hr hs
    obtain ⟨_, _, _, _, _, _, _, _, _, _, _, _, _, rfl, _⟩ := hr
    cases τ with
    | sl e => simp [Ty.size, Value.oneCell']
    | int k => cases k <;> exact hs.elim
    | _ => exact hs.elim
  | _ =>
    intro τ cs hr hs
    first
      | (cases τ with
         | int k => cases k <;> first | exact hs.elim | (rw [show cs = _ from hr]; simp [Ty.size, Value.oneCell'])
         | _ => first | exact hs.elim | (rw [show cs = _ from hr]; simp [Ty.size, Value.oneCell']))
theorem R_len {c : Cx} {a : AV} {τ : Ty} {cs : List Value} (h : R c a cs) (hs : Sh τ a) : cs.length = τ.size := (R_facts h hs).1
theorem R_one {c : Cx} {a : AV} {τ : Ty} {cs : List Value} (h : R c a cs) (hs : Sh τ a) : ∀ v ∈ cs, v.oneCell' = true := (R_facts h hs).2

/-! ### Parts -/
theorem R_at {c : Cx} : ∀ (p : List Nat) {a : AV} {τ : Ty} {cs : List Value}, R c a cs → Sh τ a → τ.inP p →
    Sh (τ.at p) (a.at p) ∧ ∃ pre post ds, cs = pre ++ ds ++ post ∧ pre.length = τ.off p ∧ R c (a.at p) ds
  | [], a, τ, cs, hr, hs, _ => by
    rw [at_nil, avat_nil]
    exact ⟨hs, [], [], cs, by simp, (off_nil τ).symm, hr⟩
  | i :: p, a, τ, cs, hr, hs, hp => by
    cases τ with
    | agg u n t =>
      rw [inP_agg] at hp
      obtain ⟨hi, hp⟩ := hp
      cases a with
      | agg u' l f =>
        obtain ⟨rfl, rfl, hs⟩ := hs
        obtain ⟨g, hg, rfl⟩ := hr
        obtain ⟨h1, pre, post, ds, hd, hl, hr⟩ := R_at p (hg i hi) (hs i hi) hp
        obtain ⟨post', hpost⟩ := fm_split g i n hi
        rw [at_agg]
        refine ⟨h1, (List.range i).flatMap g ++ pre, post ++ post', ds, by rw [hpost, hd]; simp, ?_, hr⟩
        rw [List.length_append, fm_len, hl, off_agg]
        congr 1
        exact sumN_congr i (fun j hj => R_len (hg j (by omega)) (hs j (by omega)))
      | _ => exact hs.elim
    | _ => exact hp.elim
theorem updA_eq {f : Nat → AV} {i : Nat} {v : AV} {l : Nat} {t : Ty} (hf : ∀ j, j < l → Sh t (f j)) (hv : Sh t v) : ∀ j, j < l → updA f i v j = if j = i then v else f j := by
  intro j hj
  have hfj := hf j hj
  cases v with
  | u8 x =>
    cases t with
    | int k => cases k <;> first | exact hv.elim | (cases hfe : f j <;> rw [hfe] at hfj <;> first | exact hfj.elim | (simp only [updA, hfe, asU8]; split <;> rfl))
    | _ => exact hv.elim
  | u16 x =>
    cases t with
    | int k => cases k <;> first | exact hv.elim | (cases hfe : f j <;> rw [hfe] at hfj <;> first | exact hfj.elim | (simp only [updA, hfe, asU16]; split <;> rfl))
    | _ => exact hv.elim
  | u32 x =>
    cases t with
    | int k => cases k <;> first | exact hv.elim | (cases hfe : f j <;> rw [hfe] at hfj <;> first | exact hfj.elim | (simp only [updA, hfe, asU32]; split <;> rfl))
    | _ => exact hv.elim
  | u64 x =>
    cases t with
    | int k => cases k <;> first | exact hv.elim | (cases hfe : f j <;> rw [hfe] at hfj <;> first | exact hfj.elim | (simp only [updA, hfe, asU64]; split <;> rfl))
    | _ => exact hv.elim
  | _ => rfl
theorem updU_eq {u : Bool} {f : Nat → AV} {i : Nat} {v : AV} {l : Nat} {t : Nat → Ty} (hf : ∀ j, j < l → Sh (el u t j) (f j)) (hv : Sh (el u t i) v) : ∀ j, j < l → updU u f i v j = if j = i then v else f j := by
  cases u with
  | true => exact updA_eq (t := t 0) hf hv
  | false =>
    intro j _
    show (bif Nat.beq j i then v else f j) = _
    by_cases h : j = i
    · subst h; simp
    · have : Nat.beq j i = false := by rw [← Bool.not_eq_true, Nat.beq_eq]; exact h
      rw [this, if_neg h]; rfl
theorem splice_mid (A B post ds : List Value) (o : Nat) (h : o + ds.length ≤ B.length) :
    (A ++ B ++ post).take A.length ++ (B.take o ++ ds ++ B.drop (o + ds.length)) ++ (A ++ B ++ post).drop (A.length + B.length) = (A ++ B ++ post).take (A.length + o) ++ ds ++ (A ++ B ++ post).drop (A.length + o + ds.length) := by
  have e1 : (A ++ B ++ post).take A.length = A := by rw [List.append_assoc, List.take_left]
  have e2 : (A ++ B ++ post).drop (A.length + B.length) = post := by
    rw [← List.length_append, List.drop_left]
  have e3 : (A ++ B ++ post).take (A.length + o) = A ++ B.take o := by
    rw [List.append_assoc, List.take_append, List.take_of_length_le (by omega), List.take_append_of_le_length (by omega), show A.length + o - A.length = o by omega]
  have e4 : (A ++ B ++ post).drop (A.length + o + ds.length) = B.drop (o + ds.length) ++ post := by
    rw [List.append_assoc, List.drop_append, List.drop_of_length_le (by omega), List.nil_append, List.drop_append_of_le_length (by omega), show A.length + o + ds.length - A.length = o + ds.length by omega]
  rw [e1, e2, e3, e4]; simp
/-- A part is another one. -/
theorem R_upd {c : Cx} : ∀ (p : List Nat) {a v : AV} {τ : Ty} {cs ds : List Value}, R c a cs → Sh τ a → τ.inP p → R c v ds → Sh (τ.at p) v →
    Sh τ (a.upd p v) ∧ R c (a.upd p v) (cs.take (τ.off p) ++ ds ++ cs.drop (τ.off p + ds.length))
  | [], a, v, τ, cs, ds, hr, hs, _, hv, hsv => by
    have e : a.upd [] v = v := by cases a <;> rfl
    rw [at_nil] at hsv
    rw [e, off_nil, Nat.zero_add, List.take_zero, List.nil_append, R_len hv hsv, ← R_len hr hs, List.drop_length, List.append_nil]
    exact ⟨hsv, hv⟩
  | i :: p, a, v, τ, cs, ds, hr, hs, hp, hv, hsv => by
    cases τ with
    | agg u n t =>
      rw [inP_agg] at hp
      rw [at_agg] at hsv
      obtain ⟨hi, hp⟩ := hp
      cases a with
      | agg u' l f =>
        obtain ⟨rfl, rfl, hs⟩ := hs
        obtain ⟨g, hg, rfl⟩ := hr
        obtain ⟨h1, h2⟩ := R_upd p (hg i hi) (hs i hi) hp hv hsv
        have he := updU_eq hs h1
        have hlen : ∀ j, j < n → (g j).length = (el u t j).size := fun j hj => R_len (hg j hj) (hs j hj)
        refine ⟨⟨rfl, rfl, fun j hj => ?_⟩, fun j => if j = i then (g i).take ((el u t i).off p) ++ ds ++ (g i).drop ((el u t i).off p + ds.length) else g j, fun j hj => ?_, ?_⟩
        · rw [he j hj]
          by_cases h : j = i
          · subst h; rw [if_pos rfl]; exact h1
          · rw [if_neg h]; exact hs j hj
        · rw [he j hj]
          by_cases h : j = i
          · subst h; simp only [if_true]; exact h2
          · simp only [if_neg h]; exact hg j hj
        · rw [fm_upd g i _ n hi, off_agg, sumN_congr (f := fun j => (el u t j).size) (g := fun j => (g j).length) i (fun j hj => (hlen j (by omega)).symm)]
          obtain ⟨post, hpost⟩ := fm_split g i n hi
          have hl2 : (g i).length = (el u t i).size := hlen i hi
          have hle : (el u t i).off p + ds.length ≤ (g i).length := by
            obtain ⟨_, pre, post, es, hcut, hpl, hre⟩ := R_at p (hg i hi) (hs i hi) hp
            have h3 := R_len hv hsv
            have h4 := R_len hre (by assumption)
            rw [hcut]; simp; omega
          have hL : ((List.range i).flatMap g).length = sumN (fun j => (g j).length) i := fm_len g i
          rw [hpost, ← hL]
          exact (splice_mid _ _ _ _ _ hle).symm
      | _ => exact hs.elim
    | _ => exact hp.elim
end Go.Proofs.YtdbiidfgbkmbmaaDoor
