/- The caller's memory behind a call. -/
import Derived.Test.YtdbiidfgbkmbmaaDoorE26
namespace Go.Proofs.YtdbiidfgbkmbmaaDoor
open Go.RowKit
def Cx.given (c : Cx) (rw0 : List (Nat × Row)) (ρ0 : Nat → Option Nat) : Cx := { c.named rw0 ρ0 with fb := c.w.heap.size }
def Cx.merged (c c2 : Cx) (ρ0 : Nat → Option Nat) (key : Nat) (rw1 : List (Nat × Row)) : Cx :=
  { c with
    Mu := fun b => (c.Mu b ∧ b < c.w.heap.size) ∨ c2.Mu b
    m := putW c.m (outW (sig ρ0 key) rw1)
    bl := fun k => if key ≤ k ∧ k < key + 8 then c2.bl (8 + (k - key)) else c.bl k
    sv := fun k => if key ≤ k ∧ k < key + 8 then c2.sv (8 + (k - key)) else c.sv k
    w := c2.w }
/-- What is known where a call comes back. -/
structure Back2 (c c2 : Cx) (rw0 rw1 : List (Nat × Row)) (ρ0 : Nat → Option Nat) (key : Nat) : Prop where
  hm : MemOK c
  bs : c.fb ≤ c.w.heap.size
  inj : injB (rw0.map (·.1)) ρ0 = true
  lt8 : ∀ k r, rowOf rw0 k = some r → k < 8
  le : LeRw c.m c.ty rw0 ρ0 rw0
  m2 : MemOK c2
  st : Stab (c.given rw0 ρ0) c2
  base : c2.base = c.base
  fb : c2.fb = c.w.heap.size
  m : c2.m = rowOf rw1
  low : Below c.base c.w c2.w
  out : Outs rw0 rw1
  fr : ∀ j, key ≤ j → j < key + 8 → c.m j = none
section
variable {c c2 : Cx} {rw0 rw1 : List (Nat × Row)} {ρ0 : Nat → Option Nat} {key : Nat}
theorem Back2.old (h : Back2 c c2 rw0 rw1 ρ0 key) {k : Nat} {r : Row} (hk : rowOf rw0 k = some r) : (∃ r', rowOf rw1 k = some r') ∧ ((∃ K r', ρ0 k = some K ∧ c.m K = some r') ∨ ρ0 k = none) := by
  have hg : (c.given rw0 ρ0).m k = some r := hk
  refine ⟨?_, ?_⟩
  · rw [← h.m]
    cases r with
    | var τ a => obtain ⟨⟨a', h1⟩, _⟩ := h.st.var k τ a hg; exact ⟨_, h1⟩
    | grow e n f => obtain ⟨n', f', h1, _⟩ := h.st.grow k e n f hg; exact ⟨_, h1⟩
  · have hle := LeRw_mem h.le (rowOf_mem hk)
    unfold LeRow at hle
    cases hρ : ρ0 k with
    | none => exact .inr rfl
    | some K =>
      rw [hρ] at hle
      cases hc : c.m K with
      | none => simp only [hc] at hle
      | some r' => exact .inl ⟨K, r', rfl, hc⟩
end
/-- Nothing is given that isn't there. -/
def SomeB (rw0 : List (Nat × Row)) (ρ0 : Nat → Option Nat) : Prop := ∀ k r, rowOf rw0 k = some r → ∃ K, ρ0 k = some K
section
variable {c c2 : Cx} {rw0 rw1 : List (Nat × Row)} {ρ0 : Nat → Option Nat} {key : Nat}
theorem sig_new (k : Nat) (h : 8 ≤ k) : sig ρ0 key k = key + (k - 8) := by
  have : Nat.blt k 8 = false := by rw [← Bool.not_eq_true, Nat.blt_eq]; omega
  simp [sig, this]
theorem sig_old {k K : Nat} (h : k < 8) (hK : ρ0 k = some K) : sig ρ0 key k = K := by
  have : Nat.blt k 8 = true := by rw [Nat.blt_eq]; exact h
  simp [sig, this, hK]
/-- Where a name stands for. -/
theorem Back2.img (h : Back2 c c2 rw0 rw1 ρ0 key) (hS : SomeB rw0 ρ0) {k : Nat} {r : Row} (hk : (k, r) ∈ rw1) :
    (8 ≤ k ∧ k < 16 ∧ sig ρ0 key k = key + (k - 8)) ∨ (k < 8 ∧ ∃ K r0 r', ρ0 k = some K ∧ sig ρ0 key k = K ∧ rowOf rw0 k = some r0 ∧ c.m K = some r' ∧ ¬ (key ≤ K ∧ K < key + 8)) := by
  rcases Nat.lt_or_ge k 8 with h8 | h8
  · obtain ⟨r0, h0⟩ := h.out.old k r hk h8
    obtain ⟨K, hK⟩ := hS k r0 h0
    rcases (h.old h0).2 with ⟨K', r', h1, h2⟩ | h1
    · rw [hK] at h1; injection h1 with h1; subst h1
      refine .inr ⟨h8, K, r0, r', hK, sig_old h8 hK, h0, h2, fun hh => ?_⟩
      rw [h.fr K hh.1 hh.2] at h2; cases h2
    · rw [hK] at h1; cases h1
  · exact .inl ⟨h8, h.out.lt k r hk, sig_new k h8⟩
theorem Back2.sinj (h : Back2 c c2 rw0 rw1 ρ0 key) (hS : SomeB rw0 ρ0) {k k' : Nat} {r r' : Row} (h1 : (k, r) ∈ rw1) (h2 : (k', r') ∈ rw1) (e : sig ρ0 key k = sig ρ0 key k') : k = k' := by
  rcases h.img hS h1 with ⟨a1, a2, a3⟩ | ⟨a1, K, r0, q, a2, a3, a4, a5, a6⟩
  · rcases h.img hS h2 with ⟨b1, b2, b3⟩ | ⟨b1, K', r0', q', b2, b3, b4, b5, b6⟩
    · omega
    · exfalso; apply b6; omega
  · rcases h.img hS h2 with ⟨b1, b2, b3⟩ | ⟨b1, K', r0', q', b2, b3, b4, b5, b6⟩
    · exfalso; apply a6; omega
    · have : K = K' := by rw [← a3, ← b3]; exact e
      subst this
      exact inj_of h.inj (List.mem_map_of_mem (f := Prod.fst) (rowOf_mem a4)) (List.mem_map_of_mem (f := Prod.fst) (rowOf_mem b4)) a2 b2
theorem distinct_of {ks : List Nat} {σ : Nat → Nat} (h : distinctB ks = true) (hi : ∀ k k', k ∈ ks → k' ∈ ks → σ k = σ k' → k = k') : distinctB (ks.map σ) = true := by
  induction ks with
  | nil => rfl
  | cons k ks ih =>
    simp only [List.map_cons, distinctB, Bool.and_eq_true] at h ⊢
    refine ⟨List.all_eq_true.2 fun j hj => ?_, ih h.2 fun a b ha hb => hi a b (by simp [ha]) (by simp [hb])⟩
    obtain ⟨q, hq, rfl⟩ := List.mem_map.1 hj
    have h1 := List.all_eq_true.1 h.1 q hq
    have hne : k ≠ q := fun e => by subst e; simp at h1
    have : Nat.beq (σ k) (σ q) = false := by rw [← Bool.not_eq_true, Nat.beq_eq]; exact fun e => hne (hi k q (by simp) (by simp [hq]) e)
    rw [this]; rfl
theorem outW_keys {σ : Nat → Nat} : ∀ {l : List (Nat × Row)}, (outW σ l).map (·.1) = (l.map (·.1)).map σ
  | [] => rfl
  | (k, r) :: l => by show σ k :: _ = _; rw [outW_keys]; rfl
theorem Back2.dis (h : Back2 c c2 rw0 rw1 ρ0 key) (hS : SomeB rw0 ρ0) : distinctB ((outW (sig ρ0 key) rw1).map (·.1)) = true := by
  rw [outW_keys]
  refine distinct_of h.out.dis fun k k' h1 h2 e => ?_
  obtain ⟨⟨q, r⟩, hq, rfl⟩ := List.mem_map.1 h1
  obtain ⟨⟨q', r'⟩, hq', rfl⟩ := List.mem_map.1 h2
  exact h.sinj hS hq hq' e
/-- The rows that were handed back. -/
theorem Back2.at_img (h : Back2 c c2 rw0 rw1 ρ0 key) (hS : SomeB rw0 ρ0) {k : Nat} {r : Row} (hk : c2.m k = some r) :
    (c.merged c2 ρ0 key rw1).m (sig ρ0 key k) = some (r.ren (sig ρ0 key)) ∧ (c.merged c2 ρ0 key rw1).bl (sig ρ0 key k) = c2.bl k ∧ (c.merged c2 ρ0 key rw1).sv (sig ρ0 key k) = (if k < 8 then c.sv (sig ρ0 key k) else c2.sv k) := by
  rw [h.m] at hk
  have hmem := rowOf_mem hk
  refine ⟨?_, ?_, ?_⟩
  · show putW c.m (outW (sig ρ0 key) rw1) (sig ρ0 key k) = _
    rw [putW_row (h.dis hS), outW_row fun k' r' hm e => h.sinj hS hm hmem e, hk]
    rfl
  · show (if _ then _ else _) = _
    rcases h.img hS hmem with ⟨a1, a2, a3⟩ | ⟨a1, K, r0, q, a2, a3, a4, a5, a6⟩
    · rw [if_pos (by omega)]
      congr 1; omega
    · rw [a3, if_neg a6]
      have hg : (c.given rw0 ρ0).m k = some r0 := a4
      have hb : (c.given rw0 ρ0).bl k = c.bl K := by show (ρ0 k).bind c.bl = _; rw [a2]; rfl
      cases r0 with
      | var τ a => rw [(h.st.var k τ a hg).2, hb]
      | grow e n f =>
        obtain ⟨n', f', h1, h2, h3⟩ := h.st.grow k e n f hg
        rw [h.m] at h1
        have := h.out.len k e n f e n' f' a4 h1
        rw [(h3 this).2, hb]
  · show (if _ then _ else _) = _
    rcases h.img hS hmem with ⟨a1, a2, a3⟩ | ⟨a1, K, r0, q, a2, a3, a4, a5, a6⟩
    · rw [if_pos (by omega), if_neg (by omega)]
      congr 1; omega
    · rw [a3, if_neg a6, if_pos a1]
theorem Back2.sv_img (h : Back2 c c2 rw0 rw1 ρ0 key) (hS : SomeB rw0 ρ0) {k e n : Nat} {f : Nat → AV} (hk : c2.m k = some (.grow e n f)) : (c.merged c2 ρ0 key rw1).sv (sig ρ0 key k) = c2.sv k := by
  rw [(h.at_img hS hk).2.2]
  rw [h.m] at hk
  have hmem := rowOf_mem hk
  rcases h.img hS hmem with ⟨a1, a2, a3⟩ | ⟨a1, K, r0, q, a2, a3, a4, a5, a6⟩
  · rw [if_neg (by omega)]
  · rw [if_pos a1, a3]
    have hg : (c.given rw0 ρ0).m k = some r0 := a4
    have hv : (c.given rw0 ρ0).sv k = c.sv K := by show (match ρ0 k with | some j => c.sv j | none => .slice none 0 0) = _; rw [a2]
    cases r0 with
    | var τ a =>
      obtain ⟨⟨a', h1⟩, _⟩ := h.st.var k τ a hg
      rw [h.m, hk] at h1; cases h1
    | grow e' n0 f0 =>
      obtain ⟨n', f', h1, h2, h3⟩ := h.st.grow k e' n0 f0 hg
      rw [h.m] at h1
      have := h.out.len k e' n0 f0 e' n' f' a4 h1
      rw [(h3 this).1, hv]
/-- The other rows. -/
theorem Back2.at_old (h : Back2 c c2 rw0 rw1 ρ0 key) (hS : SomeB rw0 ρ0) {K : Nat} (hn : ∀ k r, (k, r) ∈ rw1 → sig ρ0 key k ≠ K) : (c.merged c2 ρ0 key rw1).m K = c.m K := by
  show putW c.m (outW (sig ρ0 key) rw1) K = _
  rw [putW_row (h.dis hS), outW_none hn]
theorem Back2.cases (h : Back2 c c2 rw0 rw1 ρ0 key) (hS : SomeB rw0 ρ0) {K : Nat} {r : Row} (hk : (c.merged c2 ρ0 key rw1).m K = some r) :
    (∃ k r1, c2.m k = some r1 ∧ sig ρ0 key k = K ∧ r = r1.ren (sig ρ0 key)) ∨ ((∀ k r, (k, r) ∈ rw1 → sig ρ0 key k ≠ K) ∧ c.m K = some r ∧ ¬ (key ≤ K ∧ K < key + 8)) := by
  by_cases e : ∃ k r, (k, r) ∈ rw1 ∧ sig ρ0 key k = K
  · obtain ⟨k, r0, hm, rfl⟩ := e
    obtain ⟨r1, h1⟩ := mem_of_rowOf hm
    rw [← h.m] at h1
    have := (h.at_img hS h1).1
    rw [hk] at this; injection this with this
    exact .inl ⟨k, r1, h1, rfl, this⟩
  · have hn : ∀ k r, (k, r) ∈ rw1 → sig ρ0 key k ≠ K := fun k r hm he => e ⟨k, r, hm, he⟩
    rw [h.at_old hS hn] at hk
    exact .inr ⟨hn, hk, fun hh => by rw [h.fr K hh.1 hh.2] at hk; cases hk⟩
/-- What was said in the callee's words, in the caller's. -/
theorem Back2.R (h : Back2 c c2 rw0 rw1 ρ0 key) (hS : SomeB rw0 ρ0) : ∀ {a : AV} {cs : List Value}, Own a → R c2 a cs → R (c.merged c2 ρ0 key rw1) (a.ren (sig ρ0 key)) cs := by
  intro a
  induction a with
  | ptr τ k p =>
    rintro cs _ ⟨τ0, a0, b, h1, h2, h3, h4, rfl⟩
    obtain ⟨g1, g2, _⟩ := h.at_img hS h1
    exact ⟨τ0, _, b, g1, g2.trans h2, h3, h4, rfl⟩
  | gsl e k l =>
    rintro cs _ ⟨n, f, A, q, h1, h2, rfl, h3, h4, h5, h6⟩
    obtain ⟨g1, g2, _⟩ := h.at_img hS h1
    exact ⟨n, _, A, q, g1, h2, rfl, h3, h4, h5, fun e => (h.sv_img hS h1).trans (h6 e)⟩
  | imm fr et l f ih =>
    rintro cs ⟨hfr, hn⟩ ⟨A, q, rfl, h1, h2, h3⟩
    refine ⟨A, q, rfl, h1, h2, fun hl => ?_⟩
    obtain ⟨b, o, rfl, hlt, hmu, hbb, hi⟩ := h3 hl
    have hb := hbb hfr
    rw [h.fb] at hb
    refine ⟨b, o, rfl, hlt, fun hh => ?_, fun _ => Nat.le_trans h.bs hb, fun i hi' => ?_⟩
    · rcases hh with ⟨_, hh⟩ | hh
      · omega
      · exact hmu hh
    · obtain ⟨hsh, ds, hr, hrg⟩ := hi i hi'
      exact ⟨Sh_ren hsh, ds, ih i (hn i hi') hr, hrg⟩
  | agg u l f ih =>
    rintro cs hn ⟨g, hg, rfl⟩
    exact ⟨g, fun i hi => ih i (hn i hi) (hg i hi), rfl⟩
  | tup l f ih =>
    rintro cs hn ⟨vs, g, rfl, hsz, hg⟩
    refine ⟨vs, g, rfl, hsz, fun i hi => ⟨ih i (hn i hi) (hg i hi).1, ?_⟩⟩
    obtain ⟨_, v, hv, hmt⟩ := hg i hi
    refine ⟨v, hv, ?_⟩
    have hgoal : ∀ a : AV, (match a with | .agg _ _ _ => v = .agg (g i).toArray | .junk => True | _ => g i = [v]) → (match a.ren (sig ρ0 key) with | .agg _ _ _ => v = .agg (g i).toArray | .junk => True | _ => g i = [v]) := fun a h => by
      cases a <;> exact h
    exact hgoal (f i) hmt
  | ipt _ _ _ => exact fun h => h.elim
  | gpt _ _ _ _ _ _ => exact fun h => h.elim
  | gsub _ _ _ _ _ => exact fun h => h.elim
  | sub _ _ _ _ _ => exact fun h => h.elim
  | _ => exact fun _ h => h
theorem Back2.RV (h : Back2 c c2 rw0 rw1 ρ0 key) (hS : SomeB rw0 ρ0) {a : AV} {v : Value} (hn : Own a) (hr : RV c2 a v) : RV (c.merged c2 ρ0 key rw1) (a.ren (sig ρ0 key)) v := by
  cases a with
  | junk => trivial
  | agg u l f =>
    obtain ⟨cs, rfl, hr⟩ := hr
    exact ⟨cs, rfl, h.R hS hn hr⟩
  | _ => exact h.R hS (a := _) hn hr
theorem Back2.given_mu (h : Back2 c c2 rw0 rw1 ρ0 key) {b : Nat} (hb : (c.given rw0 ρ0).Mu b) : ∃ k K r r', rowOf rw0 k = some r ∧ ρ0 k = some K ∧ c.m K = some r' ∧ c.bl K = some b := by
  obtain ⟨k', r', k, r, h1, h2, h3, h4⟩ := named_mu (c := c) (rw := rw0) (ρ := ρ0) h.hm h.le (b := b) hb
  exact ⟨k', k, r', r, h1, h2, h3, h4⟩
theorem Back2.heap (h : Back2 c c2 rw0 rw1 ρ0 key) {K : Nat} {r : Row} {b : Nat} (hn : ∀ k r, (k, r) ∈ rw1 → sig ρ0 key k ≠ K) (hk : c.m K = some r) (hb : c.bl K = some b) : ¬ c2.Mu b ∧ c2.w.heap[b]? = c.w.heap[b]? := by
  have hlt := row_lt (h.hm.rows K r hk) hb
  refine (fun q => ⟨(h.st.old b hlt q).1, (h.st.old b hlt q).2.2 hlt⟩ : ¬ (c.given rw0 ρ0).Mu b → _) fun hmu => ?_
  obtain ⟨k, K', r0, r', h1, h2, h3, h4⟩ := h.given_mu hmu
  have := h.hm.inj K K' r r' b hk h3 hb h4
  subst this
  obtain ⟨⟨r1, h5⟩, _⟩ := h.old h1
  exact hn k r1 (rowOf_mem h5) (sig_old (h.lt8 k r0 h1) h2)
theorem Back2.stab (h : Back2 c c2 rw0 rw1 ρ0 key) (hS : SomeB rw0 ρ0) : Stab c (c.merged c2 ρ0 key rw1) := by
  have img : ∀ K r, c.m K = some r → (∃ k r1, (k, r1) ∈ rw1 ∧ sig ρ0 key k = K) → ∃ k r0 r1, k < 8 ∧ ρ0 k = some K ∧ sig ρ0 key k = K ∧ rowOf rw0 k = some r0 ∧ c2.m k = some r1 := by
    rintro K r hk ⟨k, r1, hm, rfl⟩
    rcases h.img hS hm with ⟨a1, a2, a3⟩ | ⟨a1, K, r0, q, a2, a3, a4, a5, a6⟩
    · rw [a3, h.fr _ (by omega) (by omega)] at hk; cases hk
    · obtain ⟨r', hr'⟩ := mem_of_rowOf hm
      exact ⟨k, r0, r', a1, by rw [a3]; exact a2, rfl, a4, by rw [h.m]; exact hr'⟩
  refine ⟨rfl, Nat.le_refl _, rfl, fun K τ a hk => ?_, fun K e n f hk => ?_, fun b hb hmu => ?_, h.low.size⟩
  · by_cases e : ∃ k r1, (k, r1) ∈ rw1 ∧ sig ρ0 key k = K
    · obtain ⟨k, r0, r1, h8, hρ, hs, h0, h1⟩ := img K _ hk e
      have hle := LeRw_mem h.le (rowOf_mem h0)
      unfold LeRow at hle
      rw [hρ] at hle; simp only [hk] at hle
      cases r0 with
      | grow _ _ _ => exact hle.elim
      | var τ' a' =>
        obtain ⟨rfl, _⟩ := hle
        obtain ⟨⟨a2, h2⟩, _⟩ := h.st.var k τ a' h0
        obtain ⟨g1, g2, _⟩ := h.at_img hS h2
        rw [hs] at g1 g2
        refine ⟨⟨_, g1⟩, ?_⟩
        show (if _ then _ else _) = _
        rw [if_neg fun hh => by rw [h.fr K hh.1 hh.2] at hk; cases hk]
    · have hn : ∀ k r, (k, r) ∈ rw1 → sig ρ0 key k ≠ K := fun k r hm he => e ⟨k, r, hm, he⟩
      refine ⟨⟨a, (h.at_old hS hn).trans hk⟩, ?_⟩
      show (if _ then _ else _) = _
      rw [if_neg fun hh => by rw [h.fr K hh.1 hh.2] at hk; cases hk]
  · have hb : (c.merged c2 ρ0 key rw1).sv K = c.sv K ∧ (c.merged c2 ρ0 key rw1).bl K = c.bl K := by
      have hn : ¬ (key ≤ K ∧ K < key + 8) := fun hh => by rw [h.fr K hh.1 hh.2] at hk; cases hk
      exact ⟨if_neg hn, if_neg hn⟩
    by_cases e : ∃ k r1, (k, r1) ∈ rw1 ∧ sig ρ0 key k = K
    · obtain ⟨k, r0, r1, h8, hρ, hs, h0, h1⟩ := img K _ hk e
      have hle := LeRw_mem h.le (rowOf_mem h0)
      unfold LeRow at hle
      rw [hρ] at hle; simp only [hk] at hle
      cases r0 with
      | var _ _ => exact hle.elim
      | grow e' n' f' =>
        obtain ⟨rfl, rfl, _⟩ := hle
        obtain ⟨n2, f2, h2, h3, h4⟩ := h.st.grow k _ n f' h0
        obtain ⟨g1, g2, _⟩ := h.at_img hS h2
        rw [hs] at g1 g2
        exact ⟨n2, _, g1, h3, fun _ => hb⟩
    · have hn : ∀ k r, (k, r) ∈ rw1 → sig ρ0 key k ≠ K := fun k r hm he => e ⟨k, r, hm, he⟩
      exact ⟨n, f, (h.at_old hS hn).trans hk, Nat.le_refl _, fun _ => hb⟩
  · obtain ⟨h1, h2⟩ := h.st.old b hb fun hh => hmu (mu_old (c := c) (rw := rw0) (ρ := ρ0) h.hm h.le hh)
    refine ⟨fun hh => ?_, h2.1, fun _ => h2.2 hb⟩
    rcases hh with ⟨hh, _⟩ | hh
    · exact hmu hh
    · exact h1 hh
theorem Back2.mem (h : Back2 c c2 rw0 rw1 ρ0 key) (hS : SomeB rw0 ρ0) (hty : c2.ty = c.ty) : MemOK (c.merged c2 ρ0 key rw1) := by
  have hst := h.stab hS
  have blo : ∀ K, ¬ (key ≤ K ∧ K < key + 8) → (c.merged c2 ρ0 key rw1).bl K = c.bl K ∧ (c.merged c2 ρ0 key rw1).sv K = c.sv K := fun K hn => ⟨if_neg hn, if_neg hn⟩
  -- a block of what was handed back is no other row's
  have apart : ∀ k r1 K r b, c2.m k = some r1 → (∀ k r, (k, r) ∈ rw1 → sig ρ0 key k ≠ K) → c.m K = some r → c2.bl k = some b → c.bl K = some b → False := by
    intro k r1 K r b h1 hn h2 h3 h4
    exact (h.heap hn h2 h4).1 (h.m2.mu k r1 b h1 h3).1
  refine ⟨fun K r hk => ?_, fun K K' r r' b h1 h2 h3 h4 => ?_, fun K r b hk hb => ?_, h.hm.bf⟩
  · rcases h.cases hS hk with ⟨k, r1, h1, rfl, rfl⟩ | ⟨hn, h1, h2⟩
    · obtain ⟨g1, g2, _⟩ := h.at_img hS h1
      have hown : OwnRow r1 := OwnRws_mem h.out.own (rowOf_mem (by rw [← h.m]; exact h1))
      have hrow := h.m2.rows k r1 h1
      cases r1 with
      | var τ a =>
        obtain ⟨b, cs, t, q1, q2, q3, q4⟩ := hrow
        exact ⟨b, cs, t, g2.trans q1, q2, h.R hS hown q3, Sh_ren q4⟩
      | grow e n f =>
        obtain ⟨g, q1, q2, q3⟩ := hrow
        refine ⟨g, ?_, ?_, fun i hi => ⟨h.R hS (hown i hi) (q3 i hi).1, Sh_ren ?_⟩⟩
        · rw [h.sv_img hS h1]
          show c2.w.ownsRow c.base e (c.ty e).size _ _ _
          rw [← h.base, ← hty]; exact q1
        · rw [h.sv_img hS h1, g2]; exact q2
        · have := (q3 i hi).2; rw [hty] at this; exact this
    · exact RowOK_stab hst (blo K h2).1 (blo K h2).2 rfl (fun b hb => (h.heap hn h1 hb).2) (h.hm.rows K r h1)
  · rcases h.cases hS h1 with ⟨k, q, a1, rfl, rfl⟩ | ⟨hn, a1, a2⟩
    · rcases h.cases hS h2 with ⟨k', q', b1, rfl, rfl⟩ | ⟨hn', b1, b2⟩
      · rw [(h.at_img hS a1).2.1] at h3
        rw [(h.at_img hS b1).2.1] at h4
        rw [h.m2.inj k k' q q' b a1 b1 h3 h4]
      · rw [(h.at_img hS a1).2.1] at h3
        rw [(blo K' b2).1] at h4
        exact (apart k q K' r' b a1 hn' b1 h3 h4).elim
    · rcases h.cases hS h2 with ⟨k', q', b1, rfl, rfl⟩ | ⟨hn', b1, b2⟩
      · rw [(h.at_img hS b1).2.1] at h4
        rw [(blo K a2).1] at h3
        exact (apart k' q' K r b b1 hn a1 h4 h3).elim
      · rw [(blo K a2).1] at h3
        rw [(blo K' b2).1] at h4
        exact h.hm.inj K K' r r' b a1 b1 h3 h4
  · rcases h.cases hS hk with ⟨k, r1, h1, rfl, rfl⟩ | ⟨hn, h1, h2⟩
    · rw [(h.at_img hS h1).2.1] at hb
      have hmu := h.m2.mu k r1 b h1 hb
      rw [h.base] at hmu
      refine ⟨.inr hmu.1, hmu.2.1, fun h8 => ?_⟩
      have hmem := rowOf_mem (show rowOf rw1 k = some r1 by rw [← h.m]; exact h1)
      rcases h.img hS hmem with ⟨a1, a2, a3⟩ | ⟨a1, K, r0, q, a2, a3, a4, a5, a6⟩
      · have := hmu.2.2 a1
        rw [h.fb] at this
        exact Nat.le_trans h.bs this
      · have hbK : c.bl K = some b := by
          rw [← (blo K a6).1, ← a3, (h.at_img hS h1).2.1]; exact hb
        exact (h.hm.mu K q b a5 hbK).2.2 (by rw [← a3]; exact h8)
    · rw [(blo K h2).1] at hb
      have hmu := h.hm.mu K r b h1 hb
      exact ⟨.inl ⟨hmu.1, row_lt (h.hm.rows K r h1) hb⟩, hmu.2⟩
theorem Back2.step (h : Back2 c c2 rw0 rw1 ρ0 key) (hS : SomeB rw0 ρ0) (hty : c2.ty = c.ty) : Step c (outW (sig ρ0 key) rw1) (c.merged c2 ρ0 key rw1) :=
  ⟨h.stab hS, h.mem hS hty, rfl, rfl, rfl, h.low⟩
end
end Go.Proofs.YtdbiidfgbkmbmaaDoor
