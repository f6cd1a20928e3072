/- What a call leaves, told to its caller. -/
import Derived.Test.YtdbiidfgbkmbmaaDoorE25
namespace Go.Proofs.YtdbiidfgbkmbmaaDoor
open Go.RowKit
def AV.ren (σ : Nat → Nat) : AV → AV
  | .ptr τ k p => .ptr τ (σ k) p
  | .gsl e k l => .gsl e (σ k) l
  | .imm fr et l f => .imm fr et l fun i => (f i).ren σ
  | .agg u l f => .agg u l fun i => (f i).ren σ
  | .tup l f => .tup l fun i => (f i).ren σ
  | a => a
def Row.ren (σ : Nat → Nat) : Row → Row
  | .var τ a => .var τ (a.ren σ)
  | .grow e n f => .grow e n fun i => (f i).ren σ
/-- All that it names is its own, or a row. -/
def Own : AV → Prop
  | .ipt _ _ => False
  | .gpt _ _ _ _ _ _ => False
  | .gsub _ _ _ _ _ => False
  | .sub _ _ _ _ _ => False
  | .imm fr _ l f => fr = true ∧ ∀ i, i < l → Own (f i)
  | .agg _ l f => ∀ i, i < l → Own (f i)
  | .tup l f => ∀ i, i < l → Own (f i)
  | _ => True
def OwnRow : Row → Prop
  | .var _ a => Own a
  | .grow _ n f => ∀ i, i < n → Own (f i)
def OwnRws : List (Nat × Row) → Prop
  | [] => True
  | (_, r) :: l => OwnRow r ∧ OwnRws l
/-- No slice in it is told to be fresh. -/
def NoFr : AV → Prop
  | .ipt _ a => NoFr a
  | .imm fr _ l f => fr = false ∧ ∀ i, i < l → NoFr (f i)
  | .agg _ l f => ∀ i, i < l → NoFr (f i)
  | .tup l f => ∀ i, i < l → NoFr (f i)
  | _ => True
def NoFrRow : Row → Prop
  | .var _ a => NoFr a
  | .grow _ n f => ∀ i, i < n → NoFr (f i)
def NoFrRws : List (Nat × Row) → Prop
  | [] => True
  | (_, r) :: l => NoFrRow r ∧ NoFrRws l
theorem OwnRws_mem {k : Nat} {r : Row} : ∀ {l : List (Nat × Row)}, OwnRws l → (k, r) ∈ l → OwnRow r
  | (_, _) :: l, h, hm => by
    simp only [List.mem_cons, Prod.mk.injEq] at hm
    rcases hm with ⟨rfl, rfl⟩ | hm
    · exact h.1
    · exact OwnRws_mem h.2 hm
theorem NoFrRws_mem {k : Nat} {r : Row} : ∀ {l : List (Nat × Row)}, NoFrRws l → (k, r) ∈ l → NoFrRow r
  | (_, _) :: l, h, hm => by
    simp only [List.mem_cons, Prod.mk.injEq] at hm
    rcases hm with ⟨rfl, rfl⟩ | hm
    · exact h.1
    · exact NoFrRws_mem h.2 hm
theorem Sh_ren {σ : Nat → Nat} : ∀ {a : AV} {τ : Ty}, Sh τ a → Sh τ (a.ren σ) := by
  intro a
  induction a with
  | agg u l f ih =>
    intro τ h
    obtain ⟨t, rfl, ht⟩ := Sh_agg h
    exact ⟨rfl, rfl, fun i hi => ih i (ht i hi)⟩
  | _ =>
    intro τ h
    cases τ with
    | int k => cases k <;> first | exact h | exact h.elim
    | _ => first | exact h | exact h.elim
/-- The bound of what is fresh may be any, where nothing is told to be fresh. -/
theorem R_fb {c : Cx} {fb : Nat} : ∀ {a : AV} {cs : List Value}, NoFr a → R c a cs → R { c with fb := fb } a cs := by
  intro a
  induction a with
  | ipt τ a ih =>
    rintro cs hn ⟨b, o, ds, rfl, hlt, hm, hr, hsh, hrg⟩
    exact ⟨b, o, ds, rfl, hlt, hm, ih hn hr, hsh, hrg⟩
  | imm fr et l f ih =>
    rintro cs hn ⟨A, q, rfl, h1, h2, h3⟩
    refine ⟨A, q, rfl, h1, h2, fun hl => ?_⟩
    obtain ⟨b, o, rfl, hlt, hm, hfr, hi⟩ := h3 hl
    refine ⟨b, o, rfl, hlt, hm, (by rw [hn.1]; intro h; cases h), fun i h => ?_⟩
    obtain ⟨hsh, ds, hr, hrg⟩ := hi i h
    exact ⟨hsh, ds, ih i (hn.2 i h) hr, hrg⟩
  | agg u l f ih =>
    rintro cs hn ⟨g, hg, rfl⟩
    exact ⟨g, fun i hi => ih i (hn i hi) (hg i hi), rfl⟩
  | tup l f ih =>
    rintro cs hn ⟨vs, g, rfl, hsz, hg⟩
    exact ⟨vs, g, rfl, hsz, fun i hi => ⟨ih i (hn i hi) (hg i hi).1, (hg i hi).2⟩⟩
  | _ => exact fun _ h => h
theorem RV_fb {c : Cx} {fb : Nat} {a : AV} {v : Value} (hn : NoFr a) (h : RV c a v) : RV { c with fb := fb } a v := by
  cases a with
  | junk => trivial
  | agg u l f =>
    obtain ⟨cs, rfl, hr⟩ := h
    exact ⟨cs, rfl, R_fb hn hr⟩
  | _ => exact R_fb (a := _) hn h
theorem RowOK_fb {c : Cx} {fb : Nat} {k : Nat} {r : Row} (hn : NoFrRow r) (h : RowOK c k r) : RowOK { c with fb := fb } k r := by
  cases r with
  | var τ a =>
    obtain ⟨b, cs, t, h1, h2, h3, h4⟩ := h
    exact ⟨b, cs, t, h1, h2, R_fb hn h3, h4⟩
  | grow e n f =>
    obtain ⟨g, h1, h2, h3⟩ := h
    exact ⟨g, h1, h2, fun i hi => ⟨R_fb (hn i hi) (h3 i hi).1, (h3 i hi).2⟩⟩
/-- Names of the callee's as the caller's. -/
def sig (ρ0 : Nat → Option Nat) (key k : Nat) : Nat := bif Nat.blt k 8 then (ρ0 k).getD 0 else key + (k - 8)
def outW (σ : Nat → Nat) : List (Nat × Row) → List (Nat × Row)
  | [] => []
  | (k, r) :: l => (σ k, r.ren σ) :: outW σ l
theorem outW_row {σ : Nat → Nat} {k : Nat} : ∀ {l : List (Nat × Row)}, (∀ k' r, (k', r) ∈ l → σ k' = σ k → k' = k) → rowOf (outW σ l) (σ k) = (rowOf l k).map (Row.ren σ)
  | [], _ => rfl
  | (j, r) :: l, h => by
    unfold outW rowOf
    by_cases e : k = j
    · subst e; simp
    · have e1 : Nat.beq k j = false := by rw [← Bool.not_eq_true, Nat.beq_eq]; exact e
      have e2 : Nat.beq (σ k) (σ j) = false := by rw [← Bool.not_eq_true, Nat.beq_eq]; exact fun hh => e (h j r (by simp) hh.symm).symm
      rw [e1, e2]
      exact outW_row (l := l) fun k' r' hm => h k' r' (by simp [hm])
theorem outW_none {σ : Nat → Nat} {K : Nat} : ∀ {l : List (Nat × Row)}, (∀ k' r, (k', r) ∈ l → σ k' ≠ K) → rowOf (outW σ l) K = none
  | [], _ => rfl
  | (j, r) :: l, h => by
    unfold outW rowOf
    have e : Nat.beq K (σ j) = false := by rw [← Bool.not_eq_true, Nat.beq_eq]; exact fun hh => h j r (by simp) hh.symm
    rw [e]
    exact outW_none (l := l) fun k' r' hm => h k' r' (by simp [hm])
theorem mem_outW {σ : Nat → Nat} {q : Nat × Row} : ∀ {l : List (Nat × Row)}, q ∈ outW σ l → ∃ k r, (k, r) ∈ l ∧ q = (σ k, r.ren σ)
  | (j, r) :: l, h => by
    unfold outW at h
    rcases List.mem_cons.1 h with rfl | h
    · exact ⟨j, r, by simp, rfl⟩
    · obtain ⟨k, r', hm, e⟩ := mem_outW h
      exact ⟨k, r', by simp [hm], e⟩
theorem mem_of_rowOf {rw : List (Nat × Row)} {k : Nat} {r : Row} (hm : (k, r) ∈ rw) : ∃ r', rowOf rw k = some r' := by
  induction rw with
  | nil => cases hm
  | cons q rw ih =>
    obtain ⟨j, r0⟩ := q
    unfold rowOf
    by_cases e : k = j
    · subst e; exact ⟨r0, by simp⟩
    · have e1 : Nat.beq k j = false := by rw [← Bool.not_eq_true, Nat.beq_eq]; exact e
      rw [e1]
      rcases List.mem_cons.1 hm with h | h
      · injection h with h; exact absurd h e
      · exact ih h
theorem rowOf_cons {j K : Nat} {r : Row} {wr : List (Nat × Row)} : rowOf ((j, r) :: wr) K = bif Nat.beq K j then some r else rowOf wr K := rfl
theorem putW_row {m : Nat → Option Row} {K : Nat} : ∀ {wr : List (Nat × Row)}, distinctB (wr.map (·.1)) = true → putW m wr K = match rowOf wr K with
    | some r => some r
    | none => m K
  | [], _ => rfl
  | (j, r) :: wr, h => by
    simp only [List.map_cons, distinctB, Bool.and_eq_true] at h
    show putW (putM m j r) wr K = _
    rw [putW_row h.2, rowOf_cons]
    by_cases e : K = j
    · subst e
      have hn : rowOf wr K = none := by
        cases hr : rowOf wr K with
        | none => rfl
        | some r' =>
          have := List.all_eq_true.1 h.1 K (List.mem_map_of_mem (f := Prod.fst) (rowOf_mem hr))
          simp at this
      rw [hn, putM_same]; simp
    · have e1 : Nat.beq K j = false := by rw [← Bool.not_eq_true, Nat.beq_eq]; exact e
      rw [e1, putM_ne _ _ e]; rfl
/-- What a call may leave: rows that it was given, as long as they were; new ones, eight at most. -/
structure Outs (rw0 rw1 : List (Nat × Row)) : Prop where
  lt : ∀ k r, (k, r) ∈ rw1 → k < 16
  old : ∀ k r, (k, r) ∈ rw1 → k < 8 → ∃ r0, rowOf rw0 k = some r0
  len : ∀ k e n f e' n' f', rowOf rw0 k = some (.grow e n f) → rowOf rw1 k = some (.grow e' n' f') → n' = n
  dis : distinctB (rw1.map (·.1)) = true
  own : OwnRws rw1
end Go.Proofs.YtdbiidfgbkmbmaaDoor
