/- The machine of plain values, part E. -/
import Derived.Test.YtldlleoabbcpdaaDoorGD
import Derived.KernelRfl
/- What a call leaves, told to its caller. -/
namespace Go.Proofs.YtldlleoabbcpdaaDoor
open Go.RowKit
def AV.ren (σ : Nat → Nat) : AV → AV
  | .ptr τ k p => .ptr τ (σ k) p
  | .gsl e k l => .gsl e (σ k) l
  | .gsub e k al o l => .gsub e (σ k) al o l
  | .sub et k p o l => .sub et (σ k) p o l
  | .mpt kt et n f j k => .mpt kt et n f j (σ k)
  | .itp k => .itp (σ k)
  | .cmt k => .cmt (σ k)
  | .vmt k => .vmt (σ k)
  | .fvm fr et n f => .fvm fr et n fun i => (f i).ren σ
  | .imm fr et l f => .imm fr et l fun i => (f i).ren σ
  | .agg u l f => .agg u l fun i => (f i).ren σ
  | .tup l f => .tup l fun i => (f i).ren σ
  | a => a
def Row.ren (σ : Nat → Nat) : Row → Row
  | .var τ a => .var τ (a.ren σ)
  | .grow e n f => .grow e n fun i => (f i).ren σ
  | .ob o => .ob o
/-- All that it names is its own, or a row. -/
def Own : AV → Prop
  | .ipt _ _ => False
  | .gpt _ _ _ _ _ _ => False
  | .gcap _ _ _ => False
  | .spt _ _ _ _ _ => False
  | .gspt _ _ _ _ _ => False
  | .blt _ _ => False
  | .clo _ _ _ _ => False
  | .mit _ => False
  | .fmp fr _ _ _ _ _ => fr = true
  | .fvm fr _ n f => fr = true ∧ ∀ i, i < n → Own (f i)
  | .imm fr _ l f => fr = true ∧ ∀ i, i < l → Own (f i)
  | .agg _ l f => ∀ i, i < l → Own (f i)
  | .tup l f => ∀ i, i < l → Own (f i)
  | _ => True
def OwnRow : Row → Prop
  | .var _ a => Own a
  | .grow _ n f => ∀ i, i < n → Own (f i)
  | .ob o => match o with
    | .vm _ n f => ∀ i, i < n → Own (f i)
    | o => o.own = true
def OwnRws : List (Nat × Row) → Prop
  | [] => True
  | (_, r) :: l => OwnRow r ∧ OwnRws l
theorem own_ob {o : Ob} (h : OwnRow (.ob o)) : o.own = true := by
  cases o with
  | vm _ _ _ => rfl
  | _ => exact h
/-- No slice in it is told to be fresh. -/
def NoFr : AV → Prop
  | .blt _ _ => False
  | .ipt _ a => NoFr a
  | .imm fr _ l f => fr = false ∧ ∀ i, i < l → NoFr (f i)
  | .agg _ l f => ∀ i, i < l → NoFr (f i)
  | .tup l f => ∀ i, i < l → NoFr (f i)
  | .clo _ _ n g => ∀ i, i < n → NoFr (g i)
  | .fmp fr _ _ _ _ _ => fr = false
  | .fvm fr _ n f => fr = false ∧ ∀ i, i < n → NoFr (f i)
  | _ => True
def NoFrRow : Row → Prop
  | .var _ a => NoFr a
  | .grow _ n f => ∀ i, i < n → NoFr (f i)
  | .ob o => match o with
    | .vm _ n f => ∀ i, i < n → NoFr (f i)
    | _ => True
def NoFrRws : List (Nat × Row) → Prop
  | [] => True
  | (_, r) :: l => NoFrRow r ∧ NoFrRws l
theorem OwnRws_mem {k : Nat} {r : Row} : ∀ {l : List (Nat × Row)}, OwnRws l → (k, r) ∈ l → OwnRow r
  | (_, _) :: l, h, hm => by
    simp only [List.mem_cons, Prod.mk.injEq] at hm
    rcases hm with ⟨rfl, rfl⟩ | hm
    · exact h.1
    · exact OwnRws_mem h.2 hm
theorem NoFrRws_mem {k : Nat} {r : Row} : ∀ {l : List (Nat × Row)}, NoFrRws l → (k, r) ∈ l → NoFrRow r
  | (_, _) :: l, h, hm => by
    simp only [List.mem_cons, Prod.mk.injEq] at hm
    rcases hm with ⟨rfl, rfl⟩ | hm
    · exact h.1
    · exact NoFrRws_mem h.2 hm
theorem Sh_ren {σ : Nat → Nat} : ∀ {a : AV} {τ : Ty}, Sh τ a → Sh τ (a.ren σ) := by
  intro a
  induction a with
  | agg u l f ih =>
    intro τ h
    obtain ⟨t, rfl, ht⟩ := Sh_agg h
    exact ⟨rfl, rfl, fun i hi => ih i (ht i hi)⟩
  | _ =>
    intro τ h
    cases τ with
    | int k => cases k <;> first | exact h | exact h.elim
    | _ => first | exact h | exact h.elim
theorem Sh_ren' {σ : Nat → Nat} : ∀ {a : AV} {τ : Ty}, Sh τ (a.ren σ) → Sh τ a := by
  intro a
  induction a with
  | agg u l f ih =>
    intro τ h
    obtain ⟨t, rfl, ht⟩ := Sh_agg h
    exact ⟨rfl, rfl, fun i hi => ih i (ht i hi)⟩
  | _ =>
    intro τ h
    cases τ with
    | int k => cases k <;> first | exact h | exact h.elim
    | _ => first | exact h | exact h.elim
/-- The bound of what is fresh may be any, where nothing is told to be fresh. -/
theorem R_fb {c : Cx} {fb : Nat} : ∀ {a : AV} {cs : List Value}, NoFr a → R c a cs → R { c with fb := fb, kp := False } a cs := by
  intro a
  induction a with
  | blt _ _ => exact fun h => h.elim
  | ipt τ a ih =>
    rintro cs hn ⟨b, o, ds, rfl, hlt, hm, hr, hsh, hrg⟩
    exact ⟨b, o, ds, rfl, hlt, hm, ih hn hr, hsh, hrg⟩
  | imm fr et l f ih =>
    rintro cs hn ⟨A, q, rfl, h1, h2, h3⟩
    refine ⟨A, q, rfl, h1, h2, fun hl => ?_⟩
    obtain ⟨b, o, rfl, hlt, hm, hfr, hi⟩ := h3 hl
    refine ⟨b, o, rfl, hlt, hm, (by rw [hn.1]; intro h; cases h), fun i h => ?_⟩
    obtain ⟨hsh, ds, hr, hrg⟩ := hi i h
    exact ⟨hsh, ds, ih i (hn.2 i h) hr, hrg⟩
  | agg u l f ih =>
    rintro cs hn ⟨g, hg, rfl⟩
    exact ⟨g, fun i hi => ih i (hn i hi) (hg i hi), rfl⟩
  | clo f nf n g ih =>
    rintro cs hn ⟨u, rfl, hnn, hg⟩
    exact ⟨u, rfl, hnn, fun i hi => ⟨ih i (hn i hi) (hg i hi).1, (hg i hi).2⟩⟩
  | tup l f ih =>
    rintro cs hn ⟨vs, g, rfl, hsz, hg⟩
    exact ⟨vs, g, rfl, hsz, fun i hi => ⟨ih i (hn i hi) (hg i hi).1, (hg i hi).2⟩⟩
  | fvm fr et n f ih =>
    rintro cs hn ⟨b, es, clock, rfl, hlt, hm, hfr, hh, hsz, hup, hdn⟩
    exact ⟨b, es, clock, rfl, hlt, hm, (by rw [hn.1]; intro h; cases h), hh, hsz, fun e he => by
      obtain ⟨i, hi, hk, hr, hv⟩ := hup e he
      exact ⟨i, hi, hk, ih i (hn.2 i hi) hr, hv⟩, hdn⟩
  | fmp fr kt et n f d =>
    rintro cs hn ⟨b, es, clock, rfl, hlt, hm, hfr, hh, hok⟩
    exact ⟨b, es, clock, rfl, hlt, hm, (by rw [show fr = false from hn]; intro h; cases h), hh, hok⟩
  | _ => exact fun _ h => h
theorem RV_fb {c : Cx} {fb : Nat} {a : AV} {v : Value} (hn : NoFr a) (h : RV c a v) : RV { c with fb := fb, kp := False } a v := by
  cases a with
  | junk => trivial
  | agg u l f =>
    obtain ⟨cs, rfl, hr⟩ := h
    exact ⟨cs, rfl, R_fb hn hr⟩
  | _ => exact R_fb (a := _) hn h
theorem RowOK_fb {c : Cx} {fb : Nat} {k : Nat} {r : Row} (hn : NoFrRow r) (h : RowOK c k r) : RowOK { c with fb := fb, kp := False } k r := by
  cases r with
  | var τ a =>
    obtain ⟨b, cs, t, h1, h2, h3, h4⟩ := h
    exact ⟨b, cs, t, h1, h2, R_fb hn h3, h4⟩
  | grow e n f =>
    obtain ⟨g, h1, h2, h3⟩ := h
    exact ⟨g, h1, h2, fun i hi => ⟨R_fb (hn i hi) (h3 i hi).1, (h3 i hi).2⟩⟩
  | ob o =>
    obtain ⟨b, x, h1, h2, h3⟩ := h
    refine ⟨b, x, h1, h2, ?_⟩
    cases o with
    | vm et n f =>
      obtain ⟨es, clock, rfl, hsz, hup, hdn⟩ := h3
      exact ⟨es, clock, rfl, hsz, fun e he => by
        obtain ⟨i, hi, hk, hr, hv⟩ := hup e he
        exact ⟨i, hi, hk, R_fb (hn i hi) hr, hv⟩, hdn⟩
    | mp _ _ _ _ _ => exact h3
    | it _ _ => exact h3
    | cnt _ => exact h3
    | put _ => exact h3
    | mi _ _ _ _ _ _ _ _ =>
      rcases h3 with h3 | ⟨mb, es, clock, sa, rfl, hlt, hmu, hh, hok⟩
      · exact .inl h3
      · exact .inr ⟨mb, es, clock, sa, rfl, hlt, hmu, hh, hok⟩
/-- Names of the callee's as the caller's. -/
def sig (ρ0 : Nat → Option Nat) (key k : Nat) : Nat := bif Nat.blt k 8 then (ρ0 k).getD 0 else key + (k - 8)
def outW (σ : Nat → Nat) : List (Nat × Row) → List (Nat × Row)
  | [] => []
  | (k, r) :: l => (σ k, r.ren σ) :: outW σ l
theorem outW_row {σ : Nat → Nat} {k : Nat} : ∀ {l : List (Nat × Row)}, (∀ k' r, (k', r) ∈ l → σ k' = σ k → k' = k) → rowOf (outW σ l) (σ k) = (rowOf l k).map (Row.ren σ)
  | [], _ => rfl
  | (j, r) :: l, h => by
    unfold outW rowOf
    by_cases e : k = j
    · subst e; simp
    · have e1 : Nat.beq k j = false := by rw [← Bool.not_eq_true, Nat.beq_eq]; exact e
      have e2 : Nat.beq (σ k) (σ j) = false := by rw [← Bool.not_eq_true, Nat.beq_eq]; exact fun hh => e (h j r (by simp) hh.symm).symm
      rw [e1, e2]
      exact outW_row (l := l) fun k' r' hm => h k' r' (by simp [hm])
theorem outW_none {σ : Nat → Nat} {K : Nat} : ∀ {l : List (Nat × Row)}, (∀ k' r, (k', r) ∈ l → σ k' ≠ K) → rowOf (outW σ l) K = none
  | [], _ => rfl
  | (j, r) :: l, h => by
    unfold outW rowOf
    have e : Nat.beq K (σ j) = false := by rw [← Bool.not_eq_true, Nat.beq_eq]; exact fun hh => h j r (by simp) hh.symm
    rw [e]
    exact outW_none (l := l) fun k' r' hm => h k' r' (by simp [hm])
theorem mem_outW {σ : Nat → Nat} {q : Nat × Row} : ∀ {l : List (Nat × Row)}, q ∈ outW σ l → ∃ k r, (k, r) ∈ l ∧ q = (σ k, r.ren σ)
  | (j, r) :: l, h => by
    unfold outW at h
    rcases List.mem_cons.1 h with rfl | h
    · exact ⟨j, r, by simp, rfl⟩
    · obtain ⟨k, r', hm, e⟩ := mem_outW h
      exact ⟨k, r', by simp [hm], e⟩
theorem mem_of_rowOf {rw : List (Nat × Row)} {k : Nat} {r : Row} (hm : (k, r) ∈ rw) : ∃ r', rowOf rw k = some r' := by
  induction rw with
  | nil => cases hm
  | cons q rw ih =>
    obtain ⟨j, r0⟩ := q
    unfold rowOf
    by_cases e : k = j
    · subst e; exact ⟨r0, by simp⟩
    · have e1 : Nat.beq k j = false := by rw [← Bool.not_eq_true, Nat.beq_eq]; exact e
      rw [e1]
      rcases List.mem_cons.1 hm with h | h
      · injection h with h; exact absurd h e
      · exact ih h
theorem rowOf_cons {j K : Nat} {r : Row} {wr : List (Nat × Row)} : rowOf ((j, r) :: wr) K = bif Nat.beq K j then some r else rowOf wr K := rfl
theorem putW_row {m : Nat → Option Row} {K : Nat} : ∀ {wr : List (Nat × Row)}, (∀ q ∈ wr, q.2.abs = true) → distinctB (wr.map (·.1)) = true → putW m wr K = match rowOf wr K with
    | some r => some r
    | none => m K
  | [], _, _ => rfl
  | (j, r) :: wr, ha, h => by
    simp only [List.map_cons, distinctB, Bool.and_eq_true] at h
    show putW (putM m j r) wr K = _
    rw [putW_row (fun q hq => ha q (by simp [hq])) h.2, rowOf_cons]
    by_cases e : K = j
    · subst e
      have hn : rowOf wr K = none := by
        cases hr : rowOf wr K with
        | none => rfl
        | some r' =>
          have := List.all_eq_true.1 h.1 K (List.mem_map_of_mem (f := Prod.fst) (rowOf_mem hr))
          simp at this
      rw [hn, putM_same _ _ _ (ha (K, r) (by simp))]; simp
    · have e1 : Nat.beq K j = false := by rw [← Bool.not_eq_true, Nat.beq_eq]; exact e
      rw [e1, putM_ne _ _ e]; rfl
/-- What a call may leave: rows that it was given, as long as they were; new ones, eight at most. -/
structure Outs (rw0 rw1 : List (Nat × Row)) : Prop where
  lt : ∀ k r, (k, r) ∈ rw1 → k < 16
  old : ∀ k r, (k, r) ∈ rw1 → k < 8 → ∃ r0, rowOf rw0 k = some r0
  len : ∃ g, ∀ k e n f e' n' f', k ≠ g → rowOf rw0 k = some (.grow e n f) → rowOf rw1 k = some (.grow e' n' f') → n' = n
  dis : distinctB (rw1.map (·.1)) = true
  own : OwnRws rw1
end Go.Proofs.YtldlleoabbcpdaaDoor
/- The caller's memory behind a call. -/
namespace Go.Proofs.YtldlleoabbcpdaaDoor
open Go.RowKit
def Cx.given (c : Cx) (rw0 : List (Nat × Row)) (ρ0 : Nat → Option Nat) : Cx := { c.named rw0 ρ0 with fb := c.w.heap.size, kp := False }
/-- The name that a row was handed in by. -/
def backN (rw0 : List (Nat × Row)) (ρ0 : Nat → Option Nat) (K : Nat) : Option Nat := (List.range 8).find? fun k => (rowOf rw0 k).isSome && (ρ0 k == some K)
theorem backN_is {rw0 : List (Nat × Row)} {ρ0 : Nat → Option Nat} {K k : Nat} (h : backN rw0 ρ0 K = some k) : ∃ r, rowOf rw0 k = some r ∧ ρ0 k = some K := by
  have := List.find?_some h
  simp only [Bool.and_eq_true, beq_iff_eq] at this
  obtain ⟨r, hr⟩ := Option.isSome_iff_exists.1 this.1
  exact ⟨r, hr, this.2⟩
theorem backN_of {rw0 : List (Nat × Row)} {ρ0 : Nat → Option Nat} {K k : Nat} {r : Row} (hi : injB (rw0.map (·.1)) ρ0 = true) (h8 : k < 8) (h0 : rowOf rw0 k = some r) (hρ : ρ0 k = some K) : backN rw0 ρ0 K = some k := by
  cases h : backN rw0 ρ0 K with
  | none =>
    have := List.find?_eq_none.1 h k (List.mem_range.2 h8)
    simp [h0, hρ] at this
  | some k' =>
    obtain ⟨r', h1, h2⟩ := backN_is h
    exact congrArg some (inj_of hi (List.mem_map_of_mem (f := Prod.fst) (rowOf_mem h1)) (List.mem_map_of_mem (f := Prod.fst) (rowOf_mem h0)) h2 hρ)
def Cx.merged (c c2 : Cx) (rw0 : List (Nat × Row)) (ρ0 : Nat → Option Nat) (key : Nat) (rw1 : List (Nat × Row)) : Cx :=
  { c with
    Mu := fun b => (c.Mu b ∧ b < c.w.heap.size) ∨ c2.Mu b
    m := putW c.m (outW (sig ρ0 key) rw1)
    bl := fun k => if key ≤ k ∧ k < key + 8 then c2.bl (8 + (k - key)) else match backN rw0 ρ0 k with
      | some j => c2.bl j
      | none => c.bl k
    sv := fun k => if key ≤ k ∧ k < key + 8 then c2.sv (8 + (k - key)) else match backN rw0 ρ0 k with
      | some j => c2.sv j
      | none => c.sv k
    w := c2.w }
/-- What is known where a call comes back. -/
structure Back2 (c c2 : Cx) (rw0 rw1 : List (Nat × Row)) (ρ0 : Nat → Option Nat) (key : Nat) : Prop where
  hm : MemOK c
  bs : c.fb ≤ c.w.heap.size
  inj : injB (rw0.map (·.1)) ρ0 = true
  lt8 : ∀ k r, rowOf rw0 k = some r → k < 8
  le : LeRw c.m c.ty rw0 ρ0 rw0
  m2 : MemOK c2
  st : Stab (c.given rw0 ρ0) c2
  base : c2.base = c.base
  fb : c2.fb = c.w.heap.size
  m : c2.m = rowOf rw1
  low : Below c.base c.w c2.w
  out : Outs rw0 rw1
  fr : ∀ j, key ≤ j → j < key + 8 → c.m j = none
section
variable {c c2 : Cx} {rw0 rw1 : List (Nat × Row)} {ρ0 : Nat → Option Nat} {key : Nat}
theorem Back2.old (h : Back2 c c2 rw0 rw1 ρ0 key) {k : Nat} {r : Row} (hk : rowOf rw0 k = some r) : (∃ r', rowOf rw1 k = some r') ∧ ((∃ K r', ρ0 k = some K ∧ c.m K = some r') ∨ ρ0 k = none) := by
  have hg : (c.given rw0 ρ0).m k = some r := hk
  refine ⟨?_, ?_⟩
  · rw [← h.m]
    cases r with
    | var τ a => obtain ⟨⟨a', h1⟩, _⟩ := h.st.var k τ a hg; exact ⟨_, h1⟩
    | grow e n f => obtain ⟨n', f', h1, _⟩ := h.st.grow k e n f hg; exact ⟨_, h1⟩
    | ob o => obtain ⟨⟨o', h1, _⟩, _⟩ := h.st.ob k o hg; exact ⟨_, h1⟩
  · have hle := LeRw_mem h.le (rowOf_mem hk)
    unfold LeRow at hle
    cases hρ : ρ0 k with
    | none => exact .inr rfl
    | some K =>
      rw [hρ] at hle
      cases hc : c.m K with
      | none => simp only [hc] at hle
      | some r' => exact .inl ⟨K, r', rfl, hc⟩
end
/-- Nothing is given that isn't there. -/
def SomeB (rw0 : List (Nat × Row)) (ρ0 : Nat → Option Nat) : Prop := ∀ k r, rowOf rw0 k = some r → ∃ K, ρ0 k = some K
section
variable {c c2 : Cx} {rw0 rw1 : List (Nat × Row)} {ρ0 : Nat → Option Nat} {key : Nat}
theorem sig_new (k : Nat) (h : 8 ≤ k) : sig ρ0 key k = key + (k - 8) := by
  have : Nat.blt k 8 = false := by rw [← Bool.not_eq_true, Nat.blt_eq]; omega
  simp [sig, this]
theorem sig_old {k K : Nat} (h : k < 8) (hK : ρ0 k = some K) : sig ρ0 key k = K := by
  have : Nat.blt k 8 = true := by rw [Nat.blt_eq]; exact h
  simp [sig, this, hK]
/-- Where a name stands for. -/
theorem Back2.img (h : Back2 c c2 rw0 rw1 ρ0 key) (hS : SomeB rw0 ρ0) {k : Nat} {r : Row} (hk : (k, r) ∈ rw1) :
    (8 ≤ k ∧ k < 16 ∧ sig ρ0 key k = key + (k - 8)) ∨ (k < 8 ∧ ∃ K r0 r', ρ0 k = some K ∧ sig ρ0 key k = K ∧ rowOf rw0 k = some r0 ∧ c.m K = some r' ∧ ¬ (key ≤ K ∧ K < key + 8)) := by
  rcases Nat.lt_or_ge k 8 with h8 | h8
  · obtain ⟨r0, h0⟩ := h.out.old k r hk h8
    obtain ⟨K, hK⟩ := hS k r0 h0
    rcases (h.old h0).2 with ⟨K', r', h1, h2⟩ | h1
    · rw [hK] at h1; injection h1 with h1; subst h1
      refine .inr ⟨h8, K, r0, r', hK, sig_old h8 hK, h0, h2, fun hh => ?_⟩
      rw [h.fr K hh.1 hh.2] at h2; cases h2
    · rw [hK] at h1; cases h1
  · exact .inl ⟨h8, h.out.lt k r hk, sig_new k h8⟩
theorem Back2.sinj (h : Back2 c c2 rw0 rw1 ρ0 key) (hS : SomeB rw0 ρ0) {k k' : Nat} {r r' : Row} (h1 : (k, r) ∈ rw1) (h2 : (k', r') ∈ rw1) (e : sig ρ0 key k = sig ρ0 key k') : k = k' := by
  rcases h.img hS h1 with ⟨a1, a2, a3⟩ | ⟨a1, K, r0, q, a2, a3, a4, a5, a6⟩
  · rcases h.img hS h2 with ⟨b1, b2, b3⟩ | ⟨b1, K', r0', q', b2, b3, b4, b5, b6⟩
    · omega
    · exfalso; apply b6; omega
  · rcases h.img hS h2 with ⟨b1, b2, b3⟩ | ⟨b1, K', r0', q', b2, b3, b4, b5, b6⟩
    · exfalso; apply a6; omega
    · have : K = K' := by rw [← a3, ← b3]; exact e
      subst this
      exact inj_of h.inj (List.mem_map_of_mem (f := Prod.fst) (rowOf_mem a4)) (List.mem_map_of_mem (f := Prod.fst) (rowOf_mem b4)) a2 b2
theorem distinct_of {ks : List Nat} {σ : Nat → Nat} (h : distinctB ks = true) (hi : ∀ k k', k ∈ ks → k' ∈ ks → σ k = σ k' → k = k') : distinctB (ks.map σ) = true := by
  induction ks with
  | nil => rfl
  | cons k ks ih =>
    simp only [List.map_cons, distinctB, Bool.and_eq_true] at h ⊢
    refine ⟨List.all_eq_true.2 fun j hj => ?_, ih h.2 fun a b ha hb => hi a b (by simp [ha]) (by simp [hb])⟩
    obtain ⟨q, hq, rfl⟩ := List.mem_map.1 hj
    have h1 := List.all_eq_true.1 h.1 q hq
    have hne : k ≠ q := fun e => by subst e; simp at h1
    have : Nat.beq (σ k) (σ q) = false := by rw [← Bool.not_eq_true, Nat.beq_eq]; exact fun e => hne (hi k q (by simp) (by simp [hq]) e)
    rw [this]; rfl
theorem outW_keys {σ : Nat → Nat} : ∀ {l : List (Nat × Row)}, (outW σ l).map (·.1) = (l.map (·.1)).map σ
  | [] => rfl
  | (k, r) :: l => by show σ k :: _ = _; rw [outW_keys]; rfl
theorem abs_ren {σ : Nat → Nat} {r : Row} : (r.ren σ).abs = r.abs := by cases r <;> rfl
theorem own_abs {r : Row} (h : OwnRow r) : r.abs = true := by
  cases r with
  | ob o => exact own_abs' (own_ob h)
  | _ => rfl
theorem outW_abs {σ : Nat → Nat} : ∀ {l : List (Nat × Row)}, OwnRws l → ∀ q ∈ outW σ l, q.2.abs = true
  | [], _, q, hq => by cases hq
  | (k, r) :: l, h, q, hq => by
    rcases List.mem_cons.1 hq with rfl | hq
    · exact abs_ren.trans (own_abs h.1)
    · exact outW_abs h.2 q hq
theorem Back2.dis (h : Back2 c c2 rw0 rw1 ρ0 key) (hS : SomeB rw0 ρ0) : distinctB ((outW (sig ρ0 key) rw1).map (·.1)) = true := by
  rw [outW_keys]
  refine distinct_of h.out.dis fun k k' h1 h2 e => ?_
  obtain ⟨⟨q, r⟩, hq, rfl⟩ := List.mem_map.1 h1
  obtain ⟨⟨q', r'⟩, hq', rfl⟩ := List.mem_map.1 h2
  exact h.sinj hS hq hq' e
/-- The rows that were handed back. -/
theorem Back2.at_img (h : Back2 c c2 rw0 rw1 ρ0 key) (hS : SomeB rw0 ρ0) {k : Nat} {r : Row} (hk : c2.m k = some r) :
    (c.merged c2 rw0 ρ0 key rw1).m (sig ρ0 key k) = some (r.ren (sig ρ0 key)) ∧ (c.merged c2 rw0 ρ0 key rw1).bl (sig ρ0 key k) = c2.bl k ∧ (c.merged c2 rw0 ρ0 key rw1).sv (sig ρ0 key k) = c2.sv k := by
  rw [h.m] at hk
  have hmem := rowOf_mem hk
  refine ⟨?_, ?_, ?_⟩
  · show putW c.m (outW (sig ρ0 key) rw1) (sig ρ0 key k) = _
    rw [putW_row (outW_abs h.out.own) (h.dis hS), outW_row fun k' r' hm e => h.sinj hS hm hmem e, hk]
    rfl
  · show (if _ then _ else _) = _
    rcases h.img hS hmem with ⟨a1, a2, a3⟩ | ⟨a1, K, r0, q, a2, a3, a4, a5, a6⟩
    · rw [if_pos (by omega)]
      congr 1; omega
    · rw [a3, if_neg a6, backN_of h.inj a1 a4 a2]
  · show (if _ then _ else _) = _
    rcases h.img hS hmem with ⟨a1, a2, a3⟩ | ⟨a1, K, r0, q, a2, a3, a4, a5, a6⟩
    · rw [if_pos (by omega)]
      congr 1; omega
    · rw [a3, if_neg a6, backN_of h.inj a1 a4 a2]
theorem Back2.sv_img (h : Back2 c c2 rw0 rw1 ρ0 key) (hS : SomeB rw0 ρ0) {k e n : Nat} {f : Nat → AV} (hk : c2.m k = some (.grow e n f)) : (c.merged c2 rw0 ρ0 key rw1).sv (sig ρ0 key k) = c2.sv k := (h.at_img hS hk).2.2
/-- What was not handed in stays where it was. -/
theorem Back2.blo (h : Back2 c c2 rw0 rw1 ρ0 key) {K : Nat} (hn : ¬ (key ≤ K ∧ K < key + 8)) (hr : ∀ k r, (k, r) ∈ rw1 → sig ρ0 key k ≠ K) : (c.merged c2 rw0 ρ0 key rw1).bl K = c.bl K ∧ (c.merged c2 rw0 ρ0 key rw1).sv K = c.sv K := by
  have hb : backN rw0 ρ0 K = none := by
    cases hb : backN rw0 ρ0 K with
    | none => rfl
    | some k =>
      obtain ⟨r, h1, h2⟩ := backN_is hb
      obtain ⟨⟨r1, h5⟩, _⟩ := h.old h1
      exact (hr k r1 (rowOf_mem h5) (sig_old (h.lt8 k r h1) h2)).elim
  refine ⟨?_, ?_⟩
  · show (if _ then _ else _) = _
    rw [if_neg hn, hb]
  · show (if _ then _ else _) = _
    rw [if_neg hn, hb]
/-- The other rows. -/
theorem Back2.at_old (h : Back2 c c2 rw0 rw1 ρ0 key) (hS : SomeB rw0 ρ0) {K : Nat} (hn : ∀ k r, (k, r) ∈ rw1 → sig ρ0 key k ≠ K) : (c.merged c2 rw0 ρ0 key rw1).m K = c.m K := by
  show putW c.m (outW (sig ρ0 key) rw1) K = _
  rw [putW_row (outW_abs h.out.own) (h.dis hS), outW_none hn]
theorem Back2.cases (h : Back2 c c2 rw0 rw1 ρ0 key) (hS : SomeB rw0 ρ0) {K : Nat} {r : Row} (hk : (c.merged c2 rw0 ρ0 key rw1).m K = some r) :
    (∃ k r1, c2.m k = some r1 ∧ sig ρ0 key k = K ∧ r = r1.ren (sig ρ0 key)) ∨ ((∀ k r, (k, r) ∈ rw1 → sig ρ0 key k ≠ K) ∧ c.m K = some r ∧ ¬ (key ≤ K ∧ K < key + 8)) := by
  by_cases e : ∃ k r, (k, r) ∈ rw1 ∧ sig ρ0 key k = K
  · obtain ⟨k, r0, hm, rfl⟩ := e
    obtain ⟨r1, h1⟩ := mem_of_rowOf hm
    rw [← h.m] at h1
    have := (h.at_img hS h1).1
    rw [hk] at this; injection this with this
    exact .inl ⟨k, r1, h1, rfl, this⟩
  · have hn : ∀ k r, (k, r) ∈ rw1 → sig ρ0 key k ≠ K := fun k r hm he => e ⟨k, r, hm, he⟩
    rw [h.at_old hS hn] at hk
    exact .inr ⟨hn, hk, fun hh => by rw [h.fr K hh.1 hh.2] at hk; cases hk⟩
/-- What was said in the callee's words, in the caller's. -/
theorem Back2.R (h : Back2 c c2 rw0 rw1 ρ0 key) (hS : SomeB rw0 ρ0) : ∀ {a : AV} {cs : List Value}, Own a → R c2 a cs → R (c.merged c2 rw0 ρ0 key rw1) (a.ren (sig ρ0 key)) cs := by
  intro a
  induction a with
  | ptr τ k p =>
    rintro cs _ ⟨τ0, a0, b, h1, h2, h3, h4, rfl⟩
    obtain ⟨g1, g2, _⟩ := h.at_img hS h1
    exact ⟨τ0, _, b, g1, g2.trans h2, h3, h4, rfl⟩
  | gsl e k l =>
    rintro cs _ ⟨n, f, A, q, h1, h2, rfl, h3, h4, h5, h6⟩
    obtain ⟨g1, g2, _⟩ := h.at_img hS h1
    exact ⟨n, _, A, q, g1, h2, rfl, h3, h4, h5, fun e => (h.sv_img hS h1).trans (h6 e)⟩
  | gsub e k al o l =>
    rintro cs _ ⟨n, f, A, q, h1, h2, rfl, h3, h4, h5, h6⟩
    obtain ⟨g1, g2, _⟩ := h.at_img hS h1
    refine ⟨n, _, A, q, g1, h2, rfl, h3, h4, h5, fun hl => ?_⟩
    obtain ⟨ad, ea, hd⟩ := h6 hl
    refine ⟨ad, ea, fun hn => ?_⟩
    obtain ⟨b, hb, hd⟩ := hd hn
    refine ⟨b, g2.trans hb, ?_⟩
    rw [hd]
    have ht : c2.ty = c.ty := h.st.ty
    rw [ht]; rfl
  | imm fr et l f ih =>
    rintro cs ⟨hfr, hn⟩ ⟨A, q, rfl, h1, h2, h3⟩
    refine ⟨A, q, rfl, h1, h2, fun hl => ?_⟩
    obtain ⟨b, o, rfl, hlt, hmu, hbb, hi⟩ := h3 hl
    have hb := hbb hfr
    rw [h.fb] at hb
    refine ⟨b, o, rfl, hlt, fun hh => ?_, fun _ => Nat.le_trans h.bs hb, fun i hi' => ?_⟩
    · rcases hh with ⟨_, hh⟩ | hh
      · omega
      · exact hmu hh
    · obtain ⟨hsh, ds, hr, hrg⟩ := hi i hi'
      exact ⟨Sh_ren hsh, ds, ih i (hn i hi') hr, hrg⟩
  | agg u l f ih =>
    rintro cs hn ⟨g, hg, rfl⟩
    exact ⟨g, fun i hi => ih i (hn i hi) (hg i hi), rfl⟩
  | tup l f ih =>
    rintro cs hn ⟨vs, g, rfl, hsz, hg⟩
    refine ⟨vs, g, rfl, hsz, fun i hi => ⟨ih i (hn i hi) (hg i hi).1, ?_⟩⟩
    obtain ⟨_, v, hv, hmt⟩ := hg i hi
    refine ⟨v, hv, ?_⟩
    have hgoal : ∀ a : AV, (match a with | .agg _ _ _ => v = .agg (g i).toArray | .junk => True | _ => g i = [v]) → (match a.ren (sig ρ0 key) with | .agg _ _ _ => v = .agg (g i).toArray | .junk => True | _ => g i = [v]) := fun a h => by
      cases a <;> exact h
    exact hgoal (f i) hmt
  | ipt _ _ _ => exact fun h => h.elim
  | gpt _ _ _ _ _ _ => exact fun h => h.elim
  | gcap _ _ _ => exact fun h => h.elim
  | sub et k p o l =>
    rintro cs _ ⟨τ, a, b, n, g, A, q, h1, h2, h3, h4, h5, h6, rfl, h7, h8, h9⟩
    obtain ⟨g1, g2, _⟩ := h.at_img hS h1
    exact ⟨τ, _, b, n, g, A, q, g1, g2.trans h2, h3, h4, h5, h6, rfl, h7, h8, h9⟩
  | spt _ _ _ _ _ => exact fun h => h.elim
  | gspt _ _ _ _ _ => exact fun h => h.elim
  | blt _ _ => exact fun h => h.elim
  | clo _ _ _ _ => exact fun h => h.elim
  | mit _ => exact fun h => h.elim
  | vmt k =>
    rintro cs _ ⟨et, n, f, b, h1, h2, rfl⟩
    obtain ⟨g1, g2, _⟩ := h.at_img hS h1
    exact ⟨et, n, f, b, g1, g2.trans h2, rfl⟩
  | fvm fr et n f ih =>
    rintro cs ⟨hfr, hn⟩ ⟨b, es, clock, rfl, hlt, hmu, hbb, hh, hsz, hup, hdn⟩
    have hb := hbb hfr
    rw [h.fb] at hb
    refine ⟨b, es, clock, rfl, hlt, fun hq => ?_, fun _ => Nat.le_trans h.bs hb, hh, hsz, fun e he => ?_, fun i hi => ⟨Sh_ren (hdn i hi).1, (hdn i hi).2⟩⟩
    · rcases hq with ⟨_, hq⟩ | hq
      · omega
      · exact hmu hq
    · obtain ⟨i, hi, hk, hr, hv⟩ := hup e he
      exact ⟨i, hi, hk, ih i (hn i hi) hr, hv⟩
  | fmp fr kt et n f d =>
    rintro cs hfr ⟨b, es, clock, rfl, hlt, hmu, hbb, hh, hok⟩
    have hb := hbb hfr
    rw [h.fb] at hb
    refine ⟨b, es, clock, rfl, hlt, fun hq => ?_, fun _ => Nat.le_trans h.bs hb, hh, hok⟩
    rcases hq with ⟨_, hq⟩ | hq
    · omega
    · exact hmu hq
  | mpt kt et n f j k =>
    rintro cs _ ⟨d, b, h1, h2, rfl⟩
    obtain ⟨g1, g2, _⟩ := h.at_img hS h1
    exact ⟨d, b, g1, g2.trans h2, rfl⟩
  | cmt k =>
    rintro cs _ ⟨n, b, h1, h2, rfl⟩
    obtain ⟨g1, g2, _⟩ := h.at_img hS h1
    exact ⟨n, b, g1, g2.trans h2, rfl⟩
  | itp k =>
    rintro cs _ ⟨s, pos, b, h1, h2, rfl⟩
    obtain ⟨g1, g2, _⟩ := h.at_img hS h1
    exact ⟨s, pos, b, g1, g2.trans h2, rfl⟩
  | _ => exact fun _ h => h
theorem Back2.RV (h : Back2 c c2 rw0 rw1 ρ0 key) (hS : SomeB rw0 ρ0) {a : AV} {v : Value} (hn : Own a) (hr : RV c2 a v) : RV (c.merged c2 rw0 ρ0 key rw1) (a.ren (sig ρ0 key)) v := by
  cases a with
  | junk => trivial
  | agg u l f =>
    obtain ⟨cs, rfl, hr⟩ := hr
    exact ⟨cs, rfl, h.R hS hn hr⟩
  | _ => exact h.R hS (a := _) hn hr
theorem Back2.given_mu (h : Back2 c c2 rw0 rw1 ρ0 key) {b : Nat} (hb : (c.given rw0 ρ0).Mu b) : ∃ k K r r', rowOf rw0 k = some r ∧ ρ0 k = some K ∧ c.m K = some r' ∧ c.bl K = some b := by
  obtain ⟨k', r', k, r, h1, h2, h3, h4⟩ := named_mu (c := c) (rw := rw0) (ρ := ρ0) h.hm h.le (b := b) hb
  exact ⟨k', k, r', r, h1, h2, h3, h4⟩
theorem Back2.heap (h : Back2 c c2 rw0 rw1 ρ0 key) {K : Nat} {r : Row} {b : Nat} (hn : ∀ k r, (k, r) ∈ rw1 → sig ρ0 key k ≠ K) (hk : c.m K = some r) (hb : c.bl K = some b) : ¬ c2.Mu b ∧ c2.w.heap[b]? = c.w.heap[b]? := by
  have hlt := row_lt (h.hm.rows K r hk) hb
  refine (fun q => ⟨(h.st.old b hlt q).1, (h.st.old b hlt q).2.2 (.inl hlt)⟩ : ¬ (c.given rw0 ρ0).Mu b → _) fun hmu => ?_
  obtain ⟨k, K', r0, r', h1, h2, h3, h4⟩ := h.given_mu hmu
  have := h.hm.inj K K' r r' b hk h3 hb h4
  subst this
  obtain ⟨⟨r1, h5⟩, _⟩ := h.old h1
  exact hn k r1 (rowOf_mem h5) (sig_old (h.lt8 k r0 h1) h2)
theorem Back2.stab (h : Back2 c c2 rw0 rw1 ρ0 key) (hS : SomeB rw0 ρ0) : Stab c (c.merged c2 rw0 ρ0 key rw1) := by
  have img : ∀ K r, c.m K = some r → (∃ k r1, (k, r1) ∈ rw1 ∧ sig ρ0 key k = K) → ∃ k r0 r1, k < 8 ∧ ρ0 k = some K ∧ sig ρ0 key k = K ∧ rowOf rw0 k = some r0 ∧ c2.m k = some r1 := by
    rintro K r hk ⟨k, r1, hm, rfl⟩
    rcases h.img hS hm with ⟨a1, a2, a3⟩ | ⟨a1, K, r0, q, a2, a3, a4, a5, a6⟩
    · rw [a3, h.fr _ (by omega) (by omega)] at hk; cases hk
    · obtain ⟨r', hr'⟩ := mem_of_rowOf hm
      exact ⟨k, r0, r', a1, by rw [a3]; exact a2, rfl, a4, by rw [h.m]; exact hr'⟩
  refine ⟨rfl, Nat.le_refl _, rfl, fun K τ a hk => ?_, fun K e n f hk => ?_, fun K o hk => ?_, fun b hb hmu => ?_, h.low.size⟩
  · by_cases e : ∃ k r1, (k, r1) ∈ rw1 ∧ sig ρ0 key k = K
    · obtain ⟨k, r0, r1, h8, hρ, hs, h0, h1⟩ := img K _ hk e
      have hle := LeRw_mem h.le (rowOf_mem h0)
      unfold LeRow at hle
      rw [hρ] at hle; simp only [hk] at hle
      cases r0 with
      | grow _ _ _ => exact hle.elim
      | ob _ => exact hle.elim
      | var τ' a' =>
        obtain ⟨rfl, _⟩ := hle
        obtain ⟨⟨a2, h2⟩, h2b⟩ := h.st.var k τ a' h0
        obtain ⟨g1, g2, _⟩ := h.at_img hS h2
        rw [hs] at g1 g2
        exact ⟨⟨_, g1⟩, g2.trans (h2b.trans (show (ρ0 k).bind c.bl = c.bl K by rw [hρ]; rfl))⟩
    · have hn : ∀ k r, (k, r) ∈ rw1 → sig ρ0 key k ≠ K := fun k r hm he => e ⟨k, r, hm, he⟩
      exact ⟨⟨a, (h.at_old hS hn).trans hk⟩, (h.blo (fun hh => by rw [h.fr K hh.1 hh.2] at hk; cases hk) hn).1⟩
  · have hb : (∀ k r, (k, r) ∈ rw1 → sig ρ0 key k ≠ K) → (c.merged c2 rw0 ρ0 key rw1).sv K = c.sv K ∧ (c.merged c2 rw0 ρ0 key rw1).bl K = c.bl K := fun hn =>
      (h.blo (fun hh => by rw [h.fr K hh.1 hh.2] at hk; cases hk) hn).symm
    by_cases e : ∃ k r1, (k, r1) ∈ rw1 ∧ sig ρ0 key k = K
    · obtain ⟨k, r0, r1, h8, hρ, hs, h0, h1⟩ := img K _ hk e
      have hle := LeRw_mem h.le (rowOf_mem h0)
      unfold LeRow at hle
      rw [hρ] at hle; simp only [hk] at hle
      cases r0 with
      | var _ _ => exact hle.elim
      | ob _ => exact hle.elim
      | grow e' n' f' =>
        obtain ⟨rfl, rfl, _⟩ := hle
        obtain ⟨n2, f2, h2, h3, h4⟩ := h.st.grow k _ n f' h0
        obtain ⟨g1, g2, g3⟩ := h.at_img hS h2
        rw [hs] at g1 g2 g3
        refine ⟨n2, _, g1, h3, fun en => ?_⟩
        obtain ⟨i1, i2⟩ := h4 en
        exact ⟨g3.trans (i1.trans (show (match ρ0 k with | some j => c.sv j | none => .slice none 0 0) = c.sv K by rw [hρ])), g2.trans (i2.trans (show (ρ0 k).bind c.bl = c.bl K by rw [hρ]; rfl))⟩
    · have hn : ∀ k r, (k, r) ∈ rw1 → sig ρ0 key k ≠ K := fun k r hm he => e ⟨k, r, hm, he⟩
      exact ⟨n, f, (h.at_old hS hn).trans hk, Nat.le_refl _, fun _ => hb hn⟩
  · have hb : (∀ k r, (k, r) ∈ rw1 → sig ρ0 key k ≠ K) → (c.merged c2 rw0 ρ0 key rw1).bl K = c.bl K := fun hn =>
      (h.blo (fun hh => by rw [h.fr K hh.1 hh.2] at hk; cases hk) hn).1
    by_cases e : ∃ k r1, (k, r1) ∈ rw1 ∧ sig ρ0 key k = K
    · obtain ⟨k, r0, r1, h8, hρ, hs, h0, h1⟩ := img K _ hk e
      have hle := LeRw_mem h.le (rowOf_mem h0)
      unfold LeRow at hle
      rw [hρ] at hle; simp only [hk] at hle
      cases r0 with
      | var _ _ => exact hle.elim
      | grow _ _ _ => exact hle.elim
      | ob o0 =>
        have hle : o = o0 := hle
        subst hle
        obtain ⟨⟨o2, h2, hl⟩, h4⟩ := h.st.ob k _ h0
        obtain ⟨g1, g2, _⟩ := h.at_img hS h2
        rw [hs] at g1 g2
        exact ⟨⟨o2, g1, hl⟩, g2.trans (h4.trans (show (ρ0 k).bind c.bl = c.bl K by rw [hρ]; rfl))⟩
    · have hn : ∀ k r, (k, r) ∈ rw1 → sig ρ0 key k ≠ K := fun k r hm he => e ⟨k, r, hm, he⟩
      exact ⟨⟨o, (h.at_old hS hn).trans hk, .refl⟩, hb hn⟩
  · obtain ⟨h1, h2⟩ := h.st.old b hb fun hh => hmu (mu_old (c := c) (rw := rw0) (ρ := ρ0) h.hm h.le hh)
    refine ⟨fun hh => ?_, h2.1, fun _ => h2.2 (.inl hb)⟩
    rcases hh with ⟨hh, _⟩ | hh
    · exact hmu hh
    · exact h1 hh
theorem R_ren_imd {c : Cx} {σ : Nat → Nat} : ∀ {a : AV} {cs : List Value}, Imd a → R c (a.ren σ) cs → R c a cs := by
  intro a
  induction a with
  | imm fr et l f ih =>
    rintro cs hn ⟨A, q, rfl, h1, h2, h3⟩
    refine ⟨A, q, rfl, h1, h2, fun hl => ?_⟩
    obtain ⟨b, o, rfl, hlt, hm, hfr, hi⟩ := h3 hl
    refine ⟨b, o, rfl, hlt, hm, hfr, fun i h => ?_⟩
    obtain ⟨hsh, ds, hr, hrg⟩ := hi i h
    exact ⟨Sh_ren' hsh, ds, ih i (hn i h) hr, hrg⟩
  | agg u l f ih =>
    rintro cs hn ⟨g, hg, rfl⟩
    exact ⟨g, fun i hi => ih i (forI_at hn i hi) (hg i hi), rfl⟩
  | _ => intro cs hn h; first | exact hn.elim | exact h
theorem Back2.mem (h : Back2 c c2 rw0 rw1 ρ0 key) (hS : SomeB rw0 ρ0) (hty : c2.ty = c.ty) : MemOK (c.merged c2 rw0 ρ0 key rw1) := by
  have hst := h.stab hS
  have blo : ∀ K, ¬ (key ≤ K ∧ K < key + 8) → (∀ k r, (k, r) ∈ rw1 → sig ρ0 key k ≠ K) → (c.merged c2 rw0 ρ0 key rw1).bl K = c.bl K ∧ (c.merged c2 rw0 ρ0 key rw1).sv K = c.sv K := fun K h1 h2 => h.blo h1 h2
  -- a block of what was handed back is no other row's
  have apart : ∀ k r1 K r b, c2.m k = some r1 → (∀ k r, (k, r) ∈ rw1 → sig ρ0 key k ≠ K) → c.m K = some r → c2.bl k = some b → c.bl K = some b → False := by
    intro k r1 K r b h1 hn h2 h3 h4
    exact (h.heap hn h2 h4).1 (h.m2.mu k r1 b h1 h3).1
  refine ⟨fun K r hk => ?_, fun K K' r r' b h1 h2 h3 h4 => ?_, fun K r b hk hb => ?_, h.hm.bf⟩
  · rcases h.cases hS hk with ⟨k, r1, h1, rfl, rfl⟩ | ⟨hn, h1, h2⟩
    · obtain ⟨g1, g2, _⟩ := h.at_img hS h1
      have hown : OwnRow r1 := OwnRws_mem h.out.own (rowOf_mem (by rw [← h.m]; exact h1))
      have hrow := h.m2.rows k r1 h1
      cases r1 with
      | var τ a =>
        obtain ⟨b, cs, t, q1, q2, q3, q4⟩ := hrow
        exact ⟨b, cs, t, g2.trans q1, q2, h.R hS hown q3, Sh_ren q4⟩
      | ob o =>
        obtain ⟨b, y, q1, q2, q3⟩ := hrow
        exact ⟨b, y, g2.trans q1, q2, ObOK_own (own_ob hown) (fun et n f e i hi cs hI hR => by
          subst e
          exact R_ren_imd hI (h.R hS (hown i hi) hR)) q3⟩
      | grow e n f =>
        obtain ⟨g, q1, q2, q3⟩ := hrow
        refine ⟨g, ?_, ?_, fun i hi => ⟨h.R hS (hown i hi) (q3 i hi).1, Sh_ren ?_⟩⟩
        · rw [h.sv_img hS h1]
          show c2.w.ownsRow c.base e (c.ty e).size _ _ _
          rw [← h.base, ← hty]; exact q1
        · rw [h.sv_img hS h1, g2]; exact q2
        · have := (q3 i hi).2; rw [hty] at this; exact this
    · exact RowOK_stab hst (blo K h2 hn).1 (blo K h2 hn).2 rfl (fun b hb => (h.heap hn h1 hb).2) (h.hm.rows K r h1)
  · rcases h.cases hS h1 with ⟨k, q, a1, rfl, rfl⟩ | ⟨hn, a1, a2⟩
    · rcases h.cases hS h2 with ⟨k', q', b1, rfl, rfl⟩ | ⟨hn', b1, b2⟩
      · rw [(h.at_img hS a1).2.1] at h3
        rw [(h.at_img hS b1).2.1] at h4
        rw [h.m2.inj k k' q q' b a1 b1 h3 h4]
      · rw [(h.at_img hS a1).2.1] at h3
        rw [(blo K' b2 hn').1] at h4
        exact (apart k q K' r' b a1 hn' b1 h3 h4).elim
    · rcases h.cases hS h2 with ⟨k', q', b1, rfl, rfl⟩ | ⟨hn', b1, b2⟩
      · rw [(h.at_img hS b1).2.1] at h4
        rw [(blo K a2 hn).1] at h3
        exact (apart k' q' K r b b1 hn a1 h4 h3).elim
      · rw [(blo K a2 hn).1] at h3
        rw [(blo K' b2 hn').1] at h4
        exact h.hm.inj K K' r r' b a1 b1 h3 h4
  · rcases h.cases hS hk with ⟨k, r1, h1, rfl, rfl⟩ | ⟨hn, h1, h2⟩
    · rw [(h.at_img hS h1).2.1] at hb
      have hmu := h.m2.mu k r1 b h1 hb
      rw [h.base] at hmu
      refine ⟨.inr hmu.1, hmu.2.1, fun h8 => ?_⟩
      have hmem := rowOf_mem (show rowOf rw1 k = some r1 by rw [← h.m]; exact h1)
      rcases h.img hS hmem with ⟨a1, a2, a3⟩ | ⟨a1, K, r0, q, a2, a3, a4, a5, a6⟩
      · have := hmu.2.2 a1
        rw [h.fb] at this
        exact Nat.le_trans h.bs this
      · rw [a3] at h8
        rcases Nat.lt_or_ge b c.w.heap.size with hlt | hge
        · -- an old block: it was handed in, by this name
          have hgm : (c.given rw0 ρ0).Mu b := by
            apply Classical.byContradiction
            intro hh
            exact (h.st.old b hlt hh).1 hmu.1
          obtain ⟨k', K', r0', q', b1, b2, b3, b4⟩ := h.given_mu hgm
          have same : k' = k → c.bl K = some b := fun e => by
            subst e
            rw [a2] at b2; injection b2 with b2; subst b2; exact b4
          -- of two names one has not grown, and a row that has not grown has its block
          have stay : ∀ j J x y, rowOf rw0 j = some x → ρ0 j = some J → c.m J = some y → (∀ e n f e' n' f', rowOf rw0 j = some (.grow e n f) → rowOf rw1 j = some (.grow e' n' f') → n' = n) → c2.bl j = c.bl J := by
            intro j J x y j1 j2 j3 j4
            have hbj : (c.given rw0 ρ0).bl j = c.bl J := by show (ρ0 j).bind c.bl = _; rw [j2]; rfl
            have hg : (c.given rw0 ρ0).m j = some x := j1
            cases x with
            | var τ a => rw [(h.st.var j τ a hg).2, hbj]
            | ob o => rw [(h.st.ob j o hg).2, hbj]
            | grow e n f =>
              obtain ⟨n', f', i1, i2, i3⟩ := h.st.grow j e n f hg
              rw [h.m] at i1
              rw [(i3 (j4 _ _ _ _ _ _ j1 i1)).2, hbj]
          obtain ⟨g, hg⟩ := h.out.len
          have hbK : c.bl K = some b := by
            by_cases e : k = g
            · by_cases e' : k' = g
              · exact same (e'.trans e.symm)
              · have h2 := stay k' K' r0' q' b1 b2 b3 fun e n f e1 n1 f1 u v => hg k' e n f e1 n1 f1 e' u v
                obtain ⟨⟨r5, h5⟩, _⟩ := h.old b1
                rw [← h.m] at h5
                exact same (h.m2.inj k' k r5 r1 b h5 h1 (h2.trans b4) hb)
            · rw [← stay k K r0 q a4 a2 a5 fun e0 n f e1 n1 f1 u v => hg k e0 n f e1 n1 f1 e u v]; exact hb
          exact (h.hm.mu K q b a5 hbK).2.2 h8
        · exact Nat.le_trans h.bs hge
    · rw [(blo K h2 hn).1] at hb
      have hmu := h.hm.mu K r b h1 hb
      exact ⟨.inl ⟨hmu.1, row_lt (h.hm.rows K r h1) hb⟩, hmu.2⟩
theorem Back2.step (h : Back2 c c2 rw0 rw1 ρ0 key) (hS : SomeB rw0 ρ0) (hty : c2.ty = c.ty) : Step c (outW (sig ρ0 key) rw1) (c.merged c2 rw0 ρ0 key rw1) :=
  ⟨h.stab hS, h.mem hS hty, rfl, rfl, rfl, h.low, fun _ hb h => .inl ⟨h, hb⟩⟩
end
end Go.Proofs.YtldlleoabbcpdaaDoor
/- A function whose text was walked is known to its callers. -/
namespace Go.Proofs.YtldlleoabbcpdaaDoor
open Go.RowKit
def argT : List AV → Nat → AV
  | [], _ => .und
  | a :: l, i => match i with
    | 0 => a
    | i + 1 => argT l i
def rval (E : Pg) (s : St) (x : ResultVar) (K : AV → Prop) : Prop :=
  match x with
  | .tmp t => K (s.t t)
  | .cell a t => okT (E.ty t) (match s.t a with
    | .ptr τ k p => match s.m k with
      | some (.var _ v) => τ = E.ty t ∧ K (v.at p)
      | _ => False
    | _ => False)
def rvals (E : Pg) (s : St) : List ResultVar → (List AV → Prop) → Prop
  | [], K => K []
  | x :: l, K => rval E s x fun v => rvals E s l fun vs => K (v :: vs)
def tupOf (vs : List AV) : AV :=
  match vs with
  | [v] => v
  | vs => .tup vs.length (fun i => vs.getD i .junk)
def wRes (E : Pg) (s : St) (rs : List ResultVar) (K : AV → Prop) : Prop := rvals E s rs fun vs => K (tupOf vs)
/-- Of the ways out of a text the one that returns. -/
def fin (K : St → Prop) : Exit → St → Prop := fun e s => match e with
  | .ret => K s
  | _ => False
/-- What the caller is handed: e, and the rows rw1, as the callee's state s has them. -/
def Out (E : Pg) (m0 : Nat → Option Row) (s : St) (rw1 : List (Nat × Row)) (a b : AV) : Prop := ∃ ρ, namesB m0 rw1 ρ = true ∧ LeRwW s.m E.ty rw1 ρ rw1 ∧ LeW s.m E.ty rw1 ρ a b
def restr (rd : List Nat) (m : Nat → Option Row) : Nat → Option Row := fun k => bif memN k rd then m k else none
theorem memN_mem {k : Nat} : ∀ {l : List Nat}, memN k l = true → k ∈ l
  | j :: l, h => by
    simp only [memN, Bool.or_eq_true] at h
    rcases h with h | h
    · rw [Nat.eq_of_beq_eq_true h]; exact List.mem_cons_self ..
    · exact List.mem_cons_of_mem _ (memN_mem h)
def LeL (m : Nat → Option Row) (ty : TypeId → Ty) (rw : List (Nat × Row)) (ρ : Nat → Option Nat) : List AV → List AV → Prop
  | [], [] => True
  | a :: l, b :: l' => Le m ty rw ρ a b ∧ LeL m ty rw ρ l l'
  | _, _ => False
def LeLW (m : Nat → Option Row) (ty : TypeId → Ty) (rw : List (Nat × Row)) (ρ : Nat → Option Nat) : List AV → List AV → Prop
  | [], [] => True
  | a :: l, b :: l' => LeW m ty rw ρ a b ∧ LeLW m ty rw ρ l l'
  | _, _ => False
theorem LeLW_of {m : Nat → Option Row} {ty : TypeId → Ty} {rw : List (Nat × Row)} {ρ : Nat → Option Nat} : ∀ {l l' : List AV}, LeLW m ty rw ρ l l' → LeL m ty rw ρ l l'
  | [], [], _ => trivial
  | _ :: _, _ :: _, h => ⟨LeW_of h.1, LeLW_of h.2⟩
def NoFrW : AV → Prop
  | .blt _ _ => False
  | .ipt _ a => NoFrW a
  | .imm fr _ l f => fr = false ∧ ∀ i, i < l → NoFrW (f i)
  | .agg u l f => forI u l fun i => NoFrW (f i)
  | .tup l f => ∀ i, i < l → NoFrW (f i)
  | .clo _ _ n g => allB n fun i => NoFrW (g i)
  | .fmp fr _ _ _ _ _ => fr = false
  | .fvm fr _ n f => fr = false ∧ ∀ i, i < n → NoFrW (f i)
  | _ => True
theorem NoFrW_of : ∀ {a : AV}, NoFrW a → NoFr a := by
  intro a
  induction a with
  | ipt τ a ih => exact ih
  | imm fr et l f ih => exact fun h => ⟨h.1, fun i hi => ih i (h.2 i hi)⟩
  | agg u l f ih => exact fun h i hi => ih i (forI_at h i hi)
  | tup l f ih => exact fun h i hi => ih i (h i hi)
  | clo f nf n g ih => exact fun h i hi => ih i (allB_at h i hi)
  | fvm fr et n f ih => exact fun h => ⟨h.1, fun i hi => ih i (h.2 i hi)⟩
  | _ => exact id
def NoFrRowW : Row → Prop
  | .var _ a => NoFrW a
  | .grow _ n f => ∀ i, i < n → NoFrW (f i)
  | .ob o => match o with
    | .vm _ n f => ∀ i, i < n → NoFrW (f i)
    | _ => True
def NoFrRwsW : List (Nat × Row) → Prop
  | [] => True
  | (_, r) :: l => NoFrRowW r ∧ NoFrRwsW l
theorem NoFrRwsW_of : ∀ {l : List (Nat × Row)}, NoFrRwsW l → NoFrRws l
  | [], _ => trivial
  | (_, .var _ _) :: _, h => ⟨NoFrW_of h.1, NoFrRwsW_of h.2⟩
  | (_, .grow _ _ _) :: _, h => ⟨fun i hi => NoFrW_of (h.1 i hi), NoFrRwsW_of h.2⟩
  | (_, .ob o) :: _, h => ⟨by
    cases o with
    | vm et n f => exact fun i hi => NoFrW_of (h.1 i hi)
    | _ => exact trivial, NoFrRwsW_of h.2⟩
def NoFrLW : List AV → Prop
  | [] => True
  | a :: l => NoFrW a ∧ NoFrLW l
def NoFrL : List AV → Prop
  | [] => True
  | a :: l => NoFr a ∧ NoFrL l
def inB (rw0 : List (Nat × Row)) (ρ0 : Nat → Option Nat) : Bool := injB (rw0.map (·.1)) ρ0 && rw0.all fun q => Nat.blt q.1 8 && (ρ0 q.1).isSome
theorem NoFrLW_of : ∀ {l : List AV}, NoFrLW l → NoFrL l
  | [], _ => trivial
  | _ :: _, h => ⟨NoFrW_of h.1, NoFrLW_of h.2⟩
/-- What the callee is handed. -/
def In (ty : TypeId → Ty) (m : Nat → Option Row) (args vs : List AV) (rw0 : List (Nat × Row)) (ρ0 : Nat → Option Nat) : Prop :=
  inB rw0 ρ0 = true ∧ LeRwW m ty rw0 ρ0 rw0 ∧ LeLW m ty rw0 ρ0 args vs ∧ NoFrRwsW rw0 ∧ NoFrLW vs
section
variable {m m' : Nat → Option Row} {ty : TypeId → Ty} {rw : List (Nat × Row)} {ρ : Nat → Option Nat}
theorem growOf_mono (hm : ∀ k r, m k = some r → m' k = some r) {k : Nat} {F G : TypeId → Nat → (Nat → AV) → Prop} (hFG : ∀ e n f, F e n f → G e n f) (h : growOf (m k) F) : growOf (m' k) G := by
  unfold growOf at h ⊢
  cases hk : m k with
  | none => rw [hk] at h; exact h.elim
  | some r =>
    rw [hm k r hk]
    rw [hk] at h
    cases r with
    | var _ _ => exact h.elim
    | ob _ => exact h.elim
    | grow e n f => exact hFG e n f h
theorem varOf_mono (hm : ∀ k r, m k = some r → m' k = some r) {k : Nat} {F G : Ty → AV → Prop} (hFG : ∀ τ a, F τ a → G τ a) (h : varOf (m k) F) : varOf (m' k) G := by
  unfold varOf at h ⊢
  cases hk : m k with
  | none => rw [hk] at h; exact h.elim
  | some r =>
    rw [hm k r hk]
    rw [hk] at h
    cases r with
    | grow _ _ _ => exact h.elim
    | ob _ => exact h.elim
    | var τ a => exact hFG τ a h
theorem Le_mono (hm : ∀ k r, m k = some r → m' k = some r) : ∀ {b a : AV}, Le m ty rw ρ a b → Le m' ty rw ρ a b := by
  intro b
  induction b with
  | junk => intro a _; cases a <;> trivial
  | ipt τ a' ih =>
    intro a h
    cases a with
    | ipt τ a => exact ⟨h.1, h.2.1, ih h.2.2⟩
    | ptr τ k p => exact ⟨h.1, h.2.1, h.2.2.1, varOf_mono hm (fun τ a hh => ih hh) h.2.2.2⟩
    | _ => exact h.elim
  | imm fr et l f ih =>
    intro a h
    cases a with
    | imm fr' et' l' f' => exact ⟨h.1, h.2.1, h.2.2.1, fun i hi => ⟨(h.2.2.2 i hi).1, ih i (h.2.2.2 i hi).2⟩⟩
    | gsl e k l => exact ⟨h.1, h.2.1, h.2.2.1, growOf_mono hm (fun e n f hh => ⟨hh.1, hh.2.1, fun i hi => ⟨(hh.2.2 i hi).1, ih i (hh.2.2 i hi).2⟩⟩) h.2.2.2⟩
    | gsub e k al o l => exact ⟨h.1, h.2.1, h.2.2.1, growOf_mono hm (fun e n f hh => ⟨hh.1, hh.2.1, hh.2.2.1, fun i hi => ⟨(hh.2.2.2 i hi).1, ih i (hh.2.2.2 i hi).2⟩⟩) h.2.2.2⟩
    | sub et' k p o l' => exact ⟨h.1, h.2.1, h.2.2.1, h.2.2.2.1, varOf_mono hm (fun τ a hh i hi => ⟨(hh i hi).1, ih i (hh i hi).2⟩) h.2.2.2.2⟩
    | nils => exact h
    | _ => exact h.elim
  | agg u l f ih =>
    intro a h
    cases a with
    | agg u' l' f' => exact ⟨h.1, h.2.1, fun i hi => ih i (h.2.2 i hi)⟩
    | _ => exact h.elim
  | tup l f ih =>
    intro a h
    cases a with
    | tup l' f' => exact ⟨h.1, fun i hi => ih i (h.2 i hi)⟩
    | _ => exact h.elim
  | clo f nf n g ih =>
    intro a h
    cases a with
    | clo f' nf' n' g' => exact ⟨h.1, h.2.1, h.2.2.1, fun i hi => ih i (h.2.2.2 i hi)⟩
    | _ => exact h.elim
  | fvm g et n f ih =>
    intro a h
    cases a with
    | fvm g' et' n' f' => exact ⟨h.1, h.2.1, h.2.2.1, fun i hi => ⟨(h.2.2.2 i hi).1, ih i (h.2.2.2 i hi).2⟩⟩
    | vmt k =>
      obtain ⟨h1, h2, h7⟩ := h
      refine ⟨h1, h2, ?_⟩
      unfold vmOf at h7 ⊢
      split at h7
      · rename_i hk; rw [hm k _ hk]; exact ⟨h7.1, h7.2.1, fun i hi => ⟨(h7.2.2 i hi).1, ih i (h7.2.2 i hi).2⟩⟩
      · exact h7.elim
    | _ => exact h.elim
  | fmp g kt et n f d =>
    intro a h
    cases a with
    | fmp _ _ _ _ _ _ => exact h
    | mpt kt' et' n' f' j k =>
      obtain ⟨h1, h2, h3, h4, h5, h6, h7⟩ := h
      refine ⟨h1, h2, h3, h4, h5, h6, ?_⟩
      unfold mpOf at h7 ⊢
      split at h7
      · rename_i hk; rw [hm k _ hk]; exact h7
      · exact h7.elim
    | cmt k =>
      obtain ⟨h1, h2, h3, h4, h7⟩ := h
      refine ⟨h1, h2, h3, h4, ?_⟩
      unfold cnOf at h7 ⊢
      split at h7
      · rename_i hk; rw [hm k _ hk]; exact h7
      · exact h7.elim
    | _ => exact h.elim
  | gsl e k l => intro a h; cases a <;> first | exact h | exact h.elim
  | ptr τ k p => intro a h; cases a <;> first | exact h | exact h.elim
  | _ => intro a h; cases a <;> first | exact h | exact h.elim
theorem LeRow_mono (hm : ∀ k r, m k = some r → m' k = some r) {k : Nat} {r : Row} (h : LeRow m ty rw ρ k r) : LeRow m' ty rw ρ k r := by
  unfold LeRow at h ⊢
  cases hρ : ρ k with
  | none => rw [hρ] at h; exact h
  | some K =>
    rw [hρ] at h
    simp only at h ⊢
    cases hk : m K with
    | none => simp only [hk] at h
    | some r0 =>
      rw [hm K r0 hk]
      rw [hk] at h
      cases r0 with
      | var τ a =>
        cases r with
        | var τ' a' => exact ⟨h.1, h.2.1, Le_mono hm h.2.2⟩
        | grow _ _ _ => exact h.elim
        | ob _ => exact h.elim
      | ob o =>
        cases r with
        | ob o' => exact h
        | _ => exact h.elim
      | grow e n f =>
        cases r with
        | var _ _ => exact h.elim
        | grow e' n' f' => exact ⟨h.1, h.2.1, fun i hi => ⟨(h.2.2 i hi).1, Le_mono hm (h.2.2 i hi).2⟩⟩
        | ob _ => exact h.elim
theorem LeRw_mono (hm : ∀ k r, m k = some r → m' k = some r) : ∀ {l : List (Nat × Row)}, LeRw m ty rw ρ l → LeRw m' ty rw ρ l
  | [], _ => trivial
  | (_, _) :: _, h => ⟨LeRow_mono hm h.1, LeRw_mono hm h.2⟩
theorem LeL_mono (hm : ∀ k r, m k = some r → m' k = some r) : ∀ {l l' : List AV}, LeL m ty rw ρ l l' → LeL m' ty rw ρ l l'
  | [], [], _ => trivial
  | _ :: _, _ :: _, h => ⟨Le_mono hm h.1, LeL_mono hm h.2⟩
end
def resSem (tmps : Array Value) : ResultVar → Sem Value
  | .tmp t => pure (tmps.getD t undef)
  | .cell a t => do loadVar t (← asAddr (tmps.getD a undef))
section
variable {P : Program} {E : Pg} {nt : Nat} {c0 c : Cx} {s : St} {a : Act}
theorem rval_ok (hT : TysOK P E.ty) (h : Abs P E nt c0 s c a) {x : ResultVar} {K : AV → Prop} (hr : rval E s x K) : ∃ v z, K v ∧ RV c v z ∧ (resSem a.tmps x).run P c.w = .ok z c.w := by
  cases x with
  | tmp t => exact ⟨_, _, hr, h.t t, by simp [resSem]⟩
  | cell p t =>
    obtain ⟨ht, hr⟩ := okT_of hr
    have htt := hT t ht
    split at hr
    · rename_i τ' k q hy
      split at hr
      · rename_i τ v hmk
        obtain ⟨rfl, hr⟩ := hr
        have h1 := h.t p
        rw [hy] at h1
        obtain ⟨τ₀, av, b, hm, hb, hp, hat, ev⟩ := rv_ptr h1
        rw [h.m, hmk] at hm
        injection hm with hm
        injection hm with e1 e2
        subst e1; subst e2
        obtain ⟨b', cs, t', hb', hh, hR, hs⟩ := h.mem.rows k _ (by rw [h.m]; exact hmk)
        rw [hb] at hb'; injection hb' with hb'; subst hb'
        obtain ⟨hs2, pre, post, ds, hcut, hpl, hr2⟩ := R_at q hR hs hp
        rw [hat] at hs2
        have hrg := range_of_block hh hcut
        rw [hpl] at hrg
        refine ⟨_, valOf (E.ty t) ds, hr, rv_of_R hs2 hr2, ?_⟩
        simp only [resSem, ev, asAddr, Sem.run_bind, Sem.run_pure, Result.andThen_ok, run_loadVar' htt hrg hr2 hs2]
      · exact hr.elim
    · exact hr.elim
theorem rvals_ok (hT : TysOK P E.ty) (h : Abs P E nt c0 s c a) : ∀ (rs : List ResultVar) {K : List AV → Prop}, rvals E s rs K → ∃ vs zs, K vs ∧ RVs c vs zs ∧ (rs.mapM (resSem a.tmps)).run P c.w = .ok zs c.w
  | [], K, hr => ⟨[], [], hr, .nil, by simp⟩
  | x :: rs, K, hr => by
    obtain ⟨v, z, h1, h2, h3⟩ := rval_ok hT h hr
    obtain ⟨vs, zs, h4, h5, h6⟩ := rvals_ok hT h rs h1
    refine ⟨v :: vs, z :: zs, h4, .cons h2 h5, ?_⟩
    rw [List.mapM_cons, Sem.run_bind, h3, Result.andThen_ok, Sem.run_bind, h6, Result.andThen_ok, Sem.run_pure]
theorem RVs_len {c : Cx} {vs : List AV} {zs : List Value} (h : RVs c vs zs) : vs.length = zs.length := by
  induction h with
  | nil => rfl
  | cons _ _ ih => simp [ih]
theorem RVs_at {c : Cx} {vs : List AV} {zs : List Value} (h : RVs c vs zs) : ∀ i, i < vs.length → ∃ z, zs[i]? = some z ∧ RV c (vs.getD i .junk) z := by
  induction h with
  | nil => intro i hi; simp at hi
  | @cons a v l vs h t ih =>
    intro i hi
    cases i with
    | zero => exact ⟨v, by simp, by simpa using h⟩
    | succ i =>
      obtain ⟨z, h1, h2⟩ := ih i (by simpa using hi)
      exact ⟨z, by simpa using h1, by simpa using h2⟩
def cellsOf (a : AV) (z : Value) : List Value := match a, z with
  | .agg _ _ _, .agg cs => cs.toList
  | _, z => [z]
theorem RV_tup {c : Cx} {vs : List AV} {zs : List Value} (h : RVs c vs zs) : RV c (.tup vs.length fun i => vs.getD i .junk) (.tuple zs.toArray) := by
  refine ⟨zs.toArray, fun i => cellsOf (vs.getD i .junk) (zs.getD i undef), rfl, by simp [RVs_len h], fun i hi => ?_⟩
  obtain ⟨z, h1, h2⟩ := RVs_at h i hi
  have hz : zs.getD i undef = z := by rw [List.getD_eq_getElem?_getD, h1]; rfl
  simp only [hz]
  generalize vs.getD i .junk = av at h2
  cases av with
  | agg u l f =>
    obtain ⟨cs, rfl, hr⟩ := h2
    exact ⟨hr, _, by simpa using h1, by simp [cellsOf]⟩
  | junk => exact ⟨trivial, z, by simpa using h1, trivial⟩
  | _ => exact ⟨h2, z, by simpa using h1, rfl⟩
theorem wRes_ok (hT : TysOK P E.ty) (h : Abs P E nt c0 s c a) {fn : Func} {K : AV → Prop} (hr : wRes E s fn.results.toList K) : ∃ v z, K v ∧ RV c v z ∧ (results fn a.tmps).run P c.w = .ok z c.w := by
  obtain ⟨vs, zs, h1, h2, h3⟩ := rvals_ok hT h _ hr
  have hrun : (results fn a.tmps).run P c.w = .ok (if h : zs.toArray.size = 1 then zs.toArray[0] else .tuple zs.toArray) c.w := by
    have e : results fn a.tmps = (do
        let vs ← fn.results.mapM (resSem a.tmps)
        pure (if h : vs.size = 1 then vs[0] else .tuple vs)) := by
      unfold results
      congr 2
    rw [e, Array.mapM_eq_mapM_toList, Sem.run_bind]
    have : (Functor.map List.toArray (fn.results.toList.mapM (resSem a.tmps))).run P c.w = .ok zs.toArray c.w := by
      rw [map_eq_pure_bind, Sem.run_bind, h3, Result.andThen_ok, Sem.run_pure]
    rw [this, Result.andThen_ok, Sem.run_pure]
  refine ⟨tupOf vs, _, h1, ?_, hrun⟩
  unfold tupOf
  cases h2 with
  | nil => simp only [List.size_toArray, List.length_nil]; exact RV_tup .nil
  | @cons a v l zs h t =>
    cases t with
    | nil => simpa using h
    | @cons a2 v2 l2 zs2 h' t' =>
      have hne : ¬ (v :: v2 :: zs2).toArray.size = 1 := by simp
      rw [dif_neg hne]
      exact RV_tup (.cons h (.cons h' t'))
end
section
variable {P : Program} {E : Pg}
theorem argT_ok {c : Cx} : ∀ {vs : List AV} {zs : List Value}, RVs c vs zs → ∀ (n i : Nat), RV c (argT vs i) ((zs.toArray ++ Array.replicate n undef).getD i undef)
  | _, _, .nil, n, i => by
    show [_] = [undef]
    simp [Array.getD_eq_getD_getElem?, Array.getElem?_replicate]
    split <;> rfl
  | _, _, .cons (vs := zs) (v := v) h t, n, i => by
    cases i with
    | zero => simpa [argT, Array.getD_eq_getD_getElem?, Array.getElem?_append] using h
    | succ i =>
      have := argT_ok t n i
      have e : ((v :: zs).toArray ++ Array.replicate n undef).getD (i + 1) undef = (zs.toArray ++ Array.replicate n undef).getD i undef := by
        simp [Array.getD_eq_getD_getElem?, Array.getElem?_append]
      rw [e]; exact this
theorem given_vals {c : Cx} {rw0 : List (Nat × Row)} {ρ0 : Nat → Option Nat} (hm : MemOK c) (hr : LeRw c.m c.ty rw0 ρ0 rw0) : ∀ {args vs : List AV} {zs : List Value}, LeL c.m c.ty rw0 ρ0 args vs → NoFrL vs → RVs c args zs → RVs (c.given rw0 ρ0) vs zs
  | [], [], _, _, _, .nil => .nil
  | _ :: _, _ :: _, _, h, hn, .cons h1 h2 => .cons (RV_fb (c := c.named rw0 ρ0) hn.1 (Le_rv hm hr h.1 h1)) (given_vals hm hr h.2 hn.2 h2)
theorem inB_of {rw0 : List (Nat × Row)} {ρ0 : Nat → Option Nat} (h : inB rw0 ρ0 = true) : injB (rw0.map (·.1)) ρ0 = true ∧ (∀ k r, rowOf rw0 k = some r → k < 8) ∧ SomeB rw0 ρ0 := by
  simp only [inB, Bool.and_eq_true, List.all_eq_true] at h
  refine ⟨h.1, fun k r hk => ?_, fun k r hk => ?_⟩
  · have := (h.2 _ (rowOf_mem hk)).1; simpa [Nat.blt_eq] using this
  · exact Option.isSome_iff_exists.1 (h.2 _ (rowOf_mem hk)).2
/-- The function, whose text was walked with what it was handed. -/
theorem fn_valid (hP : PgOK P E) (hmix : P.follows .mixedOrders = true) {f : FuncId} {fn : Func} {code : Code} (hf : P.funcs[f]? = some fn) (hnm : (fn.name == "runtime.NumGoroutine") = false) (hb : fn.body = some code) {inv : Nat → Option LI}
    {args vs : List AV} {view : Nat → Option Row} {key : Nat} {rd : List Nat} {rw0 rw1 : List (Nat × Row)} {ρ0 : Nat → Option Nat} {b : AV} (hlen : vs.length ≤ fn.ntmps)
    (hin : In E.ty (restr rd view) args vs rw0 ρ0) (hout : Outs rw0 rw1) (hob : Own b) {O : St → AV → Prop} (hO : ∀ s a, O s a → Out E (rowOf rw0) s rw1 a b)
    (hW : W E fn.ntmps inv code ⟨argT vs, rowOf rw0, 8⟩ (fun s => wRes E s fn.results.toList fun a => O s a) (fin fun s => wRes E s fn.results.toList fun a => O s a)) :
    FnValid P E.ty E.gl f args view key ⟨b.ren (sig ρ0 key), outW (sig ρ0 key) rw1, rd⟩ := by
  refine .inl ⟨⟨fn, hf, hnm, by rw [hb]; rfl⟩, fun c vals hty hm hbs hrd hfr hgl hvals => ?_⟩
  obtain ⟨hi0, hle0, hargs, hnr, hnv⟩ := hin
  replace hle0 := LeRwW_of hle0
  replace hargs := LeLW_of hargs
  replace hnr := NoFrRwsW_of hnr
  replace hnv := NoFrLW_of hnv
  obtain ⟨hi, hlt, hS⟩ := inB_of hi0
  have hmono : ∀ k r, restr rd view k = some r → c.m k = some r := fun k r hk => by
    unfold restr at hk
    cases hc : memN k rd with
    | false => rw [hc] at hk; cases hk
    | true => rw [hc] at hk; rw [hrd k (memN_mem hc)]; exact hk
  have hle : LeRw c.m c.ty rw0 ρ0 rw0 := by rw [hty]; exact LeRw_mono hmono hle0
  have hargs : LeL c.m c.ty rw0 ρ0 args vs := by rw [hty]; exact LeL_mono hmono hargs
  have h8 : ∀ k, 8 ≤ k → (c.given rw0 ρ0).m k = none := fun k hk => by
    cases hr : rowOf rw0 k with
    | none => exact hr
    | some r => have := hlt k r hr; omega
  have hfresh : freshB (rw0.map (·.1)) ρ0 = true := List.all_eq_true.2 fun k hk => by
    obtain ⟨⟨k', r⟩, hm', rfl⟩ := List.mem_map.1 hk
    obtain ⟨r', hr'⟩ := mem_of_rowOf hm'
    have : Nat.blt k' 8 = true := by rw [Nat.blt_eq]; exact hlt k' r' hr'
    simp [this]
  have hm0 := named_mem hm hle hi hfresh
  have hrow : ∀ k r, rowOf rw0 k = some r → NoFrRow r := fun k r hk => NoFrRws_mem hnr (rowOf_mem hk)
  have hg0 : MemOK (c.given rw0 ρ0) := ⟨fun k r hk => RowOK_fb (c := c.named rw0 ρ0) (hrow k r hk) (hm0.rows k r hk), hm0.inj, fun k r b hk hb => ⟨(hm0.mu k r b hk hb).1, (hm0.mu k r b hk hb).2.1, fun h => by have hk' : rowOf rw0 k = some r := hk; have := hlt k r hk'; omega⟩, Nat.le_trans hm.bf hbs⟩
  have hv0 := given_vals hm hle hargs hnv hvals
  have hsz : (vals.toArray ++ Array.replicate (fn.ntmps - vals.toArray.size) undef).size = fn.ntmps := by
    have := RVs_len hv0
    simp; omega
  have habs : Abs P E fn.ntmps (c.given rw0 ρ0) ⟨argT vs, rowOf rw0, 8⟩ (c.given rw0 ρ0) { tmps := vals.toArray ++ Array.replicate (fn.ntmps - vals.toArray.size) undef, defers := [] } :=
    ⟨hty, hg0, Nat.le_refl _, rfl, rfl, Below.refl _ _, Stab.refl _, rfl, fun i => argT_ok hv0 _ i, hsz, rfl, fun g => RV_norow (c := c) (c' := c.given rw0 ρ0) rfl (fun b hb => mu_old hm hle hb) (hP.flat g) (hgl g), fun q => q.elim⟩
  refine calls_of_wp hf hb ?_
  have key : ∀ s' c1 a', (wRes E s' fn.results.toList fun a => O s' a) → Abs P E fn.ntmps (c.given rw0 ρ0) s' c1 a' → a'.defers = [] ∧ ∃ v, (results fn a'.tmps).run P c1.w = .ok v c1.w ∧ (∃ c' v', Ending.returned v = .returned v' ∧ c'.w = c1.w ∧ Step c (outW (sig ρ0 key) rw1) c' ∧ RV c' (b.ren (sig ρ0 key)) v') := by
    intro s' c1 a' hres ha'
    obtain ⟨v, z, hov, hz, hrun⟩ := wRes_ok hP.tys ha' hres
    obtain ⟨ρ, hn, hr1, hl1⟩ := hO _ _ hov
    replace hr1 := LeRwW_of hr1
    replace hl1 := LeW_of hl1
    rw [← ha'.m, ← ha'.ty] at hr1 hl1
    obtain ⟨hj, hp, hf1⟩ := namesB_of hn
    have hB : Back2 c (c1.named rw1 ρ) rw0 rw1 ρ0 key := ⟨hm, hbs, hi, hlt, hle, named_mem ha'.mem hr1 hj hf1, named_since ha'.mem h8 ha'.since hr1 (m0 := rowOf rw0) (fun k r h => ⟨r, h⟩) hp, ha'.base, ha'.fb, rfl, ha'.low, hout, hfr⟩
    have hty' : (c1.named rw1 ρ).ty = c.ty := ha'.ty.trans hty.symm
    exact ⟨ha'.dfr, z, hrun, c.merged (c1.named rw1 ρ) rw0 ρ0 key rw1, z, rfl, rfl, hB.step hS hty', hB.RV hS hob (Le_rv ha'.mem hr1 hl1 hz)⟩
  refine W_sound hP h8 hmix (fun q => q.elim) code _ (c.given rw0 ρ0) _ _ _ _ hW habs (fun k hk => h8 k hk) (fun s' c1 a' hq ha' _ => key s' c1 a' hq ha') fun e s' c1 a' hq hne ha' _ => ?_
  cases e with
  | ret => exact key s' c1 a' hq ha'
  | _ => exact hq.elim
end
end Go.Proofs.YtldlleoabbcpdaaDoor
/- Tables of types and of contracts. -/
namespace Go.Proofs.YtldlleoabbcpdaaDoor
open Go.RowKit
def tyAt : List (Nat × Ty) → TypeId → Ty
  | [], _ => .no
  | (k, τ) :: l, t => bif Nat.beq t k then τ else tyAt l t
def nth {α : Type} (d : α) : List α → Nat → α
  | [], _ => d
  | a :: l, i => match i with
    | 0 => a
    | i + 1 => nth d l i
def AllP {α : Type} (p : α → Prop) : List α → Prop
  | [] => True
  | a :: l => p a ∧ AllP p l
theorem AllP_mem {α : Type} {p : α → Prop} {a : α} : ∀ {l : List α}, AllP p l → a ∈ l → p a
  | _ :: _, h, hm => by
    rcases List.mem_cons.1 hm with rfl | hm
    · exact h.1
    · exact AllP_mem h.2 hm
theorem tyAt_mem {t : TypeId} : ∀ {l : List (Nat × Ty)}, tyAt l t ≠ .no → ∃ q ∈ l, q.1 = t ∧ tyAt l t = q.2
  | [], h => absurd rfl h
  | (k, τ) :: l, h => by
    by_cases e : t = k
    · subst e; exact ⟨(t, τ), by simp, rfl, by simp [tyAt]⟩
    · have e1 : Nat.beq t k = false := by rw [← Bool.not_eq_true, Nat.beq_eq]; exact e
      have e2 : tyAt ((k, τ) :: l) t = tyAt l t := by simp [tyAt, e1]
      rw [e2] at h
      obtain ⟨q, h1, h2, h3⟩ := tyAt_mem h
      exact ⟨q, by simp [h1], h2, e2.trans h3⟩
theorem tysOK_of {P : Program} {ty : TypeId → Ty} {l : List (Nat × Ty)} (hty : ty = tyAt l) (h : AllP (fun q => TyOK P ty q.1) l) : TysOK P ty := by
  intro t ht
  rw [hty] at ht
  obtain ⟨q, h1, rfl, _⟩ := tyAt_mem ht
  exact AllP_mem (p := fun q : Nat × Ty => TyOK P ty q.1) h h1
def Ty.mxB : Ty → Bool
  | .agg true n _ => decide (n ≤ 9000000000000000000)
  | _ => true
theorem mx_of {ty : TypeId → Ty} {l : List (Nat × Ty)} (hty : ty = tyAt l) (h : (l.all fun q => q.2.mxB) = true) : ∀ t n f, ty t = .agg true n f → n ≤ maxLen := by
  intro t n f ht
  rw [hty] at ht
  obtain ⟨q, h1, rfl, h3⟩ := tyAt_mem (l := l) (t := t) (by rw [ht]; intro h; cases h)
  have := List.all_eq_true.1 h q h1
  rw [← h3, ht] at this
  simp only [Ty.mxB, decide_eq_true_eq] at this
  exact Nat.le_trans this (by decide)
def fieldsOf (P : Program) (t : TypeId) : Array Field := match P.underlying t with
  | some (.struct fs) => fs
  | _ => #[]
theorem TyOK.st' {P : Program} {ty : TypeId → Ty} {t n : Nat} {f : Nat → Ty} (L : List (TypeId × Nat)) (hu : P.underlying t = some (.struct (fieldsOf P t)))
    (hL : ((fieldsOf P t).toList.map fun x => (x.type, x.offset, x.name == "_")) = L.map fun q => (q.1, q.2, false)) (hn : L.length = n)
    (hf : AllP (fun q => TyOK P ty q.1) L) (hg : ∀ i q, L[i]? = some q → f i = ty q.1 ∧ q.2 = sumN (fun j => (f j).size) i ∧ 0 < (f i).size)
    (hi : Inf P t (.agg (ty t).zc.toArray) (ty t).size) (hr : (ty t).rank < 9000) (hq : P.eqGuardType P.depth t = false) (hh : P.stoodInHeld t = false) (hty : ty t = .agg false n f) : TyOK P ty t := by
  have hsz : (fieldsOf P t).size = L.length := by
    have := congrArg List.length hL; simpa using this
  have hat : ∀ (i : Nat) (h : i < (fieldsOf P t).size), ∃ q, L[i]? = some q ∧ (fieldsOf P t)[i].type = q.1 ∧ (fieldsOf P t)[i].offset = q.2 ∧ (fieldsOf P t)[i].name ≠ "_" := by
    intro i h
    have hq : L[i]? = some L[i] := List.getElem?_eq_getElem (by omega)
    refine ⟨L[i], hq, ?_⟩
    have h1 := congrArg (fun l => l[i]?) hL
    simp only [List.getElem?_map, Array.getElem?_toList, Array.getElem?_eq_getElem h, hq, Option.map_some, Option.some.injEq, Prod.mk.injEq] at h1
    exact ⟨h1.1, h1.2.1, by simpa using h1.2.2⟩
  refine .st t (fieldsOf P t) n f hu (by omega) (fun i h => ?_) (fun i h => ?_) hi hr hq hh (fun i h => ?_) hty
  · obtain ⟨q, h1, h2, _⟩ := hat i h
    rw [h2]; exact AllP_mem (p := fun q : TypeId × Nat => TyOK P ty q.1) hf (List.mem_of_getElem? h1)
  · obtain ⟨q, h1, h2, h3, _⟩ := hat i h
    rw [h2, h3]; exact hg i q h1
  · obtain ⟨q, h1, h2, h3, h4⟩ := hat i h
    exact h4

def FsOK (ty : TypeId → Ty) (f : Nat → Ty) : Nat → List (TypeId × Nat) → Prop
  | _, [] => True
  | i, q :: L => (f i = ty q.1 ∧ q.2 = sumN (fun j => (f j).size) i ∧ decide (0 < (f i).size) = true) ∧ FsOK ty f (i + 1) L
theorem FsOK_at {ty : TypeId → Ty} {f : Nat → Ty} : ∀ {L : List (TypeId × Nat)} {k : Nat}, FsOK ty f k L → ∀ i q, L[i]? = some q → f (k + i) = ty q.1 ∧ q.2 = sumN (fun j => (f j).size) (k + i) ∧ 0 < (f (k + i)).size
  | q0 :: L, k, h, 0, q, hq => by
    simp only [List.getElem?_cons_zero, Option.some.injEq] at hq
    subst hq
    exact ⟨h.1.1, h.1.2.1, of_decide_eq_true h.1.2.2⟩
  | q0 :: L, k, h, i + 1, q, hq => by
    have := FsOK_at h.2 i q (by simpa using hq)
    rwa [show k + 1 + i = k + (i + 1) by omega] at this
theorem TyOK.struct {P : Program} {ty : TypeId → Ty} {t n : Nat} {f : Nat → Ty} (L : List (TypeId × Nat)) (hty : ty t = .agg false n f) (hn : L.length = n) (hf : AllP (fun q => TyOK P ty q.1) L) (hg : FsOK ty f 0 L)
    (hu : P.underlying t = some (.struct (fieldsOf P t))) (hL : ((fieldsOf P t).toList.map fun x => (x.type, x.offset, x.name == "_")) = L.map fun q => (q.1, q.2, false))
    (hi : (P.info? t).map (fun i => (i.zero, i.size, decide (i.bytes ≤ 10000))) = some (some (.agg (ty t).zc.toArray), (ty t).size, true)) (hr : decide ((ty t).rank < 9000) = true) (hq : P.eqGuardType P.depth t = false) (hh : P.stoodInHeld t = false) : TyOK P ty t :=
  .st' L hu hL hn hf (fun i q h => by have := FsOK_at hg i q h; rwa [Nat.zero_add] at this) (.mk hi) (of_decide_eq_true hr) hq hh hty
theorem TyOK.array {P : Program} {ty : TypeId → Ty} {t : TypeId} (n e : Nat) (he : TyOK P ty e) (hty : ty t = .agg true n fun _ => ty e) (hp : decide (0 < (ty e).size) = true) (hu : P.underlying t = some (.array n e))
    (hi : (P.info? t).map (fun i => (i.zero, i.size, decide (i.bytes ≤ 10000))) = some (some (.agg (ty t).zc.toArray), (ty t).size, true)) (hr : decide ((ty t).rank < 9000) = true) (hq : P.eqGuardType P.depth t = false) : TyOK P ty t :=
  .arr t n e hu he (of_decide_eq_true hp) (.mk hi) (of_decide_eq_true hr) hq hty
theorem TyOK.slice {P : Program} {ty : TypeId → Ty} {t : TypeId} (e : Nat) (he : TyOK P ty e) (hty : ty t = .sl e) (hp : decide (0 < (ty e).size) = true) (hu : P.underlying t = some (.slice e))
    (hi : (P.info? t).map (fun i => (i.zero, i.size, decide (i.bytes ≤ 10000))) = some (some (.slice none 0 0), 1, true)) : TyOK P ty t :=
  .sl t e hu (.mk hi) he (of_decide_eq_true hp) hty

/-! ### Contracts -/
abbrev Ctr := List AV → (Nat → Option Row) → Nat → (Res → Prop) → Prop
def Good (P : Program) (ty : TypeId → Ty) (gl : Nat → AV) (f : FuncId) (C : Ctr) : Prop := ∀ args m key K, C args m key K → ∃ r, K r ∧ FnValid P ty gl f args m key r
def ctrOf : List (FuncId × Ctr) → FuncId → Ctr
  | [], _ => fun _ _ _ _ => False
  | (k, C) :: l, f => bif Nat.beq f k then C else ctrOf l f
theorem ctrOK_of {P : Program} {ty : TypeId → Ty} {gl : Nat → AV} : ∀ {l : List (FuncId × Ctr)}, AllP (fun q => Good P ty gl q.1 q.2) l → CtrOK P { ty := ty, gl := gl, ctr := ctrOf l }
  | [], _ => fun _ _ _ _ _ h => h.elim
  | (k, C) :: l, hl => fun f args m key K h => by
    by_cases e : f = k
    · subst e
      refine hl.1 args m key K ?_
      have : ctrOf ((f, C) :: l) f = C := by simp [ctrOf]
      rw [← this]; exact h
    · have e1 : Nat.beq f k = false := by rw [← Bool.not_eq_true, Nat.beq_eq]; exact e
      have : ctrOf ((k, C) :: l) f = ctrOf l f := by simp [ctrOf, e1]
      refine ctrOK_of hl.2 f args m key K ?_
      have h' : ctrOf ((k, C) :: l) f args m key K := h
      rw [this] at h'; exact h'
def noK (_ : Nat) : Option Nat := none
def newB (rw1 : List (Nat × Row)) : Bool := (rw1.all fun q => Nat.ble 8 q.1 && Nat.blt q.1 16) && distinctB (rw1.map (·.1))
end Go.Proofs.YtldlleoabbcpdaaDoor
/- Functions by what they are handed: contracts whose rows are told. -/
namespace Go.Proofs.YtldlleoabbcpdaaDoor
open Go.RowKit
/-- The rows that a value names. -/
def rdOf : AV → List Nat
  | .ptr _ k _ => [k]
  | .gsl _ k _ => [k]
  | .gsub _ k _ _ _ => [k]
  | .gcap _ k _ => [k]
  | .mpt _ _ _ _ _ k => [k]
  | .itp k => [k]
  | .cmt k => [k]
  | .mit k => [k]
  | .vmt k => [k]
  | .sub _ k _ _ _ => [k]
  | .spt _ k _ _ _ => [k]
  | .gspt _ k _ _ _ => [k]
  | .gpt _ _ k _ _ _ => [k]
  | .agg false n f => (List.range n).flatMap fun i => rdOf (f i)
  | .clo _ _ n f => (List.range n).flatMap fun i => rdOf (f i)
  | _ => []
/-- .. and those that they name. -/
def rdM (ty : TypeId → Ty) (m : Nat → Option Row) : Nat → AV → List Nat
  | 0, a => rdOf a
  | n + 1, a => (rdOf a).flatMap fun k => k :: (match m k with
    | some (.grow e l f) => (match ty e with
      | .int _ => []
      | .str => []
      | .bo => []
      | .agg true _ _ => []
      | _ => (List.range l).flatMap fun i => rdM ty m n (f i))
    | some (.var _ a) => rdM ty m n a
    | some (.ob _) => []
    | none => [])
def rdA (ty : TypeId → Ty) (m : Nat → Option Row) (l : List AV) : List Nat := l.flatMap (rdM ty m 3)
/-- The rows that may be written, in the order in which they are handed in. -/
def keysM : List Bool → List AV → List Nat
  | true :: ms, a :: l => rdOf a ++ keysM ms l
  | false :: ms, _ :: l => keysM ms l
  | _, _ => []
def rho (ks : List Nat) (j : Nat) : Option Nat := nth none (ks.map some) j
abbrev SpecM := (List AV → List (Nat × Row) → Prop) → (AV → List (Nat × Row) → Prop) → Prop
/-- A function that may write what it is handed where the mask says so. -/
def mutF0 (ty : TypeId → Ty) (mask : List Bool) (C : SpecM) : Ctr := fun args m key K =>
  C (fun vs rw0 => In ty (restr (rdA ty m args) m) args vs rw0 (rho (keysM mask args))) (fun b rw1 => K ⟨b.ren (sig (rho (keysM mask args)) key), outW (sig (rho (keysM mask args)) key) rw1, rdA ty m args⟩)
def mutF (ty : TypeId → Ty) (mask : List Bool) (C : SpecM) : Ctr := fun args m key K => frcN (rdA ty m args) fun rd => frcN (keysM mask args) fun ks =>
  C (fun vs rw0 => In ty (restr rd m) args vs rw0 (rho ks)) (fun b rw1 => K ⟨b.ren (sig (rho ks) key), outW (sig (rho ks) key) rw1, rd⟩)
theorem mutF_eq (ty : TypeId → Ty) (mask : List Bool) (C : SpecM) : mutF ty mask C = mutF0 ty mask C := by
  funext args m key K
  unfold mutF mutF0
  rw [frcN_eq, frcN_eq]
def outsB (rw0 rw1 : List (Nat × Row)) : Bool := distinctB (rw1.map (·.1)) && rw1.all fun q => Nat.blt q.1 16 && (Nat.ble 8 q.1 || (rowOf rw0 q.1).isSome)
def lenOK (rw0 : List (Nat × Row)) : List (Nat × Row) → Prop
  | [] => True
  | (k, r) :: l => (match r, rowOf rw0 k with
    | .grow _ n _, some (.grow _ n' _) => n = n'
    | _, _ => True) ∧ lenOK rw0 l
theorem lenOK_mem {rw0 : List (Nat × Row)} {k e n : Nat} {f : Nat → AV} {e' n' : Nat} {f' : Nat → AV} : ∀ {l : List (Nat × Row)}, lenOK rw0 l → (k, Row.grow e n f) ∈ l → rowOf rw0 k = some (.grow e' n' f') → n = n'
  | (j, r) :: l, h, hm, h0 => by
    simp only [List.mem_cons, Prod.mk.injEq] at hm
    rcases hm with ⟨rfl, rfl⟩ | hm
    · have := h.1; simp only [h0] at this; exact this
    · exact lenOK_mem h.2 hm h0
theorem outs_of {rw0 rw1 : List (Nat × Row)} (h : outsB rw0 rw1 = true) (hl : lenOK rw0 rw1) (ho : OwnRws rw1) : Outs rw0 rw1 := by
  simp only [outsB, Bool.and_eq_true, List.all_eq_true, Bool.or_eq_true] at h
  refine ⟨fun k r hm => ?_, fun k r hm h8 => ?_, ⟨16, fun k e n f e' n' f' _ h0 h1 => lenOK_mem hl (rowOf_mem h1) h0⟩, h.1, ho⟩
  · have := (h.2 _ hm).1; simpa [Nat.blt_eq] using this
  · rcases (h.2 _ hm).2 with h1 | h1
    · simp only [Nat.ble_eq] at h1; omega
    · exact Option.isSome_iff_exists.1 h1
/-- One of them may grow. -/
def lenG (g : Nat) (rw0 : List (Nat × Row)) : List (Nat × Row) → Prop
  | [] => True
  | (k, r) :: l => (bif Nat.beq k g then True else match r, rowOf rw0 k with
    | .grow _ n _, some (.grow _ n' _) => n = n'
    | _, _ => True) ∧ lenG g rw0 l
theorem lenG_mem {g : Nat} {rw0 : List (Nat × Row)} {k e n : Nat} {f : Nat → AV} {e' n' : Nat} {f' : Nat → AV} (hg : k ≠ g) : ∀ {l : List (Nat × Row)}, lenG g rw0 l → (k, Row.grow e n f) ∈ l → rowOf rw0 k = some (.grow e' n' f') → n = n'
  | (j, r) :: l, h, hm, h0 => by
    simp only [List.mem_cons, Prod.mk.injEq] at hm
    rcases hm with ⟨rfl, rfl⟩ | hm
    · have := h.1
      have e1 : Nat.beq k g = false := by rw [← Bool.not_eq_true, Nat.beq_eq]; exact hg
      rw [e1] at this
      simp only [h0, cond_false] at this; exact this
    · exact lenG_mem hg h.2 hm h0
theorem outs_ofG {g : Nat} {rw0 rw1 : List (Nat × Row)} (h : outsB rw0 rw1 = true) (hl : lenG g rw0 rw1) (ho : OwnRws rw1) : Outs rw0 rw1 := by
  simp only [outsB, Bool.and_eq_true, List.all_eq_true, Bool.or_eq_true] at h
  refine ⟨fun k r hm => ?_, fun k r hm h8 => ?_, ⟨g, fun k e n f e' n' f' hk h0 h1 => lenG_mem hk hl (rowOf_mem h1) h0⟩, h.1, ho⟩
  · have := (h.2 _ hm).1; simpa [Nat.blt_eq] using this
  · rcases (h.2 _ hm).2 with h1 | h1
    · simp only [Nat.ble_eq] at h1; omega
    · exact Option.isSome_iff_exists.1 h1
def KeepsG (E : Pg) (fn : Func) (C : SpecM) : Prop := ∀ A K, C A K → ∃ vs rw0 b rw1 g inv, A vs rw0 ∧ K b rw1 ∧ Nat.ble vs.length fn.ntmps = true ∧ outsB rw0 rw1 = true ∧ lenG g rw0 rw1 ∧ OwnRws rw1 ∧ Own b ∧
  W E fn.ntmps inv (fn.body.getD .skip) ⟨argT vs, rowOf rw0, 8⟩ (fun s => wRes E s fn.results.toList fun a => Out E (rowOf rw0) s rw1 a b) (fin fun s => wRes E s fn.results.toList fun a => Out E (rowOf rw0) s rw1 a b)
def KeepsM (E : Pg) (fn : Func) (C : SpecM) : Prop := ∀ A K, C A K → ∃ vs rw0 b rw1 inv, A vs rw0 ∧ K b rw1 ∧ Nat.ble vs.length fn.ntmps = true ∧ outsB rw0 rw1 = true ∧ lenOK rw0 rw1 ∧ OwnRws rw1 ∧ Own b ∧
  W E fn.ntmps inv (fn.body.getD .skip) ⟨argT vs, rowOf rw0, 8⟩ (fun s => wRes E s fn.results.toList fun a => Out E (rowOf rw0) s rw1 a b) (fin fun s => wRes E s fn.results.toList fun a => Out E (rowOf rw0) s rw1 a b)
theorem goodM {P : Program} {E : Pg} (hP : PgOK P E) (hmix : P.follows .mixedOrders = true) {f : FuncId} {fn : Func} {mask : List Bool} (hf : P.funcs[f]? = some fn) (hnm : (fn.name == "runtime.NumGoroutine") = false) (hb : fn.body.isSome = true) {C : SpecM} (h : KeepsM E fn C) :
    Good P E.ty E.gl f (mutF E.ty mask C) := by
  rw [mutF_eq]
  intro args m key K hc
  obtain ⟨code, hcode⟩ := Option.isSome_iff_exists.1 hb
  obtain ⟨vs, rw0, b, rw1, inv, hA, hK, hlen, hou, hle, hor, hob, hW⟩ := h _ _ hc
  rw [hcode] at hW
  exact ⟨_, hK, fn_valid hP hmix hf hnm hcode (by simpa using hlen) hA (outs_of hou hle hor) hob (fun s a h => h) hW⟩
/-- A function that writes nothing of its caller's: it hands back a value, and new rows. -/
abbrev SpecR := (List AV → Prop) → (AV → List (Nat × Row) → Prop) → Prop
def pureR0 (ty : TypeId → Ty) (C : SpecR) : Ctr := fun args m key K =>
  C (fun vs => LeLW (restr (rdA ty m args) m) ty [] noK args vs ∧ NoFrLW vs) (fun b rw1 => K ⟨b.ren (sig noK key), outW (sig noK key) rw1, rdA ty m args⟩)
def pureR (ty : TypeId → Ty) (C : SpecR) : Ctr := fun args m key K => frcN (rdA ty m args) fun rd =>
  C (fun vs => LeLW (restr rd m) ty [] noK args vs ∧ NoFrLW vs) (fun b rw1 => K ⟨b.ren (sig noK key), outW (sig noK key) rw1, rd⟩)
theorem pureR_eq (ty : TypeId → Ty) (C : SpecR) : pureR ty C = pureR0 ty C := by
  funext args m key K
  unfold pureR pureR0
  rw [frcN_eq]
def KeepsR (E : Pg) (fn : Func) (C : SpecR) : Prop := ∀ A K, C A K → ∃ vs b rw1 inv, A vs ∧ K b rw1 ∧ Nat.ble vs.length fn.ntmps = true ∧ newB rw1 = true ∧ OwnRws rw1 ∧ Own b ∧
  W E fn.ntmps inv (fn.body.getD .skip) ⟨argT vs, fun _ => none, 8⟩ (fun s => wRes E s fn.results.toList fun a => Out E (fun _ => none) s rw1 a b) (fin fun s => wRes E s fn.results.toList fun a => Out E (fun _ => none) s rw1 a b)
theorem goodR {P : Program} {E : Pg} (hP : PgOK P E) (hmix : P.follows .mixedOrders = true) {f : FuncId} {fn : Func} (hf : P.funcs[f]? = some fn) (hnm : (fn.name == "runtime.NumGoroutine") = false) (hb : fn.body.isSome = true) {C : SpecR} (h : KeepsR E fn C) :
    Good P E.ty E.gl f (pureR E.ty C) := by
  rw [pureR_eq]
  intro args m key K hc
  obtain ⟨code, hcode⟩ := Option.isSome_iff_exists.1 hb
  obtain ⟨vs, b, rw1, inv, hA, hK, hlen, hnew, hor, hob, hW⟩ := h _ _ hc
  rw [hcode] at hW
  simp only [newB, Bool.and_eq_true, List.all_eq_true] at hnew
  refine ⟨_, hK, fn_valid hP hmix hf hnm hcode (rw0 := []) (by simpa using hlen) ⟨rfl, trivial, hA.1, trivial, hA.2⟩ ⟨fun k r hm => ?_, fun k r hm h8 => ?_, ⟨16, fun k e n f e' n' f' _ h => (by cases h)⟩, hnew.2, hor⟩ hob (fun s a h => h) hW⟩
  · have := (hnew.1 _ hm).2; simpa [Nat.blt_eq] using this
  · have := (hnew.1 _ hm).1
    simp only [Nat.ble_eq] at this; omega
/-- .. that hands back a value alone. -/
abbrev SpecP := (List AV → Prop) → (AV → Prop) → Prop
def pureP0 (ty : TypeId → Ty) (C : SpecP) : Ctr := fun args m key K =>
  C (fun vs => LeLW (restr (rdA ty m args) m) ty [] noK args vs ∧ NoFrLW vs) (fun b => K ⟨b.ren (sig noK key), [], rdA ty m args⟩)
def pureP (ty : TypeId → Ty) (C : SpecP) : Ctr := fun args m key K => frcN (rdA ty m args) fun rd =>
  C (fun vs => LeLW (restr rd m) ty [] noK args vs ∧ NoFrLW vs) (fun b => K ⟨b.ren (sig noK key), [], rd⟩)
theorem pureP_eq (ty : TypeId → Ty) (C : SpecP) : pureP ty C = pureP0 ty C := by
  funext args m key K
  unfold pureP pureP0
  rw [frcN_eq]
def KeepsP (E : Pg) (fn : Func) (C : SpecP) : Prop := ∀ A K, C A K → ∃ vs b inv, A vs ∧ K b ∧ Nat.ble vs.length fn.ntmps = true ∧ Own b ∧
  W E fn.ntmps inv (fn.body.getD .skip) ⟨argT vs, fun _ => none, 8⟩ (fun s => wRes E s fn.results.toList fun a => LeW s.m E.ty [] noK a b) (fin fun s => wRes E s fn.results.toList fun a => LeW s.m E.ty [] noK a b)
theorem goodP {P : Program} {E : Pg} (hP : PgOK P E) (hmix : P.follows .mixedOrders = true) {f : FuncId} {fn : Func} (hf : P.funcs[f]? = some fn) (hnm : (fn.name == "runtime.NumGoroutine") = false) (hb : fn.body.isSome = true) {C : SpecP} (h : KeepsP E fn C) :
    Good P E.ty E.gl f (pureP E.ty C) := by
  rw [pureP_eq]
  intro args m key K hc
  obtain ⟨code, hcode⟩ := Option.isSome_iff_exists.1 hb
  obtain ⟨vs, b, inv, hA, hK, hlen, hob, hW⟩ := h _ _ hc
  rw [hcode] at hW
  exact ⟨_, hK, fn_valid hP hmix hf hnm hcode (rw0 := []) (rw1 := []) (by simpa using hlen) ⟨rfl, trivial, hA.1, trivial, hA.2⟩ ⟨(fun k r hm => by cases hm), (fun k r hm h8 => by cases hm), ⟨16, fun k e n f e' n' f' _ h => by cases h⟩, rfl, trivial⟩ hob (fun s a h => ⟨noK, rfl, trivial, h⟩) hW⟩
/-- Of a loop: what holds at its head, in slots and rows. -/
def loops (l : List (Nat × LI)) (i : Nat) : Option LI :=
  match l with
  | [] => none
  | (k, L) :: l => bif Nat.beq i k then some L else loops l i
def LI.plain (G : Type) (ok : G → Prop) (sl : G → List (Nat × AV)) (mu : G → Nat) : LI := ⟨G, ok, sl, fun _ => [], mu, noK, noK⟩
theorem forall_lt1 {p : Nat → Prop} (h0 : p 0) : ∀ i, i < 1 → p i := fun i hi => by
  obtain rfl : i = 0 := by omega
  exact h0
theorem forall_lt2 {p : Nat → Prop} (h0 : p 0) (h1 : p 1) : ∀ i, i < 2 → p i := fun i hi => by
  rcases i with _ | _ | i
  · exact h0
  · exact h1
  · omega
theorem forall_lt3 {p : Nat → Prop} (h0 : p 0) (h1 : p 1) (h2 : p 2) : ∀ i, i < 3 → p i := fun i hi => by
  rcases i with _ | _ | _ | i
  · exact h0
  · exact h1
  · exact h2
  · omega
theorem forall_lt4 {p : Nat → Prop} (h0 : p 0) (h1 : p 1) (h2 : p 2) (h3 : p 3) : ∀ i, i < 4 → p i := fun i hi => by
  rcases i with _ | _ | _ | _ | i
  · exact h0
  · exact h1
  · exact h2
  · exact h3
  · omega
theorem rows_lt1 {e : TypeId} {f : Nat → AV} {q : Nat → Prop} (h0 : ShW (.sl e) (f 0) ∧ q 0) : ∀ i, i < 1 → ShW (.sl e) (f i) ∧ q i := forall_lt1 h0
theorem rows_lt2 {e : TypeId} {f : Nat → AV} {q : Nat → Prop} (h0 : ShW (.sl e) (f 0) ∧ q 0) (h1 : ShW (.sl e) (f 1) ∧ q 1) : ∀ i, i < 2 → ShW (.sl e) (f i) ∧ q i := forall_lt2 h0 h1
theorem rows_lt3 {e : TypeId} {f : Nat → AV} {q : Nat → Prop} (h0 : ShW (.sl e) (f 0) ∧ q 0) (h1 : ShW (.sl e) (f 1) ∧ q 1) (h2 : ShW (.sl e) (f 2) ∧ q 2) : ∀ i, i < 3 → ShW (.sl e) (f i) ∧ q i := forall_lt3 h0 h1 h2
theorem rows_lt4 {e : TypeId} {f : Nat → AV} {q : Nat → Prop} (h0 : ShW (.sl e) (f 0) ∧ q 0) (h1 : ShW (.sl e) (f 1) ∧ q 1) (h2 : ShW (.sl e) (f 2) ∧ q 2) (h3 : ShW (.sl e) (f 3) ∧ q 3) : ∀ i, i < 4 → ShW (.sl e) (f i) ∧ q i := forall_lt4 h0 h1 h2 h3
theorem forall_lt5 {p : Nat → Prop} (h0 : p 0) (h1 : p 1) (h2 : p 2) (h3 : p 3) (h4 : p 4) : ∀ i, i < 5 → p i := fun i hi => by
  rcases i with _ | _ | _ | _ | _ | i
  · exact h0
  · exact h1
  · exact h2
  · exact h3
  · exact h4
  · omega
theorem rows_lt5 {e : TypeId} {f : Nat → AV} {q : Nat → Prop} (h0 : ShW (.sl e) (f 0) ∧ q 0) (h1 : ShW (.sl e) (f 1) ∧ q 1) (h2 : ShW (.sl e) (f 2) ∧ q 2) (h3 : ShW (.sl e) (f 3) ∧ q 3) (h4 : ShW (.sl e) (f 4) ∧ q 4) : ∀ i, i < 5 → ShW (.sl e) (f i) ∧ q i := forall_lt5 h0 h1 h2 h3 h4
theorem aggs_lt1 {u : Bool} {l : Nat} {g : Nat → Ty} {f : Nat → AV} {q : Nat → Prop} (h0 : ShW (.agg u l g) (f 0) ∧ q 0) : ∀ i, i < 1 → ShW (.agg u l g) (f i) ∧ q i := forall_lt1 h0
theorem aggs_lt2 {u : Bool} {l : Nat} {g : Nat → Ty} {f : Nat → AV} {q : Nat → Prop} (h0 : ShW (.agg u l g) (f 0) ∧ q 0) (h1 : ShW (.agg u l g) (f 1) ∧ q 1) : ∀ i, i < 2 → ShW (.agg u l g) (f i) ∧ q i := forall_lt2 h0 h1
theorem aggs_lt3 {u : Bool} {l : Nat} {g : Nat → Ty} {f : Nat → AV} {q : Nat → Prop} (h0 : ShW (.agg u l g) (f 0) ∧ q 0) (h1 : ShW (.agg u l g) (f 1) ∧ q 1) (h2 : ShW (.agg u l g) (f 2) ∧ q 2) : ∀ i, i < 3 → ShW (.agg u l g) (f i) ∧ q i := forall_lt3 h0 h1 h2
theorem ints_lt1 {f : Nat → AV} {q : Nat → Prop} (h0 : ShW (.int .i64) (f 0) ∧ q 0) : ∀ i, i < 1 → ShW (.int .i64) (f i) ∧ q i := forall_lt1 h0
theorem ints_lt2 {f : Nat → AV} {q : Nat → Prop} (h0 : ShW (.int .i64) (f 0) ∧ q 0) (h1 : ShW (.int .i64) (f 1) ∧ q 1) : ∀ i, i < 2 → ShW (.int .i64) (f i) ∧ q i := forall_lt2 h0 h1
theorem ints_lt3 {f : Nat → AV} {q : Nat → Prop} (h0 : ShW (.int .i64) (f 0) ∧ q 0) (h1 : ShW (.int .i64) (f 1) ∧ q 1) (h2 : ShW (.int .i64) (f 2) ∧ q 2) : ∀ i, i < 3 → ShW (.int .i64) (f i) ∧ q i := forall_lt3 h0 h1 h2
theorem forall_lt7 {p : Nat → Prop} (h0 : p 0) (h1 : p 1) (h2 : p 2) (h3 : p 3) (h4 : p 4) (h5 : p 5) (h6 : p 6) : ∀ i, i < 7 → p i := fun i hi => by
  rcases i with _ | _ | _ | _ | _ | _ | _ | i
  · exact h0
  · exact h1
  · exact h2
  · exact h3
  · exact h4
  · exact h5
  · exact h6
  · omega
theorem rows_lt7 {e : TypeId} {f : Nat → AV} {q : Nat → Prop} (h0 : ShW (.sl e) (f 0) ∧ q 0) (h1 : ShW (.sl e) (f 1) ∧ q 1) (h2 : ShW (.sl e) (f 2) ∧ q 2) (h3 : ShW (.sl e) (f 3) ∧ q 3) (h4 : ShW (.sl e) (f 4) ∧ q 4) (h5 : ShW (.sl e) (f 5) ∧ q 5) (h6 : ShW (.sl e) (f 6) ∧ q 6) : ∀ i, i < 7 → ShW (.sl e) (f i) ∧ q i := forall_lt7 h0 h1 h2 h3 h4 h5 h6
/-- One contract or another. -/
def orC (C D : Ctr) : Ctr := fun args m key K => C args m key K ∨ D args m key K
theorem good_or {P : Program} {ty : TypeId → Ty} {gl : Nat → AV} {f : FuncId} {C D : Ctr} (h1 : Good P ty gl f C) (h2 : Good P ty gl f D) : Good P ty gl f (orC C D) := fun args m key K h => h.elim (h1 args m key K) (h2 args m key K)
/-- A contract, told without what is forced. -/
class Told (C : Ctr) (C0 : outParam Ctr) : Prop where
  eq : C = C0
instance {ty : TypeId → Ty} {C : SpecP} : Told (pureP ty C) (pureP0 ty C) := ⟨pureP_eq ty C⟩
instance {ty : TypeId → Ty} {C : SpecR} : Told (pureR ty C) (pureR0 ty C) := ⟨pureR_eq ty C⟩
instance {ty : TypeId → Ty} {mask : List Bool} {C : SpecM} : Told (mutF ty mask C) (mutF0 ty mask C) := ⟨mutF_eq ty mask C⟩
theorem good_imp {P : Program} {ty : TypeId → Ty} {gl : Nat → AV} {f : FuncId} {C D C0 D0 : Ctr} [hC : Told C C0] [hD : Told D D0] (h1 : Good P ty gl f C) (h : ∀ args m key K, D0 args m key K → C0 args m key K) : Good P ty gl f D := fun args m key K hd => h1 args m key K (by
  rw [hC.eq]
  rw [hD.eq] at hd
  exact h args m key K hd)
end Go.Proofs.YtldlleoabbcpdaaDoor
/- What closes small goals of a walk. -/
namespace Go.Proofs.YtldlleoabbcpdaaDoor
open Go.RowKit
theorem leOf {p : Prop} (h : p := by ((repeat' ((conv => whnf) <;> first | exact trivial | (with_reducible first | refine And.intro ?_ ?_ | refine rows_lt1 ?_ | refine rows_lt2 ?_ ?_ | refine rows_lt3 ?_ ?_ ?_ | refine rows_lt4 ?_ ?_ ?_ ?_ | refine rows_lt5 ?_ ?_ ?_ ?_ ?_ | refine ints_lt1 ?_ | refine ints_lt2 ?_ ?_ | refine ints_lt3 ?_ ?_ ?_ | refine rows_lt7 ?_ ?_ ?_ ?_ ?_ ?_ ?_ | refine aggs_lt1 ?_ | refine aggs_lt2 ?_ ?_ | refine aggs_lt3 ?_ ?_ ?_ | refine fun (_ : Nat) => ?_) | refine fun (_ : (_ : Nat) < _) => ?_ | exact rfl | exact Nat.le_of_ble_eq_true rfl | (change (_ : Nat) ≤ _; omega) | (change (_ : Nat) = _; omega) | (change (_ : Int) = _; omega))) <;> fail)) : p := h
theorem sideOf {p : Prop} (h : p := by first | (change (_ : Bool) = true; kernel_rfl) | omega | decide | (simp only [N63, bnd, I64, Int.reduceToNat, BitVec.reduceOfInt, BitVec.reduceToNat]; omega) | ((repeat' ((conv => whnf) <;> first | exact trivial | (with_reducible first | refine And.intro ?_ ?_ | refine rows_lt1 ?_ | refine rows_lt2 ?_ ?_ | refine rows_lt3 ?_ ?_ ?_ | refine rows_lt4 ?_ ?_ ?_ ?_ | refine rows_lt5 ?_ ?_ ?_ ?_ ?_ | refine ints_lt1 ?_ | refine ints_lt2 ?_ ?_ | refine ints_lt3 ?_ ?_ ?_ | refine rows_lt7 ?_ ?_ ?_ ?_ ?_ ?_ ?_ | refine aggs_lt1 ?_ | refine aggs_lt2 ?_ ?_ | refine aggs_lt3 ?_ ?_ ?_ | refine fun (_ : Nat) => ?_) | refine fun (_ : (_ : Nat) < _) => ?_ | exact rfl | exact Nat.le_of_ble_eq_true rfl | (change (_ : Nat) ≤ _; omega) | (change (_ : Nat) = _; omega) | (change (_ : Int) = _; omega))) <;> fail)) : p := h
theorem sdO {p q : Prop} (b : q) (a : p := by exact sideOf) : p ∧ q := ⟨a, b⟩
theorem caO {p q : Prop} (b : q) (a : p := by exact leOf) : p ∧ q := ⟨a, b⟩
theorem nlO {l : Nat} {p q : Prop} (k : p) (h : 0 < l := by exact sideOf) : NilE l p q := .some h k
theorem goA {A B : Prop} (a : A) : (true = true → A) ∧ (true = false → B) := ⟨fun _ => a, fun h => (nomatch h)⟩
theorem goB {A B : Prop} (b : B) : (false = true → A) ∧ (false = false → B) := ⟨fun h => (nomatch h), fun _ => b⟩
end Go.Proofs.YtldlleoabbcpdaaDoor
