/- What a loop's head tells is true of what came there. -/
import Derived.Test.YtdbiidfgbkmbmaaDoorE24
namespace Go.Proofs.YtdbiidfgbkmbmaaDoor
open Go.RowKit
section
variable {c : Cx} {rw : List (Nat × Row)} {ρ : Nat → Option Nat}
theorem le_row_grow (hr : LeRw c.m c.ty rw ρ rw) {k' k e n : Nat} {f : Nat → AV} (h : keyIs rw ρ k' k = true) (hk : c.m k = some (.grow e n f)) : ∃ f', rowOf rw k' = some (.grow e n f') ∧ ρ k' = some k := by
  obtain ⟨⟨r, h1⟩, h2⟩ := keyIs_of h
  have hle := LeRw_mem hr (rowOf_mem h1)
  unfold LeRow at hle
  rw [h2] at hle; simp only [hk] at hle
  cases r with
  | grow e' n' f' => obtain ⟨rfl, rfl, _⟩ := hle; exact ⟨f', h1, h2⟩
  | var τ a => exact hle.elim
theorem le_row_var (hr : LeRw c.m c.ty rw ρ rw) {k' k : Nat} {τ : Ty} {a : AV} (h : keyIs rw ρ k' k = true) (hk : c.m k = some (.var τ a)) : ∃ a', rowOf rw k' = some (.var τ a') ∧ ρ k' = some k := by
  obtain ⟨⟨r, h1⟩, h2⟩ := keyIs_of h
  have hle := LeRw_mem hr (rowOf_mem h1)
  unfold LeRow at hle
  rw [h2] at hle; simp only [hk] at hle
  cases r with
  | var τ' a' => obtain ⟨rfl, _⟩ := hle; exact ⟨a', h1, h2⟩
  | grow _ _ _ => exact hle.elim
theorem Le_sound (hm : MemOK c) (hr : LeRw c.m c.ty rw ρ rw) : ∀ {b a : AV} {cs : List Value}, Le c.m c.ty rw ρ a b → R c a cs → R (c.named rw ρ) b cs := by
  intro b
  induction b with
  | junk => intros; trivial
  | ptr τ' k' p' =>
    intro a cs hle h
    cases a with
    | ptr τ k p =>
      obtain ⟨h1, rfl, rfl⟩ := hle
      obtain ⟨τ0, a0, b, hk, hb, hp, hat, rfl⟩ := h
      obtain ⟨a', h2, h3⟩ := le_row_var hr h1 hk
      exact ⟨τ0, a', b, h2, by simp [Cx.named, h3, hb], hp, hat, rfl⟩
    | _ => exact hle.elim
  | ipt τ' a' ih =>
    intro a cs hle h
    cases a with
    | ipt τ a =>
      obtain ⟨rfl, hs, hl⟩ := hle
      obtain ⟨b, o, ds, rfl, hlt, hmu, hra, hsa, hrg⟩ := h
      exact ⟨b, o, ds, rfl, hlt, fun h => hmu (mu_old hm hr h), ih hl hra, hs, hrg⟩
    | _ => exact hle.elim
  | imm fr' et' l' f' ih =>
    intro a cs hle h
    cases a with
    | nils =>
      have hle : l' = 0 := hle
      subst hle
      have h : cs = [.slice none 0 0] := h
      exact ⟨none, 0, h, Nat.le_refl _, Nat.zero_le _, fun h => absurd h (by omega)⟩
    | imm fr et l f =>
      obtain ⟨hfr, rfl, rfl, hi⟩ := hle
      obtain ⟨A, q, rfl, h1, h2, h3⟩ := h
      refine ⟨A, q, rfl, h1, h2, fun hl => ?_⟩
      obtain ⟨b, o, rfl, hlt, hmu, hbb, hj⟩ := h3 hl
      refine ⟨b, o, rfl, hlt, fun h => hmu (mu_old hm hr h), fun h => hbb (by subst h; simpa using hfr), fun i h => ?_⟩
      obtain ⟨_, ds, hd, hrg⟩ := hj i h
      exact ⟨(hi i h).1, ds, ih i (hi i h).2 hd, hrg⟩
    | gsl e k l =>
      obtain ⟨h8, hf, rfl, hi⟩ := hle
      obtain ⟨n, f, A, q, hk, hln, rfl, h1, h2, h3, h4⟩ := h
      rw [hk] at hi; simp only [growOf] at hi
      obtain ⟨he, hnl, hi⟩ := hi
      subst hnl
      refine ⟨A, q, rfl, h1, h2, fun hl => ?_⟩
      obtain ⟨b, _, ⟨q', hsv, _⟩, hlt, hmu, hbb, hj⟩ := row_imm hm hr hk hf (o := 0) (l := n) (f' := f') (by omega) hl (fun i h => ⟨he ▸ (hi i h).1, fun ds hd => ih i (hi i h).2 (by rwa [Nat.zero_add] at hd)⟩)
      rw [h4 rfl] at hsv
      injection hsv with hA _ _
      refine ⟨b, 0, hA, hlt, hmu, fun h => hbb (by subst h; simpa using h8), fun i h => ?_⟩
      obtain ⟨_, ds, hd, hrg⟩ := hj i h
      exact ⟨(hi i h).1, ds, hd, by subst he; simpa [Cx.named] using hrg⟩
    | gsub e k al o l =>
      obtain ⟨h8, hf, rfl, hi⟩ := hle
      obtain ⟨n, f, A, q, hk, hln, rfl, h1, h2, h3, h4⟩ := h
      rw [hk] at hi; simp only [growOf] at hi
      obtain ⟨he, hnl, hol, hi⟩ := hi
      subst hnl
      refine ⟨A, q, rfl, h1, h2, fun hl => ?_⟩
      obtain ⟨b, hb, _, hlt, hmu, hbb, hj⟩ := row_imm hm hr hk hf (o := o) (l := l) (f' := f') hol hl (fun i h => ⟨he ▸ (hi i h).1, fun ds hd => ih i (hi i h).2 hd⟩)
      obtain ⟨ad, rfl, h5⟩ := h4 hl
      obtain ⟨b', hb', rfl⟩ := h5 rfl
      rw [hb] at hb'; injection hb' with hb'; subst hb'
      refine ⟨b, _, rfl, hlt, hmu, fun h => hbb (by subst h; simpa using h8), fun i h => ?_⟩
      obtain ⟨_, ds, hd, hrg⟩ := hj i h
      exact ⟨(hi i h).1, ds, hd, by subst he; simpa [Cx.named] using hrg⟩
    | sub et k p o l =>
      obtain ⟨h8, hf, rfl, rfl, hi⟩ := hle
      obtain ⟨τ, a, b, n, g, A, q, hk, hb, hp, hat, he, hon, rfl, h1, h2, hA⟩ := h
      rw [hk] at hi; simp only [varOf] at hi
      obtain ⟨b', cs', t', hb', hheap, hra, hsa⟩ := hm.rows k _ hk
      rw [hb] at hb'; injection hb' with hb'; subst hb'
      refine ⟨A, q, rfl, h1, h2, fun hl => ?_⟩
      have hlt : b < c.w.heap.size := (Array.getElem?_eq_some_iff.1 hheap).1
      refine ⟨b, _, hA hl, hlt, free_mu hm hr hk hb hf, fun h => (hm.mu k _ b hk hb).2.2 (by subst h; simpa using h8), fun i h => ?_⟩
      obtain ⟨hsf, hle⟩ := hi i h
      have hin : τ.inP (p ++ [o + i]) := by
        refine inP_append _ _ _ hp ?_
        rw [hat, inP_agg]
        exact ⟨by omega, inP_nil _⟩
      obtain ⟨_, pre, post, ds, hcut, hpl, hrd⟩ := R_at (p ++ [o + i]) hra hsa hin
      have hrg := range_of_block hheap hcut
      refine ⟨hsf, ds, ih i hle hrd, ?_⟩
      rw [hpl, off_append _ _ _ hp, hat, off_agg, show sumN (fun j => (el true g j).size) (o + i) = (o + i) * (g 0).size from sumN_const (g 0).size (o + i), he, off_nil, Nat.add_zero, Nat.add_mul, ← Nat.add_assoc] at hrg
      exact hrg
    | _ => exact hle.elim
  | gsub e' k' al' o' l' =>
    intro a cs hle h
    cases a with
    | gsub e k al o l =>
      obtain ⟨h1, rfl, rfl, rfl, rfl⟩ := hle
      obtain ⟨n, f, A, q, hk, hln, rfl, h2, h3, h4, h5⟩ := h
      obtain ⟨f', h6, h7⟩ := le_row_grow hr h1 hk
      exact ⟨n, f', A, q, h6, hln, rfl, h2, h3, h4, fun hl => by
        obtain ⟨ad, hA, h8⟩ := h5 hl
        exact ⟨ad, hA, fun hn => by
          obtain ⟨b, hb, had⟩ := h8 hn
          exact ⟨b, by simp [Cx.named, h7, hb], had⟩⟩⟩
    | gsl e k l =>
      obtain ⟨h1, rfl, rfl, rfl, rfl⟩ := hle
      obtain ⟨n, f, A, q, hk, hln, rfl, h2, h3, h4, h5⟩ := h
      obtain ⟨f', h6, h7⟩ := le_row_grow hr h1 hk
      refine ⟨n, f', A, q, h6, hln, rfl, h2, h3, by omega, fun hl => ?_⟩
      obtain ⟨ad, hA⟩ := h4 hl
      refine ⟨ad, hA, fun hn => ?_⟩
      obtain ⟨b, cap, cur, hbl, hsv, _⟩ := grow_parts (hm.rows k _ hk) (by omega)
      rw [h5 hn] at hsv
      injection hsv with e1 _ _
      rw [hA] at e1; injection e1 with e1
      exact ⟨b, by simp [Cx.named, h7, hbl], by rw [e1, Nat.zero_mul]⟩
    | _ => exact hle.elim
  | sub et' k' p' o' l' =>
    intro a cs hle h
    cases a with
    | sub et k p o l =>
      obtain ⟨h1, rfl, rfl, rfl, rfl⟩ := hle
      obtain ⟨τ, a, b, n, g, A, q, hk, hb, hp, hat, he, hon, rfl, h2, h3, hA⟩ := h
      obtain ⟨a', h4, h5⟩ := le_row_var hr h1 hk
      exact ⟨τ, a', b, n, g, A, q, h4, by simp [Cx.named, h5, hb], hp, hat, he, hon, rfl, h2, h3, hA⟩
    | _ => exact hle.elim
  | gpt τ' e' k' l' i' p' =>
    intro a cs hle h
    cases a with
    | gpt τ e k l i p =>
      obtain ⟨h1, rfl, rfl, rfl, rfl, rfl⟩ := hle
      obtain ⟨n, f, ad, hk, hln, rfl, h5⟩ := h
      obtain ⟨f', h6, h7⟩ := le_row_grow hr h1 hk
      refine ⟨n, f', ad, h6, hln, rfl, fun hn => ?_⟩
      obtain ⟨hi, hp, hat, b, hb, had⟩ := h5 hn
      exact ⟨hi, hp, hat, b, by simp [Cx.named, h7, hb], had⟩
    | _ => exact hle.elim
  | gsl e' k' l' =>
    intro a cs hle h
    cases a with
    | nils =>
      obtain ⟨rfl, hρ, hk⟩ := hle
      have h : cs = [.slice none 0 0] := h
      cases hrow : rowOf rw k' with
      | none => rw [hrow] at hk; exact hk.elim
      | some r =>
        rw [hrow] at hk
        cases r with
        | var _ _ => exact hk.elim
        | grow e n f =>
          have hk : e = e' := hk
          subst hk
          have hle := LeRw_mem hr (rowOf_mem hrow)
          have hρ : ρ k' = none := by simpa using hρ
          unfold LeRow at hle
          rw [hρ] at hle
          have hle : n = 0 := hle
          subst hle
          exact ⟨0, f, none, 0, hrow, Nat.le_refl _, h, Nat.le_refl _, Nat.zero_le _, fun h => absurd h (by omega), fun _ => by simp [Cx.named, hρ]⟩
    | gsl e k l =>
      obtain ⟨h1, rfl, rfl⟩ := hle
      obtain ⟨n, f, A, q, hk, hln, rfl, h2, h3, h4, h5⟩ := h
      obtain ⟨f', h6, h7⟩ := le_row_grow hr h1 hk
      exact ⟨n, f', A, q, h6, hln, rfl, h2, h3, h4, fun e => by simp [Cx.named, h7, h5 e]⟩
    | _ => exact hle.elim
  | agg u' l' f' ih =>
    intro a cs hle h
    cases a with
    | agg u l f =>
      obtain ⟨rfl, rfl, hi⟩ := hle
      obtain ⟨g, hg, rfl⟩ := h
      exact ⟨g, fun i h => ih i (hi i h) (hg i h), rfl⟩
    | _ => exact hle.elim
  | tup l' f' ih =>
    intro a cs hle h
    cases a with
    | tup l f =>
      obtain ⟨rfl, hi⟩ := hle
      obtain ⟨vs, g, rfl, hsz, hg⟩ := h
      refine ⟨vs, g, rfl, hsz, fun i h => ⟨ih i (hi i h) (hg i h).1, ?_⟩⟩
      obtain ⟨_, v, hv, hmt⟩ := hg i h
      refine ⟨v, hv, ?_⟩
      have hli := hi i h
      cases hf' : f' i with
      | junk => trivial
      | _ => rw [hf'] at hli; cases hf : f i <;> rw [hf] at hli hmt <;> first | exact hli.elim | exact hmt
    | _ => exact hle.elim
  | nat y =>
    intro a cs hle h
    cases a with
    | nat x => have hle : x = y := hle; subst hle; exact h
    | int x => have hle : x = (y : Int) := hle; subst hle; exact h
    | _ => exact hle.elim
  | int y =>
    intro a cs hle h
    cases a with
    | nat x => have hle : (x : Int) = y := hle; subst hle; exact h
    | int x => have hle : x = y := hle; subst hle; exact h
    | _ => exact hle.elim
  | und => intro a cs hle h; cases a <;> first | exact hle.elim | exact h
  | nilp => intro a cs hle h; cases a <;> first | exact hle.elim | exact h
  | nils => intro a cs hle h; cases a <;> first | exact hle.elim | exact h
  | bo y => intro a cs hle h; cases a <;> first | exact hle.elim | (have hle : _ = y := hle; subst hle; exact h)
  | u8 y => intro a cs hle h; cases a <;> first | exact hle.elim | (have hle : _ = y := hle; subst hle; exact h)
  | u16 y => intro a cs hle h; cases a <;> first | exact hle.elim | (have hle : _ = y := hle; subst hle; exact h)
  | u32 y => intro a cs hle h; cases a <;> first | exact hle.elim | (have hle : _ = y := hle; subst hle; exact h)
  | u64 y => intro a cs hle h; cases a <;> first | exact hle.elim | (have hle : _ = y := hle; subst hle; exact h)
  | i32 y => intro a cs hle h; cases a <;> first | exact hle.elim | (have hle : _ = y := hle; subst hle; exact h)
  | str y => intro a cs hle h; cases a <;> first | exact hle.elim | (have hle : _ = y := hle; subst hle; exact h)
theorem Le_rv (hm : MemOK c) (hr : LeRw c.m c.ty rw ρ rw) {a b : AV} {v : Value} (hle : Le c.m c.ty rw ρ a b) (h : RV c a v) : RV (c.named rw ρ) b v := by
  cases b with
  | junk => trivial
  | agg u' l' f' =>
    cases a with
    | agg u l f =>
      obtain ⟨cs, rfl, hc⟩ := h
      exact ⟨cs, rfl, Le_sound hm hr (b := .agg u' l' f') hle hc⟩
    | _ => exact hle.elim
  | _ =>
    have h' : R c a [v] := by
      cases a <;> first | exact h | exact hle.elim
    exact Le_sound hm hr (b := _) hle h'
theorem named_mem (hm : MemOK c) (hr : LeRw c.m c.ty rw ρ rw) (hi : injB (rw.map (·.1)) ρ = true) (hfr : freshB (rw.map (·.1)) ρ = true) : MemOK (c.named rw ρ) := by
  refine ⟨fun k' r hk => ?_, fun k1 k2 r1 r2 b h1 h2 hb1 hb2 => ?_, fun k' r b hk hb => ?_, hm.bf⟩
  · have hle := LeRw_mem hr (rowOf_mem hk)
    unfold LeRow at hle
    cases hρ : ρ k' with
    | none =>
      rw [hρ] at hle
      cases r with
      | var _ _ => exact hle.elim
      | grow e n f =>
        have hle : n = 0 := hle
        subst hle
        exact ⟨fun _ => [], ⟨by simp, .inl ⟨by simp [Cx.named, hρ], rfl⟩⟩, by simp [Cx.named, hρ]; rfl, fun i hi => absurd hi (by omega)⟩
    | some k =>
      rw [hρ] at hle
      cases hc : c.m k with
      | none => simp only [hc] at hle
      | some r0 =>
        have hrow := hm.rows k r0 hc
        cases r0 with
        | var τ a =>
          cases r with
          | grow _ _ _ => simp only [hc] at hle
          | var τ' a' =>
            simp only [hc] at hle
            obtain ⟨rfl, hs, hl⟩ := hle
            obtain ⟨b, cs, t, h1, h2, h3, h4⟩ := hrow
            exact ⟨b, cs, t, by simp [Cx.named, hρ, h1], h2, Le_sound hm hr hl h3, hs⟩
        | grow e n f =>
          cases r with
          | var _ _ => simp only [hc] at hle
          | grow e' n' f' =>
            simp only [hc] at hle
            obtain ⟨rfl, rfl, hl⟩ := hle
            obtain ⟨g, hown, hbl, hg⟩ := hrow
            exact ⟨g, by simpa [Cx.named, hρ] using hown, by simpa [Cx.named, hρ] using hbl, fun i h => ⟨Le_sound hm hr (hl i h).2 (hg i h).1, (hl i h).1⟩⟩
  · have g1 : ∃ j, ρ k1 = some j ∧ c.bl j = some b := by
      have : (ρ k1).bind c.bl = some b := hb1
      cases hρ : ρ k1 with
      | none => rw [hρ] at this; cases this
      | some j => rw [hρ] at this; exact ⟨j, rfl, this⟩
    have g2 : ∃ j, ρ k2 = some j ∧ c.bl j = some b := by
      have : (ρ k2).bind c.bl = some b := hb2
      cases hρ : ρ k2 with
      | none => rw [hρ] at this; cases this
      | some j => rw [hρ] at this; exact ⟨j, rfl, this⟩
    obtain ⟨j1, e1, f1⟩ := g1
    obtain ⟨j2, e2, f2⟩ := g2
    have row : ∀ k' r j, rowOf rw k' = some r → ρ k' = some j → ∃ r0, c.m j = some r0 := by
      intro k' r j hk hρ
      have hle := LeRw_mem hr (rowOf_mem hk)
      unfold LeRow at hle
      rw [hρ] at hle
      cases hc : c.m j with
      | none => simp only [hc] at hle
      | some r0 => exact ⟨r0, rfl⟩
    obtain ⟨q1, g1⟩ := row k1 r1 j1 h1 e1
    obtain ⟨q2, g2⟩ := row k2 r2 j2 h2 e2
    have := hm.inj j1 j2 q1 q2 b g1 g2 f1 f2
    subst this
    exact inj_of hi (List.mem_map_of_mem (f := Prod.fst) (rowOf_mem h1)) (List.mem_map_of_mem (f := Prod.fst) (rowOf_mem h2)) e1 e2
  · refine ⟨⟨k', r, hk, hb⟩, ?_⟩
    have hb' : (ρ k').bind c.bl = some b := hb
    cases hρ : ρ k' with
    | none => rw [hρ] at hb'; cases hb'
    | some k =>
      rw [hρ] at hb'
      have hle := LeRw_mem hr (rowOf_mem hk)
      unfold LeRow at hle
      rw [hρ] at hle
      cases hc : c.m k with
      | none => simp only [hc] at hle
      | some r0 =>
        have h0 := hm.mu k r0 b hc hb'
        refine ⟨h0.2.1, fun h8 => h0.2.2 ?_⟩
        have := List.all_eq_true.1 hfr k' (List.mem_map_of_mem (f := Prod.fst) (rowOf_mem hk))
        rw [hρ] at this
        have e : Nat.blt k' 8 = false := by rw [← Bool.not_eq_true, Nat.blt_eq]; omega
        simpa [e] using this
end
section
variable {P : Program} {E : Pg} {nt : Nat} {c0 : Cx}
theorem LeSl_at {m : Nat → Option Row} {ty : TypeId → Ty} {rw : List (Nat × Row)} {ρ : Nat → Option Nat} {t : Nat → AV} {i : Nat} : ∀ {sl : List (Nat × AV)}, LeSl m ty rw ρ t sl → Le m ty rw ρ (t i) (look sl .junk i)
  | [], _ => by show Le _ _ _ _ _ .junk; cases t i <;> trivial
  | (j, a) :: sl, h => by
    unfold look
    by_cases e : i = j
    · subst e; simpa using h.1
    · have : Nat.beq i j = false := by rw [← Bool.not_eq_true, Nat.beq_eq]; exact e
      rw [this]; exact LeSl_at h.2
theorem nextK_lt : ∀ {rw : List (Nat × Row)} {k : Nat}, nextK rw ≤ k → rowOf rw k = none
  | [], _, _ => rfl
  | (j, r) :: rw, k, h => by
    unfold nextK at h
    unfold rowOf
    have : Nat.beq k j = false := by rw [← Bool.not_eq_true, Nat.beq_eq]; omega
    rw [this]
    exact nextK_lt (rw := rw) (by omega)
theorem namesB_of {m : Nat → Option Row} {rw : List (Nat × Row)} {ρ : Nat → Option Nat} (h : namesB m rw ρ = true) : injB (rw.map (·.1)) ρ = true ∧ passB m rw ρ = true ∧ freshB (rw.map (·.1)) ρ = true := by
  simp only [namesB, Bool.and_eq_true] at h
  exact ⟨h.1.1, h.1.2, h.2⟩
theorem passB_of {m : Nat → Option Row} {rw : List (Nat × Row)} {ρ : Nat → Option Nat} (h : passB m rw ρ = true) {j : Nat} {r : Row} (hj : j < 8) (hr : m j = some r) : (∃ r', rowOf rw j = some r') ∧ ρ j = some j := by
  have := List.all_eq_true.1 h j (List.mem_range.2 hj)
  rw [hr] at this
  simp only [Option.isSome_some, Bool.not_true, Bool.false_or, Bool.and_eq_true] at this
  refine ⟨Option.isSome_iff_exists.1 this.1, ?_⟩
  cases hρ : ρ j with
  | none => rw [hρ] at this; cases this.2
  | some k => rw [hρ] at this; rw [Nat.eq_of_beq_eq_true this.2]
/-- What the call was given is there still, whatever it is named. -/
theorem named_since {c c0 : Cx} {rw : List (Nat × Row)} {ρ : Nat → Option Nat} (hm : MemOK c) (h8 : ∀ k, 8 ≤ k → c0.m k = none) (hs : Stab c0 c) (hr : LeRw c.m c.ty rw ρ rw) {m0 : Nat → Option Row} (hm0 : ∀ k r, c0.m k = some r → ∃ r', m0 k = some r') (hp : passB m0 rw ρ = true) : Stab c0 (c.named rw ρ) := by
  have hlt : ∀ k r, c0.m k = some r → k < 8 := fun k r hk => by
    rcases Nat.lt_or_ge k 8 with h | h
    · exact h
    · rw [h8 k h] at hk; cases hk
  refine ⟨hs.ty, hs.base, hs.fb, fun k τ a hk => ?_, fun k e n f hk => ?_, fun b hb hmu => ?_, hs.size⟩
  · obtain ⟨⟨a', h1⟩, h2⟩ := hs.var k τ a hk
    obtain ⟨_, h0⟩ := hm0 k _ hk
    obtain ⟨⟨r', h3⟩, h4⟩ := passB_of hp (hlt k _ hk) h0
    have hle := LeRw_mem hr (rowOf_mem h3)
    unfold LeRow at hle
    rw [h4] at hle; simp only [h1] at hle
    cases r' with
    | grow _ _ _ => exact hle.elim
    | var τ' a'' =>
      obtain ⟨rfl, _⟩ := hle
      exact ⟨⟨a'', h3⟩, by simp [Cx.named, h4, h2]⟩
  · obtain ⟨n', f', h1, h2, h5⟩ := hs.grow k e n f hk
    obtain ⟨_, h0⟩ := hm0 k _ hk
    obtain ⟨⟨r', h3⟩, h4⟩ := passB_of hp (hlt k _ hk) h0
    have hle := LeRw_mem hr (rowOf_mem h3)
    unfold LeRow at hle
    rw [h4] at hle; simp only [h1] at hle
    cases r' with
    | var _ _ => exact hle.elim
    | grow e' n'' f'' =>
      obtain ⟨rfl, rfl, _⟩ := hle
      exact ⟨n', f'', h3, h2, fun hh => by simp [Cx.named, h4, h5 hh]⟩
  · obtain ⟨h1, h2⟩ := hs.old b hb hmu
    exact ⟨fun h => h1 (mu_old hm hr h), h2⟩
theorem since_some {c0 c : Cx} (h : Stab c0 c) : ∀ k r, c0.m k = some r → ∃ r', c.m k = some r' := fun k r hk => by
  cases r with
  | var τ a => obtain ⟨⟨a', h1⟩, _⟩ := h.var k τ a hk; exact ⟨_, h1⟩
  | grow e n f => obtain ⟨n', f', h1, _⟩ := h.grow k e n f hk; exact ⟨_, h1⟩
/-- At a loop's head. -/
theorem ent_ok (hP : PgOK P E) (h8 : ∀ k, 8 ≤ k → c0.m k = none) {s : St} {c : Cx} {a : Act} {sl : List (Nat × AV)} {rw : List (Nat × Row)} {ρ : Nat → Option Nat} (h : Abs P E nt c0 s c a) (he : Ent E s sl rw ρ) :
    ∃ c', Abs P E nt c0 (stOf sl rw) c' a ∧ Fr (stOf sl rw) (stOf sl rw).c ∧ c'.w = c.w := by
  obtain ⟨hn, hr, hs⟩ := he
  replace hr := LeRwW_of hr
  replace hs := LeSlW_of hs
  rw [← h.m] at hn
  rw [← h.m, ← h.ty] at hr hs
  obtain ⟨hi, hp, hf⟩ := namesB_of hn
  refine ⟨c.named rw ρ, ⟨h.ty, named_mem h.mem hr hi hf, h.bs, h.base, h.fb, h.low, named_since h.mem h8 h.since hr (m0 := c.m) (since_some h.since) hp, rfl, fun i => Le_rv h.mem hr (LeSl_at hs) (h.t i), h.nt, h.dfr, fun g => RV_norow (c := c) (c' := c.named rw ρ) rfl (fun b hb => mu_old h.mem hr hb) (hP.flat g) (h.gl g)⟩, fun k hk => nextK_lt hk, rfl⟩
/-- The text, walked. -/
theorem W_sound (hP : PgOK P E) (h8 : ∀ k, 8 ≤ k → c0.m k = none) (hm : P.follows .mixedOrders = true) {inv : Nat → Option LI} : ∀ (x : Code) (s : St) (c : Cx) (a : Act) (N : St → Prop) (X : Exit → St → Prop) (Q : Exit → Act → World → Prop), W E nt inv x s N X → Abs P E nt c0 s c a → Fr s s.c →
    (∀ s' c' a', N s' → Abs P E nt c0 s' c' a' → Fr s' s'.c → Q .normal a' c'.w) → (∀ e s' c' a', X e s' → e ≠ .normal → Abs P E nt c0 s' c' a' → Fr s' s'.c → Q e a' c'.w) → x.wp P Q a c.w := by
  intro x
  induction x with
  | skip => intro s c a N X Q h ha hf hN hX; exact wp_skip (hN _ _ _ h ha hf)
  | region id ops dr =>
    intro s c a N X Q h ha hf hN hX
    obtain ⟨t, m, k⟩ := s
    obtain ⟨hr, h⟩ := h
    simp only [regOK, Bool.and_eq_true, Bool.or_eq_true] at hr
    have hl : ops.toList.length ≤ 128 := by simpa using hr.1
    refine region_ok hP hm (s := ⟨t, m, k⟩) (fun e => by subst e; simpa using hr.2) h ha hf fun s' c' a' hk hc ha' hf' => hN _ c' a' hk ⟨ha'.ty, ha'.mem, ha'.bs, ha'.base, ha'.fb, ha'.low, ha'.since, ha'.m, ha'.t, ha'.nt, ha'.dfr, ha'.gl⟩ (fun j hj => hf' j ?_)
    have hj : k + 1024 ≤ j := hj
    show k + 8 * ops.toList.length ≤ j
    omega
  | seq x y ihx ihy =>
    intro s c a N X Q h ha hf hN hX
    unfold W at h
    have rest : ∀ (M : St → Prop), W E nt inv x s M X → (∀ s' c' a', M s' → Abs P E nt c0 s' c' a' → Fr s' s'.c → y.wp P Q a' c'.w) → (Code.seq x y).wp P Q a c.w := fun M hx hy => by
     refine wp_seq (ihx s c a M X _ hx ha hf (fun s' c' a' hn ha' hf' => hy s' c' a' hn ha' hf') fun e s' c' a' hq hne ha' hf' => ?_)
     cases e with
     | normal => exact absurd rfl hne
     | _ => exact hX _ _ _ _ hq hne ha' hf'
    cases hL : inv (100000 + firstReg y) with
    | none =>
      rw [hL] at h
      exact rest _ h fun s' c' a' hn ha' hf' => ihy s' c' a' N X Q hn ha' hf' hN hX
    | some L =>
      rw [hL] at h
      obtain ⟨J, h1, h2⟩ := h
      refine rest _ h1 fun s' c' a' hn ha' hf' => ?_
      obtain ⟨g, hok, hJ, he⟩ := hn
      obtain ⟨c'', ha'', hf'', hw⟩ := ent_ok hP h8 ha' he
      have := ihy _ c'' a' N X Q (h2 g hok hJ) ha'' hf'' hN hX
      rw [hw] at this; exact this
  | cond q x y ihx ihy =>
    intro s c a N X Q h ha hf hN hX
    unfold W at h
    cases hq : ev E s.t q with
    | bo v =>
      rw [hq] at h
      have hv := ha.ev q
      rw [hq] at hv
      refine wp_cond_split (rv_bo hv) (fun e => ihx s c a N X Q (h.1 e) ha hf hN hX) (fun e => ihy s c a N X Q (h.2 e) ha hf hN hX)
    | _ => rw [hq] at h; exact h.elim
  | block id x ih =>
    intro s c a N X Q h ha hf hN hX
    refine wp_block (ih s c a N (xb id N X) _ h ha hf (fun s' c' a' hn ha' hf' => hN _ _ _ hn ha' hf') fun e s' c' a' hq hne ha' hf' => ?_)
    cases e with
    | normal => exact absurd rfl hne
    | exit j =>
      show if j = id then _ else _
      simp only [xb] at hq
      by_cases e : j = id
      · subst e
        simp only [Nat.beq_refl] at hq
        rw [if_pos rfl]
        exact hN _ _ _ hq ha' hf'
      · have hb : Nat.beq j id = false := by rw [← Bool.not_eq_true, Nat.beq_eq]; exact e
        simp only [hb] at hq
        rw [if_neg e]
        exact hX _ _ _ _ hq (fun h => by cases h) ha' hf'
    | _ => exact hX _ _ _ _ hq hne ha' hf'
  | exit j => intro s c a N X Q h ha hf hN hX; exact wp_exit (hX _ _ _ _ h (fun h => by cases h) ha hf)
  | ret => intro s c a N X Q h ha hf hN hX; exact wp_ret (hX _ _ _ _ h (fun h => by cases h) ha hf)
  | loop x ih =>
    intro s c a N X Q h ha hf hN hX
    unfold W at h
    cases hL : inv (firstReg x) with
    | none => rw [hL] at h; exact h.elim
    | some L =>
      rw [hL] at h
      obtain ⟨J, ⟨g, hg, hJ, he⟩, hround⟩ := h
      have rounds : ∀ (M : Nat) (g : L.G), L.mu g < M → L.ok g → J g → ∀ (c : Cx) (a : Act), Abs P E nt c0 (stOf (L.sl g) (L.rw g)) c a → Fr (stOf (L.sl g) (L.rw g)) (stOf (L.sl g) (L.rw g)).c → Code.rounds P x Q M a c.w := by
        intro M
        induction M with
        | zero => intro g h; omega
        | succ M ihM =>
          intro g hlt hok hJ c a ha hf
          rw [rounds_succ]
          refine ih _ c a _ X _ (hround g hok hJ) ha hf (fun s' c' a' hn ha' hf' => ?_) fun e s' c' a' hq hne ha' hf' => ?_
          · obtain ⟨g', hok', hJ', hmu, he'⟩ := hn
            obtain ⟨c'', ha'', hf'', hw⟩ := ent_ok hP h8 ha' he'
            have := ihM g' (by omega) hok' hJ' c'' a' ha'' hf''
            rw [hw] at this; exact this
          · cases e with
            | normal => exact absurd rfl hne
            | _ => exact hX _ _ _ _ hq hne ha' hf'
      obtain ⟨c', ha', hf', hw⟩ := ent_ok hP h8 ha he
      have := wp_loop_rounds (L.mu g + 1) (rounds (L.mu g + 1) g (by omega) hg hJ c' a ha' hf')
      rw [hw] at this; exact this
  | _ => intro s c a N X Q h ha hf hN hX; exact h.elim
end
end Go.Proofs.YtdbiidfgbkmbmaaDoor
