/- A text walked: statements, branches, loops. -/
import Derived.Test.YtdbiidfgbkmbmaaDoorE23
import Derived.LoopN
namespace Go.Proofs.YtdbiidfgbkmbmaaDoor
open Go.RowKit
/-- What names no row stands wherever memory is the same. -/
theorem R_norow {c c' : Cx} (hw : c'.w = c.w) (hmu : ∀ b, c'.Mu b → c.Mu b) : ∀ {a : AV} {cs : List Value}, NoRow a → R c a cs → R c' a cs := by
  intro a
  induction a with
  | ptr _ _ _ => exact fun h => h.elim
  | gpt _ _ _ _ _ _ => exact fun h => h.elim
  | gsl _ _ _ => exact fun h => h.elim
  | gsub _ _ _ _ _ => exact fun h => h.elim
  | sub _ _ _ _ _ => exact fun h => h.elim
  | ipt τ a ih =>
    rintro cs hn ⟨b, o, ds, rfl, hlt, hm, hr, hsh, hrg⟩
    exact ⟨b, o, ds, rfl, by rw [hw]; exact hlt, fun h => hm (hmu b h), ih hn hr, hsh, by rw [hw]; exact hrg⟩
  | imm fr et l f ih =>
    rintro cs hn ⟨A, q, rfl, h1, h2, h3⟩
    refine ⟨A, q, rfl, h1, h2, fun hl => ?_⟩
    obtain ⟨b, o, rfl, hlt, hm, hfr, hi⟩ := h3 hl
    refine ⟨b, o, rfl, by rw [hw]; exact hlt, fun h => hm (hmu b h), (by rw [hn.1]; intro h; cases h), fun i h => ?_⟩
    obtain ⟨hsh, ds, hr, hrg⟩ := hi i h
    exact ⟨hsh, ds, ih i (hn.2 i h) hr, by rw [hw]; exact hrg⟩
  | agg u l f ih =>
    rintro cs hn ⟨g, hg, rfl⟩
    exact ⟨g, fun i hi => ih i (hn i hi) (hg i hi), rfl⟩
  | tup l f ih =>
    rintro cs hn ⟨vs, g, rfl, hsz, hg⟩
    exact ⟨vs, g, rfl, hsz, fun i hi => ⟨ih i (hn i hi) (hg i hi).1, (hg i hi).2⟩⟩
  | _ => exact fun _ h => h
theorem RV_norow {c c' : Cx} (hw : c'.w = c.w) (hmu : ∀ b, c'.Mu b → c.Mu b) {a : AV} {v : Value} (hn : NoRow a) (h : RV c a v) : RV c' a v := by
  cases a with
  | junk => trivial
  | agg u l f =>
    obtain ⟨cs, rfl, hr⟩ := h
    exact ⟨cs, rfl, R_norow hw hmu hn hr⟩
  | _ => exact R_norow (a := _) hw hmu hn h
/-- The rows as a loop names them. -/
def Cx.named (c : Cx) (rw : List (Nat × Row)) (ρ : Nat → Option Nat) : Cx :=
  { c with
    Mu := fun b => ∃ k r, rowOf rw k = some r ∧ (ρ k).bind c.bl = some b
    m := rowOf rw
    bl := fun k => (ρ k).bind c.bl
    sv := fun k => match ρ k with
      | some j => c.sv j
      | none => .slice none 0 0 }
theorem rowOf_mem : ∀ {rw : List (Nat × Row)} {k : Nat} {r : Row}, rowOf rw k = some r → (k, r) ∈ rw
  | (j, r') :: rw, k, r, h => by
    unfold rowOf at h
    by_cases e : k = j
    · subst e; simp at h; subst h; simp
    · have : Nat.beq k j = false := by rw [← Bool.not_eq_true, Nat.beq_eq]; exact e
      rw [this] at h
      simp [rowOf_mem (show rowOf rw k = some r from h)]
theorem LeRw_mem {m : Nat → Option Row} {ty : TypeId → Ty} {rw : List (Nat × Row)} {ρ : Nat → Option Nat} {k : Nat} {r : Row} : ∀ {l : List (Nat × Row)}, LeRw m ty rw ρ l → (k, r) ∈ l → LeRow m ty rw ρ k r
  | (j, r') :: l, h, hm => by
    simp only [List.mem_cons, Prod.mk.injEq] at hm
    rcases hm with ⟨rfl, rfl⟩ | hm
    · exact h.1
    · exact LeRw_mem h.2 hm
theorem inj_of {ρ : Nat → Option Nat} {k k' j : Nat} : ∀ {ks : List Nat}, injB ks ρ = true → k ∈ ks → k' ∈ ks → ρ k = some j → ρ k' = some j → k = k'
  | x :: ks, h, h1, h2, h3, h4 => by
    unfold injB at h
    cases hx : ρ x with
    | none =>
      rw [List.filterMap_cons_none hx] at h
      have e1 : k ∈ ks := by
        rcases List.mem_cons.1 h1 with rfl | h1
        · rw [hx] at h3; cases h3
        · exact h1
      have e2 : k' ∈ ks := by
        rcases List.mem_cons.1 h2 with rfl | h2
        · rw [hx] at h4; cases h4
        · exact h2
      exact inj_of h e1 e2 h3 h4
    | some y =>
      rw [List.filterMap_cons_some hx, distinctB, Bool.and_eq_true] at h
      have hn : ∀ q, q ∈ ks → ρ q ≠ some y := fun q hq hy => by
        have := List.all_eq_true.1 h.1 y (List.mem_filterMap.2 ⟨q, hq, hy⟩)
        simp at this
      rcases List.mem_cons.1 h1 with e1 | g1
      · rcases List.mem_cons.1 h2 with e2 | g2
        · rw [e1, e2]
        · subst e1; rw [hx] at h3; injection h3 with h3; subst h3
          exact absurd h4 (hn k' g2)
      · rcases List.mem_cons.1 h2 with e2 | g2
        · subst e2; rw [hx] at h4; injection h4 with h4; subst h4
          exact absurd h3 (hn k g1)
        · exact inj_of h.2 g1 g2 h3 h4
section
variable {c : Cx} {rw : List (Nat × Row)} {ρ : Nat → Option Nat}
theorem named_mu (hm : MemOK c) (hr : LeRw c.m c.ty rw ρ rw) {b : Nat} (h : (c.named rw ρ).Mu b) : ∃ k' r' k r, rowOf rw k' = some r' ∧ ρ k' = some k ∧ c.m k = some r ∧ c.bl k = some b := by
  obtain ⟨k', r', hk, hb⟩ := h
  have hle := LeRw_mem hr (rowOf_mem hk)
  cases hρ : ρ k' with
  | none => rw [hρ] at hb; cases hb
  | some k =>
    rw [hρ] at hb
    unfold LeRow at hle
    rw [hρ] at hle
    simp only at hle
    cases hc : c.m k with
    | none => rw [hc] at hle; exact hle.elim
    | some r => exact ⟨k', r', k, r, hk, hρ, hc, hb⟩
theorem keyIs_of {k' k : Nat} (h : keyIs rw ρ k' k = true) : (∃ r, rowOf rw k' = some r) ∧ ρ k' = some k := by
  simp only [keyIs, Bool.and_eq_true] at h
  obtain ⟨h1, h2⟩ := h
  refine ⟨Option.isSome_iff_exists.1 h1, ?_⟩
  cases hρ : ρ k' with
  | none => rw [hρ] at h2; cases h2
  | some j => rw [hρ] at h2; rw [Nat.eq_of_beq_eq_true h2]
theorem keyFree_of {k : Nat} (h : keyFree rw ρ k = true) {k' : Nat} {r : Row} (hk : rowOf rw k' = some r) : ρ k' ≠ some k := by
  intro e
  have := List.all_eq_true.1 h _ (rowOf_mem hk)
  simp [e] at this
theorem free_mu (hm : MemOK c) (hr : LeRw c.m c.ty rw ρ rw) {k : Nat} {r : Row} {b : Nat} (hk : c.m k = some r) (hb : c.bl k = some b) (h : keyFree rw ρ k = true) : ¬ (c.named rw ρ).Mu b := by
  intro hmu
  obtain ⟨k', r', j, r0, h1, h2, h3, h4⟩ := named_mu hm hr hmu
  have := hm.inj j k r0 r b h3 hk h4 hb
  subst this
  exact keyFree_of h h1 h2
theorem mu_old (hm : MemOK c) (hr : LeRw c.m c.ty rw ρ rw) {b : Nat} (h : (c.named rw ρ).Mu b) : c.Mu b := by
  obtain ⟨k', r', k, r, h1, h2, h3, h4⟩ := named_mu hm hr h
  exact (hm.mu k r b h3 h4).1
/-- A row of one's own as one that nobody writes. -/
theorem row_imm (hm : MemOK c) (hr : LeRw c.m c.ty rw ρ rw) {k e n : Nat} {f : Nat → AV} (hk : c.m k = some (.grow e n f)) (hf : keyFree rw ρ k = true) {f' : Nat → AV} {o l : Nat} (hl : o + l ≤ n) (h0 : 0 < l)
    (hi : ∀ i, i < l → Sh (c.ty e) (f' i) ∧ ∀ ds, R c (f (o + i)) ds → R (c.named rw ρ) (f' i) ds) :
    ∃ b, c.bl k = some b ∧ (∃ q, c.sv k = .slice (some ⟨b, 0, none⟩) n q ∧ n ≤ q ∧ q ≤ maxLen) ∧ b < c.w.heap.size ∧ ¬ (c.named rw ρ).Mu b ∧ (8 ≤ k → c.fb ≤ b) ∧ ∀ i, i < l → Sh (c.ty e) (f' i) ∧ ∃ ds, R (c.named rw ρ) (f' i) ds ∧ c.w.rangeAt b (o * (c.ty e).size + i * (c.ty e).size) ds := by
  obtain ⟨g, ⟨hlen, hown⟩, hbl, hg⟩ := hm.rows k _ hk
  rcases hown with ⟨_, hn⟩ | ⟨b, cap, cur, hsv, hbb, hh, hcap, hmax, hcs, htk⟩
  · omega
  · have hb : c.bl k = some b := by rw [← hbl, hsv]; rfl
    have hlt : b < c.w.heap.size := (Array.getElem?_eq_some_iff.1 hh).1
    refine ⟨b, hb, ⟨cap, hsv, hcap, hmax⟩, hlt, free_mu hm hr hk hb hf, (hm.mu k _ b hk hb).2.2, fun i h => ?_⟩
    obtain ⟨h1, h2⟩ := hi i h
    refine ⟨h1, g (o + i), h2 _ (hg (o + i) (by omega)).1, ?_⟩
    have hsz : ∀ j, j < n → (g j).length = (c.ty e).size := fun j hj => R_len (hg j hj).1 (hg j hj).2
    obtain ⟨post, hp⟩ := fm_split g (o + i) n (by omega)
    have hpre : ((List.range (o + i)).flatMap g).length = (o + i) * (c.ty e).size := fm_len_const fun j hj => hsz j (by omega)
    have hcur : cur.toList = (List.range (o + i)).flatMap g ++ g (o + i) ++ (post ++ cur.toList.drop (n * (c.ty e).size)) := by
      rw [← List.append_assoc, ← hp, ← htk, List.take_append_drop]
    intro j v hj
    have hjl : j < (g (o + i)).length := (List.getElem?_eq_some_iff.1 hj).1
    have : cur.toList[(o + i) * (c.ty e).size + j]? = some v := by
      rw [hcur, List.getElem?_append_left (by rw [List.length_append]; omega), ← hpre, List.getElem?_append_right (by omega), Nat.add_sub_cancel_left]; exact hj
    rw [← Nat.add_mul]
    unfold World.cell?
    simp only [hh]
    simpa using this
end
end Go.Proofs.YtdbiidfgbkmbmaaDoor
