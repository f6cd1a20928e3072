/- A statement whose order is open, walked: each order leaves what the text's leaves. -/
import Derived.Test.YtdbiidfgbkmbmaaDoorE21
namespace Go.Proofs.YtdbiidfgbkmbmaaDoor
open Go.RowKit
section
variable {P : Program} {E : Pg} {nt : Nat} {c0 : Cx} {l : List Oper} {base : Nat} {qs : List (Bool × Res)} {s0 s' : St}
/-- The edges go back. -/
def Back (l : List Oper) : Prop := ∀ i o, l[i]? = some o → ∀ e ∈ o.after.toList, Region.binds .any e = true → e.on < i
def Ordered (l : List Oper) : Prop := ∀ (i j : Nat) (o p : Oper), l[i]? = some o → l[j]? = some p → i ≠ j → ∀ d, p.dst = some d → d ∈ tmpsOf l o → anc l (max i j) (min i j) = true
theorem regB_of (h : regB l = true) : Back l ∧ Ordered l := by
  simp only [regB, Bool.and_eq_true, List.all_eq_true, List.mem_range] at h
  obtain ⟨h1, h2⟩ := h
  refine ⟨fun i o ho e he hb => ?_, fun i j o p ho hp hij d hd hm => ?_⟩
  · have hi := (List.getElem?_eq_some_iff.1 ho).1
    have := h1 i hi
    rw [ho] at this
    have := List.all_eq_true.1 this e he
    rw [hb] at this
    simpa [Nat.blt_eq] using this
  · have hi := (List.getElem?_eq_some_iff.1 ho).1
    have hj := (List.getElem?_eq_some_iff.1 hp).1
    have := h2 i hi
    rw [ho] at this
    have := List.all_eq_true.1 this j (List.mem_range.2 hj)
    rw [hp] at this
    have e : Nat.beq i j = false := by rw [← Bool.not_eq_true, Nat.beq_eq]; exact hij
    simp only [e, hd, Bool.false_or] at this
    have hc : (tmpsOf l o).contains d = true := by simpa using hm
    rw [hc] at this
    simpa using this
theorem anc_lt (hB : Back l) {i j : Nat} {o : Oper} (ho : l[i]? = some o) (h : anc l i j = true) : j < i := by
  have := anc_in (L := fun p => decide (p < i)) (fun k p hp hk e he hb => by
    have := hB k p hp e he hb
    simp only [decide_eq_true_eq] at hk ⊢; omega) ho (fun e he hb => by
    have := hB i o ho e he hb
    simpa using this) h
  simpa using this
theorem opAt_eq {i : Nat} (h : i < l.length) : l[i]? = some (opAt l i) := by
  unfold opAt
  rw [List.getD_eq_getElem?_getD, List.getElem?_eq_getElem h]; rfl
/-- What is known of each operation. -/
structure Known (P : Program) (E : Pg) (nt : Nat) (l : List Oper) (base : Nat) (qs : List (Bool × Res)) (s0 : St) : Prop where
  ok : ∀ j, j < l.length → Ok1 P E l base j (opAt l j) (stL nt l qs (fun _ => true) s0 j) (resAt qs j)
  rd : ∀ j, j < l.length → okR l base j (opAt l j) (resAt qs j).2.rd ((resAt qs j).2.wr.map (·.1)) = true
  back : Back l
  ord : Ordered l
theorem okR_rd {i : Nat} {o : Oper} {rd wr : List Nat} (h : okR l base i o rd wr = true) : ∀ k ∈ rd, memOp o = true ∧ (k < base ∨ anc l i ((k - base) / 8) = true) := by
  intro k hk
  simp only [okR, Bool.and_eq_true] at h
  obtain ⟨⟨h1, h2⟩, _⟩ := h
  constructor
  · cases hm : memOp o with
    | true => rfl
    | false => rw [hm] at h1; cases rd with
      | nil => cases hk
      | cons a b => simp at h1
  · have := List.all_eq_true.1 h2 k hk
    simpa [Nat.blt_eq] using this
theorem okR_wr {i : Nat} {o : Oper} {rd wr : List Nat} (h : okR l base i o rd wr = true) : ∀ k ∈ wr, (base + 8 * i ≤ k ∧ k < base + 8 * i + 8) ∨ (memOp o = true ∧ solo l i = true ∧ (k < base ∨ anc l i ((k - base) / 8) = true)) := by
  intro k hk
  simp only [okR, Bool.and_eq_true] at h
  have := List.all_eq_true.1 h.2 k hk
  simp only [Bool.or_eq_true, Bool.and_eq_true, Nat.blt_eq, Nat.ble_eq] at this
  rcases this with h | ⟨⟨h1, h2⟩, h3⟩
  · exact .inl h
  · exact .inr ⟨h1, h2, h3⟩
theorem solo_of {i j : Nat} {o : Oper} (h : solo l i = true) (ho : l[j]? = some o) (hm : memOp o = true) (hne : i ≠ j) : anc l i j = true ∨ anc l j i = true := by
  have := List.all_eq_true.1 h j (List.mem_range.2 (List.getElem?_eq_some_iff.1 ho).1)
  rw [ho] at this
  have e : Nat.beq i j = false := by rw [← Bool.not_eq_true, Nat.beq_eq]; exact hne
  simpa [e, hm] using this
variable {L : Nat → Bool} {i : Nat}
/-- One of those that may be next. -/
structure Next (l : List Oper) (L : Nat → Bool) (i : Nat) : Prop where
  lt : i < l.length
  un : L i = false
  edges : ∀ e ∈ (opAt l i).after.toList, Region.binds .any e = true → L e.on = true
theorem pre_eq (nt : Nat) (l : List Oper) (qs : List (Bool × Res)) (s0 : St) {i : Nat} (hi : i ≤ l.length) : stL nt l qs (fun _ => true) s0 i = stL nt l qs (fun p => decide (p < i)) s0 l.length := by
  rw [stL_ge (i := i) hi (fun p h1 _ => by simp; omega)]
  exact stL_congr fun p hp => by simp [hp]
theorem not_anc_up (hL : Closed l L) (hN : Next l L i) {p : Nat} (hp : p < l.length) (hLp : L p = true) : anc l p i = false := by
  rw [← Bool.not_eq_true]
  intro h
  have := anc_in hL (opAt_eq hp) (hL p _ (opAt_eq hp) hLp) h
  rw [hN.un] at this; cases this
theorem anc_listed (hL : Closed l L) (hN : Next l L i) {p : Nat} (h : anc l i p = true) : L p = true :=
  anc_in hL (opAt_eq hN.lt) hN.edges h
theorem agree_t (hK : Known P E nt l base qs s0) (hL : Closed l L) (hN : Next l L i) {t : Nat} (ht : t ∈ tmpsOf l (opAt l i)) :
    (stL nt l qs L s0 l.length).t t = (stL nt l qs (fun _ => true) s0 i).t t := by
  rw [pre_eq nt l qs s0 (Nat.le_of_lt hN.lt)]
  refine stL_t fun p hp hne hd => ?_
  exfalso
  have hpi : p ≠ i := by rintro rfl; rw [hN.un] at hne; simp at hne
  have ha := hK.ord i p _ _ (opAt_eq hN.lt) (opAt_eq hp) (fun e => hpi e.symm) t hd ht
  rcases Nat.lt_or_gt_of_ne hpi with h | h
  · rw [Nat.max_eq_left (by omega), Nat.min_eq_right (by omega)] at ha
    have := anc_listed hL hN ha
    rw [this] at hne; simp [h] at hne
  · rw [Nat.max_eq_right (by omega), Nat.min_eq_left (by omega)] at ha
    have hLp : L p = true := by
      cases hq : L p with
      | true => rfl
      | false => rw [hq] at hne; exact absurd (by simp; omega) hne
    rw [not_anc_up hL hN hp hLp] at ha; cases ha
theorem agree_m (hK : Known P E nt l base qs s0) (hL : Closed l L) (hN : Next l L i) {k : Nat} (hk : k ∈ (resAt qs i).2.rd) :
    (stL nt l qs L s0 l.length).m k = (stL nt l qs (fun _ => true) s0 i).m k := by
  obtain ⟨hm, hkb⟩ := okR_rd (hK.rd i hN.lt) k hk
  rw [pre_eq nt l qs s0 (Nat.le_of_lt hN.lt)]
  refine stL_m fun p hp hne r hr hrk => ?_
  subst hrk
  have hpi : p ≠ i := by rintro rfl; rw [hN.un] at hne; simp at hne
  have hcase : (p < i ∧ L p = false) ∨ (i < p ∧ L p = true) := by
    rcases Nat.lt_or_gt_of_ne hpi with h | h
    · left; refine ⟨h, ?_⟩; cases hq : L p with
      | false => rfl
      | true => rw [hq] at hne; simp [h] at hne
    · right; refine ⟨h, ?_⟩; cases hq : L p with
      | true => rfl
      | false => rw [hq] at hne; exact absurd (by simp; omega) hne
  have key : ¬ anc l i p = true := fun ha => by
    have h1 := anc_listed hL hN ha
    have h2 := anc_lt hK.back (opAt_eq hN.lt) ha
    rcases hcase with ⟨_, h⟩ | ⟨h, _⟩
    · rw [h] at h1; cases h1
    · omega
  have key2 : ¬ anc l p i = true := fun ha => by
    have h2 := anc_lt hK.back (opAt_eq hp) ha
    rcases hcase with ⟨h, _⟩ | ⟨_, h⟩
    · omega
    · rw [not_anc_up hL hN hp h] at ha; cases ha
  rcases okR_wr (hK.rd p hp) r.1 (List.mem_map_of_mem hr) with ⟨h1, h2⟩ | ⟨h1, h2, _⟩
  · rcases hkb with h | h
    · omega
    · rw [show (r.1 - base) / 8 = p by omega] at h; exact key h
  · rcases solo_of h2 (opAt_eq hN.lt) hm hpi with h | h
    · exact key2 h
    · exact key h
theorem fresh_m (hK : Known P E nt l base qs s0) (hf : Fr s0 base) (hL : Closed l L) (hN : Next l L i) {k : Nat} (h1 : base + 8 * i ≤ k) (h2 : k < base + 8 * i + 8) : (stL nt l qs L s0 l.length).m k = none := by
  have : (stL nt l qs L s0 l.length).m k = (stL nt l qs (fun _ => false) s0 l.length).m k := stL_m fun p hp hne r hr hrk => by
    subst hrk
    have hLp : L p = true := by cases hq : L p with
      | true => rfl
      | false => rw [hq] at hne; exact absurd rfl hne
    have hpi : p ≠ i := by rintro rfl; rw [hN.un] at hLp; cases hLp
    rcases okR_wr (hK.rd p hp) r.1 (List.mem_map_of_mem hr) with ⟨h3, h4⟩ | ⟨_, _, h3⟩
    · omega
    · rcases h3 with h3 | h3
      · omega
      · rw [show (r.1 - base) / 8 = i by omega, not_anc_up hL hN hp hLp] at h3; cases h3
  rw [this, stL_ge (i := 0) (Nat.zero_le _) (fun p _ _ => rfl)]
  exact hf k (by omega)
def also (L : Nat → Bool) (i : Nat) : Nat → Bool := fun p => L p || Nat.beq p i
theorem also_ne {p : Nat} (h : p ≠ i) : also L i p = L p := by
  have : Nat.beq p i = false := by rw [← Bool.not_eq_true, Nat.beq_eq]; exact h
  simp [also, this]
theorem also_self : also L i i = true := by simp [also]
theorem step_L (hK : Known P E nt l base qs s0) (hL : Closed l L) (hN : Next l L i) : stL nt l qs (also L i) s0 l.length = step1 nt (opAt l i) (resAt qs i) (stL nt l qs L s0 l.length) := by
  have hpre : stL nt l qs (also L i) s0 i = stL nt l qs L s0 i := stL_congr fun p hp => also_ne (by omega)
  have hat : stL nt l qs (also L i) s0 (i + 1) = step1 nt (opAt l i) (resAt qs i) (stL nt l qs L s0 i) := by
    rw [stL, if_pos also_self, hpre]
  have hup : ∀ p, i < p → p < l.length → also L i p = true → L p = true := fun p h1 _ h => by rwa [also_ne (by omega)] at h
  have hc : (stL nt l qs (also L i) s0 l.length).c = (step1 nt (opAt l i) (resAt qs i) (stL nt l qs L s0 l.length)).c := by
    show _ = (stL nt l qs L s0 l.length).c
    rw [stL_c, stL_c]
  have ht : (stL nt l qs (also L i) s0 l.length).t = (step1 nt (opAt l i) (resAt qs i) (stL nt l qs L s0 l.length)).t := by
    funext t
    rw [step1_t]
    split
    · rename_i h
      obtain ⟨hd, hlt⟩ := h
      rw [stL_t_last hN.lt (fun p h1 h2 hp hdp => ?_), hat, step1_t, if_pos ⟨hd, hlt⟩]
      have hm : t ∈ tmpsOf l (opAt l i) := by simp [tmpsOf, hd]
      have ha := hK.ord i p _ _ (opAt_eq hN.lt) (opAt_eq h2) (by omega) t hdp hm
      rw [Nat.max_eq_right (by omega), Nat.min_eq_left (by omega), not_anc_up hL hN h2 (hup p h1 h2 hp)] at ha
      cases ha
    · rename_i h
      refine stL_t fun p hp hne hd hlt => h ?_
      have : p = i := by
        by_cases e : p = i
        · exact e
        · rw [also_ne e] at hne; exact absurd rfl hne
      subst this
      exact ⟨hd, hlt⟩
  have hm : (stL nt l qs (also L i) s0 l.length).m = (step1 nt (opAt l i) (resAt qs i) (stL nt l qs L s0 l.length)).m := by
    funext k
    show _ = putW (stL nt l qs L s0 l.length).m (resAt qs i).2.wr k
    by_cases e : ∃ r ∈ (resAt qs i).2.wr, r.1 = k
    · rw [stL_m_last hN.lt (fun p h1 h2 hp r hr hrk => ?_), hat]
      · exact putW_in e
      · subst hrk
        obtain ⟨r', hr', hrk⟩ := e
        have hLp := hup p h1 h2 hp
        have hn1 := not_anc_up hL hN h2 hLp
        have hn2 : ¬ anc l i p = true := fun ha => by have := anc_lt hK.back (opAt_eq hN.lt) ha; omega
        have hi := okR_wr (hK.rd i hN.lt) r.1 (hrk ▸ List.mem_map_of_mem hr')
        rcases okR_wr (hK.rd p h2) r.1 (List.mem_map_of_mem hr) with ⟨h3, h4⟩ | ⟨h3, h3', h4⟩
        · rcases hi with ⟨h5, h6⟩ | ⟨_, _, h5⟩
          · omega
          · rcases h5 with h5 | h5
            · omega
            · rw [show (r.1 - base) / 8 = p by omega] at h5; exact hn2 h5
        · rcases hi with ⟨h5, h6⟩ | ⟨h5, _, _⟩
          · rcases h4 with h4 | h4
            · omega
            · rw [show (r.1 - base) / 8 = i by omega, hn1] at h4; cases h4
          · rcases solo_of h3' (opAt_eq hN.lt) h5 (by omega) with h | h
            · rw [hn1] at h; cases h
            · exact hn2 h
    · have hn : ∀ r ∈ (resAt qs i).2.wr, r.1 ≠ k := fun r hr hrk => e ⟨r, hr, hrk⟩
      rw [putW_not hn]
      refine stL_m fun p hp hne r hr => ?_
      have : p = i := by
        by_cases e : p = i
        · exact e
        · rw [also_ne e] at hne; exact absurd rfl hne
      subst this
      exact hn r hr
  generalize stL nt l qs (also L i) s0 l.length = A at hc ht hm ⊢
  generalize step1 nt (opAt l i) (resAt qs i) (stL nt l qs L s0 l.length) = C at hc ht hm ⊢
  obtain ⟨_, _, _⟩ := A
  obtain ⟨_, _, _⟩ := C
  simp only at hc ht hm
  subst hc ht hm
  rfl
theorem closed_also (hB : Back l) (hL : Closed l L) (hN : Next l L i) : Closed l (also L i) := by
  intro j o ho hj e he hb
  by_cases e1 : j = i
  · subst e1
    rw [opAt_eq hN.lt] at ho; injection ho with ho; subst ho
    simp [also, hN.edges e he hb]
  · rw [also_ne e1] at hj
    simp [also, hL j o ho hj e he hb]
/-- One operation, whenever it comes up. -/
theorem op_any (hK : Known P E nt l base qs s0) (hf : Fr s0 base) (hL : Closed l L) (hN : Next l L i) {c : Cx} {a : Act} (h : Abs P E nt c0 (stL nt l qs L s0 l.length) c a) {K : Act → World → Prop} {Q : Exit → Act → World → Prop}
    (hk : ∀ c' a', Abs P E nt c0 (stL nt l qs (also L i) s0 l.length) c' a' → K a' c'.w) : wpOp P l.toArray Q i K a c.w := by
  have ho := opAt_eq hN.lt
  have ho' : l.toArray[i]? = some (opAt l i) := by simpa using ho
  rw [step_L hK hL hN] at hk
  have hgv : ∀ j want, (opAt l i).guard = some (j, want) → gval l (stL nt l qs (fun _ => true) s0 i).t j = gval l (stL nt l qs L s0 l.length).t j := by
    intro j want hg
    unfold gval
    cases hj : l[j]? with
    | none => rfl
    | some g =>
      simp only []
      cases hd : g.dst with
      | none => rfl
      | some d =>
        simp only []
        exact (agree_t hK hL hN (by simp [tmpsOf, hg, hj, hd])).symm
  unfold wpOp
  simp only [ho']
  obtain ⟨_, ⟨_, hg, hv⟩ | ⟨_, hq, j, want, hg, hb⟩⟩ := hK.ok i hN.lt
  · have hw : Region.wanted (opAt l i) (yielded l.toArray a.tmps) = true := by
      rcases hg with hg | ⟨j, want, hg, hb⟩
      · simp [Region.wanted, hg]
      · rw [hgv j want hg] at hb
        simp [Region.wanted, hg, guard_yields h hb]
    rw [if_pos hw]
    left
    refine hv c a K Q h.ty h.mem h.bs (fun k hk' => by rw [h.m]; exact agree_m hK hL hN hk') (fun j h1 h2 => by rw [h.m]; exact fresh_m hK hf hL hN h1 h2) (mask_rv (fun y hy => ?_) fun y hy => ?_) (fun c' v hst hr => hk c' _ (h.step hst hr))
    · have := h.ev y
      cases y with
      | tmp t =>
        have ht : t ∈ tmpsOf l (opAt l i) := by
          simp only [tmpsOf, List.mem_append, List.mem_filterMap]
          exact .inl (.inr ⟨.tmp t, hy, rfl⟩)
        show RV c ((stL nt l qs (fun _ => true) s0 i).t t) _
        rw [← agree_t hK hL hN ht]; exact this
      | _ => exact this
    · have := h.ev y
      cases y with
      | tmp t => exact absurd rfl (hy t)
      | _ => exact this
  · have hw : Region.wanted (opAt l i) (yielded l.toArray a.tmps) = false := by
      rw [hgv j want hg] at hb
      rcases hb with hb | hb
      · simp [Region.wanted, hg, guard_und h hb]
      · simp [Region.wanted, hg, guard_yields h hb]
    rw [hw]
    simp only [Bool.false_eq_true, if_false]
    exact hk c _ (by rw [show resAt qs i = ((resAt qs i).1, (resAt qs i).2) from rfl, hq]; exact h.skip _)
end
end Go.Proofs.YtdbiidfgbkmbmaaDoor
