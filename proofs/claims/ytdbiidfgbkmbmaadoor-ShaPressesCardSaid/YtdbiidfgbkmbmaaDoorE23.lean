/- Statements, drawn or not, walked. -/
import Derived.Test.YtdbiidfgbkmbmaaDoorE22
namespace Go.Proofs.YtdbiidfgbkmbmaaDoor
open Go.RowKit
section
variable {P : Program} {E : Pg} {nt : Nat} {c0 : Cx} {l : List Oper} {base : Nat} {qs : List (Bool × Res)} {s0 s' : St}
def left (L : Nat → Bool) (n : Nat) : Nat := ((List.range n).filter fun p => !L p).length
theorem left_also {L : Nat → Bool} {i n : Nat} (hi : i < n) (hL : L i = false) : left (also L i) n < left L n := by
  unfold left
  have : (List.range n).filter (fun p => !also L i p) = ((List.range n).filter fun p => !L p).filter fun p => !Nat.beq p i := by
    rw [List.filter_filter]
    refine List.filter_congr fun p _ => ?_
    simp [also, Bool.and_comm]
  rw [this]
  exact List.length_filter_lt_length_iff_exists.2 ⟨i, by simp [hi, hL], by simp⟩
theorem ready_iff {L : Nat → Bool} {listed : Array Bool} (hl : ∀ p, p < l.length → listed.getD p true = L p) (hl' : ∀ p, p < l.length → listed.getD p false = L p) (hB : Back l) {i : Nat} :
    i ∈ Region.ready .any l.toArray listed ↔ Next l L i := by
  have key : ∀ i, i < l.length → ((∀ e ∈ (opAt l i).after.toList, (!Region.binds .any e || listed.getD e.on false) = true) ↔ ∀ e ∈ (opAt l i).after.toList, Region.binds .any e = true → L e.on = true) := by
    intro i hi
    refine forall_congr' fun e => forall_congr' fun he => ?_
    cases hb : Region.binds .any e with
    | false => simp
    | true =>
      have := hB i _ (opAt_eq hi) e he hb
      simp only [Bool.not_true, Bool.false_or, true_imp_iff]
      rw [hl' e.on (by omega)]
  unfold Region.ready
  rw [List.mem_filter, List.mem_range]
  constructor
  · rintro ⟨h1, h2⟩
    have h1 : i < l.length := by simpa using h1
    simp only [Bool.and_eq_true] at h2
    have ho : l.toArray[i]? = some (opAt l i) := by simpa using opAt_eq h1
    rw [ho, hl i h1] at h2
    refine ⟨h1, by simpa using h2.1, (key i h1).1 fun e he => ?_⟩
    have h3 : (opAt l i).after.all (fun e => !Region.binds .any e || listed.getD e.on false) = true := by simpa using h2.2
    rw [← Array.all_toList] at h3
    exact List.all_eq_true.1 h3 e he
  · rintro ⟨h1, h2, h3⟩
    refine ⟨by simpa using h1, ?_⟩
    have ho : l.toArray[i]? = some (opAt l i) := by simpa using opAt_eq h1
    rw [ho, hl i h1, h2]
    have h4 : (opAt l i).after.all (fun e => !Region.binds .any e || listed.getD e.on false) = true := by
      rw [← Array.all_toList]
      exact List.all_eq_true.2 ((key i h1).2 h3)
    simpa using h4
theorem all_listed {L : Nat → Bool} {listed : Array Bool} (hl : ∀ p, p < l.length → listed.getD p true = L p) (hl' : ∀ p, p < l.length → listed.getD p false = L p) (hB : Back l) (hr : Region.ready .any l.toArray listed = []) : ∀ (i : Nat), i < l.length → L i = true := by
  intro i
  induction i using Nat.strongRecOn with
  | ind i ih =>
    intro hi
    cases hL : L i with
    | true => rfl
    | false =>
      have : i ∈ Region.ready .any l.toArray listed := (ready_iff hl hl' hB).2 ⟨hi, hL, fun e he hb => by
        have := hB i _ (opAt_eq hi) e he hb
        exact ih e.on this (by omega)⟩
      rw [hr] at this; cases this
theorem any_ok (hK : Known P E nt l base qs s0) (hf : Fr s0 base) {Q : Exit → Act → World → Prop}
    (hQ : ∀ c' a', Abs P E nt c0 (stL nt l qs (fun _ => true) s0 l.length) c' a' → Q .normal a' c'.w) :
    ∀ (fuel : Nat) (L : Nat → Bool) (listed : Array Bool) (c : Cx) (a : Act), listed.size = l.length → (∀ p, p < l.length → listed.getD p true = L p) → (∀ p, p < l.length → listed.getD p false = L p) → Closed l L → left L l.length ≤ fuel →
      Abs P E nt c0 (stL nt l qs L s0 l.length) c a → wpAny P .any l.toArray Q fuel listed a c.w := by
  intro fuel
  have fin : ∀ (L : Nat → Bool) (listed : Array Bool) (c : Cx) (a : Act), (∀ p, p < l.length → listed.getD p true = L p) → (∀ p, p < l.length → listed.getD p false = L p) → Region.ready .any l.toArray listed = [] → Abs P E nt c0 (stL nt l qs L s0 l.length) c a → Q .normal a c.w := by
    intro L listed c a hl hl' hr h
    rw [stL_congr (L' := fun _ => true) (fun p hp => all_listed hl hl' hK.back hr p hp)] at h
    exact hQ c a h
  induction fuel with
  | zero =>
    intro L listed c a hsz hl hl' hC hle h
    have hr : Region.ready .any l.toArray listed = [] := by
      cases hr : Region.ready .any l.toArray listed with
      | nil => rfl
      | cons i r =>
        have hN := (ready_iff hl hl' hK.back).1 (by rw [hr]; simp : i ∈ Region.ready .any l.toArray listed)
        have := left_also hN.lt hN.un
        omega
    exact ⟨hr, fin L listed c a hl hl' hr h⟩
  | succ fuel ih =>
    intro L listed c a hsz hl hl' hC hle h
    refine ⟨fun hr => fin L listed c a hl hl' hr h, fun i hi => ?_⟩
    have hN := (ready_iff hl hl' hK.back).1 hi
    refine op_any hK hf hC hN h (fun c' a' h' => ih (also L i) _ c' a' (by simpa using hsz) ?_ ?_ (closed_also hK.back hC hN) (by have := left_also hN.lt hN.un; omega) h')
    · intro p hp
      rw [Array.getD_eq_getD_getElem?, Array.getElem?_setIfInBounds]
      by_cases e : i = p
      · subst e; rw [also_self, if_pos rfl, if_pos (by omega)]; rfl
      · rw [also_ne (fun h => e h.symm), if_neg e, ← Array.getD_eq_getD_getElem?]; exact hl p hp
    · intro p hp
      rw [Array.getD_eq_getD_getElem?, Array.getElem?_setIfInBounds]
      by_cases e : i = p
      · subst e; rw [also_self, if_pos rfl, if_pos (by omega)]; rfl
      · rw [also_ne (fun h => e h.symm), if_neg e, ← Array.getD_eq_getD_getElem?]; exact hl' p hp
/-- Nothing but the count of draws has turned. -/
theorem Abs.drew {s : St} {c : Cx} {a : Act} (h : Abs P E nt c0 s c a) : Abs P E nt c0 s { c with w := { c.w with drawn := c.w.drawn + 1 } } a := by
  have hst : Stab c { c with w := { c.w with drawn := c.w.drawn + 1 } } :=
    ⟨rfl, Nat.le_refl _, rfl, fun k τ v hk => ⟨⟨v, hk⟩, rfl⟩, fun k e n f hk => ⟨n, f, hk, Nat.le_refl _, fun _ => ⟨rfl, rfl⟩⟩, fun b _ hm => ⟨hm, same_old rfl⟩, Nat.le_refl _⟩
  refine ⟨h.ty, ⟨fun k r hk => RowOK_stab hst rfl rfl rfl (fun _ _ => rfl) (h.mem.rows k r hk), h.mem.inj, h.mem.mu, h.mem.bf⟩, h.bs, h.base, h.fb, h.low.drew, h.since.trans hst, h.m, fun i => RV_stab hst (h.t i), h.nt, h.dfr, fun g => RV_stab hst (h.gl g)⟩
theorem fr_at {dr : Bool} : ∀ {rest : List Oper} {i : Nat} {qs : List (Bool × Res)} {s s' : St}, Runs P E nt dr l base i rest qs s s' → Fr s (base + 8 * i) → Fr s' (base + 8 * (i + rest.length)) := by
  intro rest i qs s s' h
  induction h with
  | nil i s => intro hf; simpa using hf
  | @cons i o q s rest qs s' hok _ _ ih =>
    intro hf
    have := ih (fr_step hf hok.1)
    rw [List.length_cons, show i + (rest.length + 1) = i + 1 + rest.length by omega]
    exact this
theorem runs_c {dr : Bool} : ∀ {rest : List Oper} {i : Nat} {qs : List (Bool × Res)} {s s' : St}, Runs P E nt dr l base i rest qs s s' → s'.c = s.c := by
  intro rest i qs s s' h
  induction h with
  | nil i s => rfl
  | cons _ _ _ ih => rw [ih]; rfl
/-- A statement. -/
theorem region_ok (hP : PgOK P E) (hm : P.follows .mixedOrders = true) {id : Nat} {ops : Array Oper} {dr : Bool} {s : St} {c : Cx} {a : Act} {K : (Nat → AV) → (Nat → Option Row) → Prop} {Q : Exit → Act → World → Prop} (hB : dr = true → regB ops.toList = true)
    (h : wOps E nt dr ops.toList s.c 0 ops.toList s.t s.m K) (ha : Abs P E nt c0 s c a) (hf : Fr s s.c)
    (hQ : ∀ s' c' a', K s'.t s'.m → s'.c = s.c → Abs P E nt c0 s' c' a' → Fr s' (s.c + 8 * ops.toList.length) → Q .normal a' c'.w) : (Code.region id ops dr).wp P Q a c.w := by
  obtain ⟨qs, s', hr, hk⟩ := wOps_run hP _ _ _ _ h
  have hops : ops = ops.toList.toArray := rfl
  have hf' : Fr s' (s.c + 8 * ops.toList.length) := by simpa using fr_at hr (by simpa using hf)
  have hc' := runs_c hr
  cases dr with
  | false =>
    refine wp_region ?_
    have := seq_ok (Q := Q) hr (by simp) (by simp) ha (by simpa using hf) (fun c' a' h' _ => hQ s' c' a' hk hc' h' hf')
    rw [List.range_eq_range']
    exact this
  | true =>
    refine wp_region_any hm ?_
    obtain ⟨hB1, hB2⟩ := regB_of (hB rfl)
    obtain ⟨hfa, hs'⟩ := runs_facts hr
    have hK : Known P E nt ops.toList s.c qs s := ⟨fun j hj => by have := (hfa j hj).1; rwa [Nat.zero_add] at this, fun j hj => by have := (hfa j hj).2 rfl; rwa [Nat.zero_add] at this, hB1, hB2⟩
    have hnone : stL nt ops.toList qs (fun _ => false) s ops.toList.length = s := stL_ge (i := 0) (Nat.zero_le _) (fun p _ _ => rfl)
    have := any_ok (Q := Q) hK hf (fun c' a' h' => hQ s' c' a' hk hc' (by rw [hs']; exact h') hf') ops.toList.length (fun _ => false) (Array.replicate ops.size false) _ a (by simp) ?_ ?_ (fun _ _ _ h => by cases h) ?_ (by rw [hnone]; exact ha.drew)
    · simpa using this
    · intro p hp
      have hp : p < ops.size := by simpa using hp
      simp [Array.getD_eq_getD_getElem?, Array.getElem?_replicate, hp]
    · intro p hp
      have hp : p < ops.size := by simpa using hp
      simp [Array.getD_eq_getD_getElem?, Array.getElem?_replicate, hp]
    · unfold left
      have := List.length_filter_le (fun p => !(fun _ => false) p) (List.range ops.toList.length)
      simpa using this
end
end Go.Proofs.YtdbiidfgbkmbmaaDoor
