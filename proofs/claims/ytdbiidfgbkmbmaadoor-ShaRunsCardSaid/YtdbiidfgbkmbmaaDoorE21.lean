/- A statement whose order is open: whatever order is drawn, it comes to what the text's order comes to. -/
import Derived.Test.YtdbiidfgbkmbmaaDoorE20
namespace Go.Proofs.YtdbiidfgbkmbmaaDoor
open Go.RowKit
instance : Inhabited Res := ⟨⟨.junk, [], []⟩⟩
def opAt (l : List Oper) (p : Nat) : Oper := l.getD p default
def resAt (qs : List (Bool × Res)) (p : Nat) : Bool × Res := qs.getD p default
/-- The state behind those of the first p operations that have come up. -/
def stL (nt : Nat) (l : List Oper) (qs : List (Bool × Res)) (L : Nat → Bool) (s : St) : Nat → St
  | 0 => s
  | p + 1 => if L p = true then step1 nt (opAt l p) (resAt qs p) (stL nt l qs L s p) else stL nt l qs L s p
section
variable {nt : Nat} {l : List Oper} {qs : List (Bool × Res)} {L L' : Nat → Bool} {s : St}
theorem stL_cons {o : Oper} {q : Bool × Res} : ∀ p, stL nt (o :: l) (q :: qs) L s (p + 1) = stL nt l qs (fun i => L (i + 1)) (if L 0 = true then step1 nt o q s else s) p
  | 0 => by simp only [stL]; rfl
  | p + 1 => by
    rw [stL, stL_cons p]
    simp only [stL]; rfl
theorem stL_congr : ∀ {p : Nat}, (∀ i, i < p → L i = L' i) → stL nt l qs L s p = stL nt l qs L' s p
  | 0, _ => rfl
  | p + 1, h => by
    simp only [stL]
    rw [h p (by omega), stL_congr (fun i hi => h i (by omega))]
theorem stL_ge {i : Nat} : ∀ {n : Nat}, i ≤ n → (∀ p, i ≤ p → p < n → L p = false) → stL nt l qs L s n = stL nt l qs L s i
  | 0, hi, _ => by obtain rfl : i = 0 := by omega
                   rfl
  | n + 1, hi, h => by
    rcases Nat.lt_or_eq_of_le hi with hlt | rfl
    · have hn := h n (by omega) (by omega)
      have ih := stL_ge (n := n) (by omega) (fun p h1 h2 => h p h1 (by omega))
      simp only [stL, hn, Bool.false_eq_true, if_false]; exact ih
    · rfl
theorem step1_t (o : Oper) (q : Bool × Res) (s : St) (t : Nat) : (step1 nt o q s).t t = if o.dst = some t ∧ t < nt then q.2.v else s.t t := putO_at nt s.t o.dst q.2.v t
theorem step1_m {o : Oper} {q : Bool × Res} {s : St} {k : Nat} (h : ∀ r ∈ q.2.wr, r.1 ≠ k) : (step1 nt o q s).m k = s.m k := putW_not h
theorem stL_c : ∀ p, (stL nt l qs L s p).c = s.c
  | 0 => rfl
  | p + 1 => by
    simp only [stL]
    split
    · exact stL_c p
    · exact stL_c p
theorem stL_t {t : Nat} : ∀ {n : Nat}, (∀ p, p < n → L p ≠ L' p → (opAt l p).dst = some t → ¬ t < nt) → (stL nt l qs L s n).t t = (stL nt l qs L' s n).t t
  | 0, _ => rfl
  | n + 1, h => by
    have ih := stL_t (n := n) (fun p hp => h p (by omega))
    simp only [stL]
    by_cases e : L n = L' n
    · rw [e]
      split
      · rw [step1_t, step1_t, ih]
      · exact ih
    · have hd := h n (by omega) e
      have hn : ∀ s : St, (step1 nt (opAt l n) (resAt qs n) s).t t = s.t t := fun s => by rw [step1_t, if_neg (fun h => hd h.1 h.2)]
      split <;> split <;> (try simp only [hn]) <;> exact ih
theorem putW_congr {m m' : Nat → Option Row} {k : Nat} (h : m k = m' k) : ∀ {wr : List (Nat × Row)}, putW m wr k = putW m' wr k := by
  intro wr
  induction wr generalizing m m' with
  | nil => exact h
  | cons q wr ih =>
    obtain ⟨j, r⟩ := q
    show putW (putM m j r) wr k = putW (putM m' j r) wr k
    refine ih ?_
    by_cases e : k = j
    · subst e; rw [putM_same, putM_same]
    · rw [putM_ne _ _ e, putM_ne _ _ e]; exact h
theorem stL_m {k : Nat} : ∀ {n : Nat}, (∀ p, p < n → L p ≠ L' p → ∀ r ∈ (resAt qs p).2.wr, r.1 ≠ k) → (stL nt l qs L s n).m k = (stL nt l qs L' s n).m k
  | 0, _ => rfl
  | n + 1, h => by
    have ih := stL_m (n := n) (fun p hp => h p (by omega))
    simp only [stL]
    by_cases e : L n = L' n
    · rw [e]
      split
      · show putW _ _ k = putW _ _ k
        exact putW_congr ih
      · exact ih
    · have hd := h n (by omega) e
      have hn : ∀ s : St, (step1 nt (opAt l n) (resAt qs n) s).m k = s.m k := fun s => step1_m hd
      split <;> split <;> (try simp only [hn]) <;> exact ih
/-- The last one that wrote the slot. -/
theorem stL_t_last {t i : Nat} : ∀ {n : Nat}, i < n → (∀ p, i < p → p < n → L p = true → (opAt l p).dst ≠ some t) → (stL nt l qs L s n).t t = (stL nt l qs L s (i + 1)).t t
  | 0, h, _ => by omega
  | n + 1, h, hh => by
    rcases Nat.lt_or_eq_of_le h with hlt | e
    · have ih := stL_t_last (n := n) (by omega) (fun p h1 h2 => hh p h1 (by omega))
      rw [stL]
      split
      · rename_i hL
        rw [step1_t, if_neg (fun h => hh n (by omega) (by omega) hL h.1)]; exact ih
      · exact ih
    · injection e with e; subst e; rfl
theorem stL_m_last {k i : Nat} : ∀ {n : Nat}, i < n → (∀ p, i < p → p < n → L p = true → ∀ r ∈ (resAt qs p).2.wr, r.1 ≠ k) → (stL nt l qs L s n).m k = (stL nt l qs L s (i + 1)).m k
  | 0, h, _ => by omega
  | n + 1, h, hh => by
    rcases Nat.lt_or_eq_of_le h with hlt | e
    · have ih := stL_m_last (n := n) (by omega) (fun p h1 h2 => hh p h1 (by omega))
      rw [stL]
      split
      · rename_i hL
        rw [step1_m (hh n (by omega) (by omega) hL)]; exact ih
      · exact ih
    · injection e with e; subst e; rfl
theorem putW_in {m m' : Nat → Option Row} {k : Nat} : ∀ {wr : List (Nat × Row)}, (∃ r ∈ wr, r.1 = k) → putW m wr k = putW m' wr k
  | [], h => by obtain ⟨r, hr, _⟩ := h; cases hr
  | (j, r) :: wr, h => by
    show putW (putM m j r) wr k = putW (putM m' j r) wr k
    by_cases e : ∃ q ∈ wr, q.1 = k
    · exact putW_in e
    · have hn : ∀ q ∈ wr, q.1 ≠ k := fun q hq he => e ⟨q, hq, he⟩
      rw [putW_not hn, putW_not hn]
      obtain ⟨q, hq, hk⟩ := h
      simp only [List.mem_cons] at hq
      rcases hq with rfl | hq
      · subst hk; rw [putM_same, putM_same]
      · exact absurd hk (hn q hq)
end
theorem runs_facts {P : Program} {E : Pg} {nt : Nat} {dr : Bool} {l : List Oper} {base : Nat} {i : Nat} {rest : List Oper} {qs : List (Bool × Res)} {s s' : St} (h : Runs P E nt dr l base i rest qs s s') :
    (∀ j, j < rest.length → Ok1 P E l base (i + j) (opAt rest j) (stL nt rest qs (fun _ => true) s j) (resAt qs j) ∧ (dr = true → okR l base (i + j) (opAt rest j) (resAt qs j).2.rd ((resAt qs j).2.wr.map (·.1)) = true)) ∧ s' = stL nt rest qs (fun _ => true) s rest.length := by
  induction h with
  | nil i s => exact ⟨fun j hj => by simp at hj, rfl⟩
  | @cons i o q s rest qs s' hok hr _ ih =>
    refine ⟨fun j hj => ?_, ?_⟩
    · match j with
      | 0 => exact ⟨hok, hr⟩
      | j + 1 =>
        rw [stL_cons]
        simp only [if_true]
        have := ih.1 j (by simpa using hj)
        rw [show i + (j + 1) = i + 1 + j by omega]
        exact this
    · rw [List.length_cons, stL_cons]
      simp only [if_true]
      exact ih.2
/-- Who lies behind whom. -/
def Closed (l : List Oper) (L : Nat → Bool) : Prop := ∀ i o, l[i]? = some o → L i = true → ∀ e ∈ o.after.toList, Region.binds .any e = true → L e.on = true
theorem before_fold {l : List Oper} {L : Nat → Bool} (hL : Closed l L) : ∀ (rest : List Oper) (acc : Array Nat), l.drop acc.size = rest → acc.size ≤ l.length →
    (∀ i o, i < acc.size → l[i]? = some o → (∀ e ∈ o.after.toList, Region.binds .any e = true → L e.on = true) → ∀ j, (acc.getD i 0).testBit j = true → L j = true) →
    ∀ i o, l[i]? = some o → (∀ e ∈ o.after.toList, Region.binds .any e = true → L e.on = true) → ∀ j, ((rest.foldl (init := acc) fun acc (o : Oper) => acc.push (o.after.foldl (fun s e => if Region.binds .any e then s ||| 2 ^ e.on ||| acc.getD e.on 0 else s) 0)).getD i 0).testBit j = true → L j = true
  | [], acc, hd, hl, h, i, o, ho, he, j, hj => by
    have hlen : l.length ≤ acc.size := by
      have := congrArg List.length hd; simp at this; omega
    exact h i o (by have := (List.getElem?_eq_some_iff.1 ho).1; omega) ho he j hj
  | o1 :: rest, acc, hd, hl, h, i, o, ho, he, j, hj => by
    have ho1 : l[acc.size]? = some o1 := by
      have := congrArg (fun r => r[0]?) hd
      simpa using this
    refine before_fold hL rest _ ?_ ?_ ?_ i o ho he j hj
    · have := congrArg List.tail hd
      simpa using this
    · have := (List.getElem?_eq_some_iff.1 ho1).1
      rw [Array.size_push]; omega
    · intro i' o' hi' ho' he' j' hj'
      rw [Array.size_push] at hi'
      rcases Nat.lt_or_eq_of_le (Nat.le_of_lt_succ hi') with hlt | rfl
      · have : (acc.push (o1.after.foldl (fun s e => if Region.binds .any e then s ||| 2 ^ e.on ||| acc.getD e.on 0 else s) 0)).getD i' 0 = acc.getD i' 0 := by
          simp only [Array.getD_eq_getD_getElem?]
          rw [Array.getElem?_push, if_neg (by omega)]
        rw [this] at hj'
        exact h i' o' hlt ho' he' j' hj'
      · rw [ho1] at ho'; injection ho' with ho'; subst ho'
        have : (acc.push (o1.after.foldl (fun s e => if Region.binds .any e then s ||| 2 ^ e.on ||| acc.getD e.on 0 else s) 0)).getD acc.size 0 = o1.after.foldl (fun s e => if Region.binds .any e then s ||| 2 ^ e.on ||| acc.getD e.on 0 else s) 0 := by
          simp
        rw [this, ← Array.foldl_toList] at hj'
        have key : ∀ (es : List Edge) (s : Nat), (∀ e ∈ es, Region.binds .any e = true → L e.on = true) → (∀ j, s.testBit j = true → L j = true) → ∀ j, (es.foldl (fun s e => if Region.binds .any e then s ||| 2 ^ e.on ||| acc.getD e.on 0 else s) s).testBit j = true → L j = true := by
          intro es
          induction es with
          | nil => intro s _ hs j hj; exact hs j hj
          | cons e es ih =>
            intro s hes hs j hj
            rw [List.foldl_cons] at hj
            refine ih _ (fun e' he' => hes e' (by simp [he'])) (fun j hj => ?_) j hj
            split at hj
            · rename_i hb
              have hLe := hes e (by simp) hb
              rw [Nat.testBit_or, Nat.testBit_or] at hj
              simp only [Bool.or_eq_true] at hj
              rcases hj with (hj | hj) | hj
              · exact hs j hj
              · rw [Nat.testBit_two_pow] at hj
                have : e.on = j := by simpa using hj
                rw [← this]; exact hLe
              · by_cases hlt : e.on < acc.size
                · obtain ⟨oe, hoe⟩ : ∃ oe, l[e.on]? = some oe := ⟨l[e.on]'(by omega), List.getElem?_eq_getElem _⟩
                  exact h e.on oe hlt hoe (hL e.on oe hoe hLe) j hj
                · rw [Array.getD_eq_getD_getElem?, Array.getElem?_eq_none (by omega)] at hj
                  simp at hj
            · exact hs j hj
        exact key _ 0 he' (fun j hj => by simp at hj) j' hj'
theorem anc_in {l : List Oper} {L : Nat → Bool} (hL : Closed l L) {i j : Nat} {o : Oper} (ho : l[i]? = some o) (he : ∀ e ∈ o.after.toList, Region.binds .any e = true → L e.on = true) (h : anc l i j = true) : L j = true := by
  unfold anc Region.before at h
  rw [← Array.foldl_toList] at h
  exact before_fold hL l #[] (by simp) (by simp) (fun i o hi => by simp at hi) i o ho he j h
end Go.Proofs.YtdbiidfgbkmbmaaDoor
