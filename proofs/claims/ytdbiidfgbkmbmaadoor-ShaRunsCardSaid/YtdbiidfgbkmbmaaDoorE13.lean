/- Operations that make or write rows. -/
import Derived.Test.YtdbiidfgbkmbmaaDoorE12
namespace Go.Proofs.YtdbiidfgbkmbmaaDoor
open Go.RowKit
def Cx.nil : Cx := ⟨fun _ => False, 0, 0, fun _ => .no, fun _ => none, fun _ => none, fun _ => undef, default⟩
def updN {α : Type} (f : Nat → α) (k : Nat) (v : α) : Nat → α := fun i => if i = k then v else f i
theorem putM_same (m : Nat → Option Row) (k : Nat) (r : Row) : putM m k r k = some r := by simp [putM]
theorem putM_ne (m : Nat → Option Row) {k i : Nat} (r : Row) (h : i ≠ k) : putM m k r i = m i := by
  have : Nat.beq i k = false := by rw [← Bool.not_eq_true, Nat.beq_eq]; exact h
  simp [putM, this]
theorem RowOK_stab {c c' : Cx} (hs : Stab c c') {k : Nat} {r : Row} (hbl : c'.bl k = c.bl k) (hsv : c'.sv k = c.sv k) (hbase : c'.base = c.base) (hh : ∀ b, c.bl k = some b → c'.w.heap[b]? = c.w.heap[b]?) (h : RowOK c k r) : RowOK c' k r := by
  cases r with
  | var τ a =>
    obtain ⟨b, cs, t, h1, h2, h3, h4⟩ := h
    exact ⟨b, cs, t, hbl.trans h1, (hh b h1).trans h2, R_stab hs h3, h4⟩
  | grow e n f =>
    obtain ⟨g, ⟨hl, ho⟩, hb, hg⟩ := h
    rw [← hs.ty] at hl ho hg
    refine ⟨g, ⟨hl, ?_⟩, by rw [hsv, hbl]; exact hb, fun i hi => ⟨R_stab hs (hg i hi).1, (hg i hi).2⟩⟩
    rw [hsv, hbase]
    rcases ho with ho | ⟨gb, cap, cur, hv, hbb, hgg, rest⟩
    · exact .inl ho
    · refine .inr ⟨gb, cap, cur, hv, hbb, ?_, rest⟩
      rw [hh gb (by rw [← hb, hv]; rfl)]; exact hgg
theorem row_lt {c : Cx} {k : Nat} {r : Row} {b : Nat} (h : RowOK c k r) (hb : c.bl k = some b) : b < c.w.heap.size := by
  cases r with
  | var τ a =>
    obtain ⟨b', cs, t, h1, h2, _⟩ := h
    rw [hb] at h1; injection h1 with h1; subst h1
    exact (Array.getElem?_eq_some_iff.1 h2).1
  | grow e n f =>
    obtain ⟨g, ⟨hl, ho⟩, hbb, _⟩ := h
    rw [hb] at hbb
    rcases ho with ⟨hv, _⟩ | ⟨gb, cap, cur, hv, _, hgg, _⟩
    · rw [hv] at hbb; cases hbb
    · rw [hv] at hbb; injection hbb with hbb; subst hbb
      exact (Array.getElem?_eq_some_iff.1 hgg).1
/-- The world behind a new row. -/
def Cx.addRow (c : Cx) (key : Nat) (r : Row) (bl : Option Nat) (sv : Value) (w : World) : Cx :=
  { c with Mu := fun b => c.Mu b ∨ c.w.heap.size ≤ b, m := putM c.m key r, bl := updN c.bl key bl, sv := updN c.sv key sv, w := w }
theorem stab_add {c : Cx} {key : Nat} {r : Row} {bl : Option Nat} {sv : Value} {w : World} (hf : c.m key = none) (hsz : c.w.heap.size ≤ w.heap.size) (hh : ∀ b, b < c.w.heap.size → w.heap[b]? = c.w.heap[b]?) :
    Stab c (c.addRow key r bl sv w) := by
  have hne : ∀ {k : Nat} {r' : Row}, c.m k = some r' → k ≠ key := fun hk e => by rw [e, hf] at hk; cases hk
  refine ⟨rfl, Nat.le_refl _, rfl, fun k τ a hk => ?_, fun k e n f hk => ?_, fun b hb hm => ⟨fun hq => ?_, same_old (hh b hb)⟩, hsz⟩
  · exact ⟨⟨a, (putM_ne _ _ (hne hk)).trans hk⟩, if_neg (hne hk)⟩
  · exact ⟨n, f, (putM_ne _ _ (hne hk)).trans hk, Nat.le_refl _, fun _ => ⟨if_neg (hne hk), if_neg (hne hk)⟩⟩
  · rcases hq with hq | hq
    · exact hm hq
    · omega
theorem step_add {c : Cx} (hm : MemOK c) (hb : c.fb ≤ c.w.heap.size) {key : Nat} {r : Row} {bl : Option Nat} {sv : Value} {w : World} (hf : c.m key = none) (hlow : Below c.w.heap.size c.w w) (hbl : ∀ b, bl = some b → c.w.heap.size ≤ b)
    (hrow : RowOK (c.addRow key r bl sv w) key r) : Step c [(key, r)] (c.addRow key r bl sv w) := by
  have hst := stab_add (c := c) (key := key) (r := r) (bl := bl) (sv := sv) (w := w) hf hlow.size hlow.block
  have hne : ∀ {k : Nat} {r' : Row}, c.m k = some r' → k ≠ key := fun hk e => by rw [e, hf] at hk; cases hk
  have hold : ∀ {k : Nat} {r' : Row}, k ≠ key → putM c.m key r k = some r' → c.m k = some r' := fun hk h => by rw [putM_ne _ _ hk] at h; exact h
  have hblk : ∀ {k : Nat}, k ≠ key → updN c.bl key bl k = c.bl k := fun hk => if_neg hk
  refine ⟨hst, ⟨fun k r' hk => ?_, fun k k' r1 r2 b h1 h2 h3 h4 => ?_, fun k r' b h1 h2 => ?_, hm.bf⟩, rfl, rfl, rfl, hlow.mono (Nat.le_trans hm.bf hb)⟩
  · by_cases h : k = key
    · subst h
      have : r' = r := by have := hk; simp only [Cx.addRow, putM_same] at this; injection this with this; exact this.symm
      rw [this]; exact hrow
    · exact RowOK_stab hst (hblk h) (if_neg h) rfl (fun b hb' => hlow.block b (row_lt (hm.rows k r' (hold h hk)) hb')) (hm.rows k r' (hold h hk))
  · by_cases h : k = key
    · by_cases h' : k' = key
      · rw [h, h']
      · subst h
        have e1 : bl = some b := by have := h3; simp only [Cx.addRow, updN, if_true] at this; exact this
        have e2 : c.bl k' = some b := by have := h4; simp only [Cx.addRow] at this; rw [hblk h'] at this; exact this
        have := hbl b e1
        have := row_lt (hm.rows k' r2 (hold h' h2)) e2
        omega
    · by_cases h' : k' = key
      · subst h'
        have e1 : bl = some b := by have := h4; simp only [Cx.addRow, updN, if_true] at this; exact this
        have e2 : c.bl k = some b := by have := h3; simp only [Cx.addRow] at this; rw [hblk h] at this; exact this
        have := hbl b e1
        have := row_lt (hm.rows k r1 (hold h h1)) e2
        omega
      · exact hm.inj k k' r1 r2 b (hold h h1) (hold h' h2) (by have := h3; simp only [Cx.addRow] at this; rw [hblk h] at this; exact this) (by have := h4; simp only [Cx.addRow] at this; rw [hblk h'] at this; exact this)
  · by_cases h : k = key
    · subst h
      have e1 : bl = some b := by have := h2; simp only [Cx.addRow, updN, if_true] at this; exact this
      have := hbl b e1
      exact ⟨.inr this, by show c.base ≤ b; have := hm.bf; omega, fun _ => by show c.fb ≤ b; omega⟩
    · have := hm.mu k r' b (hold h h1) (by have := h2; simp only [Cx.addRow] at this; rw [hblk h] at this; exact this)
      exact ⟨.inl this.1, this.2⟩

section
variable {P : Program} {E : Pg} {o : Oper} {x : Operand → AV} {key : Nat} {m : Nat → Option Row} {K : Res → Prop} {t : TypeId}
/-- A new variable holds a value. -/
theorem valid_var (hT : TysOK P E.ty) {τ : Ty} {a : AV} (hs : Sh τ a) (h : ∀ (c : Cx) (act : Act), (∀ y, RV c (x y) (act.eval y)) → ∃ cs : Array Value, R c a cs.toList ∧ ∃ e, (execOp act.eval o).run P c.w = .ok (.value (.pointer (some ⟨c.w.heap.size, 0, none⟩))) (c.w.alloc (.cells cs e))) :
    Valid P E.ty o x key m ⟨.ptr τ key [], [(key, .var τ a)], []⟩ := by
  intro c act K Q hty hm hb hrd hf hx hK
  obtain ⟨cs, hr, e, hrun⟩ := h c act hx
  unfold Oper.wp
  rw [hrun]
  have hlow : Below c.w.heap.size c.w (c.w.alloc (.cells cs e)) := (Below.refl _ _).alloc (Nat.le_refl _) _
  have hst := stab_add (c := c) (key := key) (r := .var τ a) (bl := some c.w.heap.size) (sv := undef) (w := c.w.alloc (.cells cs e)) (hf key (Nat.le_refl _) (by omega)) hlow.size hlow.block
  have hstep := step_add hm hb (key := key) (r := .var τ a) (bl := some c.w.heap.size) (sv := undef) (w := c.w.alloc (.cells cs e)) (hf key (Nat.le_refl _) (by omega)) hlow (fun b hb => by injection hb with hb; omega)
    ⟨c.w.heap.size, cs, e, if_pos rfl, heap_alloc_new _ _, R_stab hst hr, hs⟩
  refine hK _ _ hstep ⟨τ, a, c.w.heap.size, putM_same _ _ _, if_pos rfl, inP_nil _, at_nil _, ?_⟩
  rw [off_nil]
theorem s_alloc (hT : TysOK P E.ty) (ho : o.op = .alloc t) (h : sem E m key x (.alloc t) K) : ∃ r, K r ∧ Valid P E.ty o x key m r := by
  simp only [sem, semG] at h
  obtain ⟨ht, h⟩ := okT_of h
  have htt := hT t ht
  refine ⟨_, h, valid_var hT (zero_ok (c := Cx.nil) htt).2 fun c act hx => ?_⟩
  obtain ⟨z, ⟨i, hi, hz, hsz, _⟩, hzc, _⟩ := htt.inf
  refine ⟨z.cells, by rw [hzc]; exact (zero_ok htt).1, t, ?_⟩
  unfold execOp
  simp [ho, Instr.alloc, zeroValue, typeInfo, hi, hz, newVar, newRow, go_sem]
theorem s_box (hT : TysOK P E.ty) {y : Operand} (ho : o.op = .box t y) (h : sem E m key x (.box t y) K) : ∃ r, K r ∧ Valid P E.ty o x key m r := by
  simp only [sem, semG] at h
  obtain ⟨ht, hs, h⟩ := okT_of h
  refine ⟨_, h, valid_var hT hs fun c act hx => ?_⟩
  refine ⟨(act.eval y).cells, (R_of_rv hs (hx y)).1, t, ?_⟩
  unfold execOp
  simp [ho, Instr.box, newVar, newRow, go_sem]
end
end Go.Proofs.YtdbiidfgbkmbmaaDoor
