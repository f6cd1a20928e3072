/- Calls of functions that are known; every operation. -/
import Derived.Test.YtdbiidfgbkmbmaaDoorE18
namespace Go.Proofs.YtdbiidfgbkmbmaaDoor
open Go.RowKit
inductive RVs (c : Cx) : List AV → List Value → Prop where
  | nil : RVs c [] []
  | cons {a v l vs} (h : RV c a v) (t : RVs c l vs) : RVs c (a :: l) (v :: vs)
/-- The function, called so, comes back with r. -/
def FnValid (P : Program) (ty : TypeId → Ty) (gl : Nat → AV) (f : FuncId) (args : List AV) (view : Nat → Option Row) (key : Nat) (r : Res) : Prop :=
  (∃ fn, P.funcs[f]? = some fn ∧ (fn.name == "runtime.NumGoroutine") = false ∧ fn.body.isNone = false) ∧
  ∀ (c : Cx) (vals : List Value), c.ty = ty → MemOK c → c.fb ≤ c.w.heap.size → (∀ k, k ∈ r.rd → c.m k = view k) → (∀ j, key ≤ j → j < key + 8 → c.m j = none) → (∀ g, RV c (gl g) (.pointer (some ⟨g, 0, none⟩))) → RVs c args vals →
    Calls P f vals.toArray c.w fun e w' => ∃ c' v, e = .returned v ∧ c'.w = w' ∧ Step c r.wr c' ∧ RV c' r.v v
def CtrOK (P : Program) (E : Pg) : Prop := ∀ f args m key K, E.ctr f args m key K → ∃ r, K r ∧ FnValid P E.ty E.gl f args m key r
/-- It names no row. -/
def NoRow : AV → Prop
  | .ptr _ _ _ => False
  | .gpt _ _ _ _ _ _ => False
  | .gsl _ _ _ => False
  | .gsub _ _ _ _ _ => False
  | .sub _ _ _ _ _ => False
  | .ipt _ a => NoRow a
  | .imm fr _ l f => fr = false ∧ ∀ i, i < l → NoRow (f i)
  | .agg _ l f => ∀ i, i < l → NoRow (f i)
  | .tup l f => ∀ i, i < l → NoRow (f i)
  | _ => True
structure PgOK (P : Program) (E : Pg) : Prop where
  flat : ∀ g, NoRow (E.gl g)
  tys : TysOK P E.ty
  mx : ∀ t n f, E.ty t = .agg true n f → n ≤ maxLen
  ctr : CtrOK P E
section
variable {P : Program} {E : Pg} {o : Oper} {x : Operand → AV} {key : Nat} {m : Nat → Option Row} {K : Res → Prop} {t : TypeId}
theorem rvs_map {c : Cx} {a : Act} (h : ∀ y, RV c (x y) (a.eval y)) : ∀ l : List Operand, RVs c (l.map x) (l.map a.eval)
  | [] => .nil
  | y :: l => .cons (h y) (rvs_map h l)
theorem s_call (hC : CtrOK P E) (hxg : ∀ g, x (.global g) = E.gl g) {c : Call} {f : FuncId} (ho : o.op = .call c) (hc : c.callee = .value (.func f)) (h : sem E m key x (.call c) K) : ∃ r, K r ∧ Valid P E.ty o x key m r := by
  simp only [sem, semG, hc] at h
  obtain ⟨r, hk, ⟨fn, hf, hn, hb⟩, hv⟩ := hC f _ m key K h
  refine ⟨r, hk, fun cx act K' Q hct hm hbs hrd hfr hx hK => ?_⟩
  have hcalls := hv cx (c.args.toList.map act.eval) hct hm hbs hrd hfr (fun g => hxg g ▸ hx (.global g)) (rvs_map hx _)
  obtain ⟨callee, args, argTypes⟩ := c
  simp only at hc
  subst hc
  have hex : (execOp act.eval o).run P cx.w = .ok (.enter f (args.map act.eval)) cx.w := by
    unfold execOp
    simp only [ho]
    show Sem.run P (callFunc f (#[] ++ args.map act.eval ++ #[])) cx.w = _
    have hn' : ¬ fn.name = "runtime.NumGoroutine" := by simpa using hn
    have hb' : ¬ fn.body = none := by intro e; rw [e] at hb; simp at hb
    simp [callFunc, hf, hn', hb']
  unfold Oper.wp
  rw [hex, Oper.upon_enter]
  rw [show args.map act.eval = (List.map act.eval args.toList).toArray from Array.ext' (by simp)]
  refine Calls.mono hcalls ?_
  rintro e w' ⟨c', v, rfl, rfl, hst, hr⟩
  exact hK c' v hst hr
theorem sem_sound (hP : PgOK P E) (hxg : ∀ g, x (.global g) = E.gl g) (h : sem E m key x o.op K) : ∃ r, K r ∧ Valid P E.ty o x key m r := by
  cases hop : o.op with
  | move y => rw [hop] at h; exact s_move hop h
  | assign y => rw [hop] at h; exact s_assign hop h
  | pick y a b => rw [hop] at h; exact s_pick hop h
  | alloc t => rw [hop] at h; exact s_alloc hP.tys hop h
  | box t y => rw [hop] at h; exact s_box hP.tys hop h
  | build t ps => rw [hop] at h; exact s_build hP.tys hop h
  | buildSlice t l ps => rw [hop] at h; exact s_buildSlice hP.tys hop h
  | load t y => rw [hop] at h; exact s_load hP.tys hop h
  | store t y z => rw [hop] at h; exact s_store hP.tys hop h
  | nilCheck y => rw [hop] at h; exact s_nilCheck hop h
  | binOp op t y z t' => rw [hop] at h; exact s_binOp hP.tys hop h
  | unOp op t y => rw [hop] at h; exact s_unOp hop h
  | convert s d y => rw [hop] at h; exact s_convert hP.tys hop h
  | sliceToArrayPointer t y => rw [hop] at h; exact s_toArr hP.tys hop h
  | makeSlice t l q => rw [hop] at h; exact s_makeSlice hP.tys hop h
  | slice t y lo hi mx =>
    rw [hop] at h
    cases mx with
    | none => exact s_slice hP.tys hP.mx hop h
    | some _ => exact h.elim
  | fieldAddr t y i => rw [hop] at h; exact s_fieldAddr hP.tys hop h
  | field t y i => rw [hop] at h; exact s_field hP.tys hop h
  | indexAddr t y z => rw [hop] at h; exact s_indexAddr hP.tys hop h
  | index t y z => rw [hop] at h; exact s_index hP.tys hop h
  | extract y i => rw [hop] at h; exact s_extract hop h
  | call c =>
    rw [hop] at h
    cases hc : c.callee with
    | value f =>
      cases f with
      | func f => exact s_call hP.ctr hxg hop hc h
      | _ => simp only [sem, semG, hc] at h
    | invoke r n => simp only [sem, semG, hc] at h
    | builtin b =>
      cases b with
      | len => exact s_len hP.tys hop hc h
      | min => exact s_min hop hc h
      | max => exact s_max hop hc h
      | copy => exact s_copy hP.tys hop hc h
      | append => exact s_append hP.tys hop hc h
      | _ => simp only [sem, semG, hc] at h
  | _ => rw [hop] at h; exact h.elim
end
end Go.Proofs.YtdbiidfgbkmbmaaDoor
