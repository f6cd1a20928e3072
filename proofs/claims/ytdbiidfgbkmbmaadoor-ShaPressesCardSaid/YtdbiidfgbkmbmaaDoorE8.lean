/- Each operation that computes or reads, second half: addresses, parts, slices, loads. -/
import Derived.Test.YtdbiidfgbkmbmaaDoorE7
namespace Go.Proofs.YtdbiidfgbkmbmaaDoor
open Go.RowKit
theorem at_append : ∀ (p : List Nat) (τ : Ty) (q : List Nat), τ.inP p → τ.at (p ++ q) = (τ.at p).at q
  | [], τ, q, _ => by rw [at_nil]; rfl
  | i :: p, τ, q, h => by
    cases τ with
    | agg u l f =>
      rw [inP_agg] at h
      rw [List.cons_append, at_agg, at_agg]
      exact at_append p _ q h.2
    | _ => exact h.elim
theorem off_append : ∀ (p : List Nat) (τ : Ty) (q : List Nat), τ.inP p → τ.off (p ++ q) = τ.off p + (τ.at p).off q
  | [], τ, q, _ => by rw [at_nil, off_nil, Nat.zero_add]; rfl
  | i :: p, τ, q, h => by
    cases τ with
    | agg u l f =>
      rw [inP_agg] at h
      rw [List.cons_append, off_agg, off_agg, at_agg, off_append p _ q h.2, Nat.add_assoc]
    | _ => exact h.elim
theorem inP_append : ∀ (p : List Nat) (τ : Ty) (q : List Nat), τ.inP p → (τ.at p).inP q → τ.inP (p ++ q)
  | [], τ, q, _, hq => by rw [at_nil] at hq; exact hq
  | i :: p, τ, q, h, hq => by
    cases τ with
    | agg u l f =>
      rw [inP_agg] at h
      rw [at_agg] at hq
      rw [List.cons_append, inP_agg]
      exact ⟨h.1, inP_append p _ q h.2 hq⟩
    | _ => exact h.elim
theorem avat_append : ∀ (p : List Nat) (a : AV) (q : List Nat), (a.at (p ++ q)) = (a.at p).at q ∨ True
  | _, _, _ => .inr trivial
theorem off_one (u : Bool) (l : Nat) (f : Nat → Ty) (i : Nat) : (Ty.agg u l f).off [i] = sumN (fun j => (el u f j).size) i := by
  rw [off_agg, off_nil, Nat.add_zero]
theorem at_one (u : Bool) (l : Nat) (f : Nat → Ty) (i : Nat) : (Ty.agg u l f).at [i] = el u f i := by
  rw [at_agg, at_nil]

section
variable {P : Program} {ty : TypeId → Ty} {t : TypeId}
theorem TyOK.st_of {n : Nat} {f : Nat → Ty} (h : TyOK P ty t) (he : ty t = .agg false n f) : ∃ fs : Array Field, P.underlying t = some (.struct fs) ∧ fs.size = n ∧
    ∀ (i : Nat) (h : i < fs.size), TyOK P ty fs[i].type ∧ f i = ty fs[i].type ∧ fs[i].offset = sumN (fun j => (f j).size) i ∧ 0 < (f i).size := by
  cases h with
  | st _ fs n' f' hu hn hf hg _ _ _ _ _ hty =>
    rw [hty] at he
    injection he with h1 h2 h3
    subst h2; subst h3
    exact ⟨fs, hu, hn, fun i hi => ⟨hf i hi, hg i hi⟩⟩
  | _ => simp_all
theorem TyOK.arr_of {n : Nat} {f : Nat → Ty} (h : TyOK P ty t) (he : ty t = .agg true n f) : ∃ e, P.underlying t = some (.array n e) ∧ TyOK P ty e ∧ 0 < (ty e).size ∧ f = fun _ => ty e := by
  cases h with
  | arr _ n' e hu hte hp _ _ _ hty =>
    rw [hty] at he
    injection he with h1 h2 h3
    subst h2; subst h3
    exact ⟨e, hu, hte, hp, rfl⟩
  | _ => simp_all
theorem TyOK.sl_of {e : TypeId} (h : TyOK P ty t) (he : ty t = .sl e) : P.underlying t = some (.slice e) ∧ TyOK P ty e ∧ 0 < (ty e).size := by
  cases h with
  | sl _ e' hu _ hte hp hty => rw [hty] at he; injection he with h1; subst h1; exact ⟨hu, hte, hp⟩
  | _ => simp_all
theorem TyOK.str_of (h : TyOK P ty t) (he : ty t = .str) : P.underlying t = some .string := by
  cases h with
  | str _ hu _ _ => exact hu
  | _ => simp_all
theorem TyOK.bo_of (h : TyOK P ty t) (he : ty t = .bo) : P.underlying t = some .bool := by
  cases h with
  | bo _ hu _ _ => exact hu
  | _ => simp_all
end

section
variable {P : Program} {E : Pg} {o : Oper} {x : Operand → AV} {key : Nat} {m : Nat → Option Row} {K : Res → Prop} {t : TypeId}
theorem bool_eq {c : Cx} {w : World} {t : TypeId} {x y : Bool} (hu : P.underlying t = some .bool) : (Op.equal t (.bool x) (.bool y)).run P w = .ok (x == y) w := by
  have h1 : ∀ d, (Op.equalIn (d + 1) t (.bool x) (.bool y)).run P w = .ok (x == y) w := fun d => by simp [Op.equalIn, run_underlying hu]
  exact h1 9999
theorem binOp_agg {w : World} {op : BinOp} {xs ys : Array Value} {r : Bool} (h : (Op.equalIn 10000 t (.agg xs) (.agg ys)).run P w = .ok r w) :
    (op = .eql → (binOp op t (.agg xs) (.agg ys)).run P w = .ok (.bool r) w) ∧ (op = .neq → (binOp op t (.agg xs) (.agg ys)).run P w = .ok (.bool (!r)) w) := by
  constructor
  · rintro rfl; rw [run_eql_struct, h]; rfl
  · rintro rfl; rw [run_neq_struct, h]; rfl
theorem TyOK.aggs (h : TyOK P E.ty t) (hA : (E.ty t).isA = true) : (E.ty t).rank < 9000 ∧ P.eqGuardType P.depth t = false := by
  cases h with
  | arr _ _ _ _ _ _ _ hr hq _ => exact ⟨hr, hq⟩
  | st _ _ _ _ _ _ _ _ _ hr hq _ _ _ => exact ⟨hr, hq⟩
  | _ => simp_all [Ty.isA]
theorem s_binAgg (hT : TysOK P E.ty) {op : BinOp} {y z : Operand} {ty' : TypeId} (ho : o.op = .binOp op t y z ty') {u u' : Bool} {l l' : Nat} {f g : Nat → AV} (hy : x y = .agg u l f) (hz : x z = .agg u' l' g)
    (h : okT (E.ty t) (Cmp (.agg u l f) ∧ Sh (E.ty t) (.agg u l f) ∧ Sh (E.ty t) (.agg u' l' g) ∧ eqOp op (eqB (.agg u l f) (.agg u' l' g)) K)) : ∃ r, K r ∧ Valid P E.ty o x key m r := by
  obtain ⟨ht, hc, s1, s2, h⟩ := okT_of h
  have htt := hT t ht
  obtain ⟨hrk, hq⟩ := htt.aggs (Sh_isA s1)
  have run : ∀ (c : Cx) (a : Act), (∀ y, RV c (x y) (a.eval y)) → (op = .eql ∨ op = .neq) → ∃ xs ys : Array Value, a.eval y = .agg xs ∧ a.eval z = .agg ys ∧ (Op.equalIn 10000 t (.agg xs) (.agg ys)).run P c.w = .ok (eqB (.agg u l f) (.agg u' l' g)) c.w := fun c a hx _ => by
    obtain ⟨cs, e1, r1⟩ := (show RV c (.agg u l f) _ from hy ▸ hx y)
    obtain ⟨ds, e2, r2⟩ := (show RV c (.agg u' l' g) _ from hz ▸ hx z)
    have := equal_ok (P := P) (w := c.w) (d := 9999) htt r1 r2 s1 s2 hc (by omega)
    have hv : ∀ q, valOf (E.ty t) q = .agg q.toArray := fun q => by
      have := Sh_isA s1
      cases hh : E.ty t <;> rw [hh] at this <;> first | rfl | (simp [Ty.isA] at this)
    rw [hv, hv] at this
    exact ⟨_, _, e1, e2, this⟩
  cases op <;> simp only [eqOp] at h <;> try exact h.elim
  case eql =>
    refine ⟨_, h, valid_val rfl fun c a _ _ _ hx => ?_⟩
    obtain ⟨xs, ys, e1, e2, hr⟩ := run c a hx (.inl rfl)
    refine ⟨.bool (eqB (.agg u l f) (.agg u' l' g)), ?_, rfl⟩
    unfold execOp
    simp only [ho, e1, e2, Sem.run_bind, run_eqGuard_agg c.w _ t _ _ _ _ hq, Result.andThen_ok, (binOp_agg (op := .eql) hr).1 rfl, Sem.run_pure]
  case neq =>
    refine ⟨_, h, valid_val rfl fun c a _ _ _ hx => ?_⟩
    obtain ⟨xs, ys, e1, e2, hr⟩ := run c a hx (.inr rfl)
    refine ⟨.bool (!eqB (.agg u l f) (.agg u' l' g)), ?_, rfl⟩
    unfold execOp
    simp only [ho, e1, e2, Sem.run_bind, run_eqGuard_agg c.w _ t _ _ _ _ hq, Result.andThen_ok, (binOp_agg (op := .neq) hr).2 rfl, Sem.run_pure]
theorem scal_of_bin {op : BinOp} {a b : AV} {K : AV → Prop} (h : bin op a b K) : ∀ (c : Cx) (v : Value), RV c a v → ∃ k n, v = .int k n := by
  intro c v hv
  have key : ∀ {a : AV}, (∃ K b, bin0 op a b K) ∨ (∃ K n, shf0 op a K n) → RV c a v → ∃ k n, v = .int k n := by
    rintro a (⟨K, b, h⟩ | ⟨K, n, h⟩) hv
    · unfold bin0 at h
      split at h <;> first | exact h.elim | exact ⟨_, _, by simpa [RV, R] using hv⟩
    · unfold shf0 at h
      split at h <;> first | exact h.elim | exact ⟨_, _, by simpa [RV, R] using hv⟩
  by_cases hs : op = .shl ∨ op = .shr
  · have h' : cnt b (shf0 op a K) := by rcases hs with rfl | rfl <;> exact h
    obtain ⟨n, hn, _⟩ := cnt_det h'
    exact key (.inr ⟨_, _, hn⟩) hv
  · have h' : bin0 op a b K := by cases op <;> first | exact h | (simp at hs)
    exact key (.inl ⟨_, _, h'⟩) hv
theorem s_binOp (hT : TysOK P E.ty) {op : BinOp} {y z : Operand} {ty' : TypeId} (ho : o.op = .binOp op t y z ty') (h : sem E m key x (.binOp op t y z ty') K) : ∃ r, K r ∧ Valid P E.ty o x key m r := by
  have plain : bin op (x y) (x z) (fun v => K ⟨v, [], []⟩) → ∃ r, K r ∧ Valid P E.ty o x key m r := fun h => by
    obtain ⟨r, h1, h2⟩ := bin_all (P := P) h
    refine ⟨_, h1, valid_val rfl fun c a _ _ _ hx => ?_⟩
    obtain ⟨v, hv, hr⟩ := h2 c c.w t _ _ (hx y) (hx z)
    refine ⟨v, ?_, hr⟩
    obtain ⟨k, n, hkn⟩ := scal_of_bin h c _ (hx y)
    unfold execOp
    simp only [ho, Sem.run_bind, eqGuard_ok (P := P) (t := t) (u := a.eval z) (w := c.w) (.inl ⟨k, n, hkn⟩), Result.andThen_ok, hv, Sem.run_pure]
  simp only [sem, semG] at h
  split at h
  · rename_i s hs
    cases hz : x z <;> rw [hz] at h <;> try exact h.elim
    rename_i b
    obtain ⟨r, h1, h2, _⟩ := run_strOp (P := P) (t := t) (c := ⟨fun _ => False, 0, 0, E.ty, fun _ => none, fun _ => none, fun _ => undef, default⟩) (w := default) h
    refine ⟨_, h1, valid_val rfl fun c a _ _ _ hx => ?_⟩
    obtain ⟨r', rfl, _, v, hv, hr⟩ := run_strOp (P := P) (t := t) (c := c) (w := c.w) (h2 (· = r) rfl)
    refine ⟨v, ?_, hr⟩
    have e1 := rv_str (c := c) (hs ▸ hx y)
    have e2 := rv_str (c := c) (hz ▸ hx z)
    unfold execOp
    simp only [ho, Sem.run_bind, eqGuard_ok (P := P) (t := t) (u := a.eval z) (w := c.w) (.inr (.inr ⟨_, e1⟩)), Result.andThen_ok]
    rw [e1, e2, hv]; rfl
  · rename_i u l f hy
    split at h
    · rename_i u' l' g hz
      exact s_binAgg hT ho hy hz h
    · exact h.elim
  · rename_i b hy
    split at h
    · rename_i b' hz hty
      have hu := (hT t (by rw [hty]; simp)).bo_of hty
      cases op <;> simp only [eqOp] at h <;> try exact h.elim
      case eql =>
        refine ⟨_, h, valid_val rfl fun c a _ _ _ hx => ⟨.bool (b == b'), ?_, rfl⟩⟩
        have e1 := rv_bo (c := c) (hy ▸ hx y)
        have e2 := rv_bo (c := c) (hz ▸ hx z)
        unfold execOp
        simp only [ho, Sem.run_bind, eqGuard_ok (P := P) (t := t) (u := a.eval z) (w := c.w) (.inr (.inl ⟨_, e1⟩)), Result.andThen_ok]
        rw [e1, e2]
        simp only [binOp, Sem.run_bind, bool_eq (c := c) hu, Result.andThen_ok, Sem.run_pure]
      case neq =>
        refine ⟨_, h, valid_val rfl fun c a _ _ _ hx => ⟨.bool (!(b == b')), ?_, rfl⟩⟩
        have e1 := rv_bo (c := c) (hy ▸ hx y)
        have e2 := rv_bo (c := c) (hz ▸ hx z)
        unfold execOp
        simp only [ho, Sem.run_bind, eqGuard_ok (P := P) (t := t) (u := a.eval z) (w := c.w) (.inr (.inl ⟨_, e1⟩)), Result.andThen_ok]
        rw [e1, e2]
        simp only [binOp, Sem.run_bind, bool_eq (c := c) hu, Result.andThen_ok, Sem.run_pure]
    · exact h.elim
  · exact plain h
end
end Go.Proofs.YtdbiidfgbkmbmaaDoor
