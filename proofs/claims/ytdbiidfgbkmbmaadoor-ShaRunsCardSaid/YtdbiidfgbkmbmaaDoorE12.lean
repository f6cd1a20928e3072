/- Lengths, the lesser and the greater, an array behind a slice. -/
import Derived.Test.YtdbiidfgbkmbmaaDoorE11
namespace Go.Proofs.YtdbiidfgbkmbmaaDoor
open Go.RowKit
section
variable {P : Program} {E : Pg} {o : Oper} {x : Operand → AV} {key : Nat} {m : Nat → Option Row} {K : Res → Prop} {t : TypeId}
theorem call_of {c : Call} {ca : Callee} {ags : List Operand} (h1 : c.callee = ca) (h2 : c.args.toList = ags) : c = ⟨ca, ags.toArray, c.argTypes⟩ := by
  cases c with
  | mk callee args argTypes =>
    simp only at h1 h2 ⊢
    subst h1; subst h2; simp
theorem exec_builtin {b : Builtin} {ags : List Operand} {ts : Array TypeId} {ρ : Operand → Value} (ho : o.op = .call ⟨.builtin b, ags.toArray, ts⟩) :
    ∃ cs, execOp ρ o = builtin b ts o.type cs (ags.map ρ).toArray := by
  rw [← List.map_toArray]
  exact ⟨_, by unfold execOp; simp only [ho]; rfl⟩
theorem run_len' {e : TypeId} (hu : P.underlying t = some (.slice e)) {A : Option Addr} {n c : Nat} {tt : TypeId} {w : World} : (Builtin.len_ #[t] tt #[.slice A n c]).run P w = .ok (goInt n) w := by
  simp [Builtin.len_, run_underlying hu]
theorem s_len (hT : TysOK P E.ty) {c : Call} (ho : o.op = .call c) (hc : c.callee = .builtin .len) (h : sem E m key x (.call c) K) : ∃ r, K r ∧ Valid P E.ty o x key m r := by
  simp only [sem, semG, hc] at h
  split at h
  · rename_i y t hy ht
    have hcall := call_of hc hy
    have ht' : c.argTypes = #[t] := by rw [← Array.toArray_toList (xs := c.argTypes), ht]
    rw [ht'] at hcall
    rw [hcall] at ho
    split at h
    · rename_i e hty
      obtain ⟨hu, he, h0⟩ := (hT t (by rw [hty]; simp)).sl_of hty
      have fin : ∀ {a : AV} {l : Nat}, x y = a → (∀ (c : Cx) (v : Value), RV c a v → ∃ A q, v = .slice A l q) → K ⟨.nat l, [], []⟩ → ∃ r, K r ∧ Valid P E.ty o x key m r := fun {a l} hy hp hk =>
        ⟨_, hk, valid_val rfl fun c act _ _ _ hx => by
          have h1 := hx y
          rw [hy] at h1
          obtain ⟨A, q, e⟩ := hp c _ h1
          obtain ⟨cs, hex⟩ := exec_builtin (ρ := act.eval) ho
          refine ⟨goInt l, ?_, rfl⟩
          rw [hex]
          show Sem.run P (do pure (Next.value (← Builtin.len_ #[t] o.type #[act.eval y]))) c.w = _
          simp only [e, Sem.run_bind, run_len' hu, Result.andThen_ok, Sem.run_pure]⟩
      cases hxy : x y <;> rw [hxy] at h <;> simp only [lenOf] at h <;> try exact h.elim
      case nils => exact fin hxy (fun c v hv => ⟨none, 0, by simpa [RV, R] using hv⟩) h
      case imm => exact fin hxy (fun c v hv => by obtain ⟨A, q, e, _⟩ := rv_imm hv; exact ⟨A, q, e⟩) h
      case gsl => exact fin hxy (fun c v hv => by obtain ⟨_, _, A, q, _, _, e, _⟩ := rv_gsl hv; exact ⟨A, q, e⟩) h
      case gsub => exact fin hxy (fun c v hv => by obtain ⟨_, _, A, q, _, _, e, _⟩ := rv_gsub hv; exact ⟨A, q, e⟩) h
      case sub => exact fin hxy (fun c v hv => by obtain ⟨_, _, _, _, _, A, q, _, _, _, _, _, _, e, _⟩ := rv_sub hv; exact ⟨A, q, e⟩) h
    · rename_i hty
      have hu := (hT t (by rw [hty]; simp)).str_of hty
      split at h
      · rename_i s hxy
        refine ⟨_, h, valid_val rfl fun c act _ _ _ hx => ?_⟩
        have h1 := hx y
        rw [hxy] at h1
        have e := rv_str h1
        obtain ⟨cs, hex⟩ := exec_builtin (ρ := act.eval) ho
        refine ⟨goInt s.length, ?_, rfl⟩
        rw [hex]
        show Sem.run P (do pure (Next.value (← Builtin.len_ #[t] o.type #[act.eval y]))) c.w = _
        have hsz : (⟨s.toArray⟩ : ByteArray).size = s.length := by simp [ByteArray.size]
        simp [e, Builtin.len_, run_underlying hu, hsz]
      · exact h.elim
    · exact h.elim
  · exact h.elim
theorem rv_nat {c : Cx} {n : Nat} {v : Value} (h : RV c (.nat n) v) : v = .int .i64 (n : Int) := by simpa [RV, R] using h
theorem s_min {c : Call} (ho : o.op = .call c) (hc : c.callee = .builtin .min) (h : sem E m key x (.call c) K) : ∃ r, K r ∧ Valid P E.ty o x key m r := by
  simp only [sem, semG, hc] at h
  split at h
  · rename_i y z hy
    have hcall := call_of hc hy
    rw [hcall] at ho
    split at h
    · rename_i a b ha hb
      refine ⟨_, h, valid_val rfl fun c act _ _ _ hx => ⟨.int .i64 ((min a b : Nat) : Int), ?_, rfl⟩⟩
      have e1 := rv_nat (c := c) (ha ▸ hx y)
      have e2 := rv_nat (c := c) (hb ▸ hx z)
      obtain ⟨cs, hex⟩ := exec_builtin (ρ := act.eval) ho
      rw [hex]
      show Sem.run P (do pure (Next.value (← Builtin.min_ _ o.type #[act.eval y, act.eval z]))) c.w = _
      have : (if (b : Int) < (a : Int) then (b : Int) else (a : Int)) = ((min a b : Nat) : Int) := by split <;> omega
      simp [e1, e2, Builtin.min_, Builtin.min2]
      split <;> omega
    · exact h.elim
  · exact h.elim
theorem s_max {c : Call} (ho : o.op = .call c) (hc : c.callee = .builtin .max) (h : sem E m key x (.call c) K) : ∃ r, K r ∧ Valid P E.ty o x key m r := by
  simp only [sem, semG, hc] at h
  split at h
  · rename_i y z hy
    have hcall := call_of hc hy
    rw [hcall] at ho
    split at h
    · rename_i a b ha hb
      refine ⟨_, h, valid_val rfl fun c act _ _ _ hx => ⟨.int .i64 ((max a b : Nat) : Int), ?_, rfl⟩⟩
      have e1 := rv_nat (c := c) (ha ▸ hx y)
      have e2 := rv_nat (c := c) (hb ▸ hx z)
      obtain ⟨cs, hex⟩ := exec_builtin (ρ := act.eval) ho
      rw [hex]
      show Sem.run P (do pure (Next.value (← Builtin.max_ _ o.type #[act.eval y, act.eval z]))) c.w = _
      have h1 : (if (a : Int) < (b : Int) then (b : Int) else (a : Int)) = ((max a b : Nat) : Int) := by split <;> omega
      have h2 : (if (b : Int) > (a : Int) then (b : Int) else (a : Int)) = ((max a b : Nat) : Int) := by split <;> omega
      simp [e1, e2, Builtin.max_, Builtin.max2]
      split <;> omega
    · exact h.elim
  · exact h.elim
theorem range_fm {w : World} {b o s : Nat} {g : Nat → List Value} : ∀ (n : Nat), (∀ i, i < n → w.rangeAt b (o + i * s) (g i) ∧ (g i).length = s) → w.rangeAt b o ((List.range n).flatMap g)
  | 0, _ => fun j v hj => by simp at hj
  | n + 1, h => by
    have ih := range_fm n (fun i hi => h i (by omega))
    have hl : ((List.range n).flatMap g).length = n * s := by
      rw [fm_len, ← sumN_const]; exact sumN_congr n (fun i hi => (h i (by omega)).2)
    intro j v hj
    rw [fm_succ] at hj
    rcases Nat.lt_or_ge j (n * s) with hlt | hge
    · rw [List.getElem?_append_left (by omega)] at hj
      exact ih j v hj
    · rw [List.getElem?_append_right (by omega), hl] at hj
      have := (h n (by omega)).1 _ v hj
      rw [show o + j = o + n * s + (j - n * s) by omega]
      exact this
theorem s_toArr (hT : TysOK P E.ty) {y : Operand} (ho : o.op = .sliceToArrayPointer t y) (h : sem E m key x (.sliceToArrayPointer t y) K) : ∃ r, K r ∧ Valid P E.ty o x key m r := by
  simp only [sem, semG] at h
  split at h
  · rename_i fr et l f hy
    split at h
    · rename_i n g hty
      obtain ⟨rfl, hnl, hn, h⟩ := h
      obtain ⟨e, hu, he, h0, rfl⟩ := (hT t (by rw [hty]; simp)).arr_of hty
      refine ⟨_, h, valid_val rfl fun c a _ _ _ hx => ?_⟩
      have h1 := hx y
      rw [hy] at h1
      obtain ⟨A, q, ev, hle, hmx, hA⟩ := rv_imm h1
      obtain ⟨b, ofs, rfl, hlt, hmu, hfr, hi⟩ := hA (by omega)
      have hch : ∃ gg : Nat → List Value, ∀ i, i < n → Sh (E.ty e) (f i) ∧ R c (f i) (gg i) ∧ c.w.rangeAt b (ofs + i * (E.ty e).size) (gg i) := by
        refine ⟨fun i => if h : i < l then (hi i h).2.choose else [], fun i hin => ?_⟩
        have hil : i < l := by omega
        simp only [dif_pos hil]
        exact ⟨(hi i hil).1, (hi i hil).2.choose_spec⟩
      obtain ⟨gg, hgg⟩ := hch
      refine ⟨.pointer (some ⟨b, ofs, none⟩), ?_, b, ofs, (List.range n).flatMap gg, rfl, hlt, hmu, ⟨gg, fun i hin => (hgg i hin).2.1, rfl⟩, ⟨rfl, rfl, fun i hin => (hgg i hin).1⟩, ?_⟩
      · unfold execOp
        have hnot : ¬ l < n := by omega
        simp [ho, ev, Instr.arrayAt, run_underlying hu, hnot]
      · exact range_fm n (fun i hin => ⟨(hgg i hin).2.2, R_len (hgg i hin).2.1 (hgg i hin).1⟩)
    · exact h.elim
  · exact h.elim
end
end Go.Proofs.YtdbiidfgbkmbmaaDoor
