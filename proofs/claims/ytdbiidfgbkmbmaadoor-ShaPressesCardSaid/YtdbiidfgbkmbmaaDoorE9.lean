/- Each operation that computes or reads, third part: addresses, parts, loads, slices. -/
import Derived.Test.YtdbiidfgbkmbmaaDoorE8
namespace Go.Proofs.YtdbiidfgbkmbmaaDoor
open Go.RowKit
section
variable {P : Program} {E : Pg} {o : Oper} {x : Operand → AV} {key : Nat} {m : Nat → Option Row} {K : Res → Prop} {t : TypeId}

theorem s_nilCheck {y : Operand} (ho : o.op = .nilCheck y) (h : sem E m key x (.nilCheck y) K) : ∃ r, K r ∧ Valid P E.ty o x key m r := by
  have go : ∀ {a : AV}, x y = a → (∀ (c : Cx) (v : Value), RV c a v → ∃ A, v = .pointer A ∧ ∃ ad, A = some ad) → K ⟨a, [], []⟩ → ∃ r, K r ∧ Valid P E.ty o x key m r := fun {a} hy hp hk =>
    ⟨_, hk, valid_val rfl fun c act _ _ _ hx => by
      have h1 := hx y
      rw [hy] at h1
      obtain ⟨A, e, ad, rfl⟩ := hp c _ h1
      exact ⟨act.eval y, by unfold execOp; simp only [ho, e]; rfl, h1⟩⟩
  simp only [sem, semG] at h
  split at h
  · rename_i τ k p hy
    exact go hy (fun c v hv => by obtain ⟨_, _, b, _, _, _, _, rfl⟩ := rv_ptr hv; exact ⟨_, rfl, _, rfl⟩) h
  · rename_i τ e k l i p hy
    exact go hy (fun c v hv => by obtain ⟨_, _, ad, _, _, rfl, _⟩ := rv_gpt hv; exact ⟨_, rfl, _, rfl⟩) h
  · rename_i τ a hy
    exact go hy (fun c v hv => by obtain ⟨b, o, ds, rfl, _⟩ := rv_ipt hv; exact ⟨_, rfl, _, rfl⟩) h
  · exact h.elim
theorem run_fieldAt' {fs : Array Field} {i : Nat} (h : i < fs.size) (hu : P.underlying t = some (.struct fs)) {ty : TypeId → Ty} (hf : TyOK P ty fs[i].type) (h0 : 0 < (ty fs[i].type).size) (w : World) (ad : Addr) :
    (Instr.fieldAt t (.pointer (some ad)) i).run P w = .ok (.pointer (some (ad.add fs[i].offset))) w := by
  have e : fs[i]? = some fs[i] := Array.getElem?_eq_getElem h
  have h1 : ¬ (ty fs[i].type).size = 0 := by omega
  simp [Instr.fieldAt, run_underlying hu, e, Instr.sureAddr, fieldPlace, run_sizeOf' hf, h1]
theorem run_indexAt_arr {n : Nat} {e : TypeId} {ty : TypeId → Ty} (hu : P.underlying t = some (.array n e)) (he : TyOK P ty e) {k : IntKind} {j : Nat} (hj : j < n) (w : World) (ad : Addr) :
    (Instr.indexAt t (.pointer (some ad)) (.int k (j : Int))).run P w = .ok (.pointer (some (ad.add (j * (ty e).size)))) w := by
  have hc : (0 : Int) ≤ (j : Int) ∧ (j : Int) < (n : Int) := by omega
  simp [Instr.indexAt, asIntOf, run_underlying hu, Instr.sureAddr, hc, run_sizeOf' he]
  omega
theorem run_indexAt_sl {l q : Nat} {e : TypeId} {ty : TypeId → Ty} (hu : P.underlying t = some (.slice e)) (he : TyOK P ty e) {k : IntKind} {j : Nat} (hj : j < l) (w : World) (ad : Addr) :
    (Instr.indexAt t (.slice (some ad) l q) (.int k (j : Int))).run P w = .ok (.pointer (some (ad.add (j * (ty e).size)))) w := by
  have hc : (0 : Int) ≤ (j : Int) ∧ (j : Int) < (l : Int) := by omega
  simp [Instr.indexAt, asIntOf, run_underlying hu, hc, run_sizeOf' he]
  omega
theorem s_fieldAddr (hT : TysOK P E.ty) {y : Operand} {i : Nat} (ho : o.op = .fieldAddr t y i) (h : sem E m key x (.fieldAddr t y i) K) : ∃ r, K r ∧ Valid P E.ty o x key m r := by
  simp only [sem, semG] at h
  split at h
  · rename_i n f hty
    obtain ⟨hi, h⟩ := h
    obtain ⟨fs, hu, hn, hfs⟩ := (hT t (by rw [hty]; simp)).st_of hty
    have hi' : i < fs.size := by omega
    obtain ⟨hf, e1, e2, e3⟩ := hfs i hi'
    have e4 : 0 < (E.ty fs[i].type).size := by rw [← e1]; exact e3
    split at h
    · rename_i τ' k p hy
      obtain ⟨rfl, h⟩ := h
      refine ⟨_, h, valid_val rfl fun c a _ _ _ hx => ?_⟩
      have h1 := hx y
      rw [hy] at h1
      obtain ⟨τ₀, av, b, hm, hb, hp, hat, ev⟩ := rv_ptr h1
      refine ⟨.pointer (some ⟨b, τ₀.off p + fs[i].offset, none⟩), ?_, ?_⟩
      · unfold execOp
        simp only [ho, ev, Sem.run_bind, run_fieldAt' hi' hu hf e4, Result.andThen_ok, Sem.run_pure, Addr.add_mid]
      · refine ⟨τ₀, av, b, hm, hb, inP_append p τ₀ [i] hp ?_, ?_, ?_⟩
        · rw [hat, inP_agg]; exact ⟨hi, inP_nil _⟩
        · rw [at_append p τ₀ [i] hp, hat, at_one]; rfl
        · rw [off_append p τ₀ [i] hp, hat, off_one, e2]; rfl
    · rename_i τ' e k l j p hy
      obtain ⟨rfl, h⟩ := h
      refine ⟨_, h, valid_val rfl fun c a hty' _ _ hx => ?_⟩
      have h1 := hx y
      rw [hy] at h1
      obtain ⟨n', f', ad, hm, hl, ev, hcur⟩ := rv_gpt h1
      refine ⟨.pointer (some (ad.add fs[i].offset)), ?_, ?_⟩
      · unfold execOp
        simp only [ho, ev, Sem.run_bind, run_fieldAt' hi' hu hf e4, Result.andThen_ok, Sem.run_pure]
      · refine ⟨n', f', _, hm, hl, rfl, fun h => ?_⟩
        obtain ⟨hj, hp, hat, b, hb, rfl⟩ := hcur h
        refine ⟨hj, inP_append p _ [i] hp (by rw [hat, inP_agg]; exact ⟨hi, inP_nil _⟩), ?_, b, hb, ?_⟩
        · rw [at_append p _ [i] hp, hat, at_one]; rfl
        · rw [Addr.add_mid, off_append p _ [i] hp, hat, off_one, e2, Nat.add_assoc]; rfl
    · rename_i τ' u l g hy
      obtain ⟨rfl, h⟩ := h
      refine ⟨_, h, valid_val rfl fun c a _ _ _ hx => ?_⟩
      have h1 := hx y
      rw [hy] at h1
      obtain ⟨b, ofs, ds, ev, hlt, hmu, hr, hs, hrg⟩ := rv_ipt h1
      refine ⟨.pointer (some ⟨b, ofs + fs[i].offset, none⟩), ?_, ?_⟩
      · unfold execOp
        simp only [ho, ev, Sem.run_bind, run_fieldAt' hi' hu hf e4, Result.andThen_ok, Sem.run_pure, Addr.add_mid]
      · obtain ⟨hs2, pre, post, es, hcut, hpl, hre⟩ := R_at [i] hr hs (by rw [inP_agg]; exact ⟨hi, inP_nil _⟩)
        rw [at_one] at hs2
        rw [off_one] at hpl
        have hav : (AV.agg u l g).at [i] = g i := by show (g i).at [] = g i; exact avat_nil _
        rw [hav] at hre hs2
        refine ⟨b, ofs + fs[i].offset, es, rfl, hlt, hmu, hre, hs2, fun j v hj => ?_⟩
        have := hrg (pre.length + j) v (by rw [hcut, List.append_assoc, List.getElem?_append_right (by omega), Nat.add_sub_cancel_left, List.getElem?_append_left (List.getElem?_eq_some_iff.1 hj).1]; exact hj)
        rw [e2, Nat.add_assoc]
        rw [hpl] at this
        exact this
    · exact h.elim
  · exact h.elim
theorem s_indexAddr (hT : TysOK P E.ty) {y z : Operand} (ho : o.op = .indexAddr t y z) (h : sem E m key x (.indexAddr t y z) K) : ∃ r, K r ∧ Valid P E.ty o x key m r := by
  simp only [sem, semG] at h
  obtain ⟨j, h, hidx⟩ := idx_all h
  split at h
  · rename_i n f hty
    obtain ⟨hj, h⟩ := h
    obtain ⟨e, hu, he, h0, rfl⟩ := (hT t (by rw [hty]; simp)).arr_of hty
    have hone : (Ty.agg true n fun _ => E.ty e).off [j] = j * (E.ty e).size := by
      rw [off_one]; exact sumN_const (E.ty e).size j
    split at h
    · rename_i τ' k p hy
      obtain ⟨rfl, h⟩ := h
      refine ⟨_, h, valid_val rfl fun c a _ _ _ hx => ?_⟩
      have h1 := hx y
      rw [hy] at h1
      obtain ⟨q, ez⟩ := hidx c _ (hx z)
      obtain ⟨τ₀, av, b, hm, hb, hp, hat, ev⟩ := rv_ptr h1
      refine ⟨.pointer (some ⟨b, τ₀.off p + j * (E.ty e).size, none⟩), ?_, ?_⟩
      · unfold execOp
        simp only [ho, ev, ez, Sem.run_bind, run_indexAt_arr hu he hj, Result.andThen_ok, Sem.run_pure, Addr.add_mid]
      · refine ⟨τ₀, av, b, hm, hb, inP_append p τ₀ [j] hp ?_, ?_, ?_⟩
        · rw [hat, inP_agg]; exact ⟨hj, inP_nil _⟩
        · rw [at_append p τ₀ [j] hp, hat, at_one]; rfl
        · rw [off_append p τ₀ [j] hp, hat, hone]
    · rename_i τ' e' k l q' p hy
      obtain ⟨rfl, h⟩ := h
      refine ⟨_, h, valid_val rfl fun c a _ _ _ hx => ?_⟩
      have h1 := hx y
      rw [hy] at h1
      obtain ⟨q, ez⟩ := hidx c _ (hx z)
      obtain ⟨n', f', ad, hm, hl, ev, hcur⟩ := rv_gpt h1
      refine ⟨.pointer (some (ad.add (j * (E.ty e).size))), ?_, ?_⟩
      · unfold execOp
        simp only [ho, ev, ez, Sem.run_bind, run_indexAt_arr hu he hj, Result.andThen_ok, Sem.run_pure]
      · refine ⟨n', f', _, hm, hl, rfl, fun h => ?_⟩
        obtain ⟨hj', hp, hat, b, hb, rfl⟩ := hcur h
        refine ⟨hj', inP_append p _ [j] hp (by rw [hat, inP_agg]; exact ⟨hj, inP_nil _⟩), ?_, b, hb, ?_⟩
        · rw [at_append p _ [j] hp, hat, at_one]; rfl
        · rw [Addr.add_mid, off_append p _ [j] hp, hat, hone, Nat.add_assoc]
    · rename_i τ' u l g hy
      obtain ⟨rfl, h⟩ := h
      refine ⟨_, h, valid_val rfl fun c a _ _ _ hx => ?_⟩
      have h1 := hx y
      rw [hy] at h1
      obtain ⟨q, ez⟩ := hidx c _ (hx z)
      obtain ⟨b, ofs, ds, ev, hlt, hmu, hr, hs, hrg⟩ := rv_ipt h1
      refine ⟨.pointer (some ⟨b, ofs + j * (E.ty e).size, none⟩), ?_, ?_⟩
      · unfold execOp
        simp only [ho, ev, ez, Sem.run_bind, run_indexAt_arr hu he hj, Result.andThen_ok, Sem.run_pure, Addr.add_mid]
      · obtain ⟨hs2, pre, post, es, hcut, hpl, hre⟩ := R_at [j] hr hs (by rw [inP_agg]; exact ⟨hj, inP_nil _⟩)
        rw [at_one] at hs2
        rw [hone] at hpl
        have hav : (AV.agg u l g).at [j] = g j := by show (g j).at [] = g j; exact avat_nil _
        rw [hav] at hre hs2
        refine ⟨b, ofs + j * (E.ty e).size, es, rfl, hlt, hmu, hre, hs2, fun i v hi => ?_⟩
        have := hrg (pre.length + i) v (by rw [hcut, List.append_assoc, List.getElem?_append_right (by omega), Nat.add_sub_cancel_left, List.getElem?_append_left (List.getElem?_eq_some_iff.1 hi).1]; exact hi)
        rw [Nat.add_assoc]
        rw [hpl] at this
        exact this
    · exact h.elim
  · rename_i e hty
    obtain ⟨hu, he, h0⟩ := (hT t (by rw [hty]; simp)).sl_of hty
    split at h
    · rename_i fr et l f hy
      obtain ⟨rfl, hj, h⟩ := h
      refine ⟨_, h, valid_val rfl fun c a _ _ _ hx => ?_⟩
      have h1 := hx y
      rw [hy] at h1
      obtain ⟨q, ez⟩ := hidx c _ (hx z)
      obtain ⟨A, cap, ev, hle, hmx, hA⟩ := rv_imm h1
      obtain ⟨b, ofs, rfl, hlt, hmu, hfr, hi⟩ := hA (by omega)
      obtain ⟨hs, ds, hr, hrg⟩ := hi j hj
      refine ⟨.pointer (some ⟨b, ofs + j * (E.ty e).size, none⟩), ?_, b, _, ds, rfl, hlt, hmu, hr, hs, hrg⟩
      unfold execOp
      simp only [ho, ev, ez, Sem.run_bind, run_indexAt_sl hu he hj, Result.andThen_ok, Sem.run_pure, Addr.add_mid]
    · rename_i e' k l hy
      obtain ⟨rfl, hj, h⟩ := h
      refine ⟨_, h, valid_val rfl fun c a hty' hmem _ hx => ?_⟩
      have h1 := hx y
      rw [hy] at h1
      obtain ⟨q, ez⟩ := hidx c _ (hx z)
      obtain ⟨n, f, A, cap, hm, hl, ev, _, _, hA, hcur⟩ := rv_gsl h1
      obtain ⟨ad, rfl⟩ := hA (by omega)
      refine ⟨.pointer (some (ad.add (j * (E.ty e').size))), ?_, n, f, _, hm, hl, rfl, fun hn => ?_⟩
      · unfold execOp
        simp only [ho, ev, ez, Sem.run_bind, run_indexAt_sl hu he hj, Result.andThen_ok, Sem.run_pure]
      · have hrow := hmem.rows k _ hm
        obtain ⟨g, hown, hbl, _⟩ := hrow
        rw [hcur hn] at hown hbl
        obtain ⟨_, hno | ⟨gb, cp, cur, hv, hbase, hheap, _⟩⟩ := hown
        · simp at hno
        · injection hv with e1 e2 e3
          injection e1 with e1
          subst e1
          rw [hty']
          refine ⟨hj, inP_nil _, at_nil _, gb, hbl.symm, ?_⟩
          rw [Addr.add_mid, off_nil]; simp
    · rename_i e' k al ofs l hy
      obtain ⟨rfl, hj, h⟩ := h
      refine ⟨_, h, valid_val rfl fun c a hty' hmem _ hx => ?_⟩
      have h1 := hx y
      rw [hy] at h1
      obtain ⟨q, ez⟩ := hidx c _ (hx z)
      obtain ⟨n, f, A, cap, hm, hl, ev, hle, hmx, hol, hA⟩ := rv_gsub h1
      obtain ⟨ad, rfl, hcur⟩ := hA (by omega)
      refine ⟨.pointer (some (ad.add (j * (E.ty e').size))), ?_, n, f, _, hm, hl, rfl, fun hn => ?_⟩
      · unfold execOp
        simp only [ho, ev, ez, Sem.run_bind, run_indexAt_sl hu he hj, Result.andThen_ok, Sem.run_pure]
      · obtain ⟨b, hb, rfl⟩ := hcur hn
        rw [hty'] at *
        refine ⟨by omega, inP_nil _, at_nil _, b, hb, ?_⟩
        rw [Addr.add_mid, off_nil, Nat.add_zero, Nat.add_mul]
    · rename_i et k p ofs l hy
      obtain ⟨rfl, hj, h⟩ := h
      refine ⟨_, h, valid_val rfl fun c a hty' hmem _ hx => ?_⟩
      have h1 := hx y
      rw [hy] at h1
      obtain ⟨q, ez⟩ := hidx c _ (hx z)
      obtain ⟨τ, av, b, n, g, A, cap, hm, hb, hp, hat, hg, hol, ev, hle, hmx, hA⟩ := rv_sub h1
      have hA := hA (by omega)
      subst hA
      refine ⟨.pointer (some ⟨b, τ.off p + ofs * (E.ty e).size + j * (E.ty e).size, none⟩), ?_, ?_⟩
      · unfold execOp
        simp only [ho, ev, ez, Sem.run_bind, run_indexAt_sl hu he hj, Result.andThen_ok, Sem.run_pure, Addr.add_mid]
      · refine ⟨τ, av, b, hm, hb, inP_append p τ [ofs + j] hp ?_, ?_, ?_⟩
        · rw [hat, inP_agg]; exact ⟨by omega, inP_nil _⟩
        · rw [at_append p τ [ofs + j] hp, hat, at_one]; exact hg
        · rw [off_append p τ [ofs + j] hp, hat, off_one]
          have : sumN (fun i => (el true g i).size) (ofs + j) = (ofs + j) * (E.ty e).size := by
            rw [← hg]; exact sumN_const (g 0).size _
          rw [this, Nat.add_mul, Nat.add_assoc]
    · exact h.elim
  · exact h.elim
end
end Go.Proofs.YtdbiidfgbkmbmaaDoor
