/- Each operation that computes or reads, last part: parts of values, loads, slices, lengths. -/
import Derived.Test.YtdbiidfgbkmbmaaDoorE9
namespace Go.Proofs.YtdbiidfgbkmbmaaDoor
open Go.RowKit
section
variable {P : Program} {E : Pg} {o : Oper} {x : Operand → AV} {key : Nat} {m : Nat → Option Row} {K : Res → Prop} {t : TypeId}
theorem s_field (hT : TysOK P E.ty) {y : Operand} {i : Nat} (ho : o.op = .field t y i) (h : sem E m key x (.field t y i) K) : ∃ r, K r ∧ Valid P E.ty o x key m r := by
  simp only [sem, semG] at h
  split at h
  · rename_i n f hty
    obtain ⟨fs, hu, hn, hfs⟩ := (hT t (by rw [hty]; simp)).st_of hty
    split at h
    · rename_i u l g hy
      obtain ⟨⟨hu', hl', hs⟩, hi, h⟩ := h
      subst hu'; subst hl'
      have hi' : i < fs.size := by omega
      obtain ⟨hf, e1, e2, e3⟩ := hfs i hi'
      refine ⟨_, h, valid_val rfl fun c a _ _ _ hx => ?_⟩
      have h1 := hx y
      rw [hy] at h1
      obtain ⟨cs, ev, gg, hgg, rfl⟩ := h1
      obtain ⟨post, hp⟩ := fm_at gg hi
      have hlen : ((List.range i).flatMap gg).length = fs[i].offset := by
        rw [fm_len, e2]; exact sumN_congr i (fun j hj => R_len (hgg j (by omega)) (hs j (by omega)))
      have hsi : Sh (E.ty fs[i].type) (g i) := by rw [← e1]; exact hs i hi
      have e : fs[i]? = some fs[i] := Array.getElem?_eq_getElem hi'
      refine ⟨valOf (E.ty fs[i].type) (gg i), ?_, rv_of_R hsi (hgg i hi)⟩
      unfold execOp
      have hpart := run_part' (P := P) (w := c.w) hf (cs := ((List.range n).flatMap gg).toArray) (by simpa using hp) (hgg i hi) hsi
      rw [hlen] at hpart
      simp [ho, ev, Instr.field, run_underlying hu, e, asAgg, hpart]
    · exact h.elim
  · exact h.elim
theorem run_index_arr {n : Nat} {e : TypeId} {ty : TypeId → Ty} (hu : P.underlying t = some (.array n e)) (he : TyOK P ty e) {k : IntKind} {j : Nat} (hj : j < n) (w : World) (cs : Array Value) :
    (Instr.index t (.agg cs) (.int k (j : Int))).run P w = (part e cs (j * (ty e).size)).run P w := by
  have hc : (0 : Int) ≤ (j : Int) ∧ (j : Int) < (n : Int) := by omega
  simp [Instr.index, asIntOf, run_underlying hu, hc, run_sizeOf' he]
  intro hh; omega
theorem s_index (hT : TysOK P E.ty) {y z : Operand} (ho : o.op = .index t y z) (h : sem E m key x (.index t y z) K) : ∃ r, K r ∧ Valid P E.ty o x key m r := by
  simp only [sem, semG] at h
  obtain ⟨j, h, hidx⟩ := idx_all h
  split at h
  · rename_i n f hty
    obtain ⟨e, hu, he, h0, rfl⟩ := (hT t (by rw [hty]; simp)).arr_of hty
    split at h
    · rename_i u l g hy
      obtain ⟨⟨hu', hl', hs⟩, hj, h⟩ := h
      subst hu'; subst hl'
      refine ⟨_, h, valid_val rfl fun c a _ _ _ hx => ?_⟩
      have h1 := hx y
      rw [hy] at h1
      obtain ⟨q, ez⟩ := hidx c _ (hx z)
      obtain ⟨cs, ev, gg, hgg, rfl⟩ := h1
      obtain ⟨post, hp⟩ := fm_at gg hj
      have hlen : ((List.range j).flatMap gg).length = j * (E.ty e).size := by
        rw [fm_len, ← sumN_const]; exact sumN_congr j (fun i hi => R_len (hgg i (by omega)) (hs i (by omega)))
      have hpart := run_part' (P := P) (w := c.w) he (cs := ((List.range n).flatMap gg).toArray) (by simpa using hp) (hgg j hj) (hs j hj)
      rw [hlen] at hpart
      refine ⟨valOf (E.ty e) (gg j), ?_, rv_of_R (hs j hj) (hgg j hj)⟩
      unfold execOp
      simp only [ho, ev, ez, Sem.run_bind, run_index_arr hu he hj, hpart, Result.andThen_ok, Sem.run_pure]
    · exact h.elim
  · rename_i hty
    have hu := (hT t (by rw [hty]; simp)).str_of hty
    split at h
    · rename_i s hy
      obtain ⟨hj, h⟩ := h
      refine ⟨_, h, valid_val rfl fun c a _ _ _ hx => ?_⟩
      have h1 := hx y
      rw [hy] at h1
      obtain ⟨q, ez⟩ := hidx c _ (hx z)
      have ev := rv_str h1
      refine ⟨.int .u8 ((s.getD j 0).toNat : Int), ?_, ?_⟩
      · unfold execOp
        have hget : (⟨s.toArray⟩ : ByteArray)[j]? = some (s.getD j 0) := by
          have hsz : j < (⟨s.toArray⟩ : ByteArray).size := by simpa [ByteArray.size] using hj
          rw [getElem?_pos (⟨s.toArray⟩ : ByteArray) j hsz]
          show some (s.toArray[j]) = _
          simp [hj]
        have hc : (0 : Int) ≤ (j : Int) := by omega
        simp [ho, ev, ez, Instr.index, asIntOf, run_underlying hu, hc, hget]
      · show [_] = [_]
        congr 2
        unfold U8; rw [BitVec.toNat_ofNat]
        have := (s.getD j 0).toNat_lt
        omega
    · exact h.elim
  · exact h.elim
theorem s_extract {y : Operand} {i : Nat} (ho : o.op = .extract y i) (h : sem E m key x (.extract y i) K) : ∃ r, K r ∧ Valid P E.ty o x key m r := by
  simp only [sem, semG] at h
  split at h
  · rename_i l f hy
    obtain ⟨hi, h⟩ := h
    refine ⟨_, h, valid_val rfl fun c a _ _ _ hx => ?_⟩
    have h1 := hx y
    rw [hy] at h1
    obtain ⟨vs, g, ev, hsz, hg⟩ := h1
    obtain ⟨hr, v, hv, hm⟩ := hg i hi
    have ev : a.eval y = .tuple vs := by simpa using ev
    refine ⟨v, ?_, ?_⟩
    · unfold execOp
      simp [ho, ev, Instr.extract, hv]
    · show RV c (f i) v
      cases hf : f i with
      | agg u n q =>
        rw [hf] at hm hr
        simp only [] at hm
        exact ⟨g i, hm, hr⟩
      | junk => trivial
      | _ => rw [hf] at hm hr; simp only [] at hm; rw [hm] at hr; exact hr
  · exact h.elim
theorem range_of_block {w : World} {b : Nat} {cs : Array Value} {t : TypeId} {fr : Nat × Nat} {pre ds post : List Value} (h : w.heap[b]? = some (.cells cs t fr)) (hc : cs.toList = pre ++ ds ++ post) : w.rangeAt b pre.length ds := fun j v hj => by
  rw [cell_of_row w b _ cs t fr h, ← Array.getElem?_toList, hc, List.append_assoc, List.getElem?_append_right (by omega), Nat.add_sub_cancel_left, List.getElem?_append_left (List.getElem?_eq_some_iff.1 hj).1]
  exact hj
/-- What a row of a slice holds. -/
theorem grow_parts {c : Cx} {k e n : Nat} {f : Nat → AV} (h : RowOK c k (.grow e n f)) (hn : 0 < n) : ∃ b cap cur, c.bl k = some b ∧ c.sv k = .slice (some ⟨b, 0, none⟩) n cap ∧ c.base ≤ b ∧ n ≤ cap ∧ cap ≤ maxLen ∧ c.w.heap[b]? = some (.cells cur e (0, 0)) ∧
    cur.size = cap * (c.ty e).size ∧ ∀ i, i < n → Sh (c.ty e) (f i) ∧ ∃ pre ds post, cur.toList = pre ++ ds ++ post ∧ pre.length = i * (c.ty e).size ∧ R c (f i) ds := by
  obtain ⟨g, ⟨hlen, hno | ⟨b, cap, cur, hv, hb, hh, h1, h2, h3, h4⟩⟩, hbl, hg⟩ := h
  · exact absurd hno.2 (by omega)
  · refine ⟨b, cap, cur, by rw [← hbl, hv]; rfl, hv, hb, h1, h2, hh, h3, fun i hi => ?_⟩
    obtain ⟨post, hp⟩ := fm_at g hi
    refine ⟨(hg i hi).2, (List.range i).flatMap g, g i, post ++ cur.toList.drop (n * (c.ty e).size), ?_, ?_, (hg i hi).1⟩
    · rw [← List.append_assoc, ← hp, ← h4, List.take_append_drop]
    · rw [fm_len, ← sumN_const]; exact sumN_congr i (fun j hj => R_len (hg j (by omega)).1 (hg j (by omega)).2)
theorem s_load (hT : TysOK P E.ty) {y : Operand} (ho : o.op = .load t y) (h : sem E m key x (.load t y) K) : ∃ r, K r ∧ Valid P E.ty o x key m r := by
  simp only [sem, semG] at h
  obtain ⟨ht, h⟩ := okT_of h
  have htt := hT t ht
  split at h
  · rename_i τ' k p hy
    split at h
    · rename_i τ a hmk
      obtain ⟨rfl, h⟩ := h
      refine ⟨_, h, valid_val rfl fun c act _ hmem hrd hx => ?_⟩
      have h1 := hx y
      rw [hy] at h1
      obtain ⟨τ₀, av, b, hm, hb, hp, hat, ev⟩ := rv_ptr h1
      rw [hrd k (by simp), hmk] at hm
      injection hm with hm
      injection hm with e1 e2
      subst e1; subst e2
      obtain ⟨b', cs, t', hb', hh, hr, hs⟩ := hmem.rows k _ ((hrd k (by simp)).trans hmk)
      rw [hb] at hb'; injection hb' with hb'; subst hb'
      obtain ⟨hs2, pre, post, ds, hcut, hpl, hr2⟩ := R_at p hr hs hp
      rw [hat] at hs2
      have hrg := range_of_block hh hcut
      rw [hpl] at hrg
      refine ⟨valOf (E.ty t) ds, ?_, rv_of_R hs2 hr2⟩
      unfold execOp
      simp only [ho, ev, Instr.loadAt, Instr.sureAddr, Sem.run_bind, Sem.run_pure, Result.andThen_ok, run_loadVar' htt hrg hr2 hs2]
    · exact h.elim
  · rename_i τ' e k l i p hy
    split at h
    · rename_i e' l' f hmk
      obtain ⟨rfl, rfl, h⟩ := h
      refine ⟨_, h, valid_val rfl fun c act hty' hmem hrd hx => ?_⟩
      have h1 := hx y
      rw [hy] at h1
      obtain ⟨n', f', ad, hm, hl, ev, hcur⟩ := rv_gpt h1
      rw [hrd k (by simp), hmk] at hm
      injection hm with hm
      injection hm with e1 e2 e3
      subst e1; subst e2; subst e3
      obtain ⟨hi, hp, hat, b, hb, rfl⟩ := hcur rfl
      obtain ⟨b', cap, cur, hb', _, _, _, _, hh, _, hrow⟩ := grow_parts (hmem.rows k _ ((hrd k (by simp)).trans hmk)) (by omega)
      rw [hb] at hb'; injection hb' with hb'; subst hb'
      obtain ⟨hs, pre, ds, post, hcut, hpl, hr⟩ := hrow i hi
      obtain ⟨hs2, pre2, post2, es, hcut2, hpl2, hr2⟩ := R_at p hr hs hp
      rw [hat] at hs2
      have hrg := range_of_block (pre := pre ++ pre2) (ds := es) (post := post2 ++ post) hh (by rw [hcut, hcut2]; simp)
      rw [List.length_append, hpl, hpl2] at hrg
      refine ⟨valOf (E.ty t) es, ?_, rv_of_R hs2 hr2⟩
      unfold execOp
      simp only [ho, ev, Instr.loadAt, Instr.sureAddr, Sem.run_bind, Sem.run_pure, Result.andThen_ok, run_loadVar' htt hrg hr2 hs2]
    · exact h.elim
  · rename_i τ a hy
    obtain ⟨rfl, h⟩ := h
    refine ⟨_, h, valid_val rfl fun c act _ hmem hrd hx => ?_⟩
    have h1 := hx y
    rw [hy] at h1
    obtain ⟨b, ofs, ds, ev, hlt, hmu, hr, hs, hrg⟩ := rv_ipt h1
    refine ⟨valOf (E.ty t) ds, ?_, rv_of_R hs hr⟩
    unfold execOp
    simp only [ho, ev, Instr.loadAt, Instr.sureAddr, Sem.run_bind, Sem.run_pure, Result.andThen_ok, run_loadVar' htt hrg hr hs]
  · exact h.elim
end
end Go.Proofs.YtdbiidfgbkmbmaaDoor
