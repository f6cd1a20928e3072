/- The elements of slices; the builtins copy and append. -/
import Derived.Test.YtdbiidfgbkmbmaaDoorE15
namespace Go.Proofs.YtdbiidfgbkmbmaaDoor
open Go.RowKit
theorem avat_app : ∀ (p : List Nat) (a : AV) (q : List Nat), a.at (p ++ q) = (a.at p).at q
  | [], a, q => by rw [avat_nil]; rfl
  | i :: p, a, q => by
    cases a with
    | agg u l f => exact avat_app p (f i) q
    | _ => cases q <;> rfl
theorem fm_add (g : Nat → List Value) (a : Nat) : ∀ b, (List.range (a + b)).flatMap g = (List.range a).flatMap g ++ (List.range b).flatMap (fun i => g (a + i))
  | 0 => by simp
  | b + 1 => by rw [← Nat.add_assoc, fm_succ, fm_succ, fm_add g a b, List.append_assoc]
theorem fm_len_const {g : Nat → List Value} {s n : Nat} (h : ∀ i, i < n → (g i).length = s) : ((List.range n).flatMap g).length = n * s := by
  rw [fm_len, ← sumN_const]; exact sumN_congr n h
theorem fm_splice {hh gg : Nat → List Value} {s N o cnt : Nat} (h1 : ∀ i, i < N → (hh i).length = s) (h2 : ∀ i, i < cnt → (gg i).length = s) (hN : o + cnt ≤ N) :
    (List.range N).flatMap (fun j => if o ≤ j ∧ j < o + cnt then gg (j - o) else hh j) = ((List.range N).flatMap hh).take (o * s) ++ (List.range cnt).flatMap gg ++ ((List.range N).flatMap hh).drop (o * s + ((List.range cnt).flatMap gg).length) := by
  obtain ⟨d, rfl⟩ := Nat.exists_eq_add_of_le hN
  have l1 : ((List.range o).flatMap hh).length = o * s := fm_len_const (fun i hi => h1 i (by omega))
  have l2 : ((List.range cnt).flatMap gg).length = cnt * s := fm_len_const h2
  have l3 : ((List.range (o + cnt)).flatMap hh).length = o * s + cnt * s := by rw [fm_len_const (s := s) (fun i hi => h1 i (by omega)), Nat.add_mul]
  rw [fm_add _ (o + cnt) d, fm_add _ o cnt, l2]
  have e1 : (List.range o).flatMap (fun j => if o ≤ j ∧ j < o + cnt then gg (j - o) else hh j) = (List.range o).flatMap hh := fm_congr o (fun i hi => if_neg (by omega))
  have e2 : (List.range cnt).flatMap (fun i => if o ≤ o + i ∧ o + i < o + cnt then gg (o + i - o) else hh (o + i)) = (List.range cnt).flatMap gg := fm_congr cnt (fun i hi => by rw [if_pos (by omega), Nat.add_sub_cancel_left])
  have e3 : (List.range d).flatMap (fun i => if o ≤ o + cnt + i ∧ o + cnt + i < o + cnt then gg (o + cnt + i - o) else hh (o + cnt + i)) = (List.range d).flatMap (fun i => hh (o + cnt + i)) := fm_congr d (fun i hi => if_neg (by omega))
  rw [e1, e2, e3, fm_add hh (o + cnt) d]
  have e4 : ((List.range (o + cnt)).flatMap hh ++ (List.range d).flatMap (fun i => hh (o + cnt + i))).take (o * s) = (List.range o).flatMap hh := by
    rw [fm_add hh o cnt, List.append_assoc, ← l1, List.take_left]
  have e5 : ((List.range (o + cnt)).flatMap hh ++ (List.range d).flatMap (fun i => hh (o + cnt + i))).drop (o * s + cnt * s) = (List.range d).flatMap (fun i => hh (o + cnt + i)) := by
    rw [← l3, List.drop_left]
  rw [e4, e5]
theorem spliceA_eq {τ : Ty} {f g : Nat → AV} {N o cnt : Nat} (hf : ∀ j, j < N → Sh τ (f j)) (hg : ∀ j, j < cnt → Sh τ (g j)) : ∀ j, j < N → spliceA τ f o cnt g j = if o ≤ j ∧ j < o + cnt then g (j - o) else f j := by
  intro j hj
  have h1 := hf j hj
  cases τ with
  | int k =>
    by_cases hc : o ≤ j ∧ j < o + cnt
    · have h2 := hg (j - o) (by omega)
      rw [if_pos hc]
      cases k <;> simp only [spliceA, hc, and_self, if_true] <;> (cases hq : g (j - o) <;> rw [hq] at h2 <;> first | exact h2.elim | rfl)
    · rw [if_neg hc]
      cases k <;> simp only [spliceA, hc, if_false] <;> (cases hq : f j <;> rw [hq] at h1 <;> first | exact h1.elim | rfl)
  | _ => rfl
theorem joinA_eq {τ : Ty} {f g : Nat → AV} {l n : Nat} (hf : ∀ j, j < l → Sh τ (f j)) (hg : ∀ j, j < n → Sh τ (g j)) : ∀ j, j < l + n → joinA τ f l g j = if j < l then f j else g (j - l) := by
  intro j hj
  cases τ with
  | int k =>
    by_cases hc : j < l
    · have h2 := hf j hc
      rw [if_pos hc]
      cases k <;> simp only [joinA, hc, if_true] <;> (cases hq : f j <;> rw [hq] at h2 <;> first | exact h2.elim | rfl)
    · have h2 := hg (j - l) (by omega)
      rw [if_neg hc]
      cases k <;> simp only [joinA, hc, if_false] <;> (cases hq : g (j - l) <;> rw [hq] at h2 <;> first | exact h2.elim | rfl)
  | _ => rfl

/-- A slice that is read: its elements lie behind one another. -/
def Seen (c : Cx) (et : Ty) (n : Nat) (g : Nat → AV) (v : Value) : Prop := ∃ A q, v = .slice A n q ∧ n ≤ q ∧ q ≤ maxLen ∧
  (0 < n → ∃ (b o : Nat) (gg : Nat → List Value), A = some ⟨b, o, none⟩ ∧ b < c.w.heap.size ∧ ∀ i, i < n → Sh et (g i) ∧ R c (g i) (gg i) ∧ c.w.rangeAt b (o + i * et.size) (gg i))
section
variable {P : Program} {E : Pg} {o : Oper} {x : Operand → AV} {key : Nat} {m : Nat → Option Row} {K : Res → Prop} {t : TypeId}
theorem elems_all {ty : TypeId → Ty} {a : AV} {F : Ty → Nat → (Nat → AV) → List Nat → Prop} (h : elems m ty a F) : ∃ et n g rd, F et n g rd ∧ ∀ (c : Cx) (v : Value), c.ty = ty → MemOK c → (∀ k, k ∈ rd → c.m k = m k) → RV c a v → Seen c et n g v := by
  unfold elems at h
  split at h
  · rename_i fr et l f
    refine ⟨et, l, f, [], h, fun c v _ _ _ hv => ?_⟩
    obtain ⟨A, q, rfl, h1, h2, h3⟩ := rv_imm hv
    refine ⟨A, q, rfl, h1, h2, fun hl => ?_⟩
    obtain ⟨b, ofs, rfl, hlt, _, _, hi⟩ := h3 hl
    refine ⟨b, ofs, fun i => if h : i < l then (hi i h).2.choose else [], rfl, hlt, fun i hil => ?_⟩
    simp only [dif_pos hil]
    exact ⟨(hi i hil).1, (hi i hil).2.choose_spec⟩
  · rename_i e k l
    split at h
    · rename_i e' l' f hmk
      obtain ⟨rfl, h⟩ := h
      refine ⟨ty e, l', f, [k], h, fun c v hct hm hrd hv => ?_⟩
      have hck := (hrd k (by simp)).trans hmk
      obtain ⟨n, f', A, q, hm1, hl, rfl, hq1, hq2, hA, hcur⟩ := rv_gsl hv
      rw [hck] at hm1; injection hm1 with hm1; injection hm1 with e1 e2 e3
      subst e1; subst e2; subst e3
      refine ⟨A, q, rfl, hq1, hq2, fun hn => ?_⟩
      obtain ⟨b, cap, cur, hbl, hsv, hbb, hnc, hcm, hheap, hcsz, hrow⟩ := grow_parts (hm.rows k _ hck) hn
      rw [hcur rfl] at hsv; injection hsv with e1 _ _; subst e1
      rw [hct] at hrow
      have hch : ∃ gg : Nat → List Value, ∀ i, i < l' → Sh (ty e') (f i) ∧ R c (f i) (gg i) ∧ c.w.rangeAt b (0 + i * (ty e').size) (gg i) := by
        have : ∀ i, ∃ ds, i < l' → Sh (ty e') (f i) ∧ R c (f i) ds ∧ c.w.rangeAt b (0 + i * (ty e').size) ds := fun i => by
          by_cases hi : i < l'
          · obtain ⟨hs, pre, ds, post, hcut, hpl, hr⟩ := hrow i hi
            refine ⟨ds, fun _ => ⟨hs, hr, ?_⟩⟩
            rw [Nat.zero_add, ← hpl]; exact range_of_block hheap hcut
          · exact ⟨[], fun h => absurd h hi⟩
        exact ⟨fun i => (this i).choose, fun i hi => (this i).choose_spec hi⟩
      obtain ⟨gg, hgg⟩ := hch
      exact ⟨b, 0, gg, rfl, (Array.getElem?_eq_some_iff.1 hheap).1, hgg⟩
    · exact h.elim
  · rename_i e k al ofs n
    split at h
    · rename_i e' l' f hmk
      obtain ⟨rfl, h⟩ := h
      refine ⟨ty e, n, _, [k], h, fun c v hct hm hrd hv => ?_⟩
      have hck := (hrd k (by simp)).trans hmk
      obtain ⟨n', f', A, q, hm1, hl, rfl, hq1, hq2, hol, hA⟩ := rv_gsub hv
      rw [hck] at hm1; injection hm1 with hm1; injection hm1 with e1 e2 e3
      subst e1; subst e2; subst e3
      refine ⟨A, q, rfl, hq1, hq2, fun hn => ?_⟩
      obtain ⟨ad, rfl, hcur⟩ := hA hn
      obtain ⟨b, hbl, rfl⟩ := hcur rfl
      obtain ⟨b', cap, cur, hbl', hsv, hbb, hnc, hcm, hheap, hcsz, hrow⟩ := grow_parts (hm.rows k _ hck) (by omega)
      rw [hbl] at hbl'; injection hbl' with hbl'; subst hbl'
      rw [hct] at hrow
      rw [hct]
      have this : ∀ i, ∃ ds, i < n → Sh (ty e') (f (ofs + i)) ∧ R c (f (ofs + i)) ds ∧ c.w.rangeAt b (ofs * (ty e').size + i * (ty e').size) ds := fun i => by
        by_cases hi : i < n
        · obtain ⟨hs, pre, ds, post, hcut, hpl, hr⟩ := hrow (ofs + i) (by omega)
          refine ⟨ds, fun _ => ⟨hs, hr, ?_⟩⟩
          rw [← Nat.add_mul, ← hpl]; exact range_of_block hheap hcut
        · exact ⟨[], fun h => absurd h hi⟩
      exact ⟨b, _, fun i => (this i).choose, rfl, (Array.getElem?_eq_some_iff.1 hheap).1, fun i hi => (this i).choose_spec hi⟩
    · exact h.elim
  · rename_i et k p ofs n
    split at h
    · rename_i τ a hmk
      refine ⟨et, n, _, [k], h, fun c v hct hm hrd hv => ?_⟩
      have hck := (hrd k (by simp)).trans hmk
      obtain ⟨τ', a', b, N, g, A, q, hm1, hbl, hp, hat, hg, hol, rfl, hq1, hq2, hA⟩ := rv_sub hv
      rw [hck] at hm1; injection hm1 with hm1; injection hm1 with e1 e2
      subst e1; subst e2
      refine ⟨A, q, rfl, hq1, hq2, fun hn => ?_⟩
      obtain ⟨b', cs, t', hbl', hheap, hr, hs⟩ := hm.rows k _ hck
      rw [hbl] at hbl'; injection hbl' with hbl'; subst hbl'
      have this : ∀ i, ∃ ds, i < n → Sh et (a.at (p ++ [ofs + i])) ∧ R c (a.at (p ++ [ofs + i])) ds ∧ c.w.rangeAt b (τ.off p + ofs * et.size + i * et.size) ds := fun i => by
        by_cases hi : i < n
        · have hpath : τ.inP (p ++ [ofs + i]) := inP_append p τ _ hp (by rw [hat, inP_agg]; exact ⟨by omega, inP_nil _⟩)
          obtain ⟨hs2, pre, post, ds, hcut, hpl, hr2⟩ := R_at _ hr hs hpath
          rw [at_append p τ _ hp, hat, at_one] at hs2
          refine ⟨ds, fun _ => ⟨by rw [← hg]; exact hs2, hr2, ?_⟩⟩
          have hoff : τ.off (p ++ [ofs + i]) = τ.off p + ofs * et.size + i * et.size := by
            rw [off_append p τ _ hp, hat, off_one, Nat.add_assoc, ← Nat.add_mul, ← hg]
            congr 1; exact sumN_const (g 0).size _
          rw [← hoff, ← hpl]; exact range_of_block hheap hcut
        · exact ⟨[], fun h => absurd h hi⟩
      exact ⟨b, _, fun i => (this i).choose, hA hn, (Array.getElem?_eq_some_iff.1 hheap).1, fun i hi => (this i).choose_spec hi⟩
    · exact h.elim
  · exact h.elim
end
end Go.Proofs.YtdbiidfgbkmbmaaDoor
