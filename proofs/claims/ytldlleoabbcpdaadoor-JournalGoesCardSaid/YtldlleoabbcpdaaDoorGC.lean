/- The machine of plain values, part C. -/
import Derived.Test.YtldlleoabbcpdaaDoorGB
import Derived.Lib.AppendZeros
import Derived.Lib.AppendZerosOnto
import Derived.Laws.IdiomStrings
import Derived.Laws.BytesString
/- Literals, and slices that are made. -/
namespace Go.Proofs.YtldlleoabbcpdaaDoor
open Go.RowKit
theorem sumN_el (s : Ty) (n : Nat) : sumN (fun i => (el true (fun _ => s) i).size) n = n * s.size := sumN_const s.size n
theorem fold_set (off : Nat) : ∀ (vs : List Value) (k : Nat) (cs : Array Value), off + k + vs.length ≤ cs.size →
    ((vs.zipIdx k).foldl (fun (cs : Array Value) (q : Value × Nat) => cs.setIfInBounds (off + q.2) q.1) cs).toList = cs.toList.take (off + k) ++ vs ++ cs.toList.drop (off + k + vs.length)
  | [], k, cs, _ => by simp
  | v :: vs, k, cs, h => by
    simp only [List.zipIdx_cons, List.foldl_cons]
    simp only [List.length_cons] at h
    rw [fold_set off vs (k + 1) _ (by simp; omega)]
    have hk : off + k < cs.toList.length := by simp; omega
    rw [Array.toList_setIfInBounds, ← Nat.add_assoc]
    rw [List.take_set, List.drop_set]
    rw [if_pos (by omega)]
    have e : (List.take (off + k + 1) cs.toList).set (off + k) v = cs.toList.take (off + k) ++ [v] := by
      rw [List.take_succ_eq_append_getElem hk, List.set_append, if_neg (by rw [List.length_take]; omega), List.length_take, Nat.min_eq_left (by omega), Nat.sub_self]; rfl
    rw [e, List.length_cons, show off + k + 1 + vs.length = off + k + (vs.length + 1) by omega]
    simp
theorem fold_set0 (off : Nat) (vs : Array Value) (cs : Array Value) (h : off + vs.size ≤ cs.size) :
    vs.zipIdx.foldl (fun (cs : Array Value) (q : Value × Nat) => cs.setIfInBounds (off + q.2) q.1) cs = (cs.toList.take off ++ vs.toList ++ cs.toList.drop (off + vs.size)).toArray := by
  apply Array.ext'
  rw [← Array.foldl_toList]
  have := fold_set off vs.toList 0 cs (by simpa using h)
  simpa using this
section
variable {c : Cx} {w : World}
/-- The places of a literal's parts, and what the parts are. -/
theorem fill_ok {u : Bool} {l : Nat} {t : Nat → Ty} {place : Nat → Option (Nat × Nat)} (hp : ∀ i, i < l → place i = some (sumN (fun j => (el u t j).size) i, (el u t i).size)) :
    ∀ (ps : List (Nat × AV)) (vs : List (Nat × Value)) (f : Nat → AV) (cells : Array Value), vs.map (·.1) = ps.map (·.1) → (∀ j (h : j < ps.length) (h' : j < vs.length), RV c ps[j].2 vs[j].2) → litOk Sh u l t ps →
      R c (.agg u l f) cells.toList → Sh (.agg u l t) (.agg u l f) → ∃ cells', Instr.fill place cells vs = some cells' ∧ ∃ f', R c (.agg u l f') cells'.toList ∧ Sh (.agg u l t) (.agg u l f') ∧ ∀ i, i < l → f' i = look ps (f i) i
  | [], vs, f, cells, hm, _, _, hr, hs => by
    obtain rfl : vs = [] := by cases vs <;> simp_all
    exact ⟨cells, rfl, f, hr, hs, fun i _ => rfl⟩
  | (i, a) :: ps, [], f, cells, hm, _, _, _, _ => by simp at hm
  | (i, a) :: ps, (i', v) :: vs, f, cells, hm, hv, hl, hr, hs => by
    simp only [List.map_cons, List.cons.injEq] at hm
    obtain ⟨rfl, hm⟩ := hm
    obtain ⟨hi, hsa, hne, hl⟩ := hl
    have hva : RV c a v := hv 0 (by simp) (by simp)
    obtain ⟨hra, _⟩ := R_of_rv hsa hva
    have hla := R_len hra hsa
    have hsz : v.cells.size = (el u t i').size := by simpa using hla
    have hpath : (Ty.agg u l t).inP [i'] := by rw [inP_agg]; exact ⟨hi, inP_nil _⟩
    obtain ⟨hs2, hr2⟩ := R_upd [i'] hr hs hpath hra (by rw [at_one]; exact hsa)
    have hfit : sumN (fun j => (el u t j).size) i' + (el u t i').size ≤ cells.size := by
      have h1 := R_len hr hs
      rw [size_agg] at h1
      have h2 := sumN_le (f := fun j => (el u t j).size) hi
      have : cells.toList.length = cells.size := by simp
      omega
    rw [off_one] at hr2
    have hav : (AV.agg u l f).upd [i'] a = .agg u l (updU u f i' a) := by
      show AV.agg u l (updU u f i' ((f i').upd [] a)) = _
      congr 2; cases f i' <;> rfl
    rw [hav] at hr2 hs2
    have hn1 : ¬ v.cells.size ≠ (el u t i').size := by omega
    have hn2 : ¬ sumN (fun j => (el u t j).size) i' + v.cells.size > cells.size := by omega
    obtain ⟨cells', h1, f', h2, h3, h4⟩ := fill_ok hp ps vs (updU u f i' a) (v.cells.zipIdx.foldl (fun cs (q : Value × Nat) => cs.setIfInBounds (sumN (fun j => (el u t j).size) i' + q.2) q.1) cells) hm
      (fun j h h' => by have := hv (j + 1) (by simp; omega) (by simp; omega); simpa using this) hl (by rw [fold_set0 _ _ _ (by omega)]; simpa using hr2) hs2
    refine ⟨cells', ?_, f', h2, h3, fun j hj => ?_⟩
    · simp only [Instr.fill, hp i' hi, hn1, hn2, decide_false, Bool.or_self, Bool.false_eq_true, if_false]
      exact h1
    · rw [h4 j hj, updU_eq hs.2.2 hsa j hj]
      by_cases e : j = i'
      · subst e
        rw [if_pos rfl]
        have hnone : ∀ (qs : List (Nat × AV)) (z : AV), (qs.all fun q => !Nat.beq j q.1) = true → look qs z j = z := by
          intro qs z hq
          induction qs with
          | nil => rfl
          | cons q qs ih =>
            simp only [List.all_cons, Bool.and_eq_true, Bool.not_eq_true'] at hq
            show (bif Nat.beq j q.1 then q.2 else look qs z j) = z
            rw [hq.1]; exact ih hq.2
        rw [hnone ps a hne]
        show _ = (bif Nat.beq j j then a else _)
        simp
      · rw [if_neg e]
        show _ = (bif Nat.beq j i' then a else _)
        have : Nat.beq j i' = false := by rw [← Bool.not_eq_true, Nat.beq_eq]; exact e
        rw [this]; rfl
theorem look_Sh {τ : Ty} : ∀ {ps : List (Nat × AV)} {l : Nat} {z : AV} {j : Nat}, litOk Sh true l (fun _ => τ) ps → Sh τ z → Sh τ (look ps z j)
  | [], _, _, _, _, hz => hz
  | (i, a) :: ps, l, z, j, h, hz => by
    obtain ⟨_, ha, _, h⟩ := h
    show Sh τ (bif Nat.beq j i then a else look ps z j)
    cases Nat.beq j i
    · exact look_Sh h hz
    · exact ha
theorem litA_eq {τ : Ty} {ps : List (Nat × AV)} {l j : Nat} (h : litOk Sh true l (fun _ => τ) ps) (hz : Sh τ τ.zero) : litA τ ps j = look ps τ.zero j := by
  have hs := look_Sh (j := j) h hz
  cases τ with
  | int k =>
    cases k <;> first
      | rfl
      | (show AV.u8 (asU8 (look ps (.u8 0) j)) = look ps (.u8 0) j
         change Sh _ (look ps (.u8 0) j) at hs
         cases hq : look ps (.u8 0) j <;> rw [hq] at hs <;> first | exact hs.elim | rfl)
      | (show AV.u16 (asU16 (look ps (.u16 0) j)) = look ps (.u16 0) j
         change Sh _ (look ps (.u16 0) j) at hs
         cases hq : look ps (.u16 0) j <;> rw [hq] at hs <;> first | exact hs.elim | rfl)
      | (show AV.u32 (asU32 (look ps (.u32 0) j)) = look ps (.u32 0) j
         change Sh _ (look ps (.u32 0) j) at hs
         cases hq : look ps (.u32 0) j <;> rw [hq] at hs <;> first | exact hs.elim | rfl)
      | (show AV.u64 (asU64 (look ps (.u64 0) j)) = look ps (.u64 0) j
         change Sh _ (look ps (.u64 0) j) at hs
         cases hq : look ps (.u64 0) j <;> rw [hq] at hs <;> first | exact hs.elim | rfl)
  | _ => rfl
theorem R_agg_congr {u : Bool} {l : Nat} {f g : Nat → AV} {cs : List Value} (h : ∀ i, i < l → f i = g i) (hr : R c (.agg u l f) cs) : R c (.agg u l g) cs := by
  obtain ⟨gg, hg, rfl⟩ := hr
  exact ⟨gg, fun i hi => by rw [← h i hi]; exact hg i hi, rfl⟩
theorem Sh_agg_congr {u : Bool} {l : Nat} {t : Nat → Ty} {f g : Nat → AV} (h : ∀ i, i < l → f i = g i) (hs : Sh (.agg u l t) (.agg u l f)) : Sh (.agg u l t) (.agg u l g) :=
  ⟨rfl, rfl, fun i hi => by rw [← h i hi]; exact hs.2.2 i hi⟩
end
section
variable {P : Program} {E : Pg} {o : Oper} {x : Operand → AV} {key : Nat} {m : Nat → Option Row} {K : Res → Prop} {t : TypeId}
theorem parts_vals {ps : Array (Nat × Operand)} {c : Cx} {a : Act} (hx : ∀ y, RV c (x y) (a.eval y)) :
    (ps.map fun (q : Nat × Operand) => (q.1, a.eval q.2)).toList.map (·.1) = (ps.toList.map fun (q : Nat × Operand) => (q.1, x q.2)).map (·.1) ∧
    ∀ j (h : j < (ps.toList.map fun (q : Nat × Operand) => (q.1, x q.2)).length) (h' : j < (ps.map fun (q : Nat × Operand) => (q.1, a.eval q.2)).toList.length), RV c (ps.toList.map fun (q : Nat × Operand) => (q.1, x q.2))[j].2 ((ps.map fun (q : Nat × Operand) => (q.1, a.eval q.2)).toList)[j].2 := by
  constructor
  · simp
  · intro j h h'
    simp only [Array.toList_map, List.getElem_map]
    exact hx _
theorem agg_zero {u : Bool} {l : Nat} {f : Nat → Ty} : (Ty.agg u l f).zero = .agg u l (fun i => (el u f i).zero) := by cases u <;> rfl
theorem s_build (hT : TysOK P E.ty) {ps : Array (Nat × Operand)} (ho : o.op = .build t ps) (h : sem E m key x (.build t ps) K) : ∃ r, K r ∧ Valid P E.ty o x key m r := by
  have main : ∀ {u : Bool} {l : Nat} {f : Nat → Ty} {F : Nat → AV}, E.ty t = .agg u l f → litOk Sh u l f (ps.toList.map fun (q : Nat × Operand) => (q.1, x q.2)) →
      (∀ i, i < l → look (ps.toList.map fun (q : Nat × Operand) => (q.1, x q.2)) (el u f i).zero i = F i) → K ⟨.agg u l F, [], []⟩ → ∃ r, K r ∧ Valid P E.ty o x key m r := fun {u l f F} hty hl hF hk => by
    have htt := hT t (by rw [hty]; simp)
    refine ⟨_, hk, valid_val rfl fun c a _ _ _ hx => ?_⟩
    obtain ⟨z, ⟨it, hit, hz, hsz, _⟩, hzc, hzv⟩ := htt.inf
    have hz0 := zero_ok (c := c) htt
    rw [hty, agg_zero] at hz0
    obtain ⟨pv1, pv2⟩ := parts_vals (ps := ps) (x := x) hx
    have hplace : ∃ place, (∀ i, i < l → place i = some (sumN (fun j => (el u f j).size) i, (el u f i).size)) ∧ ∀ cells, Instr.fill place z.cells (ps.map fun (q : Nat × Operand) => (q.1, a.eval q.2)).toList = some cells → P.built t (ps.map fun (q : Nat × Operand) => (q.1, a.eval q.2)).toList = some cells := by
      cases u with
      | true =>
        obtain ⟨e, hu, he, h0, rfl⟩ := htt.arr_of hty
        obtain ⟨z', ⟨ie, hie, _, hse, _⟩, _⟩ := he.inf
        refine ⟨fun i => some (i * ie.size, ie.size), fun i _ => ?_, fun cells hc => ?_⟩
        · show some (i * ie.size, ie.size) = some (sumN (fun _ => (E.ty e).size) i, (E.ty e).size)
          rw [sumN_const, hse]
        · unfold Program.built; simp only [hit, hu, hz, hie]; exact hc
      | false =>
        obtain ⟨fs, hu, hn, hfs⟩ := htt.st_of hty
        have hmap : fs.toList.mapM (fun fl => (P.info? fl.type).map fun i => (fl.offset, i.size)) = some (fs.toList.map fun fl => (fl.offset, (E.ty fl.type).size)) := by
          have : ∀ (l : List Field), (∀ fl ∈ l, ∃ i, P.info? fl.type = some i ∧ i.size = (E.ty fl.type).size) → l.mapM (fun fl => (P.info? fl.type).map fun i => (fl.offset, i.size)) = some (l.map fun fl => (fl.offset, (E.ty fl.type).size)) := by
            intro l
            induction l with
            | nil => intro _; rfl
            | cons fl l ih =>
              intro h
              obtain ⟨i, hi, hs⟩ := h fl (by simp)
              rw [List.mapM_cons, ih (fun q hq => h q (by simp [hq]))]
              simp [hi, hs]
          refine this _ (fun fl hfl => ?_)
          obtain ⟨i, hi, rfl⟩ := List.getElem_of_mem hfl
          have hi' : i < fs.size := by simpa using hi
          obtain ⟨z', ⟨ie, hie, _, hse, _⟩, _⟩ := (hfs i hi').1.inf
          exact ⟨ie, by simpa using hie, by simpa using hse⟩
        refine ⟨((fs.toList.map fun fl => (fl.offset, (E.ty fl.type).size)).toArray[·]?), fun i hi => ?_, fun cells hc => ?_⟩
        · have hi' : i < fs.size := by omega
          obtain ⟨_, e1, e2, _⟩ := hfs i hi'
          simp only [List.getElem?_toArray, List.getElem?_map]
          rw [List.getElem?_eq_getElem (by simpa using hi')]
          simp only [Option.map_some, Array.getElem_toList]
          rw [e2, ← e1]; rfl
        · unfold Program.built; simp only [hit, hu, hz, hmap]; exact hc
    obtain ⟨place, hp1, hp2⟩ := hplace
    obtain ⟨cells, hfill, f', hr, hs, hf'⟩ := fill_ok (c := c) hp1 _ _ (fun i => (el u f i).zero) z.cells pv1 pv2 hl (by rw [hzc, hty]; exact hz0.1) hz0.2
    refine ⟨.agg cells, ?_, cells.toList, by simp, R_agg_congr (fun i hi => by rw [hf' i hi]; exact hF i hi) hr⟩
    unfold execOp
    simp only [ho, Sem.run_bind, run_build c.w t _ cells (hp2 cells hfill), Result.andThen_ok, Sem.run_pure]
  simp only [sem, semG] at h
  split at h
  · rename_i l f hty
    obtain ⟨hl, h⟩ := h
    have htt := hT t (by rw [hty]; simp)
    obtain ⟨e, hu, he, h0, rfl⟩ := htt.arr_of hty
    exact main hty hl (fun i hi => (litA_eq hl (zero_ok (c := Cx.nil) he).2).symm) h
  · rename_i l f hty
    exact main hty h.1 (fun i hi => rfl) h.2
  · exact h.elim
/-- A slice of the call's own comes into being. -/
theorem valid_own {e : TypeId} {n : Nat} {f : Nat → AV} (h : ∀ (c : Cx) (act : Act), c.ty = E.ty → (∀ y, RV c (x y) (act.eval y)) → ∃ (cs : Array Value) (q : Nat) (xs : List Value), n ≤ q ∧ q ≤ maxLen ∧ cs.size = q * (E.ty e).size ∧ cs.toList.take (n * (E.ty e).size) = xs ∧ R c (.agg true n f) xs ∧ Sh (.agg true n fun _ => E.ty e) (.agg true n f) ∧
      (execOp act.eval o).run P c.w = .ok (.value (.slice (some ⟨c.w.heap.size, 0, none⟩) n q)) (c.w.alloc (.cells cs e))) : Valid P E.ty o x key m ⟨.gsl e key n, [(key, .grow e n f)], []⟩ := by
  intro c act K Q hty hm hb hrd hf hx hK
  obtain ⟨cs, q, xs, hnq, hqm, hsz, htk, hr, hs, hrun⟩ := h c act hty hx
  unfold Oper.wp
  rw [hrun]
  have hlow : Below c.w.heap.size c.w (c.w.alloc (.cells cs e)) := (Below.refl _ _).alloc (Nat.le_refl _) _
  have hst := stab_add (c := c) (key := key) (r := .grow e n f) (bl := some c.w.heap.size) (sv := .slice (some ⟨c.w.heap.size, 0, none⟩) n q) (w := c.w.alloc (.cells cs e)) (hf key (Nat.le_refl _) (by omega)) hlow.size hlow.block
  have hsv : (c.addRow key (.grow e n f) (some c.w.heap.size) (.slice (some ⟨c.w.heap.size, 0, none⟩) n q) (c.w.alloc (.cells cs e))).sv key = .slice (some ⟨c.w.heap.size, 0, none⟩) n q := if_pos rfl
  have hbl : (c.addRow key (.grow e n f) (some c.w.heap.size) (.slice (some ⟨c.w.heap.size, 0, none⟩) n q) (c.w.alloc (.cells cs e))).bl key = some c.w.heap.size := if_pos rfl
  have hxl := R_len hr hs
  rw [size_agg, show sumN (fun i => (el true (fun _ => E.ty e) i).size) n = n * (E.ty e).size from sumN_el _ _] at hxl
  have hstep := step_add hm hb (key := key) (r := .grow e n f) (bl := some c.w.heap.size) (sv := .slice (some ⟨c.w.heap.size, 0, none⟩) n q) (w := c.w.alloc (.cells cs e)) (hf key (Nat.le_refl _) (by omega)) hlow (fun b hb => by injection hb with hb; omega)
    (R_grow (R_stab hst hr) (by rw [show (c.addRow key _ _ _ _).ty = E.ty from hty]; exact hs) (by
      rw [hsv, show (c.addRow key _ _ _ _).ty = E.ty from hty]
      exact ⟨hxl, .inr ⟨c.w.heap.size, q, cs, rfl, Nat.le_trans hm.bf hb, heap_alloc_new _ _, hnq, hqm, hsz, htk⟩⟩) (by rw [hsv, hbl]; rfl))
  refine hK _ _ hstep ⟨n, f, some ⟨c.w.heap.size, 0, none⟩, q, putM_same _ _ _, Nat.le_refl _, rfl, hnq, hqm, fun _ => ⟨_, rfl⟩, fun _ => hsv⟩
theorem made_list (z : Array Value) (hz : 0 < z.size) : ∀ n, (madeCells z (n * z.size)).toList = (List.range n).flatMap (fun _ => z.toList)
  | 0 => by simp [madeCells]
  | n + 1 => by
    rw [fm_succ, ← made_list z hz n]
    apply List.ext_getElem?
    intro j
    simp only [madeCells, Array.toList_map, Array.toList_range, List.getElem?_map]
    rcases Nat.lt_or_ge j (n * z.size) with h | h
    · rw [List.getElem?_append_left (by simpa using h), List.getElem?_range (by rw [Nat.succ_mul]; omega), List.getElem?_map, List.getElem?_range h]
    · rw [List.getElem?_append_right (by simpa using h)]
      simp only [List.length_map, List.length_range]
      rcases Nat.lt_or_ge j ((n + 1) * z.size) with h' | h'
      · rw [List.getElem?_range h']
        rw [Nat.succ_mul] at h'
        have hj : j - n * z.size < z.size := by omega
        have hmod : j % z.size = j - n * z.size := by
          have : j = (j - n * z.size) + n * z.size := by omega
          rw [this, Nat.add_mul_mod_self_right, Nat.mod_eq_of_lt hj]; omega
        simp [hmod, hj]
      · rw [List.getElem?_eq_none (by simpa using h'), List.getElem?_eq_none (by rw [Nat.succ_mul] at h'; simp; omega)]; rfl
theorem zeros_R (hT : TysOK P E.ty) {e : TypeId} (he : TyOK P E.ty e) (c : Cx) (n : Nat) {z : Value} (hzc : z.cells.toList = (E.ty e).zc) (h0 : 0 < (E.ty e).size) (hsz : z.cells.size = (E.ty e).size) :
    R c (.agg true n fun _ => (E.ty e).zero) (madeCells z.cells (n * z.cells.size)).toList ∧ Sh (.agg true n fun _ => E.ty e) (.agg true n fun _ => (E.ty e).zero) := by
  rw [made_list z.cells (by omega) n, hzc]
  exact ⟨⟨fun _ => (E.ty e).zc, fun i _ => (zero_ok he).1, rfl⟩, rfl, rfl, fun i _ => (zero_ok (c := c) he).2⟩
theorem s_makeSlice (hT : TysOK P E.ty) {y z : Operand} (ho : o.op = .makeSlice t y z) (h : sem E m key x (.makeSlice t y z) K) : ∃ r, K r ∧ Valid P E.ty o x key m r := by
  simp only [sem, semG] at h
  split at h
  · rename_i e hty
    obtain ⟨hu, he, h0⟩ := (hT t (by rw [hty]; simp)).sl_of hty
    obtain ⟨n, h, hn⟩ := idx_all h
    obtain ⟨q, ⟨hnq, hqb, h⟩, hq⟩ := idx_all h
    refine ⟨_, h, valid_own fun c a hct hx => ?_⟩
    obtain ⟨kn, en⟩ := hn c _ (hx y)
    obtain ⟨kq, eq⟩ := hq c _ (hx z)
    obtain ⟨zv, ⟨i, hi, hz, hsz, hby⟩, hzc, _⟩ := he.inf
    have hzs : zv.cells.size = (E.ty e).size := by
      have := R_len (zero_ok (c := c) he).1 (zero_ok (c := c) he).2
      rw [← hzc] at this; simpa using this
    unfold bnd at hqb
    have hmx : q ≤ maxLen := by unfold maxLen; omega
    have hb2 : (i.bytes : Int) * (q : Int) ≤ 281474976710656 := by
      have : i.bytes * q ≤ 10000 * 1000000000 := Nat.mul_le_mul hby hqb
      have h2 : ((i.bytes * q : Nat) : Int) ≤ 281474976710656 := by omega
      rwa [Int.natCast_mul] at h2
    have hrun := run_make (P := P) c.w t e i zv hu hi hz kn kq (n : Int) (q : Int) (by omega) (by omega) hb2 (by omega)
    simp only [Int.toNat_natCast] at hrun
    obtain ⟨hr, hs⟩ := zeros_R hT he c n hzc h0 hzs
    obtain ⟨hrq, hsq⟩ := zeros_R hT he c q hzc h0 hzs
    refine ⟨madeCells zv.cells (q * i.size), q, _, hnq, hmx, by rw [size_madeCells, hsz], ?_, hr, hs, ?_⟩
    · rw [hsz, ← hzs, made_list _ (by omega), made_list _ (by omega)]
      have hsplit : ∀ (k : Nat) (g : Nat → List Value), (∀ i, (g i).length = zv.cells.size) → ∀ d, ((List.range (k + d)).flatMap g).take (k * zv.cells.size) = (List.range k).flatMap g := by
        intro k g hg d
        induction d with
        | zero => rw [Nat.add_zero, List.take_of_length_le (by rw [fm_len, sumN_congr (g := fun _ => zv.cells.size) k (fun i _ => hg i), sumN_const]; exact Nat.le_refl _)]
        | succ d ih =>
          rw [← Nat.add_assoc, fm_succ, List.take_append_of_le_length, ih]
          rw [fm_len, sumN_congr (g := fun _ => zv.cells.size) (k + d) (fun i _ => hg i), sumN_const]
          exact Nat.mul_le_mul_right _ (by omega)
      obtain ⟨d, rfl⟩ := Nat.exists_eq_add_of_le hnq
      exact hsplit n _ (fun _ => by simp) d
    · unfold execOp
      simp only [ho, en, eq, Sem.run_bind, hrun, Result.andThen_ok, Sem.run_pure]
  · exact h.elim
theorem run_buildSlice' {e l : Nat} (hu : P.underlying t = some (.slice e)) {ty : TypeId → Ty} (he : TyOK P ty e) {i : TypeInfo} {zv : Value} (hi : P.info? e = some i) (hz : i.zero = some zv) (hl : l * (ty e).size ≤ 16777216) {V : Array (Nat × Value)} {cells : Array Value} {w : World}
    (hf : Instr.fill (fun j => some (j * (ty e).size, (ty e).size)) (madeCells zv.cells (l * (ty e).size)) V.toList = some cells) : (Instr.buildSlice t l V).run P w = .ok (.slice (some ⟨w.heap.size, 0, none⟩) l l) (w.alloc (.cells cells e)) := by
  have n1 : ¬ l * (ty e).size > 2 ^ 24 := by omega
  have hn : (newRow e cells).run P w = .ok ⟨w.heap.size, 0, none⟩ (w.alloc (.cells cells e)) := by simp [newRow, go_sem]
  unfold madeCells at hf
  by_cases hl0 : l * (ty e).size = 0
  · rw [hl0] at hf
    have e0 : (Array.range 0).map (zv.cells[· % zv.cells.size]!) = (Array.range 0).map ((#[] : Array Value)[· % (#[] : Array Value).size]!) := by simp [Array.range_zero']
    rw [e0] at hf
    simp only [Instr.buildSlice, Sem.run_bind, run_underlying hu, run_sizeOf' he, Result.andThen_ok, n1, if_false, hl0, if_true, Sem.run_pure, Nat.not_lt_zero, gt_iff_lt]
    rw [hf]
    simp only [Sem.run_bind, hn, Result.andThen_ok, Sem.run_pure]
  · have hzr : (zeroValue e).run P w = .ok zv w := by simp [zeroValue, typeInfo, hi, hz]
    simp only [Instr.buildSlice, Sem.run_bind, run_underlying hu, run_sizeOf' he, Result.andThen_ok, n1, if_false, hl0, Sem.run_pure, hzr]
    rw [hf]
    simp only [Sem.run_bind, hn, Result.andThen_ok, Sem.run_pure]
/-- The world behind a block that nobody writes. -/
def Cx.withBlock (c : Cx) (w : World) : Cx := { c with Mu := fun b => c.Mu b ∧ b < c.w.heap.size, w := w }
theorem stab_block {c : Cx} {w : World} (hsz : c.w.heap.size ≤ w.heap.size) (hh : ∀ b, b < c.w.heap.size → ¬ c.Mu b → (∀ o, w.cell? ⟨b, o, none⟩ = c.w.cell? ⟨b, o, none⟩) ∧ (b < c.fb ∨ IsMap c.w b → w.heap[b]? = c.w.heap[b]?)) : Stab c (c.withBlock w) :=
  ⟨rfl, Nat.le_refl _, rfl, fun k τ a h => ⟨⟨a, h⟩, rfl⟩, fun k e n f h => ⟨n, f, h, Nat.le_refl _, fun _ => ⟨rfl, rfl⟩⟩, fun k o h => ⟨⟨o, h, .refl⟩, rfl⟩, fun b hb h => ⟨fun hq => h hq.1, hh b hb h⟩, hsz⟩
theorem step_block {c : Cx} (hm : MemOK c) {w : World} (hlow : Below c.base c.w w) (hh : ∀ b, b < c.w.heap.size → ¬ c.Mu b → (∀ o, w.cell? ⟨b, o, none⟩ = c.w.cell? ⟨b, o, none⟩) ∧ (b < c.fb ∨ IsMap c.w b → w.heap[b]? = c.w.heap[b]?)) (hr : ∀ k r b, c.m k = some r → c.bl k = some b → w.heap[b]? = c.w.heap[b]?) : Step c [] (c.withBlock w) := by
  have hst := stab_block hlow.size hh
  exact ⟨hst, ⟨fun k r hk => RowOK_stab hst rfl rfl rfl (fun b hb => hr k r b hk hb) (hm.rows k r hk), hm.inj, fun k r b hk hb => ⟨⟨(hm.mu k r b hk hb).1, row_lt (hm.rows k r hk) hb⟩, (hm.mu k r b hk hb).2⟩, hm.bf⟩, rfl, rfl, rfl, hlow, fun _ hb h => ⟨h, hb⟩⟩
/-- A new block holds what nobody writes. -/
theorem valid_block {et : Ty} {n : Nat} {f : Nat → AV} (h : ∀ (c : Cx) (act : Act), c.ty = E.ty → (∀ y, RV c (x y) (act.eval y)) → ∃ (w : World) (q : Nat) (g : Nat → List Value), Below c.w.heap.size c.w w ∧ c.w.heap.size < w.heap.size ∧ n ≤ q ∧ q ≤ maxLen ∧
    (∀ i, i < n → Sh et (f i) ∧ R c (f i) (g i) ∧ w.rangeAt c.w.heap.size (i * et.size) (g i)) ∧ (execOp act.eval o).run P c.w = .ok (.value (.slice (some ⟨c.w.heap.size, 0, none⟩) n q)) w) :
    Valid P E.ty o x key m ⟨.imm true et n f, [], []⟩ := by
  intro c act K Q hty hm hb hrd hf hx hK
  obtain ⟨w, q, g, hlow, hlt, h1, h2, h3, hrun⟩ := h c act hty hx
  unfold Oper.wp
  rw [hrun]
  have hbl : ∀ b, b < c.w.heap.size → w.heap[b]? = c.w.heap[b]? := hlow.block
  have hstep := step_block hm (hlow.mono (Nat.le_trans hm.bf hb)) (fun b hb _ => same_old (hbl b hb)) (fun k r b hk hb => hbl b (row_lt (hm.rows k r hk) hb))
  refine hK _ _ hstep ⟨_, q, rfl, h1, h2, fun hl => ⟨c.w.heap.size, 0, rfl, hlt, fun hq => absurd hq.2 (Nat.lt_irrefl _), fun _ => hb, fun i hi => ?_⟩⟩
  obtain ⟨a1, a2, a3⟩ := h3 i hi
  exact ⟨a1, g i, R_stab hstep.stab a2, by rw [Nat.zero_add]; exact a3⟩
theorem valid_blt {n : Nat} {f : Nat → AV} (h : ∀ (c : Cx) (act : Act), c.ty = E.ty → (∀ y, RV c (x y) (act.eval y)) → ∃ (w : World) (g : Nat → List Value), Below c.w.heap.size c.w w ∧ c.w.heap.size < w.heap.size ∧ n ≤ maxLen ∧
    (∀ i, i < n → Sh (.int .u8) (f i) ∧ R c (f i) (g i) ∧ w.rangeAt c.w.heap.size (i * (Ty.int .u8).size) (g i)) ∧ (execOp act.eval o).run P c.w = .ok (.value (.slice (some ⟨c.w.heap.size, 0, none⟩) n n)) w) :
    Valid P E.ty o x key m ⟨.blt n f, [], []⟩ := by
  intro c act K Q hty hm hb hrd hf hx hK
  obtain ⟨w, g, hlow, hlt, h2, h3, hrun⟩ := h c act hty hx
  unfold Oper.wp
  rw [hrun]
  have hbl : ∀ b, b < c.w.heap.size → w.heap[b]? = c.w.heap[b]? := hlow.block
  have hstep := step_block hm (hlow.mono (Nat.le_trans hm.bf hb)) (fun b hb _ => same_old (hbl b hb)) (fun k r b hk hb => hbl b (row_lt (hm.rows k r hk) hb))
  refine hK _ _ hstep ⟨_, rfl, h2, fun hl => ⟨c.w.heap.size, 0, rfl, hlt, fun hq => absurd hq.2 (Nat.lt_irrefl _), hb, fun i hi => ?_⟩⟩
  obtain ⟨a1, a2, a3⟩ := h3 i hi
  exact ⟨a1, g i, R_stab hstep.stab a2, by rw [Nat.zero_add]; exact a3⟩
theorem cell_freeze (w : World) (a b : Addr) (n : Nat) : (w.freeze a n).cell? b = w.cell? b := by
  unfold World.freeze
  split
  · rfl
  · unfold World.cell?
    simp only [Array.getElem?_modify]
    by_cases hb : a.block = b.block
    · rw [if_pos hb]
      cases h : w.heap[b.block]? with
      | none => rfl
      | some o => cases o <;> rfl
    · rw [if_neg hb]
theorem heap_freeze (w : World) (a : Addr) (n k : Nat) (h : k ≠ a.block) : (w.freeze a n).heap[k]? = w.heap[k]? := by
  unfold World.freeze
  split
  · rfl
  · simp only [Array.getElem?_modify]
    rw [if_neg (by omega)]
theorem below_freeze {B : Nat} {w : World} {p : Addr} (hp : B ≤ p.block) (n : Nat) : Below B w (w.freeze p n) := by
  refine ⟨?_, ?_, ?_, ?_, fun k hk => heap_freeze w p n k (by omega)⟩ <;> unfold World.freeze <;> split <;> simp
theorem size_freeze (w : World) (p : Addr) (n : Nat) : (w.freeze p n).heap.size = w.heap.size := by
  unfold World.freeze; split <;> simp
theorem run_mark (w : World) {t e : TypeId} {A : Option Addr} {n q b oo : Nat} {v : Value} (hu : P.underlying t = some (.slice e)) (he : P.underlying e = some (.int .u8)) (hA : A = some ⟨b, oo, none⟩) (hc : w.cell? ⟨b, oo, none⟩ = some v) :
    ∃ k, (convert t t (.slice A n q)).run P w = .ok (.slice A n q) (w.freeze ⟨b, k, none⟩ 1) := by
  subst hA
  have : ∃ p, w.shape? b = some p := by
    unfold World.cell? at hc
    unfold World.shape?
    cases h : w.heap[b]? with
    | none => simp [h] at hc
    | some o => cases o <;> simp [h] at hc ⊢
  obtain ⟨⟨e', k⟩, hsh⟩ := this
  exact ⟨k, by simp [convert, run_underlying hu, run_underlying he, markStringish, hsh]⟩
theorem str_row {c : Cx} {b : List UInt8} {k : Nat} : ∀ i, i < b.length → Sh (.int .u8) (.u8 (BitVec.ofNat 8 (b.getD i 0).toNat)) ∧ R c (.u8 (BitVec.ofNat 8 (b.getD i 0).toNat)) [.int .u8 ((b.getD i 0).toNat : Int)] := fun i _ =>
  ⟨trivial, by
    show [_] = [_]
    unfold U8
    rw [BitVec.toNat_ofNat, Nat.mod_eq_of_lt (UInt8.toNat_lt _)]⟩
theorem u8_under (hT : TysOK P E.ty) {e : TypeId} (he : E.ty e = .int .u8) : P.underlying e = some (.int .u8) := by
  have := hT e (by rw [he]; simp)
  cases this with
  | int _ k _ hu _ hty => rw [he] at hty; injection hty with hk; rw [hk]; exact hu
  | _ => simp_all
theorem s_buildSlice (hT : TysOK P E.ty) {l : Nat} {ps : Array (Nat × Operand)} (ho : o.op = .buildSlice t l ps) (h : sem E m key x (.buildSlice t l ps) K) : ∃ r, K r ∧ Valid P E.ty o x key m r := by
  simp only [sem, semG] at h
  split at h
  · rename_i e hty
    obtain ⟨hu, he, h0⟩ := (hT t (by rw [hty]; simp)).sl_of hty
    obtain ⟨hlb, hl, h⟩ := h
    have key0 : ∀ (c : Cx) (a : Act), c.ty = E.ty → (∀ y, RV c (x y) (a.eval y)) → ∃ cells : Array Value, l ≤ maxLen ∧ cells.size = l * (E.ty e).size ∧ R c (.agg true l (litA (E.ty e) (ps.toList.map fun (q : Nat × Operand) => (q.1, x q.2)))) cells.toList ∧ Sh (.agg true l fun _ => E.ty e) (.agg true l (litA (E.ty e) (ps.toList.map fun (q : Nat × Operand) => (q.1, x q.2)))) ∧
        (execOp a.eval o).run P c.w = .ok (.value (.slice (some ⟨c.w.heap.size, 0, none⟩) l l)) (c.w.alloc (.cells cells e)) := fun c a hct hx => by
      obtain ⟨zv, ⟨i, hi, hz, hsz, hby⟩, hzc, _⟩ := he.inf
      have hzs : zv.cells.size = (E.ty e).size := by
        have := R_len (zero_ok (c := c) he).1 (zero_ok (c := c) he).2
        rw [← hzc] at this; simpa using this
      obtain ⟨hr, hs⟩ := zeros_R hT he c l hzc h0 hzs
      obtain ⟨pv1, pv2⟩ := parts_vals (ps := ps) (x := x) hx
      have hp : ∀ j, j < l → (fun j => some (j * i.size, i.size)) j = some (sumN (fun j => (el true (fun _ => E.ty e) j).size) j, (el true (fun _ => E.ty e) j).size) := fun j _ => by
        show some (j * i.size, i.size) = some (sumN (fun _ => (E.ty e).size) j, (E.ty e).size)
        rw [sumN_const, hsz]
      obtain ⟨cells, hfill, f', hr', hs', hf'⟩ := fill_ok (c := c) hp _ _ _ _ pv1 pv2 hl hr hs
      have hlen := R_len hr' hs'
      rw [size_agg, show sumN (fun i => (el true (fun _ => E.ty e) i).size) l = l * (E.ty e).size from sumN_el _ _] at hlen
      have hfin : ∀ j, j < l → f' j = litA (E.ty e) (ps.toList.map fun (q : Nat × Operand) => (q.1, x q.2)) j := fun j hj => by
        rw [hf' j hj, litA_eq hl (zero_ok (c := c) he).2]
      have hlm : l ≤ maxLen := by
        unfold maxLen
        have : l * 1 ≤ l * (E.ty e).size := Nat.mul_le_mul_left _ h0
        omega
      refine ⟨cells, hlm, by simpa using hlen, R_agg_congr hfin hr', Sh_agg_congr hfin hs', ?_⟩
      have hfill' : Instr.fill (fun j => some (j * (E.ty e).size, (E.ty e).size)) (madeCells zv.cells (l * (E.ty e).size)) (ps.map fun (q : Nat × Operand) => (q.1, a.eval q.2)).toList = some cells := by
        rw [← hsz]; rw [hzs] at hfill; rw [← hsz] at hfill; exact hfill
      unfold execOp
      simp only [ho, Sem.run_bind, run_buildSlice' hu he hi hz (by omega) hfill', Result.andThen_ok, Sem.run_pure]
    split at h
    · split at h
      · obtain ⟨he8, h⟩ := h
        refine ⟨_, h, valid_blt fun c a hct hx => ?_⟩
        obtain ⟨cells, h1, h2, h3, h4, h5⟩ := key0 c a hct hx
        obtain ⟨g, hg, hcs⟩ := h3
        have hsz : ∀ i, i < l → (g i).length = (E.ty e).size := fun i hi => R_len (hg i hi) (h4.2.2 i hi)
        refine ⟨_, g, (Below.refl _ _).alloc (Nat.le_refl _) _, by simp, h1, fun i hi => ⟨by rw [← he8]; exact h4.2.2 i hi, hg i hi, ?_⟩, h5⟩
        obtain ⟨post, hp⟩ := fm_split g i l hi
        have hpre : ((List.range i).flatMap g).length = i * (E.ty e).size := by rw [fm_len, sumN_congr (g := fun _ => (E.ty e).size) i (fun j hj => hsz j (by omega)), sumN_const]
        rw [← he8]
        intro j v hj
        have hjl : j < (g i).length := (List.getElem?_eq_some_iff.1 hj).1
        have hnew : (c.w.alloc (.cells cells e)).heap[c.w.heap.size]? = some (.cells cells e) := heap_alloc_new _ _
        unfold World.cell?
        simp only [hnew]
        have : cells.toList[i * (E.ty e).size + j]? = some v := by
          rw [hcs, hp, List.getElem?_append_left (by rw [List.length_append]; omega), ← hpre, List.getElem?_append_right (by omega), Nat.add_sub_cancel_left]; exact hj
        simpa using this
      refine ⟨_, h, valid_block fun c a hct hx => ?_⟩
      obtain ⟨cells, h1, h2, h3, h4, h5⟩ := key0 c a hct hx
      obtain ⟨g, hg, hcs⟩ := h3
      have hsz : ∀ i, i < l → (g i).length = (E.ty e).size := fun i hi => R_len (hg i hi) (h4.2.2 i hi)
      refine ⟨_, l, g, (Below.refl _ _).alloc (Nat.le_refl _) _, by simp, Nat.le_refl _, h1, fun i hi => ⟨h4.2.2 i hi, hg i hi, ?_⟩, h5⟩
      obtain ⟨post, hp⟩ := fm_split g i l hi
      have hpre : ((List.range i).flatMap g).length = i * (E.ty e).size := by rw [fm_len, sumN_congr (g := fun _ => (E.ty e).size) i (fun j hj => hsz j (by omega)), sumN_const]
      intro j v hj
      have hjl : j < (g i).length := (List.getElem?_eq_some_iff.1 hj).1
      have hnew : (c.w.alloc (.cells cells e)).heap[c.w.heap.size]? = some (.cells cells e) := heap_alloc_new _ _
      unfold World.cell?
      simp only [hnew]
      have : cells.toList[i * (E.ty e).size + j]? = some v := by
        rw [hcs, hp, List.getElem?_append_left (by rw [List.length_append]; omega), ← hpre, List.getElem?_append_right (by omega), Nat.add_sub_cancel_left]; exact hj
      simpa using this
    refine ⟨_, h, valid_own fun c a hct hx => ?_⟩
    obtain ⟨cells, h1, h2, h3, h4, h5⟩ := key0 c a hct hx
    exact ⟨cells, l, cells.toList, Nat.le_refl _, h1, h2, by rw [List.take_of_length_le (by simp; omega)], h3, h4, h5⟩
  · exact h.elim
end
end Go.Proofs.YtldlleoabbcpdaaDoor
/- The elements of slices; the builtins copy and append. -/
namespace Go.Proofs.YtldlleoabbcpdaaDoor
open Go.RowKit
theorem avat_app : ∀ (p : List Nat) (a : AV) (q : List Nat), a.at (p ++ q) = (a.at p).at q
  | [], a, q => by rw [avat_nil]; rfl
  | i :: p, a, q => by
    cases a with
    | agg u l f => exact avat_app p (f i) q
    | _ => cases q <;> rfl
theorem fm_add (g : Nat → List Value) (a : Nat) : ∀ b, (List.range (a + b)).flatMap g = (List.range a).flatMap g ++ (List.range b).flatMap (fun i => g (a + i))
  | 0 => by simp
  | b + 1 => by rw [← Nat.add_assoc, fm_succ, fm_succ, fm_add g a b, List.append_assoc]
theorem fm_len_const {g : Nat → List Value} {s n : Nat} (h : ∀ i, i < n → (g i).length = s) : ((List.range n).flatMap g).length = n * s := by
  rw [fm_len, ← sumN_const]; exact sumN_congr n h
theorem fm_splice {hh gg : Nat → List Value} {s N o cnt : Nat} (h1 : ∀ i, i < N → (hh i).length = s) (h2 : ∀ i, i < cnt → (gg i).length = s) (hN : o + cnt ≤ N) :
    (List.range N).flatMap (fun j => if o ≤ j ∧ j < o + cnt then gg (j - o) else hh j) = ((List.range N).flatMap hh).take (o * s) ++ (List.range cnt).flatMap gg ++ ((List.range N).flatMap hh).drop (o * s + ((List.range cnt).flatMap gg).length) := by
  obtain ⟨d, rfl⟩ := Nat.exists_eq_add_of_le hN
  have l1 : ((List.range o).flatMap hh).length = o * s := fm_len_const (fun i hi => h1 i (by omega))
  have l2 : ((List.range cnt).flatMap gg).length = cnt * s := fm_len_const h2
  have l3 : ((List.range (o + cnt)).flatMap hh).length = o * s + cnt * s := by rw [fm_len_const (s := s) (fun i hi => h1 i (by omega)), Nat.add_mul]
  rw [fm_add _ (o + cnt) d, fm_add _ o cnt, l2]
  have e1 : (List.range o).flatMap (fun j => if o ≤ j ∧ j < o + cnt then gg (j - o) else hh j) = (List.range o).flatMap hh := fm_congr o (fun i hi => if_neg (by omega))
  have e2 : (List.range cnt).flatMap (fun i => if o ≤ o + i ∧ o + i < o + cnt then gg (o + i - o) else hh (o + i)) = (List.range cnt).flatMap gg := fm_congr cnt (fun i hi => by rw [if_pos (by omega), Nat.add_sub_cancel_left])
  have e3 : (List.range d).flatMap (fun i => if o ≤ o + cnt + i ∧ o + cnt + i < o + cnt then gg (o + cnt + i - o) else hh (o + cnt + i)) = (List.range d).flatMap (fun i => hh (o + cnt + i)) := fm_congr d (fun i hi => if_neg (by omega))
  rw [e1, e2, e3, fm_add hh (o + cnt) d]
  have e4 : ((List.range (o + cnt)).flatMap hh ++ (List.range d).flatMap (fun i => hh (o + cnt + i))).take (o * s) = (List.range o).flatMap hh := by
    rw [fm_add hh o cnt, List.append_assoc, ← l1, List.take_left]
  have e5 : ((List.range (o + cnt)).flatMap hh ++ (List.range d).flatMap (fun i => hh (o + cnt + i))).drop (o * s + cnt * s) = (List.range d).flatMap (fun i => hh (o + cnt + i)) := by
    rw [← l3, List.drop_left]
  rw [e4, e5]
theorem spliceA_eq {τ : Ty} {f g : Nat → AV} {N o cnt : Nat} (hf : ∀ j, j < N → Sh τ (f j)) (hg : ∀ j, j < cnt → Sh τ (g j)) : ∀ j, j < N → spliceA τ f o cnt g j = if o ≤ j ∧ j < o + cnt then g (j - o) else f j := by
  intro j hj
  have h1 := hf j hj
  cases τ with
  | int k =>
    by_cases hc : o ≤ j ∧ j < o + cnt
    · have h2 := hg (j - o) (by omega)
      rw [if_pos hc]
      cases k <;> simp only [spliceA, hc, and_self, if_true] <;> (cases hq : g (j - o) <;> rw [hq] at h2 <;> first | exact h2.elim | rfl)
    · rw [if_neg hc]
      cases k <;> simp only [spliceA, hc, if_false] <;> (cases hq : f j <;> rw [hq] at h1 <;> first | exact h1.elim | rfl)
  | _ => rfl
theorem joinA_eq {τ : Ty} {f g : Nat → AV} {l n : Nat} (hf : ∀ j, j < l → Sh τ (f j)) (hg : ∀ j, j < n → Sh τ (g j)) : ∀ j, j < l + n → joinA τ f l g j = if j < l then f j else g (j - l) := by
  intro j hj
  cases τ with
  | int k =>
    by_cases hc : j < l
    · have h2 := hf j hc
      rw [if_pos hc]
      cases k <;> simp only [joinA, hc, if_true] <;> (cases hq : f j <;> rw [hq] at h2 <;> first | exact h2.elim | rfl)
    · have h2 := hg (j - l) (by omega)
      rw [if_neg hc]
      cases k <;> simp only [joinA, hc, if_false] <;> (cases hq : g (j - l) <;> rw [hq] at h2 <;> first | exact h2.elim | rfl)
  | _ => rfl

/-- A slice that is read: its elements lie behind one another. -/
def Seen (c : Cx) (et : Ty) (n : Nat) (g : Nat → AV) (v : Value) : Prop := ∃ A q, v = .slice A n q ∧ n ≤ q ∧ q ≤ maxLen ∧
  (0 < n → ∃ (b o : Nat) (gg : Nat → List Value), A = some ⟨b, o, none⟩ ∧ b < c.w.heap.size ∧ ∀ i, i < n → Sh et (g i) ∧ R c (g i) (gg i) ∧ c.w.rangeAt b (o + i * et.size) (gg i))
section
variable {P : Program} {E : Pg} {o : Oper} {x : Operand → AV} {key : Nat} {m : Nat → Option Row} {K : Res → Prop} {t : TypeId}
theorem elems_all {ty : TypeId → Ty} {a : AV} {F : Ty → Nat → (Nat → AV) → List Nat → Prop} (h : elems m ty a F) : ∃ et n g rd, F et n g rd ∧ ∀ (c : Cx) (v : Value), c.ty = ty → MemOK c → (∀ k, k ∈ rd → c.m k = m k) → RV c a v → Seen c et n g v := by
  unfold elems at h
  split at h
  · rename_i fr et l f
    refine ⟨et, l, f, [], h, fun c v _ _ _ hv => ?_⟩
    obtain ⟨A, q, rfl, h1, h2, h3⟩ := rv_imm hv
    refine ⟨A, q, rfl, h1, h2, fun hl => ?_⟩
    obtain ⟨b, ofs, rfl, hlt, _, _, hi⟩ := h3 hl
    refine ⟨b, ofs, fun i => if h : i < l then (hi i h).2.choose else [], rfl, hlt, fun i hil => ?_⟩
    simp only [dif_pos hil]
    exact ⟨(hi i hil).1, (hi i hil).2.choose_spec⟩
  · rename_i e k l
    split at h
    · rename_i e' l' f hmk
      obtain ⟨rfl, h⟩ := h
      refine ⟨ty e, l', f, [k], h, fun c v hct hm hrd hv => ?_⟩
      have hck := (hrd k (by simp)).trans hmk
      obtain ⟨n, f', A, q, hm1, hl, rfl, hq1, hq2, hA, hcur⟩ := rv_gsl hv
      rw [hck] at hm1; injection hm1 with hm1; injection hm1 with e1 e2 e3
      subst e1; subst e2; subst e3
      refine ⟨A, q, rfl, hq1, hq2, fun hn => ?_⟩
      obtain ⟨b, cap, cur, hbl, hsv, hbb, hnc, hcm, hheap, hcsz, hrow⟩ := grow_parts (hm.rows k _ hck) hn
      rw [hcur rfl] at hsv; injection hsv with e1 _ _; subst e1
      rw [hct] at hrow
      have hch : ∃ gg : Nat → List Value, ∀ i, i < l' → Sh (ty e') (f i) ∧ R c (f i) (gg i) ∧ c.w.rangeAt b (0 + i * (ty e').size) (gg i) := by
        have : ∀ i, ∃ ds, i < l' → Sh (ty e') (f i) ∧ R c (f i) ds ∧ c.w.rangeAt b (0 + i * (ty e').size) ds := fun i => by
          by_cases hi : i < l'
          · obtain ⟨hs, pre, ds, post, hcut, hpl, hr⟩ := hrow i hi
            refine ⟨ds, fun _ => ⟨hs, hr, ?_⟩⟩
            rw [Nat.zero_add, ← hpl]; exact range_of_block hheap hcut
          · exact ⟨[], fun h => absurd h hi⟩
        exact ⟨fun i => (this i).choose, fun i hi => (this i).choose_spec hi⟩
      obtain ⟨gg, hgg⟩ := hch
      exact ⟨b, 0, gg, rfl, (Array.getElem?_eq_some_iff.1 hheap).1, hgg⟩
    · exact h.elim
  · rename_i e k al ofs n
    split at h
    · rename_i e' l' f hmk
      obtain ⟨rfl, h⟩ := h
      refine ⟨ty e, n, _, [k], h, fun c v hct hm hrd hv => ?_⟩
      have hck := (hrd k (by simp)).trans hmk
      obtain ⟨n', f', A, q, hm1, hl, rfl, hq1, hq2, hol, hA⟩ := rv_gsub hv
      rw [hck] at hm1; injection hm1 with hm1; injection hm1 with e1 e2 e3
      subst e1; subst e2; subst e3
      refine ⟨A, q, rfl, hq1, hq2, fun hn => ?_⟩
      obtain ⟨ad, rfl, hcur⟩ := hA hn
      obtain ⟨b, hbl, rfl⟩ := hcur rfl
      obtain ⟨b', cap, cur, hbl', hsv, hbb, hnc, hcm, hheap, hcsz, hrow⟩ := grow_parts (hm.rows k _ hck) (by omega)
      rw [hbl] at hbl'; injection hbl' with hbl'; subst hbl'
      rw [hct] at hrow
      rw [hct]
      have this : ∀ i, ∃ ds, i < n → Sh (ty e') (f (ofs + i)) ∧ R c (f (ofs + i)) ds ∧ c.w.rangeAt b (ofs * (ty e').size + i * (ty e').size) ds := fun i => by
        by_cases hi : i < n
        · obtain ⟨hs, pre, ds, post, hcut, hpl, hr⟩ := hrow (ofs + i) (by omega)
          refine ⟨ds, fun _ => ⟨hs, hr, ?_⟩⟩
          rw [← Nat.add_mul, ← hpl]; exact range_of_block hheap hcut
        · exact ⟨[], fun h => absurd h hi⟩
      exact ⟨b, _, fun i => (this i).choose, rfl, (Array.getElem?_eq_some_iff.1 hheap).1, fun i hi => (this i).choose_spec hi⟩
    · exact h.elim
  · rename_i et k p ofs n
    split at h
    · rename_i τ a hmk
      refine ⟨et, n, _, [k], h, fun c v hct hm hrd hv => ?_⟩
      have hck := (hrd k (by simp)).trans hmk
      obtain ⟨τ', a', b, N, g, A, q, hm1, hbl, hp, hat, hg, hol, rfl, hq1, hq2, hA⟩ := rv_sub hv
      rw [hck] at hm1; injection hm1 with hm1; injection hm1 with e1 e2
      subst e1; subst e2
      refine ⟨A, q, rfl, hq1, hq2.1, fun hn => ?_⟩
      obtain ⟨b', cs, t', hbl', hheap, hr, hs⟩ := hm.rows k _ hck
      rw [hbl] at hbl'; injection hbl' with hbl'; subst hbl'
      have this : ∀ i, ∃ ds, i < n → Sh et (a.at (p ++ [ofs + i])) ∧ R c (a.at (p ++ [ofs + i])) ds ∧ c.w.rangeAt b (τ.off p + ofs * et.size + i * et.size) ds := fun i => by
        by_cases hi : i < n
        · have hpath : τ.inP (p ++ [ofs + i]) := inP_append p τ _ hp (by rw [hat, inP_agg]; exact ⟨by omega, inP_nil _⟩)
          obtain ⟨hs2, pre, post, ds, hcut, hpl, hr2⟩ := R_at _ hr hs hpath
          rw [at_append p τ _ hp, hat, at_one] at hs2
          refine ⟨ds, fun _ => ⟨by rw [← hg]; exact hs2, hr2, ?_⟩⟩
          have hoff : τ.off (p ++ [ofs + i]) = τ.off p + ofs * et.size + i * et.size := by
            rw [off_append p τ _ hp, hat, off_one, Nat.add_assoc, ← Nat.add_mul, ← hg]
            congr 1; exact sumN_const (g 0).size _
          rw [← hoff, ← hpl]; exact range_of_block hheap hcut
        · exact ⟨[], fun h => absurd h hi⟩
      exact ⟨b, _, fun i => (this i).choose, hA hn, (Array.getElem?_eq_some_iff.1 hheap).1, fun i hi => (this i).choose_spec hi⟩
    · exact h.elim
  · exact h.elim
theorem push_all : ∀ (ns : List Int) (s : ByteArray), ns.foldl (fun r n => r.push (UInt8.ofNat n.toNat)) s = ⟨s.data ++ (ns.map fun n => UInt8.ofNat n.toNat).toArray⟩
  | [], s => by simp
  | n :: ns, s => by
    rw [List.foldl_cons, push_all ns]
    congr 1
    apply Array.ext'
    simp [ByteArray.push]
theorem u8_of {c : Cx} {a : AV} {ds : List Value} (hs : Sh (.int .u8) a) (h : R c a ds) : ds = [.int .u8 (U8 (asU8 a))] := by
  cases a <;> first | exact hs.elim | exact h
theorem run_text {src dst e : TypeId} (hs : P.underlying src = some (.slice e)) (he : P.underlying e = some (.int .u8)) (hd : P.underlying dst = some .string) {c : Cx} {n : Nat} {g : Nat → AV} {v : Value} (h : Seen c (.int .u8) n g v) :
    (convert src dst v).run P c.w = .ok (.string ⟨(strOf n g).toArray⟩) c.w := by
  obtain ⟨A, q, rfl, hq, hm, hA⟩ := h
  rw [run_convert_bytes_string c.w src dst e A n q hs he hd]
  by_cases hn : n = 0
  · subst hn
    cases A with
    | none => simp [Conv.bytesToString, strOf]; rfl
    | some a =>
      have hl : (loadCells a 0).run P c.w = .ok (([] : List Int).map (Value.int .u8)).toArray c.w := run_loadCells_list c.w a [] (fun j v hj => by simp at hj)
      rw [run_bytesToString c.w a 0 q [] hl]
      simp [strOf]; rfl
  · obtain ⟨b, o, gg, rfl, hlt, hi⟩ := hA (by omega)
    have hl : (loadCells ⟨b, o, none⟩ n).run P c.w = .ok (((List.range n).map fun i => U8 (asU8 (g i))).map (Value.int .u8)).toArray c.w := by
      have := run_loadCells_list (P := P) c.w ⟨b, o, none⟩ (((List.range n).map fun i => U8 (asU8 (g i))).map (Value.int .u8)) (fun j v hj => by
        simp only [List.getElem?_map] at hj
        by_cases hjn : j < n
        · rw [List.getElem?_range hjn] at hj
          simp only [Option.map_some, Option.some.injEq] at hj
          obtain ⟨h1, h2, h3⟩ := hi j hjn
          rw [u8_of h1 h2] at h3
          have := h3 0 v (by simpa using hj)
          rw [Addr.add_mid]
          simpa [Ty.size] using this
        · rw [List.getElem?_eq_none (by simpa using hjn)] at hj
          simp at hj)
      simpa using this
    rw [run_bytesToString c.w _ n q _ hl, push_all]
    simp only [Result.ok.injEq, Value.string.injEq, and_true]
    congr 1
    apply Array.ext'
    simp [strOf, U8]
theorem s_text (hT : TysOK P E.ty) {s d : TypeId} {y : Operand} {a : AV} (ho : o.op = .convert s d y) (hty : E.ty d = .str) (hx : x y = a) (h : semText m E.ty s a K) : ∃ r, K r ∧ Valid P E.ty o x key m r := by
  have hud := (hT d (by rw [hty]; simp)).str_of hty
  unfold semText at h
  split at h
  · rename_i e hs
    obtain ⟨he8, h⟩ := h
    obtain ⟨hus, he, h0⟩ := (hT s (by rw [hs]; simp)).sl_of hs
    have hu8 := u8_under hT he8
    split at h
    · refine ⟨_, h, valid_val rfl fun c act _ _ _ hxx => ?_⟩
      have hv := hxx y
      rw [hx] at hv
      have ev : act.eval y = .slice none 0 0 := by simpa [RV, R] using hv
      refine ⟨.string ⟨([] : List UInt8).toArray⟩, ?_, rfl⟩
      unfold execOp
      have := run_text (c := c) (n := 0) (g := fun _ => .junk) (v := .slice none 0 0) hus hu8 hud ⟨none, 0, rfl, Nat.le_refl _, Nat.zero_le _, fun h => by omega⟩
      simp only [ho, ev, Sem.run_bind, this, Result.andThen_ok, Sem.run_pure]
      rfl
    · obtain ⟨et, n, g, rd, ⟨rfl, h⟩, hseen⟩ := elems_all h
      refine ⟨_, h, valid_val rfl fun c act hct hm hrd hxx => ?_⟩
      have hv := hxx y
      rw [hx] at hv
      have hsn := hseen c _ hct hm hrd hv
      refine ⟨.string ⟨(strOf n g).toArray⟩, ?_, rfl⟩
      unfold execOp
      simp only [ho, Sem.run_bind, run_text hus hu8 hud hsn, Result.andThen_ok, Sem.run_pure]
  · exact h.elim
theorem enc_ascii {n : Nat} (h : n < 128) : Utf8.encode (n : Int) = ⟨#[UInt8.ofNat n]⟩ := by
  have hv : Utf8.valid (n : Int) = true := by
    unfold Utf8.valid
    simp only [Bool.or_eq_true, Bool.and_eq_true, decide_eq_true_eq]
    left; omega
  unfold Utf8.encode
  simp only [hv, if_true, Int.toNat_natCast]
  rw [if_pos (show n < 0x80 from h)]
theorem s_convert (hT : TysOK P E.ty) {s d : TypeId} {y : Operand} (ho : o.op = .convert s d y) (h : sem E m key x (.convert s d y) K) : ∃ r, K r ∧ Valid P E.ty o x key m r := by
  simp only [sem, semG] at h
  obtain ⟨hs, h⟩ := okT_of h
  split at h
  · rename_i e hty
    obtain ⟨hu, he, h0⟩ := (hT d (by rw [hty]; simp)).sl_of hty
    split at h
    · rename_i fr et n f hx
      obtain ⟨rfl, rfl, rfl, he8, hn, h⟩ := h
      have hu8 := u8_under hT he8
      refine ⟨_, h, fun c act K Q hct hm hb hrd hf hxx hK => ?_⟩
      have h1 := hxx y
      rw [hx] at h1
      obtain ⟨A, q, ev, hnq, hqm, hA⟩ := h1
      injection ev with ev
      obtain ⟨b, oo, eA, hlt, hmu, hfr, hi⟩ := hA hn
      have hcell : ∃ v, c.w.cell? ⟨b, oo, none⟩ = some v := by
        obtain ⟨hsh, ds, hr, hrg⟩ := hi 0 hn
        have hl := R_len hr hsh
        cases ds with
        | nil => simp [Ty.size] at hl
        | cons v vs => exact ⟨v, by have := hrg 0 v rfl; simpa using this⟩
      obtain ⟨v, hcv⟩ := hcell
      obtain ⟨k, hrun⟩ := run_mark c.w hu hu8 eA hcv (n := n) (q := q)
      have hstep := step_block hm (w := c.w.freeze ⟨b, k, none⟩ 1) (below_freeze (Nat.le_trans hm.bf (hfr rfl)) 1) (fun b' hb' _ => ⟨fun o => cell_freeze _ _ _ _, fun hf' => heap_freeze _ _ _ _ (fun e => by
          rcases hf' with hf' | ⟨es, cl, hf'⟩
          · have := hfr rfl; simp only at e; omega
          · simp only at e; subst e; simp [World.cell?, hf'] at hcv)⟩)
        (fun k' r' b' hk' hb' => heap_freeze _ _ _ _ (fun e => hmu (by have := (hm.mu k' r' b' hk' hb').1; simp only at e; rw [← e]; exact this)))
      unfold Oper.wp
      have hex : (execOp act.eval o).run P c.w = .ok (.value (act.eval y)) (c.w.freeze ⟨b, k, none⟩ 1) := by
        unfold execOp
        simp only [ho, ev, Sem.run_bind, hrun, Result.andThen_ok, Sem.run_pure]
      rw [hex]
      refine hK _ _ hstep ?_
      have := hxx y
      rw [hx] at this
      exact RV_stab hstep.stab this
    · rename_i n f hx
      obtain ⟨rfl, he8, hn, h⟩ := h
      have hu8 := u8_under hT he8
      refine ⟨_, h, fun c act K Q hct hm hb hrd hf hxx hK => ?_⟩
      have h0 := hxx y
      rw [hx] at h0
      obtain ⟨h1, A0, ev0⟩ := rv_blt h0
      obtain ⟨A, q, ev, hnq, hqm, hA⟩ := h1
      injection ev with ev
      obtain ⟨b, oo, eA, hlt, hmu, hfr, hi⟩ := hA hn
      have hcell : ∃ v, c.w.cell? ⟨b, oo, none⟩ = some v := by
        obtain ⟨hsh, ds, hr, hrg⟩ := hi 0 hn
        have hl := R_len hr hsh
        cases ds with
        | nil => simp [Ty.size] at hl
        | cons v vs => exact ⟨v, by have := hrg 0 v rfl; simpa using this⟩
      obtain ⟨v, hcv⟩ := hcell
      obtain ⟨k, hrun⟩ := run_mark c.w hu hu8 eA hcv (n := n) (q := q)
      have hstep := step_block hm (w := c.w.freeze ⟨b, k, none⟩ 1) (below_freeze (Nat.le_trans hm.bf (hfr rfl)) 1) (fun b' hb' _ => ⟨fun o => cell_freeze _ _ _ _, fun hf' => heap_freeze _ _ _ _ (fun e => by
          rcases hf' with hf' | ⟨es, cl, hf'⟩
          · have := hfr rfl; simp only at e; omega
          · simp only at e; subst e; simp [World.cell?, hf'] at hcv)⟩)
        (fun k' r' b' hk' hb' => heap_freeze _ _ _ _ (fun e => hmu (by have := (hm.mu k' r' b' hk' hb').1; simp only at e; rw [← e]; exact this)))
      unfold Oper.wp
      have hex : (execOp act.eval o).run P c.w = .ok (.value (act.eval y)) (c.w.freeze ⟨b, k, none⟩ 1) := by
        unfold execOp
        simp only [ho, ev, Sem.run_bind, hrun, Result.andThen_ok, Sem.run_pure]
      rw [hex]
      exact hK _ _ hstep (RV_stab hstep.stab h0)
    · rename_i b hx
      obtain ⟨hss, he8, hbn, h⟩ := h
      have hus := (hT s hs).str_of hss
      have hu8 := u8_under hT he8
      refine ⟨_, h, valid_block fun c act hct hxx => ?_⟩
      have ev := hxx y
      rw [hx] at ev
      have ev := rv_str ev
      have hsz : (⟨b.toArray⟩ : ByteArray).size = b.length := by simp [ByteArray.size]
      have hcap := grownCap_ge c.w (⟨b.toArray⟩ : ByteArray).size 0 e
      obtain ⟨C, fz, hC, hrun⟩ : ∃ C fz, C = bytesRow ⟨b.toArray⟩ (grownCap c.w (⟨b.toArray⟩ : ByteArray).size 0 e) ∧ (convert s d (.string ⟨b.toArray⟩)).run P c.w = .ok (.slice (some ⟨c.w.heap.size, 0, none⟩) (⟨b.toArray⟩ : ByteArray).size (grownCap c.w (⟨b.toArray⟩ : ByteArray).size 0 e)) (c.w.drew.alloc (.cells C e fz)) := ⟨_, _, rfl, run_bytes_of_string (P := P) c.w s d e ⟨b.toArray⟩ hus hu hu8⟩
      have hlow : ∀ o, Below c.w.heap.size c.w (c.w.drew.alloc o) := fun o => (Below.refl _ _).drew.alloc (Nat.le_refl _) o
      unfold bnd at hbn
      refine ⟨c.w.drew.alloc (.cells C e fz), grownCap c.w (⟨b.toArray⟩ : ByteArray).size 0 e, fun i => [.int .u8 ((b.getD i 0).toNat : Int)], hlow _, ?_, ?_, ?_, fun i hi => ⟨(str_row (c := c) (k := 0) i hi).1, (str_row (c := c) (k := 0) i hi).2, ?_⟩, ?_⟩
      · simp
      · rw [hsz] at hcap ⊢; exact hcap
      · exact grownCap_le_maxLen _ _ _ _ (by rw [hsz]; unfold maxLen; omega)
      · intro j v hj
        have hj0 : j = 0 := by
          have := (List.getElem?_eq_some_iff.1 hj).1
          simp at this; exact this
        subst hj0
        simp only [List.getElem?_cons_zero, Option.some.injEq] at hj
        subst hj
        have hnew : ∀ (C : Array Value) (fz : Nat × Nat), (c.w.drew.alloc (.cells C e fz)).heap[c.w.heap.size]? = some (.cells C e fz) := fun C fz => by
          show (c.w.heap.push _)[c.w.heap.size]? = _
          simp
        unfold World.cell?
        simp only [hnew, Ty.size, Nat.mul_one, Nat.add_zero]
        rw [hC]
        simp [bytesRow, Array.getElem?_append, hi, List.getD]
      · unfold execOp
        rw [hsz] at hrun
        simp only [ho, ev, Sem.run_bind, hrun, Result.andThen_ok, Sem.run_pure, hsz]
    · exact h.elim
  · rename_i hty
    split at h
    · rename_i b hx
      refine ⟨_, h, valid_yld rfl fun c a _ _ _ hxx => ⟨_, by unfold execOp; rw [ho], ?_⟩⟩
      have ev := hxx y
      rw [hx] at ev
      have ev' := rv_str ev
      obtain ⟨ds, hus, _⟩ := (hT s hs).desc
      have hud := (hT d (by rw [hty]; simp)).str_of hty
      refine ⟨_, ?_, ev⟩
      rw [ev']
      simp [convert, run_underlying hus, run_underlying hud]
    · rename_i n hx
      obtain ⟨hss, hn, h⟩ := h
      refine ⟨_, h, valid_yld rfl fun c a _ _ _ hxx => ⟨_, by unfold execOp; rw [ho], ?_⟩⟩
      have ev := hxx y
      rw [hx] at ev
      have ev' : a.eval y = .int .i32 n.toInt := by simpa [RV, R] using ev
      have hus := (hT s hs).int_und hss
      have hud := (hT d (by rw [hty]; simp)).str_of hty
      refine ⟨.string ⟨#[UInt8.ofNat n.toNat]⟩, ?_, rfl⟩
      rw [ev', BitVec.toInt_eq_toNat_of_lt (by omega)]
      simp [convert, run_underlying hus, run_underlying hud, Conv.intToString, enc_ascii hn]
    · exact s_text hT ho hty rfl h
  · obtain ⟨r, h1, h2⟩ := conv_det h
    refine ⟨_, h1, valid_yld rfl fun c a _ _ _ hx => ⟨_, by unfold execOp; rw [ho], ?_⟩⟩
    obtain ⟨r', rfl, h3⟩ := conv_sound hT (c := c) (w := c.w) (hT s hs) (hx y) (h2 (· = r) rfl)
    exact h3
end
end Go.Proofs.YtldlleoabbcpdaaDoor
/- The builtin copy. -/
namespace Go.Proofs.YtldlleoabbcpdaaDoor
open Go.RowKit
section
variable {P : Program} {E : Pg} {o : Oper} {x : Operand → AV} {key : Nat} {m : Nat → Option Row} {K : Res → Prop} {t : TypeId}
theorem run_copy0 {e : TypeId} (hu : P.underlying t = some (.slice e)) {ty : TypeId → Ty} (he : TyOK P ty e) {t2 : TypeId} {tt : TypeId} {dp sp : Option Addr} {dl dc sl sc : Nat} (h : min sl dl = 0) {w : World} :
    (Builtin.copy_ #[t, t2] tt #[.slice dp dl dc, .slice sp sl sc]).run P w = .ok (.int .i64 ((0 : Nat) : Int)) w := by
  have hm : Nat.min sl dl = 0 := h
  cases sp <;> cases dp <;> simp [Builtin.copy_, run_underlying hu, Builtin.lenOf, hm, run_sizeOf' he, Builtin.firstCells, loadCells, loadCellsFrom, goInt, storeCells]
theorem run_copy1 {e : TypeId} (hu : P.underlying t = some (.slice e)) {ty : TypeId → Ty} (he : TyOK P ty e) {t2 : TypeId} {tt : TypeId} {b bo sb so : Nat} {dl dc sl sc : Nat} {D : List Value} (hl : D.length = min sl dl * (ty e).size)
    {w : World} {cs : Array Value} {et : TypeId} (hb : w.heap[b]? = some (.cells cs et (0, 0))) (hfit : bo + D.length ≤ cs.size) (hs : w.rangeAt sb so D) (h1 : ∀ v ∈ D, v.oneCell' = true) :
    (Builtin.copy_ #[t, t2] tt #[.slice (some ⟨b, bo, none⟩) dl dc, .slice (some ⟨sb, so, none⟩) sl sc]).run P w = .ok (.int .i64 ((min sl dl : Nat) : Int)) (w.setRow b (cs.toList.take bo ++ D ++ cs.toList.drop (bo + D.length)).toArray) := by
  have hf := run_firstCells_some (P := P) w (ty e).size (min sl dl) ⟨sb, so, none⟩ sl sc D hl (fun j v hj => by rw [Addr.add_mid]; exact hs j v hj)
  have hst := run_storeCells_at P b bo et D 0 cs w hb (by omega) h1
  simp only [Nat.add_zero] at hst
  have hm : Nat.min sl dl = min sl dl := rfl
  simp [Builtin.copy_, run_underlying hu, Builtin.lenOf, hm, run_sizeOf' he, hf, hst, goInt]
theorem grow_set {c : Cx} (hm : MemOK c) {k e n b : Nat} {f f' : Nat → AV} (hck : c.m k = some (.grow e n f)) (hbl : c.bl k = some b) (hn : 0 < n) {O : Nat} {D : List Value}
    (hcut : ∀ xs, R c (.agg true n f) xs → Sh (.agg true n fun _ => c.ty e) (.agg true n f) → O + D.length ≤ xs.length ∧ R c (.agg true n f') (xs.take O ++ D ++ xs.drop (O + D.length)) ∧ Sh (.agg true n fun _ => c.ty e) (.agg true n f')) :
    ∃ cur, c.w.heap[b]? = some (.cells cur e (0, 0)) ∧ O + D.length ≤ cur.size ∧ Step c [(k, .grow e n f')] (c.setRow k (.grow e n f') (c.w.setRow b (cur.toList.take O ++ D ++ cur.toList.drop (O + D.length)).toArray)) := by
  obtain ⟨xs, hr, hs, hown, hbl2⟩ := grow_R (hm.rows k _ hck)
  obtain ⟨cap, cur, hsv, hbb, hheap, hnc, hcm, hcsz, htk⟩ := own_parts hown hn (hbl2.trans hbl)
  obtain ⟨hfit, hr2, hs2⟩ := hcut xs hr hs
  have hxl := R_len hr hs
  rw [size_agg, sumN_el] at hxl
  have hcl : xs.length ≤ cur.size := by rw [hxl, hcsz]; exact Nat.mul_le_mul_right _ hnc
  have hcut2 : cur.toList = xs ++ cur.toList.drop (n * (c.ty e).size) := by rw [← htk, List.take_append_drop]
  refine ⟨cur, hheap, by omega, ?_⟩
  generalize hrest : cur.toList.drop (n * (c.ty e).size) = rest at *
  have hL : cur.toList.take O ++ D ++ cur.toList.drop (O + D.length) = (xs.take O ++ D ++ xs.drop (O + D.length)) ++ rest := by
    rw [hcut2, List.take_append_of_le_length (by omega), List.drop_append_of_le_length (by omega)]; simp
  rw [hL]
  obtain ⟨w', hw'⟩ : ∃ w', w' = c.w.setRow b ((xs.take O ++ D ++ xs.drop (O + D.length)) ++ rest).toArray := ⟨_, rfl⟩
  rw [← hw']
  have hbase := (hm.mu k _ b hck hbl).2.1
  have hstab := stab_set (c := c) (key := k) (r := .grow e n f') (b := b) (w := w') hck (.inr ⟨_, _, _, _, rfl, rfl⟩) (hm.mu k _ b hck hbl).1 (by rw [hw']; simp) (fun b' _ hne => by rw [hw']; exact setRow_other c.w b b' _ hne)
  refine step_set hm hck (.inr ⟨_, _, _, _, rfl, rfl⟩) hbl (by rw [hw']; exact setRow_low hbase) (fun b' _ hne => by rw [hw']; exact setRow_other c.w b b' _ hne) ?_
  refine R_grow (c := c.setRow k _ w') (xs := xs.take O ++ D ++ xs.drop (O + D.length)) (R_stab hstab hr2) hs2 ?_ hbl2
  refine ⟨by show _ = n * (c.ty e).size; simp; omega, .inr ⟨b, cap, _, hsv, hbb, by rw [← setRow_heap c.w b cur _ e (0, 0) hheap, ← hw']; rfl, hnc, hcm, by show _ = cap * (c.ty e).size; simp; rw [← hcsz, ← Array.length_toList, hcut2]; simp; omega, ?_⟩⟩
  show List.take (n * (c.ty e).size) _ = _
  have : (xs.take O ++ D ++ xs.drop (O + D.length)).length = xs.length := by simp; omega
  rw [← hxl, ← this]
  exact List.take_left
/-- The first elements of what is read, as cells. -/
theorem seen_cells {c : Cx} {et : Ty} {n cnt : Nat} {g : Nat → AV} {b o : Nat} {gg : Nat → List Value} (h : ∀ i, i < n → Sh et (g i) ∧ R c (g i) (gg i) ∧ c.w.rangeAt b (o + i * et.size) (gg i)) (hc : cnt ≤ n) :
    ((List.range cnt).flatMap gg).length = cnt * et.size ∧ c.w.rangeAt b o ((List.range cnt).flatMap gg) ∧ (∀ v ∈ (List.range cnt).flatMap gg, v.oneCell' = true) ∧ ∀ i, i < cnt → (gg i).length = et.size := by
  have hl : ∀ i, i < cnt → (gg i).length = et.size := fun i hi => R_len (h i (by omega)).2.1 (h i (by omega)).1
  refine ⟨fm_len_const hl, range_fm cnt (fun i hi => ⟨(h i (by omega)).2.2, hl i hi⟩), fun v hv => ?_, hl⟩
  obtain ⟨i, hi, hvi⟩ := List.mem_flatMap.1 hv
  have hi : i < cnt := by simpa using hi
  exact R_one (h i (by omega)).2.1 (h i (by omega)).1 v hvi
theorem splice_R {c : Cx} {et : Ty} {N o cnt : Nat} {f g : Nat → AV} {xs : List Value} {gg : Nat → List Value} (hr : R c (.agg true N f) xs) (hs : Sh (.agg true N fun _ => et) (.agg true N f)) (hN : o + cnt ≤ N)
    (hg : ∀ i, i < cnt → Sh et (g i) ∧ R c (g i) (gg i)) :
    o * et.size + ((List.range cnt).flatMap gg).length ≤ xs.length ∧ R c (.agg true N (spliceA et f o cnt g)) (xs.take (o * et.size) ++ (List.range cnt).flatMap gg ++ xs.drop (o * et.size + ((List.range cnt).flatMap gg).length)) ∧ Sh (.agg true N fun _ => et) (.agg true N (spliceA et f o cnt g)) := by
  have hxl := R_len hr hs
  rw [size_agg, sumN_el] at hxl
  obtain ⟨hh, hhh, rfl⟩ := hr
  have hs' : ∀ i, i < N → Sh et (f i) := hs.2.2
  have hgl : ∀ i, i < cnt → (gg i).length = et.size := fun i hi => R_len (hg i hi).2 (hg i hi).1
  have heq := spliceA_eq (τ := et) (f := f) (g := g) (N := N) (o := o) (cnt := cnt) hs' (fun j hj => (hg j hj).1)
  refine ⟨?_, ⟨fun j => if o ≤ j ∧ j < o + cnt then gg (j - o) else hh j, fun i hi => ?_, (fm_splice (fun i hi => R_len (hhh i hi) (hs' i hi)) hgl hN).symm⟩, rfl, rfl, fun i hi => ?_⟩
  · rw [fm_len_const hgl, hxl, ← Nat.add_mul]; exact Nat.mul_le_mul_right _ hN
  · rw [heq i hi]
    by_cases h : o ≤ i ∧ i < o + cnt
    · simp only [h, and_self, if_true]; exact (hg (i - o) (by omega)).2
    · simp only [h, if_false]; exact hhh i hi
  · rw [heq i hi]
    by_cases h : o ≤ i ∧ i < o + cnt
    · simp only [h, and_self, if_true]; exact (hg (i - o) (by omega)).1
    · simp only [h, if_false]; exact hs' i hi
/-- A row's content is told in another way. -/
theorem step_same {c : Cx} (hm : MemOK c) {k e n : Nat} {f f' : Nat → AV} (hck : c.m k = some (.grow e n f)) (hf : ∀ i, i < n → f i = f' i) : Step c [(k, .grow e n f')] (c.setRow k (.grow e n f') c.w) := by
  have hst : Stab c (c.setRow k (.grow e n f') c.w) := by
    refine ⟨rfl, Nat.le_refl _, rfl, fun k' τ a hk => ?_, fun k' e' n' q hk => ?_, fun k' o hk => ?_, fun b' hb hm => ⟨hm, same_old rfl⟩, Nat.le_refl _⟩
    · by_cases h : k' = k
      · subst h; rw [hck] at hk; cases hk
      · exact ⟨⟨a, (putM_ne _ _ h).trans hk⟩, rfl⟩
    · by_cases h : k' = k
      · subst h
        rw [hck] at hk; injection hk with hk; injection hk with e1 e2 e3; subst e1; subst e2
        exact ⟨n, f', putM_same _ _ _, Nat.le_refl _, fun _ => ⟨rfl, rfl⟩⟩
      · exact ⟨n', q, (putM_ne _ _ h).trans hk, Nat.le_refl _, fun _ => ⟨rfl, rfl⟩⟩
    · by_cases h : k' = k
      · subst h; rw [hck] at hk; cases hk
      · exact ⟨⟨o, (putM_ne _ _ h).trans hk, .refl⟩, rfl⟩
  have hold : ∀ {k' : Nat} {r' : Row}, (c.setRow k (.grow e n f') c.w).m k' = some r' → ∃ r'', c.m k' = some r'' := fun {k' r'} h => by
    by_cases e : k' = k
    · subst e; exact ⟨_, hck⟩
    · have h' : putM c.m k _ k' = some r' := h
      rw [putM_ne _ _ e] at h'; exact ⟨_, h'⟩
  refine ⟨hst, ⟨fun k' r' hk => ?_, fun k1 k2 r1 r2 b' h1 h2 h3 h4 => ?_, fun k' r' b' h1 h2 => ?_, hm.bf⟩, rfl, rfl, rfl, Below.refl _ _, fun _ _ h => h⟩
  · by_cases h : k' = k
    · subst h
      have hk' : putM c.m k' _ k' = some r' := hk
      rw [putM_at, put1_abs rfl] at hk'; injection hk' with hk'; subst hk'
      obtain ⟨xs, hr, hs, hown, hbl⟩ := grow_R (hm.rows k' _ hck)
      exact R_grow (R_stab hst (R_agg_congr hf hr)) (Sh_agg_congr hf hs) hown hbl
    · have hk' : putM c.m k _ k' = some r' := hk
      rw [putM_ne _ _ h] at hk'
      exact RowOK_stab hst rfl rfl rfl (fun _ _ => rfl) (hm.rows k' r' hk')
  · obtain ⟨q1, hq1⟩ := hold h1
    obtain ⟨q2, hq2⟩ := hold h2
    exact hm.inj k1 k2 q1 q2 b' hq1 hq2 h3 h4
  · obtain ⟨q1, hq1⟩ := hold h1
    exact hm.mu k' q1 b' hq1 h2
theorem copy_grow {e : TypeId} (hu : P.underlying t = some (.slice e)) (he : TyOK P E.ty e) {t2 tt : TypeId} {c : Cx} (hct : c.ty = E.ty) (hm : MemOK c) {k n' ofs l n q q2 : Nat} {f g : Nat → AV} {A B : Option Addr} (hck : c.m k = some (.grow e n' f)) (hol : ofs + l ≤ n')
    (hB : 0 < l → ∃ b, c.bl k = some b ∧ B = some ⟨b, ofs * (E.ty e).size, none⟩)
    (hA : 0 < n → ∃ (b o : Nat) (gg : Nat → List Value), A = some ⟨b, o, none⟩ ∧ b < c.w.heap.size ∧ ∀ i, i < n → Sh (E.ty e) (g i) ∧ R c (g i) (gg i) ∧ c.w.rangeAt b (o + i * (E.ty e).size) (gg i)) :
    ∃ w', (Builtin.copy_ #[t, t2] tt #[.slice B l q2, .slice A n q]).run P c.w = .ok (.int .i64 ((min n l : Nat) : Int)) w' ∧ Step c [(k, .grow e n' (spliceA (E.ty e) f ofs (min n l) g))] (c.setRow k (.grow e n' (spliceA (E.ty e) f ofs (min n l) g)) w') := by
  obtain ⟨_, _, hs0, _, _⟩ := grow_R (hm.rows k _ hck)
  rw [hct] at hs0
  by_cases hmin : min n l = 0
  · rw [hmin]
    refine ⟨c.w, run_copy0 hu he hmin, step_same hm hck fun i hi => ?_⟩
    rw [spliceA_eq (N := n') (fun j hj => hs0.2.2 j hj) (fun j hj => by omega) i hi, if_neg (by omega)]
  · have hn0 : 0 < n' := by omega
    have hn1 : ofs + min n l ≤ n' := by omega
    have hn2 : min n l ≤ n := by omega
    obtain ⟨sb, so, gg, rfl, hsbl, hgg⟩ := hA (by omega)
    obtain ⟨b, hbl, rfl⟩ := hB (by omega)
    obtain ⟨c1, c2, c3, c4⟩ := seen_cells (cnt := min n l) hgg hn2
    obtain ⟨cur, hheap, hfit, hstep⟩ := grow_set (f' := spliceA (E.ty e) f ofs (min n l) g) (O := ofs * (E.ty e).size) (D := (List.range (min n l)).flatMap gg) hm hck hbl hn0 (fun xs hr hs => by
      rw [hct] at hs ⊢
      exact splice_R (o := ofs) (cnt := min n l) hr hs hn1 (fun i hi => ⟨(hgg i (Nat.lt_of_lt_of_le hi hn2)).1, (hgg i (Nat.lt_of_lt_of_le hi hn2)).2.1⟩))
    exact ⟨_, run_copy1 hu he c1 hheap hfit c2 c3, hstep⟩
theorem R_str {c : Cx} {b : List UInt8} {i : Nat} : Sh (.int .u8) (strA b i) ∧ R c (strA b i) [.int .u8 ((b.getD i 0).toNat : Int)] :=
  ⟨trivial, by
    show [_] = [_]
    unfold U8
    rw [BitVec.toNat_ofNat, Nat.mod_eq_of_lt (UInt8.toNat_lt _)]⟩
theorem fm_single (g : Nat → Value) : ∀ n, (List.range n).flatMap (fun i => [g i]) = (List.range n).map g
  | 0 => rfl
  | n + 1 => by rw [List.range_succ, List.flatMap_append, List.map_append, fm_single g n]; rfl
theorem str_cells (b : List UInt8) (n : Nat) (hn : n ≤ b.length) : (((⟨b.toArray⟩ : ByteArray).extract 0 n).data.map fun b => Value.int .u8 (b.toNat : Int)) = ((List.range n).flatMap fun i => [Value.int .u8 ((b.getD i 0).toNat : Int)]).toArray := by
  apply Array.ext'
  apply List.ext_getElem?
  intro i
  simp only [ByteArray.data_extract, Array.toList_map, Array.toList_extract, List.extract_eq_take_drop, Nat.sub_zero, List.drop_zero, List.getElem?_map]
  rw [show ((List.range n).flatMap fun i => [Value.int .u8 ((b.getD i 0).toNat : Int)]) = (List.range n).map fun i => Value.int .u8 ((b.getD i 0).toNat : Int) from fm_single _ n]
  rw [List.getElem?_map]
  by_cases h : i < n
  · rw [List.getElem?_range h, List.getElem?_take, if_pos h, List.getElem?_eq_getElem (by omega)]
    simp [List.getD, List.getElem?_eq_getElem (show i < b.length by omega)]
  · rw [List.getElem?_eq_none (l := List.range n) (by simpa using h), List.getElem?_take, if_neg h]
    rfl
theorem copy_str {e : TypeId} (hu : P.underlying t = some (.slice e)) (he : TyOK P E.ty e) (he8 : E.ty e = .int .u8) {t2 tt : TypeId} {c : Cx} (hct : c.ty = E.ty) (hm : MemOK c) {k n' ofs l q2 : Nat} {f : Nat → AV} {B : Option Addr} {b : List UInt8} (hck : c.m k = some (.grow e n' f)) (hol : ofs + l ≤ n')
    (hB : 0 < l → ∃ b, c.bl k = some b ∧ B = some ⟨b, ofs * (E.ty e).size, none⟩) :
    ∃ w', (Builtin.copy_ #[t, t2] tt #[.slice B l q2, .string ⟨b.toArray⟩]).run P c.w = .ok (.int .i64 ((min b.length l : Nat) : Int)) w' ∧ Step c [(k, .grow e n' (spliceA (E.ty e) f ofs (min b.length l) (strA b)))] (c.setRow k (.grow e n' (spliceA (E.ty e) f ofs (min b.length l) (strA b))) w') := by
  obtain ⟨_, _, hs0, _, _⟩ := grow_R (hm.rows k _ hck)
  rw [hct] at hs0
  have hsz : (⟨b.toArray⟩ : ByteArray).size = b.length := by simp [ByteArray.size]
  by_cases hmin : min b.length l = 0
  · rw [hmin]
    refine ⟨c.w, ?_, step_same hm hck fun i hi => ?_⟩
    · have hm0 : Nat.min b.length l = 0 := hmin
      have hc0 : ∀ a : Addr, (storeCells a []).run P c.w = .ok () c.w := fun a => by simp [storeCells]
      have hx0 : (((⟨b.toArray⟩ : ByteArray).extract 0 0).data.map fun b => Value.int .u8 (b.toNat : Int)) = #[] := by rw [str_cells b 0 (Nat.zero_le _)]; rfl
      cases B <;> simp [Builtin.copy_, run_underlying hu, Builtin.lenOf, hsz, hm0, run_sizeOf' he, Builtin.firstCells, hx0, goInt, storeCells]
    · rw [spliceA_eq (N := n') (fun j hj => hs0.2.2 j hj) (fun j hj => by omega) i hi, if_neg (by omega)]
  · have hn0 : 0 < n' := by omega
    have hn1 : ofs + min b.length l ≤ n' := by omega
    obtain ⟨bb, hbl, rfl⟩ := hB (by omega)
    obtain ⟨cur, hheap, hfit, hstep⟩ := grow_set (f' := spliceA (E.ty e) f ofs (min b.length l) (strA b)) (O := ofs * (E.ty e).size) (D := (List.range (min b.length l)).flatMap fun i => [Value.int .u8 ((b.getD i 0).toNat : Int)]) hm hck hbl hn0 (fun xs hr hs => by
      rw [hct] at hs ⊢
      exact splice_R (o := ofs) (cnt := min b.length l) (g := strA b) (gg := fun i => [Value.int .u8 ((b.getD i 0).toNat : Int)]) hr hs hn1 (fun i hi => by rw [he8]; exact R_str))
    refine ⟨_, ?_, hstep⟩
    have h1 : ∀ v ∈ (List.range (min b.length l)).flatMap (fun i => [Value.int .u8 ((b.getD i 0).toNat : Int)]), v.oneCell' = true := fun v hv => by
      obtain ⟨i, _, hvi⟩ := List.mem_flatMap.1 hv
      simp only [List.mem_singleton] at hvi
      subst hvi; rfl
    have hst := run_storeCells_at P bb (ofs * (E.ty e).size) e ((List.range (min b.length l)).flatMap fun i => [Value.int .u8 ((b.getD i 0).toNat : Int)]) 0 cur c.w hheap (by omega) h1
    simp only [Nat.add_zero] at hst
    have hmm : Nat.min b.length l = min b.length l := rfl
    have hfc : (Builtin.firstCells (E.ty e).size (min b.length l) (.string ⟨b.toArray⟩)).run P c.w = .ok ((List.range (min b.length l)).flatMap fun i => [Value.int .u8 ((b.getD i 0).toNat : Int)]).toArray c.w := by
      simp only [Builtin.firstCells, str_cells b (min b.length l) (Nat.min_le_left _ _), Sem.run_pure]
    simp only [Builtin.copy_, List.getElem?_toArray, List.getElem?_cons_zero, List.getElem?_cons_succ, Sem.run_bind, run_underlying hu, Result.andThen_ok, Builtin.lenOf, Sem.run_pure, hsz, hmm, run_sizeOf' he, hfc, hst, goInt]
theorem exec_copy {y z : Operand} {t s' : TypeId} (ho : o.op = .call ⟨.builtin .copy, #[y, z], #[t, s']⟩) (ρ : Operand → Value) : execOp ρ o = (do pure (Next.value (← Builtin.copy_ #[t, s'] o.type #[ρ y, ρ z]))) := by
  obtain ⟨cs, hex⟩ := exec_builtin (ags := [y, z]) (ρ := ρ) ho
  rw [hex]; rfl
theorem val_wp {s : Sem Value} {c : Cx} {act : Act} {K : Act → World → Prop} {Q : Exit → Act → World → Prop} {w' : World} {v : Value} (hex : execOp act.eval o = (do pure (Next.value (← s)))) (hs : s.run P c.w = .ok v w') (h : K (act.put o.dst v) w') : o.wp P act c.w K Q := by
  unfold Oper.wp
  rw [hex]
  simp only [Sem.run_bind, hs, Result.andThen_ok, Sem.run_pure]
  exact h
theorem len_slice {a : AV} {F : Nat → Prop} (h : lenOf a F) : ∃ n, F n ∧ ∀ (c : Cx) (v : Value), RV c a v → ∃ A q, v = .slice A n q ∧ n ≤ q := by
  cases a <;> simp only [lenOf] at h <;> try exact h.elim
  case nils => exact ⟨0, h, fun c v hv => ⟨none, 0, by simpa [RV, R] using hv, Nat.le_refl _⟩⟩
  case imm => exact ⟨_, h, fun c v hv => by obtain ⟨A, q, e, h1, _⟩ := rv_imm hv; exact ⟨A, q, e, h1⟩⟩
  case gsl => exact ⟨_, h, fun c v hv => by obtain ⟨_, _, A, q, _, _, e, h1, _⟩ := rv_gsl hv; exact ⟨A, q, e, h1⟩⟩
  case gsub => exact ⟨_, h, fun c v hv => by obtain ⟨_, _, A, q, _, _, e, h1, _⟩ := rv_gsub hv; exact ⟨A, q, e, h1⟩⟩
  case sub => exact ⟨_, h, fun c v hv => by obtain ⟨_, _, _, _, _, A, q, _, _, _, _, _, _, e, h1, _⟩ := rv_sub hv; exact ⟨A, q, e, h1⟩⟩
theorem s_copy (hT : TysOK P E.ty) {c : Call} (ho : o.op = .call c) (hc : c.callee = .builtin .copy) (h : sem E m key x (.call c) K) : ∃ r, K r ∧ Valid P E.ty o x key m r := by
  simp only [sem, semG, hc] at h
  split at h
  · rename_i y z t s' hy ht
    have hcall := call_of hc hy
    have ht' : c.argTypes = #[t, s'] := by rw [← Array.toArray_toList (xs := c.argTypes), ht]
    rw [ht'] at hcall
    rw [hcall] at ho
    have hex := exec_copy ho
    split at h
    · rename_i e e' hty hty2
      obtain ⟨rfl, h⟩ := h
      obtain ⟨hu, he, h0⟩ := (hT t (by rw [hty]; simp)).sl_of hty
      unfold semCopy at h
      split at h
      · rename_i hz
        obtain ⟨n, h, hv⟩ := len_slice h
        refine ⟨_, h, fun c act K Q hct hm hb hrd hf hx hK => ?_⟩
        obtain ⟨A, q, ey, _⟩ := hv c _ (hx y)
        have ez : act.eval z = .slice none 0 0 := by have := hx z; rw [hz] at this; simpa [RV, R] using this
        refine val_wp (hex _) (by rw [ey, ez]; exact run_copy0 hu he (by simp)) (hK c _ (Step.refl hm) rfl)
      · rename_i a hz
        obtain ⟨et, n, g, rd, ⟨rfl, h⟩, hseen⟩ := elems_all h
        split at h
        · rename_i hd
          refine ⟨_, h, fun c act K Q hct hm hb hrd hf hx hK => ?_⟩
          obtain ⟨A, q, ez, _⟩ := hseen c _ hct hm hrd (hx z)
          have ey : act.eval y = .slice none 0 0 := by have := hx y; rw [hd] at this; simpa [RV, R] using this
          refine val_wp (hex _) (by rw [ey, ez]; exact run_copy0 hu he (by simp)) (hK c _ (Step.refl hm) rfl)
        · rename_i et' k p ofs l hd
          split at h
          · rename_i τ a hmk
            obtain ⟨rfl, h⟩ := h
            refine ⟨_, h, fun c act K Q hct hm hb hrd hf hx hK => ?_⟩
            have hck := (hrd k (by simp)).trans hmk
            obtain ⟨A, q, ez, hnq, hqm, hA⟩ := hseen c _ hct hm (fun k hk => hrd k (by simp [hk])) (hx z)
            have h1 := hx y
            rw [hd] at h1
            obtain ⟨τ', a', b, N, ge, B, q2, hm1, hbl, hp, hat, hg0, hol, ey, hlq, hqm2, hB⟩ := rv_sub h1
            rw [hck] at hm1; injection hm1 with hm1; injection hm1 with e1 e2
            subst e1; subst e2
            obtain ⟨b', cs, t', hbl', hheap, hr, hs⟩ := hm.rows k _ hck
            rw [hbl] at hbl'; injection hbl' with hbl'; subst hbl'
            obtain ⟨hs2, pre, post, ds, hcut, hpl, hr2⟩ := R_at p hr hs hp
            have hlenp : (τ.at p).len = N := by rw [hat]; rfl
            -- the array as a value
            have hagg : ∃ F, a.at p = .agg true N F := by
              rw [hat] at hs2
              cases hap : a.at p with
              | agg u l f => rw [hap] at hs2; obtain ⟨rfl, rfl, _⟩ := hs2; exact ⟨f, rfl⟩
              | _ => rw [hap] at hs2; exact hs2.elim
            obtain ⟨F, hF⟩ := hagg
            have hFi : (fun i => a.at (p ++ [i])) = F := funext fun i => by rw [avat_app, hF]; exact avat_nil _
            rw [hF] at hr2
            rw [hF, hat] at hs2
            have hs3 : Sh (.agg true N fun _ => E.ty e) (.agg true N F) := ⟨rfl, rfl, fun i hi => by rw [← hg0]; exact hs2.2.2 i hi⟩
            have hss : ∀ f, Sh (.agg true N fun _ => E.ty e) (.agg true N f) → Sh (τ.at p) (.agg true N f) := fun f h => by rw [hat]; exact ⟨rfl, rfl, fun i hi => by have := h.2.2 i hi; rw [← hg0] at this; exact this⟩
            by_cases hmin : min n l = 0
            · -- nothing is copied
              rw [hlenp, hFi, hmin] at hK
              obtain ⟨_, hrs, hshs⟩ := splice_R (o := ofs) (cnt := 0) (g := g) (gg := fun _ => []) hr2 hs3 (by omega) (fun i hi => by omega)
              obtain ⟨hsu, hru⟩ := R_upd p hr hs hp hrs (hss _ hshs)
              have hsame : List.take (τ.off p) cs.toList ++ (ds.take (ofs * (E.ty e).size) ++ (List.range 0).flatMap (fun _ => []) ++ ds.drop (ofs * (E.ty e).size + ((List.range 0).flatMap (fun _ => ([] : List Value))).length)) ++ List.drop (τ.off p + (ds.take (ofs * (E.ty e).size) ++ (List.range 0).flatMap (fun _ => []) ++ ds.drop (ofs * (E.ty e).size + ((List.range 0).flatMap (fun _ => ([] : List Value))).length)).length) cs.toList = cs.toList := by
                rw [← hpl, hcut]; simp
              rw [hsame] at hru
              have hrow : RowOK c k (.var τ (a.upd p (.agg true N (spliceA (E.ty e) F ofs 0 g)))) := ⟨b, cs, t', hbl, hheap, hru, hsu⟩
              have hstab := stab_set (c := c) (key := k) (r := .var τ (a.upd p (.agg true N (spliceA (E.ty e) F ofs 0 g)))) (b := b) (w := c.w) hck (.inl ⟨_, _, _, rfl, rfl⟩) (hm.mu k _ b hck hbl).1 (Nat.le_refl _) (fun b' _ _ => rfl)
              refine val_wp (hex _) (by rw [ey, ez]; exact run_copy0 hu he hmin) (hK (c.setRow k _ c.w) _ (step_set hm hck (.inl ⟨_, _, _, rfl, rfl⟩) hbl (Below.refl _ _) (fun b' _ _ => rfl) ?_) rfl)
              exact ⟨b, cs, t', hbl, hheap, R_stab hstab hru, hsu⟩
            · obtain ⟨sb, so, gg, rfl, hsbl, hgg⟩ := hA (by omega)
              have hB := hB (by omega)
              subst hB
              obtain ⟨c1, c2, c3, c4⟩ := seen_cells (cnt := min n l) hgg (by omega)
              obtain ⟨hfit, hrs, hshs⟩ := splice_R (o := ofs) (cnt := min n l) (g := g) (gg := gg) hr2 hs3 (by omega) (fun i hi => ⟨(hgg i (by omega)).1, (hgg i (by omega)).2.1⟩)
              obtain ⟨hsu, hru⟩ := R_upd p hr hs hp hrs (hss _ hshs)
              have hdl := R_len hr2 hs2
              generalize hD : (List.range (min n l)).flatMap gg = D at *
              have hlist : List.take (τ.off p) cs.toList ++ (ds.take (ofs * (E.ty e).size) ++ D ++ ds.drop (ofs * (E.ty e).size + D.length)) ++ List.drop (τ.off p + (ds.take (ofs * (E.ty e).size) ++ D ++ ds.drop (ofs * (E.ty e).size + D.length)).length) cs.toList = cs.toList.take (τ.off p + ofs * (E.ty e).size) ++ D ++ cs.toList.drop (τ.off p + ofs * (E.ty e).size + D.length) := by
                have hsl : (ds.take (ofs * (E.ty e).size) ++ D ++ ds.drop (ofs * (E.ty e).size + D.length)).length = ds.length := by simp; omega
                rw [hsl, ← hpl, hcut]
                have := splice_mid pre ds post D (ofs * (E.ty e).size) hfit
                rw [← this]
              rw [hlist] at hru
              have hfit2 : τ.off p + ofs * (E.ty e).size + D.length ≤ cs.size := by
                have hl : cs.toList.length = cs.size := by simp
                rw [hcut] at hl; simp at hl; omega
              have hrun := run_copy1 (P := P) hu he (t2 := s') (tt := o.type) (dl := l) (dc := q2) (sl := n) (sc := q) c1 hheap hfit2 c2 c3
              generalize cs.toList.take (τ.off p + ofs * (E.ty e).size) ++ D ++ cs.toList.drop (τ.off p + ofs * (E.ty e).size + D.length) = L at *
              obtain ⟨w', hw'⟩ : ∃ w', w' = c.w.setRow b L.toArray := ⟨_, rfl⟩
              rw [← hw'] at hrun
              rw [hlenp, hFi] at hK
              have hbase := (hm.mu k _ b hck hbl).2.1
              have hstab := stab_set (c := c) (key := k) (r := .var τ (a.upd p (.agg true N (spliceA (E.ty e) F ofs (min n l) g)))) (b := b) (w := w') hck (.inl ⟨_, _, _, rfl, rfl⟩) (hm.mu k _ b hck hbl).1 (by rw [hw']; simp) (fun b' _ hne => by rw [hw']; exact setRow_other c.w b b' _ hne)
              refine val_wp (hex _) (by rw [ey, ez]; exact hrun) (hK (c.setRow k _ w') _ (step_set hm hck (.inl ⟨_, _, _, rfl, rfl⟩) hbl (by rw [hw']; exact setRow_low hbase) (fun b' _ hne => by rw [hw']; exact setRow_other c.w b b' _ hne) ?_) rfl)
              exact ⟨b, L.toArray, t', hbl, by rw [← setRow_heap c.w b cs L.toArray t' (0, 0) hheap, ← hw']; rfl, R_stab hstab hru, hsu⟩
          · exact h.elim
        · rename_i e' k l hd
          split at h
          · rename_i e2 l' f hmk
            obtain ⟨rfl, rfl, h⟩ := h
            refine ⟨_, h, fun c act K Q hct hm hb hrd hf hx hK => ?_⟩
            have hck := (hrd k (by simp)).trans hmk
            obtain ⟨A, q, ez, hnq, hqm, hA⟩ := hseen c _ hct hm (fun k hk => hrd k (by simp [hk])) (hx z)
            have h1 := hx y
            rw [hd] at h1
            obtain ⟨n', f', B, q2, hm1, hl, ey, hq1, hq2, hBs, hcur⟩ := rv_gsl h1
            rw [hck] at hm1; injection hm1 with hm1; injection hm1 with e1 e2 e3
            subst e1; subst e2; subst e3
            obtain ⟨w', hrun, hstep⟩ := copy_grow hu he (t2 := s') (tt := o.type) hct hm (ofs := 0) (l := l') (q2 := q2) (q := q) (B := B) hck (by omega) (fun hl0 => by
              obtain ⟨b, cap, cur, hbl, hsv, _⟩ := grow_parts (hm.rows k _ hck) hl0
              rw [hcur rfl] at hsv; injection hsv with e1 _ _
              exact ⟨b, hbl, by rw [e1, Nat.zero_mul]⟩) hA
            exact val_wp (hex _) (by rw [ey, ez]; exact hrun) (hK _ _ hstep rfl)
          · exact h.elim
        · rename_i e' k al ofs l hd
          split at h
          · rename_i e2 l' f hmk
            obtain ⟨rfl, rfl, h⟩ := h
            refine ⟨_, h, fun c act K Q hct hm hb hrd hf hx hK => ?_⟩
            have hck := (hrd k (by simp)).trans hmk
            obtain ⟨A, q, ez, hnq, hqm, hA⟩ := hseen c _ hct hm (fun k hk => hrd k (by simp [hk])) (hx z)
            have h1 := hx y
            rw [hd] at h1
            obtain ⟨n', f', B, q2, hm1, hl, ey, hq1, hq2, hol, hBs⟩ := rv_gsub h1
            rw [hck] at hm1; injection hm1 with hm1; injection hm1 with e1 e2 e3
            subst e1; subst e2; subst e3
            obtain ⟨w', hrun, hstep⟩ := copy_grow hu he (t2 := s') (tt := o.type) hct hm (ofs := ofs) (l := l) (q2 := q2) (q := q) (B := B) hck (by omega) (fun hl0 => by
              obtain ⟨ad, rfl, hcur⟩ := hBs hl0
              obtain ⟨b, hbl, rfl⟩ := hcur rfl
              rw [hct]
              exact ⟨b, hbl, rfl⟩) hA
            exact val_wp (hex _) (by rw [ey, ez]; exact hrun) (hK _ _ hstep rfl)
          · exact h.elim
        · exact h.elim
    · rename_i e hty hty2
      obtain ⟨hu, he, h0⟩ := (hT t (by rw [hty]; simp)).sl_of hty
      split at h
      · rename_i b hz
        unfold semCopyS at h
        split at h
        · rename_i e' k l hd
          split at h
          · rename_i e2 l' f hmk
            obtain ⟨rfl, rfl, he8, h⟩ := h
            refine ⟨_, h, fun c act K Q hct hm hb hrd hf hx hK => ?_⟩
            have hck := (hrd k (by simp)).trans hmk
            have ez := hx z
            rw [hz] at ez
            have ez := rv_str ez
            have h1 := hx y
            rw [hd] at h1
            obtain ⟨n', f', B, q2, hm1, hl, ey, hq1, hq2, hBs, hcur⟩ := rv_gsl h1
            rw [hck] at hm1; injection hm1 with hm1; injection hm1 with e1 e2 e3
            subst e1; subst e2; subst e3
            obtain ⟨w', hrun, hstep⟩ := copy_str hu he he8 (t2 := s') (tt := o.type) hct hm (ofs := 0) (l := l') (q2 := q2) (B := B) (b := b) hck (by omega) (fun hl0 => by
              obtain ⟨b, cap, cur, hbl, hsv, _⟩ := grow_parts (hm.rows k _ hck) hl0
              rw [hcur rfl] at hsv; injection hsv with e1 _ _
              exact ⟨b, hbl, by rw [e1, Nat.zero_mul]⟩)
            exact val_wp (hex _) (by rw [ey, ez]; exact hrun) (hK _ _ hstep rfl)
          · exact h.elim
        · rename_i e' k al ofs l hd
          split at h
          · rename_i e2 l' f hmk
            obtain ⟨rfl, rfl, he8, h⟩ := h
            refine ⟨_, h, fun c act K Q hct hm hb hrd hf hx hK => ?_⟩
            have hck := (hrd k (by simp)).trans hmk
            have ez := hx z
            rw [hz] at ez
            have ez := rv_str ez
            have h1 := hx y
            rw [hd] at h1
            obtain ⟨n', f', B, q2, hm1, hl, ey, hq1, hq2, hol, hBs⟩ := rv_gsub h1
            rw [hck] at hm1; injection hm1 with hm1; injection hm1 with e1 e2 e3
            subst e1; subst e2; subst e3
            obtain ⟨w', hrun, hstep⟩ := copy_str hu he he8 (t2 := s') (tt := o.type) hct hm (ofs := ofs) (l := l) (q2 := q2) (B := B) (b := b) hck (by omega) (fun hl0 => by
              obtain ⟨ad, rfl, hcur⟩ := hBs hl0
              obtain ⟨b, hbl, rfl⟩ := hcur rfl
              rw [hct]
              exact ⟨b, hbl, rfl⟩)
            exact val_wp (hex _) (by rw [ey, ez]; exact hrun) (hK _ _ hstep rfl)
          · exact h.elim
        · exact h.elim
      · exact h.elim
    · exact h.elim
  · exact h.elim
end
end Go.Proofs.YtldlleoabbcpdaaDoor
/- The builtin append. -/
namespace Go.Proofs.YtldlleoabbcpdaaDoor
open Go.RowKit
def Cx.growRow (c : Cx) (k : Nat) (r : Row) (v : Value) (w : World) : Cx :=
  { c with Mu := fun b => c.Mu b ∨ c.w.heap.size ≤ b, m := putM c.m k r, bl := updN c.bl k v.ownBlock, sv := updN c.sv k v, w := w }
theorem stab_grow {c : Cx} (hm : MemOK c) {k e n n' : Nat} {f f' : Nat → AV} {v : Value} {w : World} (hck : c.m k = some (.grow e n f)) (hn : n ≤ n') (hv : n' = n → v = c.sv k) (hg : c.w.grownBy w (c.sv k).ownBlock) : Stab c (c.growRow k (.grow e n' f') v w) := by
  obtain ⟨xs, hr, hs, hown, hbl⟩ := grow_R (hm.rows k _ hck)
  refine ⟨rfl, Nat.le_refl _, rfl, fun k' τ a hk => ?_, fun k' e1 n1 f1 hk => ?_, fun k' o hk => ?_, fun b hb hmu => ⟨fun hq => ?_, same_old (hg.block b hb (fun hq => hmu ?_))⟩, hg.size⟩
  · have hne : k' ≠ k := fun e => by rw [e, hck] at hk; cases hk
    exact ⟨⟨a, (putM_ne _ _ hne).trans hk⟩, if_neg hne⟩
  · by_cases h : k' = k
    · subst h
      rw [hck] at hk; injection hk with hk; injection hk with e1 e2 e3; subst e1; subst e2; subst e3
      refine ⟨n', f', putM_same _ _ _, hn, fun e => ⟨(if_pos rfl).trans (hv e), (if_pos rfl).trans ?_⟩⟩
      rw [hv e, hbl]
    · exact ⟨n1, f1, (putM_ne _ _ h).trans hk, Nat.le_refl _, fun _ => ⟨if_neg h, if_neg h⟩⟩
  · have hne : k' ≠ k := fun e => by rw [e, hck] at hk; cases hk
    exact ⟨⟨o, (putM_ne _ _ hne).trans hk, .refl⟩, if_neg hne⟩
  · rcases hq with hq | hq
    · exact hmu hq
    · omega
  · exact (hm.mu k _ b hck (by rw [← hbl, ← hq])).1
theorem step_grow {c : Cx} (hm : MemOK c) (hb : c.fb ≤ c.w.heap.size) {k e n n' : Nat} {f f' : Nat → AV} {v : Value} {w : World} (hck : c.m k = some (.grow e n f)) (hn : n ≤ n') (hv : n' = n → v = c.sv k) (hg : c.w.grownBy w (c.sv k).ownBlock)
    (hblk : v.ownBlock = c.bl k ∨ ∀ b, v.ownBlock = some b → c.w.heap.size ≤ b) (hrow : RowOK (c.growRow k (.grow e n' f') v w) k (.grow e n' f')) : Step c [(k, .grow e n' f')] (c.growRow k (.grow e n' f') v w) := by
  have hst := stab_grow (f' := f') hm hck hn hv hg
  obtain ⟨xs, hr, hs, hown, hbl⟩ := grow_R (hm.rows k _ hck)
  have hold : ∀ {k' : Nat} {r' : Row}, k' ≠ k → (c.growRow k (.grow e n' f') v w).m k' = some r' → c.m k' = some r' := fun {k' r'} hk h => by
    have h' : putM c.m k _ k' = some r' := h
    rw [putM_ne _ _ hk] at h'; exact h'
  have hbo : ∀ {k' b' : Nat}, k' ≠ k → (c.growRow k (.grow e n' f') v w).bl k' = some b' → c.bl k' = some b' := fun {k' b'} hk h => by
    have h' : updN c.bl k _ k' = some b' := h
    rw [show updN c.bl k v.ownBlock k' = c.bl k' from if_neg hk] at h'; exact h'
  have hbk : (c.growRow k (.grow e n' f') v w).bl k = v.ownBlock := if_pos rfl
  have hself : ∀ {b : Nat}, v.ownBlock = some b → (c.bl k = some b) ∨ c.w.heap.size ≤ b := fun {b} h => by
    rcases hblk with h1 | h1
    · exact .inl (h1 ▸ h)
    · exact .inr (h1 b h)
  refine ⟨hst, ⟨fun k' r' hk => ?_, fun k1 k2 r1 r2 b' h1 h2 h3 h4 => ?_, fun k' r' b' h1 h2 => ?_, hm.bf⟩, rfl, rfl, rfl, ?_, fun _ _ h => .inl h⟩
  · by_cases h : k' = k
    · subst h
      have hk' : putM c.m k' _ k' = some r' := hk
      rw [putM_at, put1_abs rfl] at hk'; injection hk' with hk'; subst hk'; exact hrow
    · have hk' := hold h hk
      refine RowOK_stab hst (if_neg h) (if_neg h) rfl (fun b' hb' => hg.block b' (row_lt (hm.rows k' r' hk') hb') (fun e => h ?_)) (hm.rows k' r' hk')
      exact hm.inj k' k r' _ b' hk' hck hb' (by rw [← hbl, ← e])
  · by_cases e1 : k1 = k
    · by_cases e2 : k2 = k
      · rw [e1, e2]
      · subst e1
        have q2 := hbo e2 h4
        have hm2 := hold e2 h2
        rw [hbk] at h3
        rcases hself h3 with hq | hq
        · exact (hm.inj k1 k2 _ r2 b' hck hm2 hq q2)
        · have := row_lt (hm.rows k2 r2 hm2) q2; omega
    · by_cases e2 : k2 = k
      · subst e2
        have q1 := hbo e1 h3
        have hm1 := hold e1 h1
        rw [hbk] at h4
        rcases hself h4 with hq | hq
        · exact (hm.inj k1 k2 r1 _ b' hm1 hck q1 hq)
        · have := row_lt (hm.rows k1 r1 hm1) q1; omega
      · exact hm.inj k1 k2 r1 r2 b' (hold e1 h1) (hold e2 h2) (hbo e1 h3) (hbo e2 h4)
  · by_cases e1 : k' = k
    · subst e1
      rw [hbk] at h2
      rcases hself h2 with hq | hq
      · have := hm.mu k' _ b' hck hq; exact ⟨.inl this.1, this.2⟩
      · exact ⟨.inr hq, by show c.base ≤ b'; have := hm.bf; omega, fun _ => by show c.fb ≤ b'; omega⟩
    · have := hm.mu k' r' b' (hold e1 h1) (hbo e1 h2); exact ⟨.inl this.1, this.2⟩
  · refine (Below.refl c.base c.w).grown hg (Nat.le_trans hm.bf hb) (fun b hq => (hm.mu k _ b hck (by rw [← hbl]; exact hq)).2.1)
section
variable {P : Program} {E : Pg} {o : Oper} {x : Operand → AV} {key : Nat} {m : Nat → Option Row} {K : Res → Prop} {t : TypeId}
theorem exec_append {y z : Operand} {t : TypeId} (ho : o.op = .call ⟨.builtin .append, #[y, z], #[t, t]⟩) (ρ : Operand → Value) : execOp ρ o = (do pure (Next.value (← Builtin.append_ #[t, t] o.type #[ρ y, ρ z]))) := by
  obtain ⟨cs, hex⟩ := exec_builtin (ags := [y, z]) (ρ := ρ) ho
  rw [hex]; rfl
/-- Append, whatever it is behind. -/
theorem run_app {e : TypeId} (hu : P.underlying t = some (.slice e)) (he : TyOK P E.ty e) (h0 : 0 < (E.ty e).size) {tt : TypeId} {w : World} {base : Nat} {v : Value} {l n q : Nat} {xs : List Value} {A : Option Addr} {D : List Value} (hown : w.ownsRow base e (E.ty e).size v l xs) (hb : base ≤ w.heap.size)
    (hl : D.length = n * (E.ty e).size) (hA : 0 < n → ∃ b o, A = some ⟨b, o, none⟩ ∧ w.rangeAt b o D) (h1 : ∀ u ∈ D, u.oneCell' = true) (hbnd : l + n ≤ 1000000000) :
    ∃ v' w', (Builtin.append_ #[t, t] tt #[v, .slice A n q]).run P w = .ok v' w' ∧ w'.ownsRow base e (E.ty e).size v' (l + n) (xs ++ D) ∧ w.grownBy w' v.ownBlock ∧ (n = 0 → v' = v) ∧ (v'.ownBlock = v.ownBlock ∨ ∀ b, v'.ownBlock = some b → w.heap.size ≤ b) := by
  obtain ⟨zv, ⟨i, hi, hz, hsz, hby⟩, hzc, _⟩ := he.inf
  have hzs : zv.cells.size = (E.ty e).size := by
    have := R_len (zero_ok (c := Cx.nil) he).1 (zero_ok (c := Cx.nil) he).2
    rw [← hzc] at this; simpa using this
  have hml : l + n ≤ maxLen := by unfold maxLen; omega
  have hbytes : (l + n) * i.bytes ≤ 140737488355328 := by
    have : (l + n) * i.bytes ≤ 1000000000 * 10000 := Nat.mul_le_mul hbnd hby
    omega
  by_cases hn : n = 0
  · subst hn
    have hD : D = [] := List.eq_nil_of_length_eq_zero (by simpa using hl)
    subst hD
    refine ⟨v, w, ?_, by simpa using hown, World.grownBy.refl w _, fun _ => rfl, .inl rfl⟩
    obtain ⟨_, ⟨rfl, rfl⟩ | ⟨g, cap, cur, rfl, _, hh, hlc, _⟩⟩ := hown
    · cases A <;> simp [Builtin.append_, run_underlying hu, sizeOf, typeInfo, hi, Builtin.lenOf, Builtin.firstCells, loadCells, loadCellsFrom, go_sem]
    · cases A <;> simp [Builtin.append_, run_underlying hu, sizeOf, typeInfo, hi, Builtin.lenOf, Builtin.firstCells, loadCells, loadCellsFrom, storeCells, hlc, go_sem]
  · obtain ⟨sb, so, rfl, hrg⟩ := hA (by omega)
    have hnews : ∀ j u, D[j]? = some u → w.cell? ((⟨sb, so, none⟩ : Addr).add j) = some u := fun j u hj => by rw [Addr.add_mid]; exact hrg j u hj
    obtain ⟨v', w', hr, hown', hg, hnil⟩ := run_append_own (P := P) w base t tt e i zv (E.ty e).size i.bytes hu hi hz hsz rfl hzs h0 v l xs hown ⟨sb, so, none⟩ n q D hl hnews h1 hml hbytes hb
    refine ⟨v', w', hr, hown', hg, fun h => absurd h hn, ?_⟩
    obtain ⟨hxl, ⟨rfl, rfl⟩ | ⟨g, cap, cur, rfl, hbg, hh, hlc, hcm, hcs, htk⟩⟩ := hown
    · right
      have hxs : xs = [] := List.eq_nil_of_length_eq_zero (by simpa using hxl)
      subst hxs
      obtain ⟨v2, w2, hr2, hown2, _, _⟩ := run_append_own (P := P) w w.heap.size t tt e i zv (E.ty e).size i.bytes hu hi hz hsz rfl hzs h0 _ 0 [] (World.ownsRow_nil _ _ _ _) ⟨sb, so, none⟩ n q D hl hnews h1 hml hbytes (Nat.le_refl _)
      rw [hr] at hr2; injection hr2 with e1 e2; subst e1
      intro b hq
      exact (hown2.lt b hq).1
    · by_cases hroom : l + n ≤ cap
      · left
        have hfit : l * i.size + D.length ≤ cur.size := by rw [hl, hcs, hsz, ← Nat.add_mul]; exact Nat.mul_le_mul_right _ hroom
        have hr2 := run_append_room (P := P) w t tt e i hu hi g l cap cur hh ⟨sb, so, none⟩ n q D (by rw [hsz]; exact hl) hnews h1 hroom hfit
        rw [hr] at hr2; injection hr2 with e1 e2; subst e1; rfl
      · right
        have holds : ∀ j u, xs[j]? = some u → w.cell? ((⟨g, 0, none⟩ : Addr).add j) = some u := (show w.ownsRow base e (E.ty e).size (.slice (some ⟨g, 0, none⟩) l cap) l xs from ⟨hxl, .inr ⟨g, cap, cur, rfl, hbg, hh, hlc, hcm, hcs, htk⟩⟩).cells (g := g) rfl
        have hr2 := run_append_grow (P := P) w t tt e i zv hu hi hz ⟨g, 0, none⟩ l cap xs (by rw [hsz]; exact hxl) holds ⟨sb, so, none⟩ n q D (by rw [hsz]; exact hl) hnews (by omega) (by omega) (growslice_fits (by omega) hbytes)
        rw [hr] at hr2; injection hr2 with e1 e2; subst e1
        intro b hq
        have : w.heap.size = b := by simpa [Value.ownBlock] using hq
        omega
theorem run_app_full {e : TypeId} (hu : P.underlying t = some (.slice e)) (he : TyOK P E.ty e) (h0 : 0 < (E.ty e).size) {tt : TypeId} {w : World} {l n q b o sb so : Nat} {xs D : List Value} (hlo : xs.length = l * (E.ty e).size) (hx : w.rangeAt b o xs)
    (hl : D.length = n * (E.ty e).size) (hs : w.rangeAt sb so D) (hn : 0 < n) (hbnd : l + n ≤ 1000000000) :
    ∃ v' w', (Builtin.append_ #[t, t] tt #[.slice (some ⟨b, o, none⟩) l l, .slice (some ⟨sb, so, none⟩) n q]).run P w = .ok v' w' ∧ w'.ownsRow w.heap.size e (E.ty e).size v' (l + n) (xs ++ D) ∧ w.grownBy w' none := by
  obtain ⟨zv, ⟨i, hi, hz, hsz, hby⟩, hzc, _⟩ := he.inf
  have hzs : zv.cells.size = (E.ty e).size := by
    have := R_len (zero_ok (c := Cx.nil) he).1 (zero_ok (c := Cx.nil) he).2
    rw [← hzc] at this; simpa using this
  have hml : l + n ≤ maxLen := by unfold maxLen; omega
  have hbytes : (l + n) * i.bytes ≤ 140737488355328 := by
    have : (l + n) * i.bytes ≤ 1000000000 * 10000 := Nat.mul_le_mul hbnd hby
    omega
  have hr := run_append_grow (P := P) w t tt e i zv hu hi hz ⟨b, o, none⟩ l l xs (by rw [hsz]; exact hlo) (fun j v hj => by rw [Addr.add_mid]; exact hx j v hj) ⟨sb, so, none⟩ n q D (by rw [hsz]; exact hl) (fun j v hj => by rw [Addr.add_mid]; exact hs j v hj) (by omega) (by omega) (growslice_fits (by omega) hbytes)
  have hlen : (xs ++ D).length = (l + n) * (E.ty e).size := by rw [List.length_append, hlo, hl, Nat.add_mul]
  have hge := grownCap_ge w (l + n) l e
  refine ⟨_, _, hr, ⟨hlen, .inr ⟨w.heap.size, _, _, rfl, Nat.le_refl _, heap_alloc_new w.drew _, hge, grownCap_le_maxLen w (l + n) l e hml, ?_, ?_⟩⟩, ⟨rfl, rfl, rfl, by simp, fun k hk _ => heap_alloc_old w.drew _ hk⟩⟩
  · simp only [Array.size_append, List.size_toArray, size_zeroCells, hzs, hlo, hl, ← Nat.add_mul]
    congr 1
    omega
  · simp only [Array.toList_append, List.append_assoc]
    rw [← List.append_assoc, ← hlen]
    exact List.take_left
theorem seen_app {c : Cx} {et : Ty} {n : Nat} {g : Nat → AV} {A : Option Addr} (hA : 0 < n → ∃ (b o : Nat) (gg : Nat → List Value), A = some ⟨b, o, none⟩ ∧ b < c.w.heap.size ∧ ∀ i, i < n → Sh et (g i) ∧ R c (g i) (gg i) ∧ c.w.rangeAt b (o + i * et.size) (gg i)) :
    ∃ gg : Nat → List Value, ((List.range n).flatMap gg).length = n * et.size ∧ (∀ i, i < n → Sh et (g i) ∧ R c (g i) (gg i)) ∧ (0 < n → ∃ b o, A = some ⟨b, o, none⟩ ∧ c.w.rangeAt b o ((List.range n).flatMap gg)) ∧ ∀ u ∈ (List.range n).flatMap gg, u.oneCell' = true := by
  by_cases hn : n = 0
  · subst hn
    exact ⟨fun _ => [], by simp, fun i hi => by omega, fun h => by omega, by simp⟩
  · obtain ⟨b, o, gg, e, _, h⟩ := hA (by omega)
    obtain ⟨c1, c2, c3, c4⟩ := seen_cells (cnt := n) h (Nat.le_refl _)
    exact ⟨gg, c1, fun i hi => ⟨(h i hi).1, (h i hi).2.1⟩, fun _ => ⟨b, o, e, c2⟩, c3⟩
theorem zeroCells_list (z : Array Value) : ∀ n, (Builtin.zeroCells z n).toList = (List.range n).flatMap fun _ => z.toList
  | 0 => by simp [Builtin.zeroCells]
  | n + 1 => by
    have ih := zeroCells_list z n
    simp only [Builtin.zeroCells, Array.toList_map, Array.toList_range] at ih ⊢
    rw [List.range_succ, List.flatMap_append, ← ih, Nat.add_mul, Nat.one_mul, List.range_add, List.map_append]
    congr 1
    apply List.ext_getElem
    · simp
    · intro i h1 h2
      have hi : i < z.size := by simpa using h1
      have hm : (n * z.size + i) % z.size = i := by rw [Nat.mul_comm, Nat.mul_add_mod, Nat.mod_eq_of_lt hi]
      simp [hm, hi]
theorem run_append_room_zeros {P : Program} (w : World) (t tn ty e : TypeId) (i : TypeInfo) (z : Value) (kq kn : IntKind) (ht : P.underlying t = some (.slice e)) (htn : P.underlying tn = some (.int kn)) (hi : P.info? e = some i) (hz : i.zero = some z) (hs : 0 < i.size)
    (g sLen sCap n : Nat) (cur : Array Value) (hg : w.heap[g]? = some (.cells cur e (0, 0))) (h0 : 0 < n) (h63 : (n : Int) ≤ 9223372036854775807) (h48 : n * i.bytes ≤ 281474976710656) (hroom : sLen + n ≤ sCap)
    (h1 : ∀ u ∈ (Builtin.zeroCells z.cells n).toList, u.oneCell' = true) (hfit : sLen * i.size + (Builtin.zeroCells z.cells n).toList.length ≤ cur.size) :
    (Builtin.append_ #[t, tn] ty #[.slice (some ⟨g, 0, none⟩) sLen sCap, .int kq n]).run P w =
      .ok (.slice (some ⟨g, 0, none⟩) (sLen + n) sCap) (w.setRow g (cur.toList.take (sLen * i.size) ++ (Builtin.zeroCells z.cells n).toList ++ cur.toList.drop (sLen * i.size + (Builtin.zeroCells z.cells n).toList.length)).toArray) := by
  have hst := run_storeCells_at P g (sLen * i.size) e (Builtin.zeroCells z.cells n).toList 0 cur w hg (by simpa using hfit) h1
  simp only [Nat.add_zero] at hst
  have hn : n ≠ 0 := by omega
  have hw : IntKind.i64.wrap (n : Int) = n := by rw [IntKind.wrap_i64]; omega
  have h48i : ¬ (281474976710656 < (n : Int) * (i.bytes : Int)) := by
    rw [← Int.natCast_mul]
    omega
  have hneg : ¬ ((n : Int) < 0) := by omega
  have hns : ¬ (n * i.size = 0) := Nat.mul_ne_zero hn (by omega)
  simp [Builtin.append_, run_underlying ht, run_underlying htn, sizeOf, typeInfo, zeroValue, hi, hz, asInt, asIntOf, hw, hn, hneg, hns, h48i, hroom, Addr.add_lit, hst]
/-- Append of noughts, whatever it is behind. -/
theorem run_appN {e t' : TypeId} {kn kq : IntKind} (hu : P.underlying t = some (.slice e)) (hun : P.underlying t' = some (.int kn)) (he : TyOK P E.ty e) (h0 : 0 < (E.ty e).size) {tt : TypeId} {w : World} {base : Nat} {v : Value} {l n : Nat} {xs : List Value} (hown : w.ownsRow base e (E.ty e).size v l xs) (hb : base ≤ w.heap.size) (hbnd : l + n ≤ 1000000000) :
    ∃ v' w', (Builtin.append_ #[t, t'] tt #[v, .int kq n]).run P w = .ok v' w' ∧ w'.ownsRow base e (E.ty e).size v' (l + n) (xs ++ (List.range n).flatMap fun _ => (E.ty e).zc) ∧ w.grownBy w' v.ownBlock ∧ (n = 0 → v' = v) ∧ (v'.ownBlock = v.ownBlock ∨ ∀ b, v'.ownBlock = some b → w.heap.size ≤ b) := by
  obtain ⟨zv, ⟨i, hi, hz, hsz, hby⟩, hzc, _⟩ := he.inf
  have hf := R_facts (zero_ok (c := Cx.nil) he).1 (zero_ok (c := Cx.nil) he).2
  have hzs : zv.cells.size = (E.ty e).size := by
    have := hf.1
    rw [← hzc] at this; simpa using this
  have hml : l + n ≤ maxLen := by unfold maxLen; omega
  have hnb : n * i.bytes ≤ 1000000000 * 10000 := Nat.mul_le_mul (by omega) hby
  have hbytes : (l + n) * i.bytes ≤ 140737488355328 := by
    have : (l + n) * i.bytes ≤ 1000000000 * 10000 := Nat.mul_le_mul hbnd hby
    omega
  have hDl : (Builtin.zeroCells zv.cells n).toList = (List.range n).flatMap fun _ => (E.ty e).zc := by rw [zeroCells_list, hzc]
  have hDn : (Builtin.zeroCells zv.cells n).toList.length = n * (E.ty e).size := by rw [Array.length_toList, size_zeroCells, hzs]
  have hD1 : ∀ u ∈ (Builtin.zeroCells zv.cells n).toList, u.oneCell' = true := by
    rw [hDl]
    intro u hu
    obtain ⟨_, _, h⟩ := List.mem_flatMap.1 hu
    exact hf.2 u h
  rw [← hDl]
  by_cases hn : n = 0
  · subst hn
    have hD : (Builtin.zeroCells zv.cells 0).toList = [] := List.eq_nil_of_length_eq_zero (by rw [hDn, Nat.zero_mul])
    rw [hD]
    refine ⟨v, w, ?_, by simpa using hown, World.grownBy.refl w _, fun _ => rfl, .inl rfl⟩
    have hw0 : IntKind.i64.wrap 0 = 0 := by rw [IntKind.wrap_i64]; omega
    obtain ⟨_, ⟨rfl, rfl⟩ | ⟨g, cap, cur, rfl, _, hh, hlc, _⟩⟩ := hown
    · simp [Builtin.append_, run_underlying hu, run_underlying hun, sizeOf, typeInfo, hi, asInt, asIntOf, hw0, go_sem]
    · simp [Builtin.append_, run_underlying hu, run_underlying hun, sizeOf, typeInfo, hi, asInt, asIntOf, hw0, storeCells, hlc, go_sem]
  · have hlen : (xs ++ (Builtin.zeroCells zv.cells n).toList).length = (l + n) * (E.ty e).size := by rw [List.length_append, hown.1, hDn, Nat.add_mul]
    have grown : ∀ (old : Nat), old < l + n → ∀ (row : Option Nat),
        (w.drew.alloc (.cells (xs.toArray ++ Builtin.zeroCells zv.cells n ++ Builtin.zeroCells zv.cells (grownCap w (l + n) old e - (l + n))) e)).ownsRow base e (E.ty e).size
          (.slice (some ⟨w.heap.size, 0, none⟩) (l + n) (grownCap w (l + n) old e)) (l + n) (xs ++ (Builtin.zeroCells zv.cells n).toList) ∧
        w.grownBy (w.drew.alloc (.cells (xs.toArray ++ Builtin.zeroCells zv.cells n ++ Builtin.zeroCells zv.cells (grownCap w (l + n) old e - (l + n))) e)) row := by
      intro old ho row
      have hge := grownCap_ge w (l + n) old e
      have hcm : grownCap w (l + n) old e ≤ maxLen := grownCap_le_maxLen w (l + n) old e hml
      refine ⟨⟨hlen, .inr ⟨w.heap.size, _, _, rfl, hb, heap_alloc_new w.drew _, hge, hcm, ?_, ?_⟩⟩, ⟨rfl, rfl, rfl, by simp, fun k hk _ => heap_alloc_old w.drew _ hk⟩⟩
      · simp only [Array.size_append, List.size_toArray, size_zeroCells, hzs, hown.1, ← Nat.add_mul]
        congr 1
        omega
      · simp only [Array.toList_append, List.append_assoc]
        rw [← List.append_assoc, ← hlen]
        exact List.take_left
    obtain ⟨hxl, ⟨rfl, rfl⟩ | ⟨g, cap, cur, rfl, hbg, hh, hlc, hcm, hcs, htk⟩⟩ := hown
    · have hxs : xs = [] := List.eq_nil_of_length_eq_zero (by simpa using hxl)
      subst hxs
      have hg := grown 0 (by omega) none
      simp only [Nat.zero_add, List.nil_append, Array.empty_append] at hg ⊢
      exact ⟨_, _, Go.Lib.run_append_nil_zeros (P := P) w t t' tt e i zv kq kn hu hun hi hz n (by omega) (by omega) (by omega) (by omega), hg.1, hg.2, fun h => absurd h hn, .inr fun b hq => by
        have : w.heap.size = b := by simpa [Value.ownBlock] using hq
        omega⟩
    · by_cases hroom : l + n ≤ cap
      · have hfit : l * i.size + (Builtin.zeroCells zv.cells n).toList.length ≤ cur.size := by rw [hDn, hcs, hsz, ← Nat.add_mul]; exact Nat.mul_le_mul_right _ hroom
        have hr := run_append_room_zeros (P := P) w t t' tt e i zv kq kn hu hun hi hz (by omega) g l cap n cur hh (by omega) (by omega) (by omega) hroom hD1 hfit
        rw [hsz] at hr hfit
        refine ⟨_, _, hr, ⟨hlen, .inr ⟨g, cap, _, rfl, hbg, setRow_heap w g cur _ e _ hh, hroom, hcm, ?_, ?_⟩⟩, ⟨rfl, rfl, rfl, by simp, fun k _ hk => setRow_other w g k _ (fun e => hk (by simp [Value.ownBlock, e]))⟩, fun h => absurd h hn, .inl rfl⟩
        · simp only [List.size_toArray, List.length_append, List.length_take, List.length_drop, Array.length_toList]
          simp only [Array.length_toList] at hfit
          omega
        · rw [htk, ← hlen]
          exact List.take_left
      · have holds : ∀ j u, xs[j]? = some u → w.cell? ((⟨g, 0, none⟩ : Addr).add j) = some u := (show w.ownsRow base e (E.ty e).size (.slice (some ⟨g, 0, none⟩) l cap) l xs from ⟨hxl, .inr ⟨g, cap, cur, rfl, hbg, hh, hlc, hcm, hcs, htk⟩⟩).cells (g := g) rfl
        have hf2 := run_firstCells_some (P := P) w.drew i.size l ⟨g, 0, none⟩ l cap xs (by rw [hsz]; exact hxl) holds
        have hg := grown cap (by omega) (Value.ownBlock (.slice (some ⟨g, 0, none⟩) l cap))
        exact ⟨_, _, Go.Lib.run_append_grow_zeros (P := P) w t t' tt e i zv kq kn hu hun hi hz (some ⟨g, 0, none⟩) l cap xs hf2 n (by omega) (by omega) (by omega) (by omega) (by omega) (growslice_fits (by omega) hbytes), hg.1, hg.2, fun h => absurd h hn, .inr fun b hq => by
          have : w.heap.size = b := by simpa [Value.ownBlock] using hq
          omega⟩
theorem s_appendN (hT : TysOK P E.ty) {y z : Operand} {t' e : TypeId} (ho : o.op = .call ⟨.builtin .append, #[y, z], #[t, t']⟩) (hty : E.ty t = .sl e) (hty2 : E.ty t' = .int .i64) (h : semAppendN m E.ty key e (x y) (x z) K) : ∃ r, K r ∧ Valid P E.ty o x key m r := by
  obtain ⟨hu, he, h0⟩ := (hT t (by rw [hty]; simp)).sl_of hty
  have hun := (hT t' (by rw [hty2]; simp)).int_und hty2
  unfold semAppendN at h
  split at h
  · rename_i hd
    split at h
    · rename_i n hz
      obtain ⟨hn0, hbn, h⟩ := h
      unfold bnd at hbn
      refine ⟨_, h, fun c act K Q hct hm hb hrd hf hx hK => ?_⟩
      have ey : act.eval y = .slice none 0 0 := by have := hx y; rw [hd] at this; simpa [RV, R] using this
      have ez : act.eval z = .int .i64 n := by have := hx z; rw [hz] at this; simpa [RV, R] using this
      obtain ⟨zv, ⟨i, hi, hzr, hsz, hby⟩, hzc, _⟩ := he.inf
      have hzs : zv.cells.size = (E.ty e).size := by
        have := R_len (zero_ok (c := Cx.nil) he).1 (zero_ok (c := Cx.nil) he).2
        rw [← hzc] at this; simpa using this
      have hex : execOp act.eval o = (do pure (Next.value (← Builtin.append_ #[t, t'] o.type #[act.eval y, act.eval z]))) := by
        obtain ⟨cs, hex⟩ := exec_builtin (ags := [y, z]) (ρ := act.eval) ho
        rw [hex]; rfl
      have hbytes : n * i.bytes ≤ 281474976710656 := by
        have : n * i.bytes ≤ 1000000000 * 10000 := Nat.mul_le_mul hbn hby
        omega
      have hrun := Go.Lib.run_append_nil_zeros (P := P) c.w t t' o.type e i zv .i64 .i64 hu hun hi hzr n hn0 (by omega) (by omega) hbytes
      have hge := grownCap_ge c.w n 0 e
      have hmx := grownCap_le_maxLen c.w n 0 e (by unfold maxLen; omega)
      obtain ⟨q, hq⟩ : ∃ q, q = grownCap c.w n 0 e := ⟨_, rfl⟩
      rw [← hq] at hrun hge hmx
      obtain ⟨cells, hcells⟩ : ∃ cells, cells = Builtin.zeroCells zv.cells n ++ Builtin.zeroCells zv.cells (q - n) := ⟨_, rfl⟩
      rw [← hcells] at hrun
      have hcs : cells.size = q * (E.ty e).size := by
        rw [hcells, Array.size_append, size_zeroCells, size_zeroCells, hzs, ← Nat.add_mul]
        congr 1; omega
      have hg : c.w.grownBy (c.w.drew.alloc (.cells cells e)) none := ⟨rfl, rfl, rfl, by simp, fun k hk _ => heap_alloc_old c.w.drew _ hk⟩
      have hlow : Below c.w.heap.size c.w (c.w.drew.alloc (.cells cells e)) := (Below.refl _ _).grown hg (Nat.le_refl _) (fun k hk => by cases hk)
      have hown : (c.w.drew.alloc (.cells cells e)).ownsRow c.base e (E.ty e).size (.slice (some ⟨c.w.heap.size, 0, none⟩) 0 q) 0 [] := World.ownsRow_made c.w.drew cells q (Nat.le_trans hm.bf hb) hmx hcs
      have hfk := hf key (Nat.le_refl _) (by omega)
      refine val_wp (v := .slice (some ⟨c.w.heap.size, 0, none⟩) n q) hex (by rw [ey, ez]; exact hrun) (hK (c.addRow key (.grow e 0 fun _ => .junk) (some c.w.heap.size) (.slice (some ⟨c.w.heap.size, 0, none⟩) 0 q) (c.w.drew.alloc (.cells cells e))) _ (step_add hm hb hfk hlow (fun b hb => by injection hb with hb; omega) ⟨fun _ => [], ?_, ?_, fun i hi => absurd hi (by omega)⟩) ?_)
      · rw [show (c.addRow key (.grow e 0 fun _ => .junk) (some c.w.heap.size) (.slice (some ⟨c.w.heap.size, 0, none⟩) 0 q) (c.w.drew.alloc (.cells cells e))).sv key = _ from if_pos rfl, show (c.addRow key (.grow e 0 fun _ => .junk) (some c.w.heap.size) (.slice (some ⟨c.w.heap.size, 0, none⟩) 0 q) (c.w.drew.alloc (.cells cells e))).ty = E.ty from hct]
        exact hown
      · rw [show (c.addRow key (.grow e 0 fun _ => .junk) (some c.w.heap.size) (.slice (some ⟨c.w.heap.size, 0, none⟩) 0 q) (c.w.drew.alloc (.cells cells e))).sv key = _ from if_pos rfl, show (c.addRow key (.grow e 0 fun _ => .junk) (some c.w.heap.size) (.slice (some ⟨c.w.heap.size, 0, none⟩) 0 q) (c.w.drew.alloc (.cells cells e))).bl key = _ from if_pos rfl]
        rfl
      · exact ⟨0, _, _, q, putM_same _ _ _, rfl, hge, hmx, fun _ => if_pos rfl⟩
    · exact h.elim
  · rename_i e' k l hd
    split at h
    · rename_i e2 l' f hmk
      obtain ⟨n, ⟨rfl, rfl, hbn, h⟩, hn⟩ := idx_all h
      unfold bnd at hbn
      refine ⟨_, h, fun c act K Q hct hm hb hrd hf hx hK => ?_⟩
      have hck := (hrd k (by simp)).trans hmk
      obtain ⟨kq, ez⟩ := hn c _ (hx z)
      have hex : execOp act.eval o = (do pure (Next.value (← Builtin.append_ #[t, t'] o.type #[act.eval y, act.eval z]))) := by
        obtain ⟨cs, hex⟩ := exec_builtin (ags := [y, z]) (ρ := act.eval) ho
        rw [hex]; rfl
      have h1 := hx y
      rw [hd] at h1
      obtain ⟨n', f', B, q2, hm1, hl, ey, hq1, hq2, hBs, hcur⟩ := rv_gsl h1
      rw [hck] at hm1; injection hm1 with hm1; injection hm1 with e1 e2 e3
      subst e1; subst e2; subst e3
      obtain ⟨xs, hr, hs, hown, hbl⟩ := grow_R (hm.rows k _ hck)
      rw [hct] at hs hown
      have hsv := hcur rfl
      rw [← ey] at hsv
      have hz0 := zero_ok (c := c) he
      obtain ⟨v', w', hrun, hown', hg, hv0, hblk⟩ := run_appN (tt := o.type) (kq := kq) hu hun he h0 hown (Nat.le_trans hm.bf hb) hbn
      rw [hbl] at hblk
      rw [hsv] at hrun
      have hst := stab_grow (f' := joinA (E.ty e2) f l' fun _ => (E.ty e2).zero) (n' := l' + n) (v := v') (w := w') hm hck (by omega) (fun e => hv0 (by omega)) hg
      obtain ⟨hx1, hx2, rfl⟩ := hr
      have hj := joinA_eq (τ := E.ty e2) (f := f) (g := fun _ => (E.ty e2).zero) (l := l') (n := n) (fun j hj => hs.2.2 j hj) (fun j hj => hz0.2)
      have hR : R c (.agg true (l' + n) (joinA (E.ty e2) f l' fun _ => (E.ty e2).zero)) ((List.range l').flatMap hx1 ++ (List.range n).flatMap fun _ => (E.ty e2).zc) := by
        refine ⟨fun i => if i < l' then hx1 i else (E.ty e2).zc, fun i hi => ?_, ?_⟩
        · rw [hj i hi]
          by_cases hc : i < l'
          · simp only [hc, if_true]; exact hx2 i hc
          · simp only [hc, if_false]; exact hz0.1
        · rw [fm_add]
          congr 1
          · exact fm_congr l' (fun i hi => (if_pos hi).symm)
          · exact fm_congr n (fun i hi => by rw [if_neg (by omega)])
      have hS : Sh (.agg true (l' + n) fun _ => E.ty e2) (.agg true (l' + n) (joinA (E.ty e2) f l' fun _ => (E.ty e2).zero)) := ⟨rfl, rfl, fun i hi => by
        rw [hj i hi]
        by_cases hc : i < l'
        · rw [if_pos hc]; exact hs.2.2 i hc
        · rw [if_neg hc]; exact hz0.2⟩
      have hsv2 : (c.growRow k (.grow e2 (l' + n) (joinA (E.ty e2) f l' fun _ => (E.ty e2).zero)) v' w').sv k = v' := if_pos rfl
      have hbl2 : (c.growRow k (.grow e2 (l' + n) (joinA (E.ty e2) f l' fun _ => (E.ty e2).zero)) v' w').bl k = v'.ownBlock := if_pos rfl
      refine val_wp hex (by rw [ez]; exact hrun) (hK _ _ (step_grow hm hb hck (by omega) (fun e => hv0 (by omega)) hg hblk (R_grow (R_stab hst hR) (by rw [show (c.growRow k _ v' w').ty = E.ty from hct]; exact hS) (by rw [hsv2, show (c.growRow k _ v' w').ty = E.ty from hct]; exact hown') (by rw [hsv2, hbl2]))) ?_)
      obtain ⟨_, ⟨a1, a2⟩ | ⟨gb, cap, cur, rfl, _, _, r3, r4, _⟩⟩ := hown'
      · subst a1
        exact ⟨l' + n, _, none, 0, putM_same _ _ _, Nat.le_refl _, by rw [a2], by omega, Nat.zero_le _, fun h => by omega, fun _ => by rw [hsv2, a2]⟩
      · exact ⟨l' + n, _, _, cap, putM_same _ _ _, Nat.le_refl _, rfl, r3, r4, fun _ => ⟨_, rfl⟩, fun _ => hsv2⟩
    · exact h.elim
  · exact h.elim
theorem s_append (hT : TysOK P E.ty) {c : Call} (ho : o.op = .call c) (hc : c.callee = .builtin .append) (h : sem E m key x (.call c) K) : ∃ r, K r ∧ Valid P E.ty o x key m r := by
  simp only [sem, semG, hc] at h
  split at h
  · rename_i y z t t' hy ht
    have hcall := call_of hc hy
    have ht' : c.argTypes = #[t, t'] := by rw [← Array.toArray_toList (xs := c.argTypes), ht]
    rw [ht'] at hcall
    rw [hcall] at ho
    split at h
    · rename_i e hty
      split at h
      · rename_i hty2
        exact s_appendN hT ho hty hty2 h
      obtain ⟨rfl, h⟩ := h
      have hex := exec_append ho
      obtain ⟨hu, he, h0⟩ := (hT t (by rw [hty]; simp)).sl_of hty
      unfold semAppend at h
      split at h
      · rename_i hz
        obtain ⟨n, ⟨hbn, h⟩, hv⟩ := len_slice h
        refine ⟨_, h, fun c act K Q hct hm hb hrd hf hx hK => ?_⟩
        obtain ⟨A, q, ey, hnq⟩ := hv c _ (hx y)
        obtain ⟨zv, ⟨i, hi, _⟩, _⟩ := he.inf
        have ez : act.eval z = .slice none 0 0 := by have := hx z; rw [hz] at this; simpa [RV, R] using this
        refine val_wp (v := act.eval y) (hex _) ?_ (hK c _ (Step.refl hm) (hx y))
        rw [ey, ez]
        cases A <;> simp [Builtin.append_, run_underlying hu, sizeOf, typeInfo, hi, Builtin.lenOf, Builtin.firstCells, storeCells, hnq]
      · rename_i a hz
        obtain ⟨et, n, g, rd, ⟨rfl, h⟩, hseen⟩ := elems_all h
        split at h
        · rename_i hd
          obtain ⟨hbn, h⟩ := h
          unfold bnd at hbn
          refine ⟨_, h, fun c act K Q hct hm hb hrd hf hx hK => ?_⟩
          obtain ⟨A, q, ez, hnq, hqm, hA⟩ := hseen c _ hct hm hrd (hx z)
          have ey : act.eval y = .slice none 0 0 := by have := hx y; rw [hd] at this; simpa [RV, R] using this
          obtain ⟨gg, d1, d2, d3, d4⟩ := seen_app hA
          obtain ⟨v', w', hrun, hown', hg, hv0, hblk⟩ := run_app (tt := o.type) (q := q) hu he h0 (World.ownsRow_nil c.w c.w.heap.size e _) (Nat.le_refl _) d1 d3 d4 (by omega)
          rw [Nat.zero_add, List.nil_append] at hown'
          have hnone : Value.ownBlock (.slice none 0 0) = none := rfl
          have hlow : Below c.w.heap.size c.w w' := (Below.refl _ _).grown hg (Nat.le_refl _) (fun k hk => by rw [hnone] at hk; cases hk)
          have hbl : ∀ b, v'.ownBlock = some b → c.w.heap.size ≤ b := fun b hq => (hown'.lt b hq).1
          have hst := stab_add (c := c) (key := key) (r := .grow e n g) (bl := v'.ownBlock) (sv := v') (w := w') (hf key (Nat.le_refl _) (by omega)) hlow.size hlow.block
          have hsv : (c.addRow key (.grow e n g) v'.ownBlock v' w').sv key = v' := if_pos rfl
          have hblk : (c.addRow key (.grow e n g) v'.ownBlock v' w').bl key = v'.ownBlock := if_pos rfl
          have hown2 : w'.ownsRow c.base e (E.ty e).size v' n ((List.range n).flatMap gg) := by
            obtain ⟨a1, a2 | ⟨gb, cap, cur, r1, r2, r3⟩⟩ := hown'
            · exact ⟨a1, .inl a2⟩
            · exact ⟨a1, .inr ⟨gb, cap, cur, r1, by have := hm.bf; omega, r3⟩⟩
          refine val_wp (hex _) (by rw [ey, ez]; exact hrun) (hK _ _ (step_add hm hb (hf key (Nat.le_refl _) (by omega)) hlow hbl (R_grow (xs := (List.range n).flatMap gg) (R_stab hst ⟨gg, fun i hi => (d2 i hi).2, rfl⟩) ⟨rfl, rfl, fun i hi => by rw [show (c.addRow key (.grow e n g) v'.ownBlock v' w').ty = E.ty from hct]; exact (d2 i hi).1⟩ (by rw [hsv, show (c.addRow key (.grow e n g) v'.ownBlock v' w').ty = E.ty from hct]; exact hown2) (by rw [hsv, hblk]))) ?_)
          obtain ⟨_, ⟨a1, a2⟩ | ⟨gb, cap, cur, rfl, _, _, r3, r4, _⟩⟩ := hown2
          · subst a1
            exact ⟨n, g, none, 0, putM_same _ _ _, Nat.le_refl _, by rw [a2], by omega, Nat.zero_le _, fun h => by omega, fun _ => by rw [hsv, a2]⟩
          · exact ⟨n, g, _, cap, putM_same _ _ _, Nat.le_refl _, rfl, r3, r4, fun _ => ⟨_, rfl⟩, fun _ => hsv⟩
        · rename_i e' k l hd
          split at h
          · rename_i e2 l' f hmk
            obtain ⟨rfl, rfl, hbn, h⟩ := h
            unfold bnd at hbn
            refine ⟨_, h, fun c act K Q hct hm hb hrd hf hx hK => ?_⟩
            have hck := (hrd k (by simp)).trans hmk
            obtain ⟨A, q, ez, hnq, hqm, hA⟩ := hseen c _ hct hm (fun k hk => hrd k (by simp [hk])) (hx z)
            have h1 := hx y
            rw [hd] at h1
            obtain ⟨n', f', B, q2, hm1, hl, ey, hq1, hq2, hBs, hcur⟩ := rv_gsl h1
            rw [hck] at hm1; injection hm1 with hm1; injection hm1 with e1 e2 e3
            subst e1; subst e2; subst e3
            obtain ⟨xs, hr, hs, hown, hbl⟩ := grow_R (hm.rows k _ hck)
            rw [hct] at hs hown
            have hsv := hcur rfl
            rw [← ey] at hsv
            obtain ⟨gg, d1, d2, d3, d4⟩ := seen_app hA
            obtain ⟨v', w', hrun, hown', hg, hv0, hblk⟩ := run_app (tt := o.type) (q := q) hu he h0 hown (Nat.le_trans hm.bf hb) d1 d3 d4 hbn
            rw [hbl] at hblk
            rw [hsv] at hrun
            have hst := stab_grow (f' := joinA (E.ty e2) f l' g) (n' := l' + n) (v := v') (w := w') hm hck (by omega) (fun e => hv0 (by omega)) hg
            obtain ⟨hx1, hx2, rfl⟩ := hr
            have hj := joinA_eq (τ := E.ty e2) (f := f) (g := g) (l := l') (n := n) (fun j hj => hs.2.2 j hj) (fun j hj => (d2 j hj).1)
            have hR : R c (.agg true (l' + n) (joinA (E.ty e2) f l' g)) ((List.range l').flatMap hx1 ++ (List.range n).flatMap gg) := by
              refine ⟨fun i => if i < l' then hx1 i else gg (i - l'), fun i hi => ?_, ?_⟩
              · rw [hj i hi]
                by_cases hc : i < l'
                · simp only [hc, if_true]; exact hx2 i hc
                · simp only [hc, if_false]; exact (d2 (i - l') (by omega)).2
              · rw [fm_add]
                congr 1
                · exact fm_congr l' (fun i hi => (if_pos hi).symm)
                · exact fm_congr n (fun i hi => by rw [if_neg (by omega), Nat.add_sub_cancel_left])
            have hS : Sh (.agg true (l' + n) fun _ => E.ty e2) (.agg true (l' + n) (joinA (E.ty e2) f l' g)) := ⟨rfl, rfl, fun i hi => by
              rw [hj i hi]
              by_cases hc : i < l'
              · rw [if_pos hc]; exact hs.2.2 i hc
              · rw [if_neg hc]; exact (d2 (i - l') (by omega)).1⟩
            have hsv2 : (c.growRow k (.grow e2 (l' + n) (joinA (E.ty e2) f l' g)) v' w').sv k = v' := if_pos rfl
            have hbl2 : (c.growRow k (.grow e2 (l' + n) (joinA (E.ty e2) f l' g)) v' w').bl k = v'.ownBlock := if_pos rfl
            refine val_wp (hex _) (by rw [ez]; exact hrun) (hK _ _ (step_grow hm hb hck (by omega) (fun e => hv0 (by omega)) hg hblk (R_grow (R_stab hst hR) (by rw [show (c.growRow k _ v' w').ty = E.ty from hct]; exact hS) (by rw [hsv2, show (c.growRow k _ v' w').ty = E.ty from hct]; exact hown') (by rw [hsv2, hbl2]))) ?_)
            obtain ⟨_, ⟨a1, a2⟩ | ⟨gb, cap, cur, rfl, _, _, r3, r4, _⟩⟩ := hown'
            · subst a1
              exact ⟨l' + n, _, none, 0, putM_same _ _ _, Nat.le_refl _, by rw [a2], by omega, Nat.zero_le _, fun h => by omega, fun _ => by rw [hsv2, a2]⟩
            · exact ⟨l' + n, _, _, cap, putM_same _ _ _, Nat.le_refl _, rfl, r3, r4, fun _ => ⟨_, rfl⟩, fun _ => hsv2⟩
          · exact h.elim
        · rename_i et' k p ofs l hd
          split at h
          · rename_i τ av hmk
            obtain ⟨rfl, hfull, hl0, hn0, hbn, h⟩ := h
            unfold bnd at hbn
            obtain ⟨gE, hgE⟩ : ∃ gE, gE = fun i => av.at (p ++ [ofs + i]) := ⟨_, rfl⟩
            have hel : elems m E.ty (x y) fun et n' g' rd' => et = E.ty e ∧ n' = l ∧ g' = gE ∧ rd' = [k] := by
              rw [hd]; simp only [elems, hmk, hgE, and_self]
            obtain ⟨et2, n2, g2, rd2, ⟨rfl, rfl, rfl, rfl⟩, hseen2⟩ := elems_all hel
            rw [← hgE] at h
            refine ⟨_, h, fun c act K Q hct hm hb hrd hf hx hK => ?_⟩
            have hck := (hrd k (by simp)).trans hmk
            obtain ⟨A, q, ez, hnq, hqm, hA⟩ := hseen c _ hct hm (fun k hk => hrd k (by simp [hk])) (hx z)
            obtain ⟨A2, q2', ey0, _, _, hA2⟩ := hseen2 c _ hct hm (fun k' hk => hrd k' (by simp only [List.mem_singleton] at hk; subst hk; simp)) (hx y)
            have h1 := hx y
            rw [hd] at h1
            obtain ⟨τ', a', bb, N, ge, B, q2, hm1, hbl, hp, hat, hg0, hol, ey, hlq, ⟨hqm2, hqN⟩, hB⟩ := rv_sub h1
            rw [hck] at hm1; injection hm1 with hm1; injection hm1 with e1 e2
            subst e1; subst e2
            have hN : ofs + n2 = N := by rw [hfull, hat]; rfl
            have hq : q2 = n2 := by omega
            rw [ey] at ey0; injection ey0 with e1 _ e3
            subst e1
            obtain ⟨ob, oo, gg2, eB, _, hgg2⟩ := hA2 hl0
            obtain ⟨c1, c2, c3, c4⟩ := seen_cells (cnt := n2) hgg2 (Nat.le_refl _)
            obtain ⟨gg, d1, d2, d3, d4⟩ := seen_app hA
            obtain ⟨sb, so, eA, hsr⟩ := d3 hn0
            obtain ⟨v', w', hrun, hown', hg⟩ := run_app_full (tt := o.type) (q := q) hu he h0 c1 c2 d1 hsr hn0 hbn
            have hlow : Below c.w.heap.size c.w w' := (Below.refl _ _).grown hg (Nat.le_refl _) (fun k hk => by cases hk)
            have hbl : ∀ b, v'.ownBlock = some b → c.w.heap.size ≤ b := fun b hq => (hown'.lt b hq).1
            have hst := stab_add (c := c) (key := key) (r := .grow e (n2 + n) (joinA (E.ty e) g2 n2 g)) (bl := v'.ownBlock) (sv := v') (w := w') (hf key (Nat.le_refl _) (by omega)) hlow.size hlow.block
            have hsv : (c.addRow key (.grow e (n2 + n) (joinA (E.ty e) g2 n2 g)) v'.ownBlock v' w').sv key = v' := if_pos rfl
            have hblk : (c.addRow key (.grow e (n2 + n) (joinA (E.ty e) g2 n2 g)) v'.ownBlock v' w').bl key = v'.ownBlock := if_pos rfl
            have hown2 : w'.ownsRow c.base e (E.ty e).size v' (n2 + n) ((List.range n2).flatMap gg2 ++ (List.range n).flatMap gg) := by
              obtain ⟨a1, a2 | ⟨gb, cap, cur, r1, r2, r3⟩⟩ := hown'
              · exact ⟨a1, .inl a2⟩
              · exact ⟨a1, .inr ⟨gb, cap, cur, r1, by have := hm.bf; omega, r3⟩⟩
            have hj := joinA_eq (τ := E.ty e) (f := g2) (g := g) (l := n2) (n := n) (fun j hj => (hgg2 j hj).1) (fun j hj => (d2 j hj).1)
            have hR : R c (.agg true (n2 + n) (joinA (E.ty e) g2 n2 g)) ((List.range n2).flatMap gg2 ++ (List.range n).flatMap gg) := by
              refine ⟨fun i => if i < n2 then gg2 i else gg (i - n2), fun i hi => ?_, ?_⟩
              · rw [hj i hi]
                by_cases hc : i < n2
                · simp only [hc, if_true]; exact (hgg2 i hc).2.1
                · simp only [hc, if_false]; exact (d2 (i - n2) (by omega)).2
              · rw [fm_add]
                congr 1
                · exact fm_congr n2 (fun i hi => (if_pos hi).symm)
                · exact fm_congr n (fun i hi => by rw [if_neg (by omega), Nat.add_sub_cancel_left])
            have hS : Sh (.agg true (n2 + n) fun _ => E.ty e) (.agg true (n2 + n) (joinA (E.ty e) g2 n2 g)) := ⟨rfl, rfl, fun i hi => by
              rw [hj i hi]
              by_cases hc : i < n2
              · rw [if_pos hc]; exact (hgg2 i hc).1
              · rw [if_neg hc]; exact (d2 (i - n2) (by omega)).1⟩
            refine val_wp (hex _) (by rw [ey, ez, hq, eB, eA]; exact hrun) (hK _ _ (step_add hm hb (hf key (Nat.le_refl _) (by omega)) hlow hbl (R_grow (R_stab hst hR) (by rw [show (c.addRow key (.grow e (n2 + n) (joinA (E.ty e) g2 n2 g)) v'.ownBlock v' w').ty = E.ty from hct]; exact hS) (by rw [hsv, show (c.addRow key (.grow e (n2 + n) (joinA (E.ty e) g2 n2 g)) v'.ownBlock v' w').ty = E.ty from hct]; exact hown2) (by rw [hsv, hblk]))) ?_)
            obtain ⟨_, ⟨a1, a2⟩ | ⟨gb, cap, cur, rfl, _, _, r3, r4, _⟩⟩ := hown2
            · omega
            · exact ⟨n2 + n, _, _, cap, putM_same _ _ _, Nat.le_refl _, rfl, r3, r4, fun _ => ⟨_, rfl⟩, fun _ => hsv⟩
          · exact h.elim
        · rename_i n2 g2 hd
          obtain ⟨he8, hl0, hn0, hbn, h⟩ := h
          unfold bnd at hbn
          refine ⟨_, h, fun c act K Q hct hm hb hrd hf hx hK => ?_⟩
          obtain ⟨A, q, ez, hnq, hqm, hA⟩ := hseen c _ hct hm (fun k hk => hrd k hk) (hx z)
          have h1 := hx y
          rw [hd] at h1
          obtain ⟨h1, B, ey⟩ := rv_blt h1
          obtain ⟨B', q2, ey0, _, _, hB⟩ := rv_imm h1
          rw [ey] at ey0; injection ey0 with e1 _ e3
          subst e1; subst e3
          obtain ⟨ob, oo, eB, _, _, _, hi⟩ := hB hl0
          have hgg2 : ∃ gg2 : Nat → List Value, ∀ i, i < n2 → Sh (E.ty e) (g2 i) ∧ R c (g2 i) (gg2 i) ∧ c.w.rangeAt ob (oo + i * (E.ty e).size) (gg2 i) := ⟨fun i => if h : i < n2 then (hi i h).2.choose else [], fun i hil => by
            simp only [dif_pos hil]
            rw [he8]
            exact ⟨(hi i hil).1, (hi i hil).2.choose_spec⟩⟩
          obtain ⟨gg2, hgg2⟩ := hgg2
          obtain ⟨c1, c2, c3, c4⟩ := seen_cells (cnt := n2) hgg2 (Nat.le_refl _)
          obtain ⟨gg, d1, d2, d3, d4⟩ := seen_app hA
          obtain ⟨sb, so, eA, hsr⟩ := d3 hn0
          obtain ⟨v', w', hrun, hown', hg⟩ := run_app_full (tt := o.type) (q := q) hu he h0 c1 c2 d1 hsr hn0 hbn
          have hlow : Below c.w.heap.size c.w w' := (Below.refl _ _).grown hg (Nat.le_refl _) (fun k hk => by cases hk)
          have hbl : ∀ b, v'.ownBlock = some b → c.w.heap.size ≤ b := fun b hq => (hown'.lt b hq).1
          have hst := stab_add (c := c) (key := key) (r := .grow e (n2 + n) (joinA (E.ty e) g2 n2 g)) (bl := v'.ownBlock) (sv := v') (w := w') (hf key (Nat.le_refl _) (by omega)) hlow.size hlow.block
          have hsv : (c.addRow key (.grow e (n2 + n) (joinA (E.ty e) g2 n2 g)) v'.ownBlock v' w').sv key = v' := if_pos rfl
          have hblk : (c.addRow key (.grow e (n2 + n) (joinA (E.ty e) g2 n2 g)) v'.ownBlock v' w').bl key = v'.ownBlock := if_pos rfl
          have hown2 : w'.ownsRow c.base e (E.ty e).size v' (n2 + n) ((List.range n2).flatMap gg2 ++ (List.range n).flatMap gg) := by
            obtain ⟨a1, a2 | ⟨gb, cap, cur, r1, r2, r3⟩⟩ := hown'
            · exact ⟨a1, .inl a2⟩
            · exact ⟨a1, .inr ⟨gb, cap, cur, r1, by have := hm.bf; omega, r3⟩⟩
          have hj := joinA_eq (τ := E.ty e) (f := g2) (g := g) (l := n2) (n := n) (fun j hj => (hgg2 j hj).1) (fun j hj => (d2 j hj).1)
          have hR : R c (.agg true (n2 + n) (joinA (E.ty e) g2 n2 g)) ((List.range n2).flatMap gg2 ++ (List.range n).flatMap gg) := by
            refine ⟨fun i => if i < n2 then gg2 i else gg (i - n2), fun i hi => ?_, ?_⟩
            · rw [hj i hi]
              by_cases hc : i < n2
              · simp only [hc, if_true]; exact (hgg2 i hc).2.1
              · simp only [hc, if_false]; exact (d2 (i - n2) (by omega)).2
            · rw [fm_add]
              congr 1
              · exact fm_congr n2 (fun i hi => (if_pos hi).symm)
              · exact fm_congr n (fun i hi => by rw [if_neg (by omega), Nat.add_sub_cancel_left])
          have hS : Sh (.agg true (n2 + n) fun _ => E.ty e) (.agg true (n2 + n) (joinA (E.ty e) g2 n2 g)) := ⟨rfl, rfl, fun i hi => by
            rw [hj i hi]
            by_cases hc : i < n2
            · rw [if_pos hc]; exact (hgg2 i hc).1
            · rw [if_neg hc]; exact (d2 (i - n2) (by omega)).1⟩
          refine val_wp (hex _) (by rw [ey, ez, eB, eA]; exact hrun) (hK _ _ (step_add hm hb (hf key (Nat.le_refl _) (by omega)) hlow hbl (R_grow (R_stab hst hR) (by rw [show (c.addRow key (.grow e (n2 + n) (joinA (E.ty e) g2 n2 g)) v'.ownBlock v' w').ty = E.ty from hct]; exact hS) (by rw [hsv, show (c.addRow key (.grow e (n2 + n) (joinA (E.ty e) g2 n2 g)) v'.ownBlock v' w').ty = E.ty from hct]; exact hown2) (by rw [hsv, hblk]))) ?_)
          obtain ⟨_, ⟨a1, a2⟩ | ⟨gb, cap, cur, rfl, _, _, r3, r4, _⟩⟩ := hown2
          · omega
          · exact ⟨n2 + n, _, _, cap, putM_same _ _ _, Nat.le_refl _, rfl, r3, r4, fun _ => ⟨_, rfl⟩, fun _ => hsv⟩
        · exact h.elim
    · exact h.elim
  · exact h.elim
end
end Go.Proofs.YtldlleoabbcpdaaDoor
/- Calls of functions that are known; every operation. -/
namespace Go.Proofs.YtldlleoabbcpdaaDoor
open Go.RowKit
inductive RVs (c : Cx) : List AV → List Value → Prop where
  | nil : RVs c [] []
  | cons {a v l vs} (h : RV c a v) (t : RVs c l vs) : RVs c (a :: l) (v :: vs)
/-- The function, called so, comes back with r. -/
def FnV (P : Program) (ty : TypeId → Ty) (gl : Nat → AV) (f : FuncId) (args : List AV) (view : Nat → Option Row) (key : Nat) (r : Res) : Prop :=
  (∃ fn, P.funcs[f]? = some fn ∧ (fn.name == "runtime.NumGoroutine") = false ∧ fn.body.isNone = false) ∧
  ∀ (c : Cx) (vals : List Value), c.ty = ty → MemOK c → c.fb ≤ c.w.heap.size → (∀ k, k ∈ r.rd → c.m k = view k) → (∀ j, key ≤ j → j < key + 8 → c.m j = none) → (∀ g, RV c (gl g) (.pointer (some ⟨g, 0, none⟩))) → RVs c args vals →
    Calls P f vals.toArray c.w fun e w' => ∃ c' v, e = .returned v ∧ c'.w = w' ∧ Step c r.wr c' ∧ RV c' r.v v
/-- The function without a text, called so, comes back with r. -/
def ExtV (P : Program) (ty : TypeId → Ty) (f : FuncId) (args : List AV) (view : Nat → Option Row) (key : Nat) (r : Res) : Prop :=
  ∃ fn ext, P.funcs[f]? = some fn ∧ (fn.name == "runtime.NumGoroutine") = false ∧ fn.body.isNone = true ∧ Extern.findNext fn = none ∧ Extern.find fn = some ext ∧
  ∀ (c : Cx) (vals : List Value), c.ty = ty → MemOK c → c.fb ≤ c.w.heap.size → (∀ k, k ∈ r.rd → c.m k = view k) → (∀ j, key ≤ j → j < key + 8 → c.m j = none) → RVs c args vals →
    ∃ c' v, (ext vals.toArray).run P c.w = .ok v c'.w ∧ Step c r.wr c' ∧ RV c' r.v v
def FnValid (P : Program) (ty : TypeId → Ty) (gl : Nat → AV) (f : FuncId) (args : List AV) (view : Nat → Option Row) (key : Nat) (r : Res) : Prop :=
  FnV P ty gl f args view key r ∨ ExtV P ty f args view key r
def CtrOK (P : Program) (E : Pg) : Prop := ∀ f args m key K, E.ctr f args m key K → ∃ r, K r ∧ FnValid P E.ty E.gl f args m key r
/-- It names no row. -/
def NoRow : AV → Prop
  | .ptr _ _ _ => False
  | .gpt _ _ _ _ _ _ => False
  | .gsl _ _ _ => False
  | .gsub _ _ _ _ _ => False
  | .gcap _ _ _ => False
  | .mpt _ _ _ _ _ _ => False
  | .itp _ => False
  | .cmt _ => False
  | .mit _ => False
  | .vmt _ => False
  | .fmp fr _ _ _ _ _ => fr = false
  | .fvm fr _ n f => fr = false ∧ ∀ i, i < n → NoRow (f i)
  | .sub _ _ _ _ _ => False
  | .spt _ _ _ _ _ => False
  | .gspt _ _ _ _ _ => False
  | .blt _ _ => False
  | .ipt _ a => NoRow a
  | .imm fr _ l f => fr = false ∧ ∀ i, i < l → NoRow (f i)
  | .agg _ l f => ∀ i, i < l → NoRow (f i)
  | .tup l f => ∀ i, i < l → NoRow (f i)
  | .clo _ _ n g => ∀ i, i < n → NoRow (g i)
  | _ => True
/-- Functions without a text, whose results nobody knows ahead. -/
def ExtOK (P : Program) (E : Pg) : Prop := ∀ f C, E.ext f = some C → ∃ fn ext, P.funcs[f]? = some fn ∧ (fn.name == "runtime.NumGoroutine") = false ∧ fn.body.isNone = true ∧ Extern.findNext fn = none ∧ Extern.find fn = some ext ∧
  ∀ args key K, C args key K → ∀ (c : Cx) (vals : List Value), c.ty = E.ty → MemOK c → c.fb ≤ c.w.heap.size → (∀ j, key ≤ j → j < key + 8 → c.m j = none) → RVs c args vals →
    ∃ r c' v, K r ∧ (ext vals.toArray).run P c.w = .ok v c'.w ∧ Step c r.wr c' ∧ RV c' r.v v
structure PgOK (P : Program) (E : Pg) : Prop where
  flat : ∀ g, NoRow (E.gl g)
  tys : TysOK P E.ty
  mx : ∀ t n f, E.ty t = .agg true n f → n ≤ maxLen
  ctr : CtrOK P E
  ext : ExtOK P E
section
variable {P : Program} {E : Pg} {o : Oper} {x : Operand → AV} {key : Nat} {m : Nat → Option Row} {K : Res → Prop} {t : TypeId}
theorem rvs_map {c : Cx} {a : Act} (h : ∀ y, RV c (x y) (a.eval y)) : ∀ l : List Operand, RVs c (l.map x) (l.map a.eval)
  | [] => .nil
  | y :: l => .cons (h y) (rvs_map h l)
theorem rvs_append {c : Cx} {l l' : List AV} {v v' : List Value} (h : RVs c l v) (h' : RVs c l' v') : RVs c (l ++ l') (v ++ v') := by
  induction h with
  | nil => exact h'
  | cons h _ ih => exact .cons h ih
theorem rv_noAgg {c : Cx} {a : AV} {v : Value} (hn : a.noAgg = true) (h : R c a [v]) : RV c a v := by
  cases a <;> first | exact h | cases hn
theorem R_of_noAgg {c : Cx} {a : AV} {v : Value} (hn : a.noAgg = true) (h : RV c a v) : R c a [v] := by
  cases a <;> first | exact h | cases hn
theorem wp_fn {ty : TypeId → Ty} {gl : Nat → AV} {f : FuncId} {args : List AV} {view : Nat → Option Row} {r : Res} (h : FnValid P ty gl f args view key r) {cx : Cx} {act : Act} {K' : Act → World → Prop} {Q : Exit → Act → World → Prop} {vals : List Value} (hct : cx.ty = ty) (hm : MemOK cx) (hbs : cx.fb ≤ cx.w.heap.size)
    (hrd : ∀ k, k ∈ r.rd → cx.m k = view k) (hfr : ∀ j, key ≤ j → j < key + 8 → cx.m j = none) (hgl : ∀ g, RV cx (gl g) (.pointer (some ⟨g, 0, none⟩))) (hvs : RVs cx args vals) (hex : (execOp act.eval o).run P cx.w = (callFunc f vals.toArray).run P cx.w)
    (hK : ∀ c' v, Step cx r.wr c' → RV c' r.v v → K' (act.put o.dst v) c'.w) : o.wp P act cx.w K' Q := by
  rcases h with ⟨⟨fn, hf, hn, hb⟩, hv⟩ | ⟨fn, ext, hf, hn, hb, hx, hfd, hv⟩
  · have hcalls := hv cx vals hct hm hbs hrd hfr hgl hvs
    have hn' : ¬ fn.name = "runtime.NumGoroutine" := by simpa using hn
    have hb' : ¬ fn.body = none := by intro e; rw [e] at hb; simp at hb
    have e1 : (execOp act.eval o).run P cx.w = .ok (.enter f vals.toArray) cx.w := by rw [hex]; simp [callFunc, hf, hn', hb']
    unfold Oper.wp
    rw [e1, Oper.upon_enter]
    refine Calls.mono hcalls ?_
    rintro e w' ⟨c', v, rfl, rfl, hst, hr⟩
    exact hK c' v hst hr
  · obtain ⟨c', v, hrun, hst, hr⟩ := hv cx vals hct hm hbs hrd hfr hvs
    unfold Oper.wp
    rw [hex, run_callFunc_extern hf hn hb hx hfd, hrun]
    exact hK c' v hst hr
theorem s_call (hC : CtrOK P E) (hxg : ∀ g, x (.global g) = E.gl g) {c : Call} {f : FuncId} (ho : o.op = .call c) (hc : c.callee = .value (.func f)) (h : sem E m key x (.call c) K) : ∃ r, K r ∧ Valid P E.ty o x key m r := by
  simp only [sem, semG, hc] at h
  obtain ⟨r, hk, hv⟩ := hC f _ m key K h
  refine ⟨r, hk, fun cx act K' Q hct hm hbs hrd hfr hx hK => ?_⟩
  refine wp_fn hv hct hm hbs hrd hfr (fun g => hxg g ▸ hx (.global g)) (rvs_map hx _) ?_ hK
  obtain ⟨callee, args, argTypes⟩ := c
  simp only at hc
  subst hc
  unfold execOp
  simp only [ho]
  show Sem.run P (callFunc f (#[] ++ args.map act.eval ++ #[])) cx.w = _
  rw [show #[] ++ args.map act.eval ++ #[] = (List.map act.eval args.toList).toArray from Array.ext' (by simp)]
theorem s_callv (hC : CtrOK P E) (hxg : ∀ g, x (.global g) = E.gl g) {c : Call} {i : Tmp} (ho : o.op = .call c) (hc : c.callee = .value (.tmp i)) (h : sem E m key x (.call c) K) : ∃ r, K r ∧ Valid P E.ty o x key m r := by
  simp only [sem, semG, hc] at h
  split at h
  · rename_i f hxi
    obtain ⟨r, hk, hv⟩ := hC f _ m key K h
    refine ⟨r, hk, fun cx act K' Q hct hm hbs hrd hfr hx hK => ?_⟩
    have hfv : act.eval (.tmp i) = .func (.func f) #[] #[] := by have := hx (.tmp i); rw [hxi] at this; simpa [RV, R] using this
    refine wp_fn hv hct hm hbs hrd hfr (fun g => hxg g ▸ hx (.global g)) (rvs_map hx _) ?_ hK
    obtain ⟨callee, args, argTypes⟩ := c
    simp only at hc
    subst hc
    unfold execOp
    simp only [ho, resolve, hfv, Deferred.ofValue, Sem.run_bind, Sem.run_pure, Result.andThen_ok, invoke]
    show Sem.run P (callFunc f (#[] ++ args.map act.eval ++ #[])) cx.w = _
    rw [show #[] ++ args.map act.eval ++ #[] = (List.map act.eval args.toList).toArray from Array.ext' (by simp)]
  · rename_i f nf n g hxi
    obtain ⟨r, hk, hv⟩ := hC f _ m key K h
    refine ⟨r, hk, fun cx act K' Q hct hm hbs hrd hfr hx hK => ?_⟩
    have hfv := hx (.tmp i)
    rw [hxi] at hfv
    obtain ⟨u, hu, hnf, hg⟩ := hfv
    have hu : act.eval (.tmp i) = .func (.func f) ((List.range nf).map u).toArray ((List.range (n - nf)).map fun i => u (nf + i)).toArray := by simpa using hu
    have hup : ∀ (q s : Nat), s + q ≤ n → RVs cx (upto g s q) ((List.range q).map fun i => u (s + i)) := by
      intro q
      induction q with
      | zero => intro s _; exact .nil
      | succ q ih =>
        intro s hs
        rw [List.range_succ_eq_map, List.map_cons, List.map_map]
        refine .cons (rv_noAgg (hg (s + 0) (by omega)).2 (hg (s + 0) (by omega)).1) ?_
        have := ih (s + 1) (by omega)
        have e : (fun i => u (s + i)) ∘ Nat.succ = fun i => u (s + 1 + i) := by
          funext i; simp only [Function.comp]; congr 1; omega
        rw [e]; exact this
    have h1 := hup nf 0 (by omega)
    have h2 := hup (n - nf) nf (by omega)
    simp only [Nat.zero_add] at h1
    refine wp_fn hv hct hm hbs hrd hfr (fun g => hxg g ▸ hx (.global g)) (rvs_append h1 (rvs_append (rvs_map hx _) h2)) ?_ hK
    obtain ⟨callee, args, argTypes⟩ := c
    simp only at hc
    subst hc
    unfold execOp
    simp only [ho, resolve, hu, Deferred.ofValue, Sem.run_bind, Sem.run_pure, Result.andThen_ok, invoke]
    have ha : ((List.range nf).map u).toArray ++ args.map act.eval ++ ((List.range (n - nf)).map fun i => u (nf + i)).toArray = ((List.range nf).map u ++ (args.toList.map act.eval ++ (List.range (n - nf)).map fun i => u (nf + i))).toArray := by
      apply Array.ext'
      simp only [Array.toList_append, Array.toList_map, List.append_assoc]
    show Sem.run P (callFunc f (((List.range nf).map u).toArray ++ args.map act.eval ++ ((List.range (n - nf)).map fun i => u (nf + i)).toArray)) cx.w = _
    rw [ha]
  · exact h.elim
theorem nthA_eq : ∀ (l : List AV) (i : Nat), nthA l i = l.getD i .junk
  | [], i => by simp [nthA]
  | a :: l, 0 => by simp [nthA]
  | a :: l, i + 1 => by simp [nthA, nthA_eq l i]
theorem s_makeFunc {f : FuncId} {first caps : Array Operand} (ho : o.op = .makeFunc (.func f) first caps) (h : sem E m key x (.makeFunc (.func f) first caps) K) : ∃ r, K r ∧ Valid P E.ty o x key m r := by
  simp only [sem, semG] at h
  split at h
  · rename_i hl
    have hl := List.append_eq_nil_iff.1 hl
    have h1 : first = #[] := Array.ext' (List.map_eq_nil_iff.1 hl.1)
    have h2 : caps = #[] := Array.ext' (List.map_eq_nil_iff.1 hl.2)
    subst h1; subst h2
    refine ⟨_, h, valid_val rfl fun c a _ _ _ hx => ⟨.func (.func f) #[] #[], ?_, rfl⟩⟩
    unfold execOp
    simp [ho, Instr.makeFunc, Sem.run_bind, Sem.run_pure, Result.andThen_ok]
  · obtain ⟨hag, h⟩ := h
    refine ⟨_, h, valid_val rfl fun c a _ _ _ hx => ⟨.func (.func f) (first.map a.eval) (caps.map a.eval), ?_, ?_⟩⟩
    · unfold execOp
      simp [ho, Instr.makeFunc, Sem.run_bind, Sem.run_pure, Result.andThen_ok]
    · refine ⟨fun i => ((first.toList ++ caps.toList).map a.eval).getD i undef, ?_, by simp, fun i hi => ?_⟩
      · have e1 : (first.map a.eval) = ((List.range first.toList.length).map fun i => ((first.toList ++ caps.toList).map a.eval).getD i undef).toArray := by
          apply Array.ext'
          rw [Array.toList_map]
          refine List.ext_getElem (by simp) fun i h1 h2 => ?_
          simp at h1 h2
          simp [List.getElem?_append, h1]
        have e2 : (caps.map a.eval) = ((List.range ((first.toList.map x ++ caps.toList.map x).length - first.toList.length)).map fun i => ((first.toList ++ caps.toList).map a.eval).getD (first.toList.length + i) undef).toArray := by
          apply Array.ext'
          rw [Array.toList_map]
          refine List.ext_getElem (by simp) fun i h1 h2 => ?_
          simp at h1 h2
          have hno : ¬ first.size + i < first.size := by omega
          simp [List.getElem?_append, h1, hno]
        rw [e1, e2]
      · rw [nthA_eq, ← List.map_append] at *
        simp only [List.length_map] at hi
        have hag := List.all_eq_true.1 hag
        have hmem : x ((first.toList ++ caps.toList)[i]'hi) ∈ (first.toList ++ caps.toList).map x := List.mem_map_of_mem (List.getElem_mem hi)
        have h1 : ((first.toList ++ caps.toList).map x).getD i .junk = x ((first.toList ++ caps.toList)[i]'hi) := by rw [List.getD_eq_getElem?_getD, List.getElem?_map, List.getElem?_eq_getElem hi]; rfl
        have h2 : ((first.toList ++ caps.toList).map a.eval).getD i undef = a.eval ((first.toList ++ caps.toList)[i]'hi) := by rw [List.getD_eq_getElem?_getD, List.getElem?_map, List.getElem?_eq_getElem hi]; rfl
        rw [h1]
        show R c _ [((first.toList ++ caps.toList).map a.eval).getD i undef] ∧ _
        rw [h2]
        exact ⟨R_of_noAgg (hag _ hmem) (hx _), hag _ hmem⟩
theorem aeq_self : ∀ {a : AV}, Flat a → AEq a a := by
  intro a
  induction a with
  | agg u l f ih => intro hf i hi; exact ih i (forI_at hf i hi)
  | _ => intro hf; first | exact hf.elim | exact rfl
theorem flat_R {c c' : Cx} : ∀ {a : AV} {cs : List Value}, Flat a → R c a cs → R c' a cs := by
  intro a
  induction a with
  | agg u l f ih =>
    rintro cs hf ⟨g, hg, rfl⟩
    exact ⟨g, fun i hi => ih i (forI_at hf i hi) (hg i hi), rfl⟩
  | _ => intro cs hf h; first | exact h | exact hf.elim
theorem flat_RV {c c' : Cx} {a : AV} {v : Value} (hf : Flat a) (h : RV c a v) : RV c' a v := by
  cases a with
  | agg u l f =>
    obtain ⟨cs, rfl, hr⟩ := h
    exact ⟨cs, rfl, flat_R hf hr⟩
  | junk => trivial
  | _ => first | exact hf.elim | exact flat_R (c := c) (c' := c') hf (show R c _ [v] from h)
theorem flat_det {c c' : Cx} : ∀ {a : AV} {cs ds : List Value}, Flat a → R c a cs → R c' a ds → cs = ds := by
  intro a
  induction a with
  | agg u l f ih =>
    rintro cs ds hf ⟨g, hg, rfl⟩ ⟨g', hg', rfl⟩
    exact fm_congr l fun i hi => ih i (forI_at hf i hi) (hg i hi) (hg' i hi)
  | _ => intro cs ds hf h h'; first | exact hf.elim | (rw [show cs = _ from h, show ds = _ from h'])
theorem flat_detv {c c' : Cx} {a : AV} {v v' : Value} (hf : Flat a) (h : RV c a v) (h' : RV c' a v') : v = v' := by
  cases a with
  | agg u l f =>
    obtain ⟨cs, rfl, hr⟩ := h
    obtain ⟨ds, rfl, hr'⟩ := h'
    rw [flat_det hf hr hr']
  | junk => exact hf.elim
  | _ =>
    first
      | exact hf.elim
      | (have := flat_det (a := _) hf (show R c _ [v] from h) (show R c' _ [v'] from h')
         injection this)
theorem feq_R {c : Cx} : ∀ {a b : AV} {cs : List Value}, FEq a b → R c a cs → R c b cs := by
  intro a
  induction a with
  | agg u l f ih =>
    intro b cs he h
    cases b with
    | agg u' l' f' =>
      obtain ⟨rfl, rfl, he⟩ := he
      obtain ⟨g, hg, rfl⟩ := h
      exact ⟨g, fun i hi => ih i (forI_at he i hi) (hg i hi), rfl⟩
    | _ => exact he.elim
  | nat y =>
    intro b cs he h
    cases b with
    | nat z => have he : y = z := he; subst he; exact h
    | int z => have he : (y : Int) = z := he; subst he; exact h
    | _ => exact he.elim
  | int y =>
    intro b cs he h
    cases b with
    | nat z => have he : y = (z : Int) := he; subst he; exact h
    | int z => have he : y = z := he; subst he; exact h
    | _ => exact he.elim
  | _ => intro b cs he h; cases b <;> first | exact he.elim | (have he : _ = _ := he; subst he; exact h)
theorem feq_RV {c : Cx} {a b : AV} {v : Value} (he : FEq a b) (h : RV c a v) : RV c b v := by
  cases b with
  | agg u' l' f' =>
    cases a with
    | agg u l f =>
      obtain ⟨cs, rfl, hr⟩ := h
      exact ⟨cs, rfl, feq_R he hr⟩
    | _ => exact he.elim
  | junk => trivial
  | _ =>
    have h' : R c a [v] := by
      cases a <;> first | exact h | exact he.elim
    exact feq_R (b := _) he h'
theorem ents_at {S : Ty → AV → Prop} {C : AV → Prop} {kt et : Ty} {n : Nat} {f : Nat → AV} (h : EntsOK S C kt et n f) {i : Nat} (hi : i < n) : S kt (ekey f i) ∧ C (ekey f i) ∧ Flat (ekey f i) ∧ S et (eval' f i) ∧ Flat (eval' f i) := allB_at h i hi
theorem keyT_rank {τ : Ty} (h : keyT τ = true) (hr : τ.isA = true → τ.rank < 9000) : τ.rank ≤ 9999 := by
  cases hA : τ.isA with
  | true => have := hr hA; omega
  | false => cases τ <;> first | (simp [Ty.rank]; done) | (simp [Ty.isA] at hA)
theorem op_equal {ty : TypeId → Ty} {k : TypeId} (hk : TyOK P ty k) (hkt : keyT (ty k) = true) {c : Cx} {w : World} {a b : AV} {v v' : Value} (ha : RV c a v) (hb : RV c b v') (sa : Sh (ty k) a) (sb : Sh (ty k) b) (hc : Cmp a) :
    (Op.equal k v v').run P w = .ok (eqB a b) w := by
  obtain ⟨r1, e1⟩ := R_of_rv sa ha
  obtain ⟨r2, e2⟩ := R_of_rv sb hb
  rw [e1, e2]
  exact equal_ok (d := 9999) hk r1 r2 sa sb hc (keyT_rank hkt fun hA => by
    cases hk with
    | arr _ _ _ _ _ _ _ hr _ _ => exact hr
    | st _ _ _ _ _ _ _ _ _ hr _ _ _ _ => exact hr
    | bo _ _ _ hty => rw [hty] at hA; cases hA
    | int _ _ _ _ _ hty => rw [hty] at hA; cases hA
    | str _ _ _ hty => rw [hty] at hA; cases hA
    | pt _ _ _ _ hty => rw [hty] at hA; cases hA
    | sl _ _ _ _ _ _ hty => rw [hty] at hA; cases hA
    | mp _ _ _ _ _ _ _ hty => rw [hty] at hA; cases hA
    | fu _ _ _ _ _ _ hty => rw [hty] at hA; cases hA)
theorem same_now {ty : TypeId → Ty} {k : TypeId} (hk : TyOK P ty k) {d : TypeDesc} (hd : P.underlying k = some d) {c : Cx} {a b : AV} {v v' : Value} (ha : RV c a v) (hb : RV c b v') (sa : Sh (ty k) a) (sb : Sh (ty k) b) :
    Instr.sameNow d v v' = none ∨ Instr.sameNow d v v' = some (eqB a b) := by
  cases hk with
  | bo _ hu _ hty =>
    rw [hu] at hd; injection hd with hd; subst hd
    rw [hty] at sa sb
    cases a with
    | bo y =>
      cases b with
      | bo z =>
        rw [rv_bo ha, rv_bo hb]
        right
        show some (y == z) = _
        congr 1
        rw [Bool.eq_iff_iff, eqB_iff]; simp [AEq]
      | _ => exact sb.elim
    | _ => exact sa.elim
  | int _ q _ hu _ hty =>
    rw [hu] at hd; injection hd with hd; subst hd
    rw [hty] at sa sb
    obtain ⟨r1, e1⟩ := R_of_rv sa ha
    obtain ⟨r2, e2⟩ := R_of_rv sb hb
    rw [e1, e2, int_of sa r1, int_of sb r2]
    right
    show (if q = q then some (zOf a == zOf b) else none) = _
    rw [if_pos rfl]
    congr 1
    rw [Bool.eq_iff_iff, eqB_iff, ← zOf_eq sa sb]; simp
  | str _ hu _ hty =>
    rw [hu] at hd; injection hd with hd; subst hd
    rw [hty] at sa sb
    cases a with
    | str y =>
      cases b with
      | str z =>
        rw [rv_str ha, rv_str hb]
        right
        show some ((⟨y.toArray⟩ : ByteArray) == ⟨z.toArray⟩) = _
        congr 1
        rw [Bool.eq_iff_iff, eqB_iff, MapKept.bytes_beq]
        simp [AEq]
      | _ => exact sb.elim
    | _ => exact sa.elim
  | pt _ _ hu _ _ => rw [hu] at hd; injection hd with hd; subst hd; left; rfl
  | sl _ _ hu _ _ _ _ => rw [hu] at hd; injection hd with hd; subst hd; left; rfl
  | mp _ _ _ hu _ _ _ _ => rw [hu] at hd; injection hd with hd; subst hd; left; rfl
  | fu _ _ _ _ hu _ _ => rw [hu] at hd; injection hd with hd; subst hd; left; rfl
  | arr _ _ _ hu _ _ _ _ _ _ => rw [hu] at hd; injection hd with hd; subst hd; left; rfl
  | st _ _ _ _ hu _ _ _ _ _ _ _ _ _ => rw [hu] at hd; injection hd with hd; subst hd; left; rfl
theorem ask_none {k : TypeId} {v : Value} {w : World} : ∀ (l : List MapEntry) (i : Nat), (∀ e ∈ l, (Op.equal k v e.key).run P w = .ok false w) → (Instr.findAsking k v l i).run P w = .ok none w
  | [], i, _ => by simp [Instr.findAsking]
  | e :: l, i, h => by
    simp [Instr.findAsking, h e (by simp), ask_none l (i + 1) fun y hy => h y (by simp [hy])]
theorem now_none {d : TypeDesc} {v : Value} : ∀ (l : List MapEntry) (i : Nat), (∀ e ∈ l, Instr.sameNow d v e.key = none ∨ Instr.sameNow d v e.key = some false) → Instr.findNow d v l i = none ∨ Instr.findNow d v l i = some none
  | [], i, _ => .inr rfl
  | e :: l, i, h => by
    unfold Instr.findNow
    rcases h e (by simp) with he | he
    · rw [he]; exact .inl rfl
    · rw [he]; exact now_none l (i + 1) fun y hy => h y (by simp [hy])
theorem ask_some {k : TypeId} {v : Value} {w : World} {Q : MapEntry → Prop} : ∀ (l : List MapEntry) (i : Nat), (∀ e ∈ l, ∃ b, (Op.equal k v e.key).run P w = .ok b w ∧ (b = true → Q e)) → (∃ e ∈ l, (Op.equal k v e.key).run P w = .ok true w) →
    ∃ j e, (Instr.findAsking k v l i).run P w = .ok (some (i + j, e.val)) w ∧ l[j]? = some e ∧ Q e
  | [], i, _, ⟨e, he, _⟩ => by cases he
  | e :: l, i, h, hx => by
    obtain ⟨b, hb, hq⟩ := h e (by simp)
    cases b with
    | true => exact ⟨0, e, by simp [Instr.findAsking, hb], rfl, hq rfl⟩
    | false =>
      obtain ⟨j, e', h1, h2, h3⟩ := ask_some l (i + 1) (fun y hy => h y (by simp [hy])) (by
        obtain ⟨y, hy, he⟩ := hx
        rcases List.mem_cons.1 hy with rfl | hy
        · rw [hb] at he; cases he
        · exact ⟨y, hy, he⟩)
      exact ⟨j + 1, e', by simp [Instr.findAsking, hb, h1, Nat.add_assoc, Nat.add_comm 1 j], by simpa using h2, h3⟩
theorem now_some {d : TypeDesc} {v : Value} {Q : MapEntry → Prop} {T : MapEntry → Bool} : ∀ (l : List MapEntry) (i : Nat), (∀ e ∈ l, (Instr.sameNow d v e.key = none ∨ Instr.sameNow d v e.key = some (T e)) ∧ (T e = true → Q e)) → (∃ e ∈ l, T e = true) →
    Instr.findNow d v l i = none ∨ ∃ j e, Instr.findNow d v l i = some (some (i + j, e.val)) ∧ l[j]? = some e ∧ Q e
  | [], i, _, ⟨e, he, _⟩ => by cases he
  | e :: l, i, h, hx => by
    unfold Instr.findNow
    obtain ⟨he, hq⟩ := h e (by simp)
    rcases he with he | he
    · rw [he]; exact .inl rfl
    · rw [he]
      cases hT : T e with
      | true => exact .inr ⟨0, e, rfl, rfl, hq hT⟩
      | false =>
        rcases now_some l (i + 1) (fun y hy => h y (by simp [hy])) (by
          obtain ⟨y, hy, hy2⟩ := hx
          rcases List.mem_cons.1 hy with hye | hy
          · rw [hye, hT] at hy2; cases hy2
          · exact ⟨y, hy, hy2⟩) with h1 | ⟨j, e', h1, h2, h3⟩
        · exact .inl h1
        · exact .inr ⟨j + 1, e', by rw [show i + (j + 1) = i + 1 + j by omega]; exact h1, by simpa using h2, h3⟩
theorem find_no {k : TypeId} {d : TypeDesc} (hd : P.underlying k = some d) {v : Value} {w : World} {l : List MapEntry} (h : ∀ e ∈ l, (Op.equal k v e.key).run P w = .ok false w ∧ (Instr.sameNow d v e.key = none ∨ Instr.sameNow d v e.key = some false)) :
    (Instr.findKey k v l).run P w = .ok none w := by
  unfold Instr.findKey
  rw [Sem.run_bind, run_underlying hd]
  simp only [Result.andThen_ok]
  rcases now_none l 0 (fun e he => (h e he).2) with hn | hn <;> rw [hn]
  · exact ask_none l 0 fun e he => (h e he).1
  · rfl
theorem find_yes {k : TypeId} {d : TypeDesc} (hd : P.underlying k = some d) {v : Value} {w : World} {l : List MapEntry} {Q : MapEntry → Prop} {T : MapEntry → Bool} (h : ∀ e ∈ l, (Op.equal k v e.key).run P w = .ok (T e) w ∧ (Instr.sameNow d v e.key = none ∨ Instr.sameNow d v e.key = some (T e)) ∧ (T e = true → Q e))
    (hx : ∃ e ∈ l, T e = true) : ∃ j e, (Instr.findKey k v l).run P w = .ok (some (j, e.val)) w ∧ l[j]? = some e ∧ Q e := by
  obtain ⟨y, hy, hT⟩ := hx
  obtain ⟨j, e, h1, h2, h3⟩ := ask_some (Q := Q) l 0 (fun e he => ⟨_, (h e he).1, (h e he).2.2⟩) ⟨y, hy, by rw [(h y hy).1, hT]⟩
  unfold Instr.findKey
  rw [Sem.run_bind, run_underlying hd]
  simp only [Result.andThen_ok]
  rcases now_some (Q := Q) (T := T) l 0 (fun e he => ⟨(h e he).2.1, (h e he).2.2⟩) ⟨y, hy, hT⟩ with hn | ⟨j', e', hn, g2, g3⟩ <;> rw [hn]
  · exact ⟨j, e, by rw [Nat.zero_add] at h1; exact h1, h2, h3⟩
  · exact ⟨j', e', by rw [Nat.zero_add]; rfl, g2, g3⟩
theorem check_scal {ty : TypeId → Ty} {k : TypeId} (hk : TyOK P ty k) (hs : scalT (ty k) = true) (em : Bool) (n : Nat) {w : World} {v : Value} : (Instr.checkKey em (n + 1) k v).run P w = .ok () w := by
  have hu : P.underlying k = some .bool ∨ (∃ q, P.underlying k = some (.int q)) ∨ P.underlying k = some .string := by
    cases hk with
    | bo _ hu _ _ => exact .inl hu
    | int _ q _ hu _ _ => exact .inr (.inl ⟨q, hu⟩)
    | str _ hu _ _ => exact .inr (.inr hu)
    | pt _ _ _ _ hty => rw [hty] at hs; cases hs
    | sl _ _ _ _ _ _ hty => rw [hty] at hs; cases hs
    | mp _ _ _ _ _ _ _ hty => rw [hty] at hs; cases hs
    | fu _ _ _ _ _ _ hty => rw [hty] at hs; cases hs
    | arr _ _ _ _ _ _ _ _ _ hty => rw [hty] at hs; cases hs
    | st _ _ _ _ _ _ _ _ _ _ _ _ _ hty => rw [hty] at hs; cases hs
  rw [Instr.checkKey]
  rcases hu with hu | ⟨q, hu⟩ | hu <;> simp only [Sem.run_bind, run_underlying hu, Result.andThen_ok, Sem.run_pure]
theorem nat_all {n : Nat} {p : (i : Nat) → i < n → Bool} (h : Nat.all n p = true) : ∀ i (hi : i < n), p i hi = true := by
  induction n with
  | zero => intro i hi; omega
  | succ n ih =>
    rw [Nat.all, Bool.and_eq_true] at h
    intro i hi
    rcases Nat.lt_succ_iff_lt_or_eq.1 hi with h1 | rfl
    · exact ih h.1 i h1
    · exact h.2
theorem check_key {ty : TypeId → Ty} {k : TypeId} (hk : TyOK P ty k) (hkt : keyT (ty k) = true) (em : Bool) {c : Cx} {w : World} {a : AV} {v : Value} (hv : RV c a v) (hs : Sh (ty k) a) : (Instr.checkKey em 10000 k v).run P w = .ok () w := by
  by_cases hsc : scalT (ty k) = true
  · exact check_scal hk hsc em 9999
  · cases hk with
    | st _ fs n f hu hn hf hg hi hr hq hh hnm hty =>
      subst hn
      rw [hty] at hkt hs
      have hall := nat_all (p := fun i _ => scalT (f i)) hkt
      cases a with
      | agg u l g =>
        obtain ⟨rfl, rfl, hs⟩ := hs
        obtain ⟨cs, rfl, gv, hgv, rfl⟩ := hv
        rw [Instr.checkKey]
        simp only [Sem.run_bind, run_underlying hu, Result.andThen_ok]
        rw [← Array.forIn_toList]
        have each : ∀ q ∈ fs.toList, q.name ≠ "_" ∧ ∃ z, (part q.type ((List.range fs.size).flatMap gv).toArray q.offset).run P w = .ok z w ∧ (Instr.checkKey em 9999 q.type z).run P w = .ok () w := fun q hq => by
          obtain ⟨i, hi, rfl⟩ := List.getElem_of_mem hq
          have hi' : i < fs.size := by simpa using hi
          rw [Array.getElem_toList]
          obtain ⟨e1, e2, _⟩ := hg i hi'
          refine ⟨hnm i hi', ?_⟩
          obtain ⟨post, hp⟩ := fm_at gv hi'
          have hlen : ((List.range i).flatMap gv).length = fs[i].offset := by
            rw [fm_len, e2]; exact sumN_congr i (fun j hj => R_len (hgv j (by omega)) (hs j (by omega)))
          refine ⟨_, by rw [← hlen]; exact run_part' (hf i hi') (by simpa using hp) (hgv i hi') (by rw [← e1]; exact hs i hi'), ?_⟩
          exact check_scal (hf i hi') (by rw [← e1]; exact hall i hi') em 9998
        generalize fs.toList = L at each
        induction L with
        | nil => simp
        | cons q L ih =>
          obtain ⟨hn, z, p1, p2⟩ := each q (by simp)
          simp only [List.forIn_cons, Sem.run_bind, hn, ne_eq, not_false_eq_true, if_true, Result.andThen_ok, p1, p2, Sem.run_pure]
          exact ih (fun y hy => each y (by simp [hy]))
      | _ => exact hs.elim
    | arr _ _ _ _ _ _ _ _ _ hty => rw [hty] at hkt; cases hkt
    | bo _ _ _ hty => rw [hty] at hsc; exact absurd rfl hsc
    | int _ _ _ _ _ hty => rw [hty] at hsc; exact absurd rfl hsc
    | str _ _ _ hty => rw [hty] at hsc; exact absurd rfl hsc
    | pt _ _ _ _ hty => rw [hty] at hkt; cases hkt
    | sl _ _ _ _ _ _ hty => rw [hty] at hkt; cases hkt
    | mp _ _ _ _ _ _ _ hty => rw [hty] at hkt; cases hkt
    | fu _ _ _ _ _ _ hty => rw [hty] at hkt; cases hkt
theorem same_bits_one {v : Value} (h : (∃ q z, v = .int q z) ∨ (∃ b, v = .bool b) ∨ ∃ s, v = .string s) (n : Nat) : Instr.sameBits n v v = true := by
  rcases h with ⟨q, z, rfl⟩ | ⟨b, rfl⟩ | ⟨s, rfl⟩
  · cases n <;> simp [Instr.sameBits]
  · cases n <;> simp [Instr.sameBits]
  · cases n <;> (simp only [Instr.sameBits]; exact (MapKept.bytes_beq _ _).2 rfl)
theorem flat_cells {c : Cx} : ∀ {a : AV} {cs : List Value}, Flat a → R c a cs → ∀ v ∈ cs, (∃ q z, v = .int q z) ∨ (∃ b, v = .bool b) ∨ ∃ s, v = .string s := by
  intro a
  induction a with
  | agg u l f ih =>
    rintro cs hf ⟨g, hg, rfl⟩ v hv
    obtain ⟨i, hi, hvi⟩ := List.mem_flatMap.1 hv
    have hi : i < l := by simpa using hi
    exact ih i (forI_at hf i hi) (hg i hi) v hvi
  | bo y => intro cs _ h v hv; rw [show cs = _ from h] at hv; exact .inr (.inl ⟨_, by simpa using hv⟩)
  | str y => intro cs _ h v hv; rw [show cs = _ from h] at hv; exact .inr (.inr ⟨_, by simpa using hv⟩)
  | _ => intro cs hf h v hv; first | exact hf.elim | (rw [show cs = _ from h] at hv; exact .inl ⟨_, _, by simpa using hv⟩)
theorem same_bits {c : Cx} {a : AV} {v : Value} (hf : Flat a) (h : RV c a v) : Instr.sameBits 10000 v v = true := by
  cases a with
  | agg u l f =>
    obtain ⟨cs, rfl, hr⟩ := h
    have hc := flat_cells hf hr
    unfold Instr.sameBits
    simp only [beq_self_eq_true, Bool.true_and, List.all_eq_true]
    intro p hp
    have : ∀ (l : List Value) (p : Value × Value), p ∈ l.zip l → p.1 = p.2 ∧ p.1 ∈ l := by
      intro l
      induction l with
      | nil => intro p hp; simp at hp
      | cons y l ih =>
        intro p hp
        simp only [List.zip_cons_cons, List.mem_cons] at hp
        rcases hp with rfl | hp
        · exact ⟨rfl, by simp⟩
        · obtain ⟨h1, h2⟩ := ih p hp
          exact ⟨h1, by simp [h2]⟩
    obtain ⟨e, hm⟩ := this _ p hp
    obtain ⟨y, z⟩ := p
    simp only at e hm
    subst e
    exact same_bits_one (hc y (by simpa using hm)) _
  | junk => exact hf.elim
  | _ => first | exact hf.elim | exact same_bits_one (flat_cells (a := _) hf (show R c _ [v] from h) v (by simp)) _
def setO (w : World) (b : Nat) (x : Obj) : World := { w with heap := w.heap.setIfInBounds b x }
theorem setO_at {w : World} {b : Nat} {x : Obj} (h : b < w.heap.size) : (setO w b x).heap[b]? = some x := by
  simp [setO, h]
theorem setO_ne {w : World} {b i : Nat} {x : Obj} (h : i ≠ b) : (setO w b x).heap[i]? = w.heap[i]? := by
  show (w.heap.setIfInBounds b x)[i]? = _
  rw [Array.getElem?_setIfInBounds, if_neg (fun e => h e.symm)]
theorem setO_low {c : Cx} {b : Nat} {x : Obj} (hb : c.base ≤ b) : Below c.base c.w (setO c.w b x) :=
  ⟨rfl, rfl, rfl, by simp [setO], fun k hk => setO_ne (by omega)⟩
/-- A new object. -/
theorem valid_ob {o1 : Ob} {x0 : Obj} (hok : ∀ c, ObOK c o1 x0) {v0 : AV} {vf : Nat → Value} (hv : ∀ (c' : Cx) b, c'.m key = some (.ob o1) → c'.bl key = some b → RV c' v0 (vf b))
    (h : ∀ (c : Cx) (act : Act), (∀ y, RV c (x y) (act.eval y)) → (execOp act.eval o).run P c.w = .ok (.value (vf c.w.heap.size)) (c.w.alloc x0)) : Valid P E.ty o x key m ⟨v0, [(key, .ob o1)], []⟩ := by
  intro c act K Q hty hm hb hrd hf hx hK
  have hrun := h c act hx
  unfold Oper.wp
  rw [hrun]
  have habs : (Row.ob o1).abs = true := by cases o1 <;> first | rfl | exact (hok c).elim
  have hlow : Below c.w.heap.size c.w (c.w.alloc x0) := (Below.refl _ _).alloc (Nat.le_refl _) _
  have hstep := step_add hm hb (key := key) (r := .ob o1) (bl := some c.w.heap.size) (sv := undef) (w := c.w.alloc x0) (hf key (Nat.le_refl _) (by omega)) hlow (fun b hb => by injection hb with hb; omega)
    ⟨c.w.heap.size, x0, if_pos rfl, heap_alloc_new _ _, hok _⟩
  exact hK _ _ hstep (hv _ _ (putM_same _ _ _ habs) (if_pos rfl))
theorem TyOK.mp_of {k e : TypeId} (h : TyOK P E.ty t) (he : E.ty t = .mp k e) : P.underlying t = some (.map k e) ∧ TyOK P E.ty k ∧ TyOK P E.ty e := by
  cases h with
  | mp _ k' e' hu _ hk' he' hty => rw [hty] at he; injection he with h1 h2; subst h1; subst h2; exact ⟨hu, hk', he'⟩
  | _ => simp_all
theorem ents_imp {S S' : Ty → AV → Prop} {C C' : AV → Prop} (hS : ∀ τ a, S τ a → S' τ a) (hC : ∀ a, C a → C' a) {kt et : Ty} {f : Nat → AV} : ∀ {n : Nat}, EntsOK S C kt et n f → EntsOK S' C' kt et n f
  | 0, _ => trivial
  | _ + 1, h => ⟨ents_imp hS hC h.1, hS _ _ h.2.1, hC _ h.2.2.1, h.2.2.2.1, hS _ _ h.2.2.2.2.1, h.2.2.2.2.2⟩
theorem s_makeMap (hT : TysOK P E.ty) (ho : o.op = .makeMap t none) (h : sem E m key x (.makeMap t none) K) : ∃ r, K r ∧ Valid P E.ty o x key m r := by
  simp only [sem, semG] at h
  split at h
  · rename_i k e hty
    obtain ⟨hk, h⟩ := h
    rcases h with ⟨n, f, j, hE, hd, h⟩ | ⟨_, h⟩ | ⟨_, h⟩
    rotate_left
    rotate_left
    · refine ⟨_, h, valid_ob (x0 := .map #[] 0) (vf := fun b => .map (some b)) (fun c => show ObOK c (.vm (E.ty e) 0 fun _ => .junk) (.map #[] 0) from ⟨#[], 0, rfl, rfl, by simp, fun i hi => absurd hi (Nat.not_lt_zero i)⟩) (fun c' b h1 h2 => ⟨_, _, _, b, h1, h2, rfl⟩) fun c act _ => ?_⟩
      unfold execOp
      simp only [ho, Option.map_none, Sem.run_bind, run_makeMap, Result.andThen_ok, Sem.run_pure]
    rotate_left
    · refine ⟨_, h, valid_ob (x0 := .map #[] 0) (vf := fun b => .map (some b)) (fun c => show ObOK c (.cnt 0) (.map #[] 0) from ⟨#[], 0, rfl, rfl, by simp⟩) (fun c' b h1 h2 => ⟨_, b, h1, h2, rfl⟩) fun c act _ => ?_⟩
      unfold execOp
      simp only [ho, Option.map_none, Sem.run_bind, run_makeMap, Result.andThen_ok, Sem.run_pure]
    refine ⟨_, h, valid_ob (x0 := .map #[] 0) (vf := fun b => .map (some b)) (fun c => show ObOK c (.mp (E.ty k) (E.ty e) n f fun _ => false) (.map #[] 0) from ⟨#[], 0, rfl, hE, hk, hd, by simp, (fun i _ hi => by cases hi), by simp, by simp, ⟨[], by simp, by simp, by simp⟩, by simp⟩) (fun c' b h1 h2 => ⟨_, b, h1, h2, rfl⟩) fun c act _ => ?_⟩
    unfold execOp
    simp only [ho, Option.map_none, Sem.run_bind, run_makeMap, Result.andThen_ok, Sem.run_pure]
  · exact h.elim
theorem cnt_no {ty : TypeId → Ty} {k : TypeId} (hk : TyOK P ty k) (hty : ty k = .int .u32) {d0 : TypeDesc} (hd0 : P.underlying k = some d0) {n : Nat} {es : Array MapEntry} (hup : ∀ e ∈ es.toList, ∃ i : Nat, i < n ∧ e.key = .int .u32 (i : Int)) {v : BitVec 32} (hn : n ≤ v.toNat) {w : World} {z : Value} (hz : RV Cx.bare (.u32 v) z) :
    (Instr.findKey k z es.toList).run P w = .ok none w := by
  refine find_no hd0 (l := es.toList) fun en hen => ?_
  obtain ⟨i, hi, e⟩ := hup en hen
  have hlt := v.isLt
  have hb : RV Cx.bare (.u32 (BitVec.ofNat 32 i)) en.key := by
    rw [e]
    show [Value.int .u32 (i : Int)] = [Value.int .u32 (U32 (BitVec.ofNat 32 i))]
    unfold U32
    rw [BitVec.toNat_ofNat, Nat.mod_eq_of_lt (by omega)]
  have hf : eqB (.u32 v) (.u32 (BitVec.ofNat 32 i)) = false := by
    rw [← Bool.not_eq_true, eqB_iff]
    intro ha
    have ha : v = BitVec.ofNat 32 i := ha
    rw [ha, BitVec.toNat_ofNat, Nat.mod_eq_of_lt (by omega)] at hn
    omega
  have h1 := op_equal (w := w) hk (by rw [hty]; rfl) hz hb (by rw [hty]; trivial) (by rw [hty]; trivial) trivial
  have h2 := same_now hk hd0 hz hb (by rw [hty]; trivial) (by rw [hty]; trivial)
  rw [hf] at h1 h2
  exact ⟨h1, h2⟩
theorem same_ent {ty : TypeId → Ty} {k : TypeId} (hk : TyOK P ty k) (hkt : keyT (ty k) = true) {et : Ty} {n : Nat} {f : Nat → AV} (hE : EntsOK Sh Cmp (ty k) et n f) (hdis : ∀ a, a < n → ∀ b, b < n → AEq (ekey f a) (ekey f b) → a = b)
    {i j : Nat} (hi : i < n) (hj : j < n) {c c' : Cx} {v : Value} (h1 : RV c (ekey f i) v) (h2 : RV c' (ekey f j) v) : i = j := by
  obtain ⟨si, ci, fi, _, _⟩ := ents_at hE hi
  obtain ⟨sj, cj, fj, _, _⟩ := ents_at hE hj
  have e1 := op_equal (w := default) hk hkt h1 (flat_RV (c' := c) fj h2) si sj ci
  have e2 := op_equal (w := default) hk hkt h1 h1 si si ci
  rw [e1] at e2
  injection e2 with e2 _
  exact hdis i hi j hj (eqB_iff.1 (by rw [e2]; exact eqB_iff.2 (aeq_self fi)))
theorem flatC_iff {c : Cx} : ∀ {a : AV} {cs : List Value}, Flat a → (FlatC a cs ↔ R c a cs) := by
  intro a
  induction a with
  | agg u l f ih =>
    intro cs hf
    constructor
    · rintro ⟨g, hg, rfl⟩
      exact ⟨g, fun i hi => (ih i (forI_at hf i hi)).1 (hg i hi), rfl⟩
    · rintro ⟨g, hg, rfl⟩
      exact ⟨g, fun i hi => (ih i (forI_at hf i hi)).2 (hg i hi), rfl⟩
  | _ => intro cs hf; first | exact hf.elim | exact Iff.rfl
theorem rb_iff {c : Cx} {a : AV} {v : Value} (hf : Flat a) : RB a v ↔ RV c a v := by
  cases a with
  | agg u l f =>
    constructor
    · rintro ⟨cs, rfl, h⟩; exact ⟨cs, rfl, (flatC_iff hf).1 h⟩
    · rintro ⟨cs, rfl, h⟩; exact ⟨cs, rfl, (flatC_iff hf).2 h⟩
  | _ => first | exact hf.elim | exact flatC_iff (c := c) (a := _) hf
theorem mapOK_q {Q Q' : AV → MapEntry → Prop} {kt et : Ty} {n : Nat} {f : Nat → AV} {d : Nat → Bool} {es : Array MapEntry} {clock : Nat} (h : ∀ i, i < n → ∀ e, Q (f i) e ↔ Q' (f i) e) (hm : MapOK Q kt et n f d es clock) : MapOK Q' kt et n f d es clock := by
  obtain ⟨h1, h2, h3, h4, h5, h6, h7, ⟨ks, h8, h9, h10⟩, h11⟩ := hm
  refine ⟨h1, h2, h3, fun e he => ?_, fun i hi hd => ?_, h6, h7, ⟨ks, h8, h9, fun i hi => ⟨(h10 i hi).1, ?_⟩⟩, fun e he i j hi hj q1 q2 => h11 e he i j hi hj ((h i hi e).2 q1) ((h j hj e).2 q2)⟩
  · obtain ⟨i, hi, q⟩ := h4 e he; exact ⟨i, hi, (h i hi e).1 q⟩
  · obtain ⟨e, he, q⟩ := h5 i hi hd; exact ⟨e, he, (h i hi e).1 q⟩
  · obtain ⟨e, he, q⟩ := (h10 i hi).2; exact ⟨e, he, (h i (h10 i hi).1 e).1 q⟩
theorem kb_kv {kt et : Ty} {n : Nat} {f : Nat → AV} (hE : EntsOK Sh Cmp kt et n f) {i : Nat} (hi : i < n) (e : MapEntry) : KB (f i) e ↔ KV kt et (f i) e := by
  obtain ⟨_, _, kf, _, vf⟩ := ents_at hE hi
  exact ⟨fun h => ⟨(rb_iff kf).1 h.1, (rb_iff vf).1 h.2⟩, fun h => ⟨(rb_iff kf).2 h.1, (rb_iff vf).2 h.2⟩⟩
theorem mapOK_kv {kt et : Ty} {n : Nat} {f : Nat → AV} {d : Nat → Bool} {es : Array MapEntry} {clock : Nat} (h : MapOK KB kt et n f d es clock) : MapOK (KV kt et) kt et n f d es clock := mapOK_q (fun _ hi e => kb_kv h.1 hi e) h
theorem mapOK_kb {kt et : Ty} {n : Nat} {f : Nat → AV} {d : Nat → Bool} {es : Array MapEntry} {clock : Nat} (h : MapOK (KV kt et) kt et n f d es clock) : MapOK KB kt et n f d es clock := mapOK_q (fun _ hi e => (kb_kv h.1 hi e).symm) h
theorem mapOK_less {Q : AV → MapEntry → Prop} {kt et : Ty} {n : Nat} {f : Nat → AV} {d d' : Nat → Bool} {es : Array MapEntry} {clock : Nat} (hd : ∀ i, i < n → d' i = true → d i = true) (h : MapOK Q kt et n f d es clock) : MapOK Q kt et n f d' es clock := by
  obtain ⟨h1, h2, h3, h4, h5, h6⟩ := h
  exact ⟨h1, h2, h3, h4, fun i hi hh => h5 i hi (hd i hi hh), h6⟩
/-- There are no more entries than there may be. -/
theorem pig : ∀ (n : Nat) (l : List Nat), (∀ x ∈ l, x < n) → l.Nodup → l.length ≤ n
  | 0, l, h, _ => by
    cases l with
    | nil => simp
    | cons a l => exact absurd (h a (by simp)) (by omega)
  | n + 1, l, h, hn => by
    have h1 := pig n (l.erase n) (fun x hx => by
      have h2 := (List.Nodup.mem_erase_iff hn).1 hx
      have h3 := h x h2.2
      have h4 := h2.1
      omega) (hn.erase n)
    have h2 : l.length ≤ (l.erase n).length + 1 := by rw [List.length_erase]; split <;> omega
    omega
theorem s_insert (hT : TysOK P E.ty) {y z w : Operand} (ho : o.op = .insert t y z w) (h : sem E m key x (.insert t y z w) K) : ∃ r, K r ∧ Valid P E.ty o x key m r := by
  simp only [sem, semG] at h
  split at h
  · rename_i k e hty
    obtain ⟨hu, hk, he⟩ := (hT t (by rw [hty]; simp)).mp_of hty
    split at h
    · rename_i kt et n f j q hy
      obtain ⟨rfl, rfl, hj, sz, sw, fz, fw, h⟩ := h
      refine ⟨_, h, fun c act K Q hct hm hb hrd hf hx hK => ?_⟩
      have h1 := hx y
      rw [hy] at h1
      obtain ⟨d, b, hcq, hbl, ev⟩ := (show R c _ _ from h1)
      injection ev with ev
      obtain ⟨b', ob, hb', hheap, es, clock, rfl, hE, hkt, hdis, hup, hdn, hbn, hnd, ⟨ks0, hks1, hks2, hks3⟩, huq⟩ := hm.rows q _ hcq
      rw [hbl] at hb'; injection hb' with hb'; subst hb'
      have hlt : b < c.w.heap.size := (Array.getElem?_eq_some_iff.1 hheap).1
      obtain ⟨d0, hd0⟩ : ∃ d0, P.underlying k = some d0 := ⟨_, hk.desc.choose_spec.1⟩
      obtain ⟨ks, kc, kf, vs, vf⟩ := ents_at hE hj
      have hkv : RV Cx.bare (ekey f (j key)) (act.eval z) := flat_RV kf (feq_RV fz (hx z))
      have hvv : RV Cx.bare (eval' f (j key)) (act.eval w) := flat_RV vf (feq_RV fw (hx w))
      have idx : ∀ en ∈ es.toList, ∃ i, i < n ∧ KV (E.ty k) (E.ty e) (f i) en ∧ (Op.equal k (act.eval z) en.key).run P c.w = .ok (eqB (ekey f (j key)) (ekey f i)) c.w ∧ (Instr.sameNow d0 (act.eval z) en.key = none ∨ Instr.sameNow d0 (act.eval z) en.key = some (eqB (ekey f (j key)) (ekey f i))) := fun en hen => by
        obtain ⟨i, hi, hkv'⟩ := hup en hen
        obtain ⟨ks', _⟩ := ents_at hE hi
        exact ⟨i, hi, hkv', op_equal hk hkt hkv hkv'.1 ks ks' kc, same_now hk hd0 hkv hkv'.1 ks ks'⟩
      have hchk : (Instr.checkKey false 10000 k (act.eval z)).run P c.w = .ok () c.w := check_key hk hkt false hkv ks
      have hex : ∀ a : Act, execOp a.eval o = (do Instr.mapUpdate t (a.eval y) (a.eval z) (a.eval w); pure .skip) := fun a => by unfold execOp; simp only [ho]
      -- what is written
      have main : ∃ es' clock', (Instr.mapUpdate t (.map (some b)) (act.eval z) (act.eval w)).run P c.w = .ok () (setO c.w b (.map es' clock')) ∧
          (∀ en ∈ es'.toList, ∃ i, i < n ∧ KV (E.ty k) (E.ty e) (f i) en) ∧ (∀ i, i < n → ((∃ en ∈ es.toList, KV (E.ty k) (E.ty e) (f i) en) ∨ i = j key) → ∃ en ∈ es'.toList, KV (E.ty k) (E.ty e) (f i) en) ∧
          (∀ en ∈ es'.toList, en.born < clock') ∧ (es'.toList.map (·.born)).Nodup ∧ ((¬ ∃ en ∈ es.toList, KV (E.ty k) (E.ty e) (f (j key)) en) ∧ es'.size = es.size + 1 ∨ es'.size = es.size) := by
        by_cases hany : ∃ en ∈ es.toList, KV (E.ty k) (E.ty e) (f (j key)) en
        · -- it is there
          obtain ⟨en, hen, hkv'⟩ := hany
          classical
          let T : MapEntry → Bool := fun en => if h : en ∈ es.toList then eqB (ekey f (j key)) (ekey f (idx en h).choose) else false
          have hT' : ∀ en (h : en ∈ es.toList), T en = eqB (ekey f (j key)) (ekey f (idx en h).choose) := fun en h => dif_pos h
          have hQ : ∀ en (h : en ∈ es.toList), T en = true → KV (E.ty k) (E.ty e) (f (j key)) en := fun en h ht => by
            rw [hT' en h, eqB_iff] at ht
            have hs := (idx en h).choose_spec
            have := hdis _ hj _ hs.1 ht
            rw [this]; exact hs.2.1
          have heq : T en = true := by
            have h1 := (idx en hen).choose_spec
            have h2 := op_equal (w := c.w) hk hkt hkv hkv'.1 ks ks kc
            rw [h1.2.2.1] at h2
            injection h2 with h2 _
            rw [hT' en hen, h2, eqB_iff]
            exact aeq_self kf
          obtain ⟨jj, en', hrun, hat, hq⟩ := find_yes hd0 (T := T) (Q := fun en => KV (E.ty k) (E.ty e) (f (j key)) en) (l := es.toList) (v := act.eval z) (w := c.w) (fun en h => by
            have hs := (idx en h).choose_spec
            exact ⟨by rw [hT' en h]; exact hs.2.2.1, by rw [hT' en h]; exact hs.2.2.2, fun ht => hQ en h ht⟩) ⟨en, hen, heq⟩
          have hkey : en'.key = act.eval z := flat_detv kf hq.1 hkv
          have hat' : es[jj]? = some en' := by simpa using hat
          have hbm : (es.modify jj fun q => { q with key := act.eval z, val := act.eval w }).toList.map (·.born) = es.toList.map (·.born) := by
            apply List.ext_getElem?
            intro p
            rw [List.getElem?_map, List.getElem?_map, Array.getElem?_toList, Array.getElem?_toList, Array.getElem?_modify]
            split
            · cases es[p]? <;> rfl
            · rfl
          refine ⟨es.modify jj fun q => { q with key := act.eval z, val := act.eval w }, clock, ?_, fun y hy => ?_, fun i hi hd' => ?_, fun y hy => ?_, by rw [hbm]; exact hnd, .inr (by simp)⟩
          rotate_left 3
          · have hmem : y.born ∈ es.toList.map (·.born) := by rw [← hbm]; exact List.mem_map_of_mem hy
            obtain ⟨y', hy', e⟩ := List.mem_map.1 hmem
            rw [← e]; exact hbn y' hy'
          all_goals skip
          · unfold Instr.mapUpdate
            simp only [Sem.run_bind, run_underlying hu, Result.andThen_ok, MapKept.run_getObj_map hheap, hchk, hrun, hat', Option.map_some, Option.getD_some, hkey, Instr.keyThatStays, same_bits kf hkv, if_true, Sem.run_pure, MapKept.run_setObj_map _ hheap]
            rfl
          · have hy' : y ∈ es.modify jj (fun q => { q with key := act.eval z, val := act.eval w }) := Array.mem_toList_iff.1 hy
            obtain ⟨i, hi', rfl⟩ := Array.getElem_of_mem hy'
            rw [Array.getElem_modify]
            split
            · exact ⟨j key, hj, hkv, hvv⟩
            · exact hup _ (by simp)
          · rcases hd' with hd' | rfl
            · obtain ⟨y, hy, hyk⟩ := hd'
              obtain ⟨p, hp, rfl⟩ := List.getElem_of_mem hy
              have hp' : p < es.size := by simpa using hp
              by_cases hpj : jj = p
              · subst hpj
                have e1 : es[jj] = en' := by
                  have := hat'; rw [Array.getElem?_eq_getElem hp'] at this; injection this
                have e2 : j key = i := by
                  have h1 : RV Cx.bare (ekey f i) (act.eval z) := by
                    have := hyk.1
                    rw [Array.getElem_toList, e1, hkey] at this; exact this
                  have h2 := op_equal (w := c.w) hk hkt hkv h1 ks (ents_at hE hi).1 kc
                  have h3 := op_equal (w := c.w) hk hkt hkv hkv ks ks kc
                  rw [h3] at h2
                  injection h2 with h2 _
                  exact hdis _ hj _ hi ((eqB_iff).1 (by rw [← h2]; exact eqB_iff.2 (aeq_self kf)))
                subst e2
                refine ⟨{ es[jj] with key := act.eval z, val := act.eval w }, ?_, hkv, hvv⟩
                refine Array.mem_toList_iff.2 (Array.mem_of_getElem? (i := jj) ?_)
                rw [Array.getElem?_modify, if_pos rfl, Array.getElem?_eq_getElem hp']; rfl
              · refine ⟨es[p], ?_, by simpa using hyk⟩
                refine Array.mem_toList_iff.2 (Array.mem_of_getElem? (i := p) ?_)
                rw [Array.getElem?_modify, if_neg hpj, Array.getElem?_eq_getElem hp']
            · have hjs : jj < es.size := (Array.getElem?_eq_some_iff.1 hat').1
              refine ⟨{ es[jj] with key := act.eval z, val := act.eval w }, ?_, hkv, hvv⟩
              refine Array.mem_toList_iff.2 (Array.mem_of_getElem? (i := jj) ?_)
              rw [Array.getElem?_modify, if_pos rfl, Array.getElem?_eq_getElem hjs]; rfl
        · -- it is not
          have hno := find_no hd0 (l := es.toList) (v := act.eval z) (w := c.w) fun en hen => by
            obtain ⟨i, hi, hkv', h1, h2⟩ := idx en hen
            have hf : eqB (ekey f (j key)) (ekey f i) = false := by
              rw [← Bool.not_eq_true, eqB_iff]
              intro ha
              have := hdis _ hj _ hi ha
              subst this
              exact hany ⟨en, hen, hkv'⟩
            rw [hf] at h1 h2
            exact ⟨h1, h2⟩
          refine ⟨es.push { key := act.eval z, val := act.eval w, born := clock }, clock + 1, ?_, fun y hy => ?_, fun i hi hd' => ?_, fun y hy => ?_, ?_, .inl ⟨hany, by simp⟩⟩
          rotate_left 3
          · rw [Array.toList_push, List.mem_append] at hy
            rcases hy with hy | hy
            · exact Nat.lt_succ_of_lt (hbn y hy)
            · obtain rfl := List.mem_singleton.1 hy
              exact Nat.lt_succ_self clock
          · rw [Array.toList_push, List.map_append, List.nodup_append]
            refine ⟨hnd, by simp, fun a ha b hb e => ?_⟩
            obtain ⟨y, hy, rfl⟩ := List.mem_map.1 ha
            obtain ⟨y', hy', rfl⟩ := List.mem_map.1 hb
            obtain rfl := List.mem_singleton.1 hy'
            have h1 := hbn y hy
            have h2 : y.born = clock := e
            omega
          all_goals skip
          · unfold Instr.mapUpdate
            simp only [Sem.run_bind, run_underlying hu, Result.andThen_ok, MapKept.run_getObj_map hheap, hchk, hno, MapKept.run_setObj_map _ hheap]
            rfl
          · rw [Array.toList_push, List.mem_append] at hy
            rcases hy with hy | hy
            · exact hup y hy
            · obtain rfl := List.mem_singleton.1 hy
              exact ⟨j key, hj, hkv, hvv⟩
          · rcases hd' with hd' | rfl
            · obtain ⟨y, hy, hyk⟩ := hd'
              exact ⟨y, by rw [Array.toList_push]; exact List.mem_append_left _ hy, hyk⟩
            · exact ⟨{ key := act.eval z, val := act.eval w, born := clock }, by rw [Array.toList_push]; exact List.mem_append_right _ (List.mem_singleton.2 rfl), hkv, hvv⟩
      obtain ⟨es', clock', hrun, hup', hdn', hbn', hnd', hsz'⟩ := main
      have hput : putM c.m q (.ob (.put (j key))) q = some (.ob (.mp (E.ty k) (E.ty e) n f (addD d (j key)))) := by rw [putM_at, hcq]; rfl
      refine unit_wp (hex act) (w' := setO c.w b (.map es' clock')) (by rw [ev]; exact hrun) (hK (c.setRow q _ _) undef (step_ob hm hcq hput ⟨rfl, rfl, rfl, rfl⟩ hbl (setO_low (hm.mu q _ b hcq hbl).2.1) (fun b' _ hne => setO_ne hne) ?_) trivial)
      refine ⟨b, _, hbl, setO_at hlt, es', clock', rfl, hE, hkt, hdis, hup', fun i hi hd' => hdn' i hi ?_, hbn', hnd', ?_, fun en _ i i' hi hi' h1 h2 => same_ent hk hkt hE hdis hi hi' h1.1 h2.1⟩
      · simp only [addD, Bool.or_eq_true, Nat.beq_eq] at hd'
        rcases hd' with hd' | hd'
        · exact .inr hd'
        · exact .inl (hdn i hi hd')
      · rcases hsz' with ⟨hno, hs⟩ | hs
        · refine ⟨j key :: ks0, List.nodup_cons.2 ⟨fun hq => hno (hks3 _ hq).2, hks1⟩, by simp [hks2, hs], fun i hi => ?_⟩
          rcases List.mem_cons.1 hi with rfl | hi
          · exact ⟨hj, hdn' _ hj (.inr rfl)⟩
          · exact ⟨(hks3 i hi).1, hdn' i (hks3 i hi).1 (.inl (hks3 i hi).2)⟩
        · exact ⟨ks0, hks1, by rw [hks2, hs], fun i hi => ⟨(hks3 i hi).1, hdn' i (hks3 i hi).1 (.inl (hks3 i hi).2)⟩⟩
    · rename_i q hy
      split at h
      · rename_i n hmq
        split at h
        · rename_i v hz
          obtain ⟨hky, hvn, h⟩ := h
          refine ⟨_, h, fun c act K Q hct hm hb hrd hf hx hK => ?_⟩
          have hcq := (hrd q (by simp)).trans hmq
          have h1 := hx y
          rw [hy] at h1
          obtain ⟨n', b, hcq', hbl, ev⟩ := (show R c _ _ from h1)
          injection ev with ev
          obtain ⟨b', ob, hb', hheap, es, clock, rfl, hsz, hup⟩ := hm.rows q _ hcq
          rw [hbl] at hb'; injection hb' with hb'; subst hb'
          have hlt : b < c.w.heap.size := (Array.getElem?_eq_some_iff.1 hheap).1
          obtain ⟨d0, hd0⟩ : ∃ d0, P.underlying k = some d0 := ⟨_, hk.desc.choose_spec.1⟩
          have hzz : RV Cx.bare (.u32 v) (act.eval z) := by
            have := hx z
            rw [hz] at this; exact flat_RV (c := c) trivial this
          have hev : act.eval z = .int .u32 (n : Int) := by
            have : [act.eval z] = [Value.int .u32 (U32 v)] := hzz
            injection this with this _
            rw [this]; unfold U32; rw [hvn]
          have hchk : (Instr.checkKey false 10000 k (act.eval z)).run P c.w = .ok () c.w := check_key hk (by rw [hky]; rfl) false hzz (by rw [hky]; trivial)
          have hno : (Instr.findKey k (act.eval z) es.toList).run P c.w = .ok none c.w := cnt_no hk hky hd0 hup (Nat.le_of_eq hvn.symm) hzz
          have hex : ∀ a : Act, execOp a.eval o = (do Instr.mapUpdate t (a.eval y) (a.eval z) (a.eval w); pure .skip) := fun a => by unfold execOp; simp only [ho]
          have hrun : (Instr.mapUpdate t (.map (some b)) (act.eval z) (act.eval w)).run P c.w = .ok () (setO c.w b (.map (es.push { key := act.eval z, val := act.eval w, born := clock }) (clock + 1))) := by
            unfold Instr.mapUpdate
            simp only [Sem.run_bind, run_underlying hu, Result.andThen_ok, MapKept.run_getObj_map hheap, hchk, hno, MapKept.run_setObj_map _ hheap]
            rfl
          have hput : putM c.m q (.ob (.cnt (n + 1))) q = some (.ob (.cnt (n + 1))) := putM_same _ _ _
          refine unit_wp (hex act) (w' := setO c.w b (.map (es.push { key := act.eval z, val := act.eval w, born := clock }) (clock + 1))) (by rw [ev]; exact hrun) (hK (c.setRow q _ _) undef (step_ob hm hcq hput trivial hbl (setO_low (hm.mu q _ b hcq hbl).2.1) (fun b' _ hne => setO_ne hne) ?_) trivial)
          refine ⟨b, _, hbl, setO_at hlt, _, _, rfl, by simp [hsz], fun e he => ?_⟩
          rw [Array.toList_push, List.mem_append] at he
          rcases he with he | he
          · obtain ⟨i, hi, e'⟩ := hup e he
            exact ⟨i, by omega, e'⟩
          · obtain rfl := List.mem_singleton.1 he
            exact ⟨n, by omega, hev⟩
        · exact h.elim
      · exact h.elim
    · exact h.elim
  · exact h.elim
theorem s_mapUpdate (hT : TysOK P E.ty) {y z w : Operand} (ho : o.op = .mapUpdate t y z w) (h : sem E m key x (.mapUpdate t y z w) K) : ∃ r, K r ∧ Valid P E.ty o x key m r := by
  simp only [sem, semG] at h
  split at h
  · rename_i k e hty
    obtain ⟨hu, hk, he⟩ := (hT t (by rw [hty]; simp)).mp_of hty
    split at h
    · rename_i q hy
      split at h
      · rename_i et n f hmq
        split at h
        · rename_i v hz
          obtain ⟨hky, rfl, hvn, hsw, hiw, h⟩ := h
          refine ⟨_, h, fun c act K Q hct hm hb hrd hf hx hK => ?_⟩
          have hcq := (hrd q (by simp)).trans hmq
          have h1 := hx y
          rw [hy] at h1
          obtain ⟨et', n', f', b, hcq', hbl, ev⟩ := (show R c _ _ from h1)
          injection ev with ev
          obtain ⟨b', ob, hb', hheap, es, clock, rfl, hsz, hup, hdn⟩ := hm.rows q _ hcq
          rw [hbl] at hb'; injection hb' with hb'; subst hb'
          have hlt : b < c.w.heap.size := (Array.getElem?_eq_some_iff.1 hheap).1
          obtain ⟨d0, hd0⟩ : ∃ d0, P.underlying k = some d0 := ⟨_, hk.desc.choose_spec.1⟩
          have hzz : RV Cx.bare (.u32 v) (act.eval z) := by
            have := hx z
            rw [hz] at this; exact flat_RV (c := c) trivial this
          have hev : act.eval z = .int .u32 (n : Int) := by
            have : [act.eval z] = [Value.int .u32 (U32 v)] := hzz
            injection this with this _
            rw [this]; unfold U32; rw [hvn]
          have hkeys : ∀ e ∈ es.toList, ∃ i : Nat, i < n ∧ e.key = .int .u32 (i : Int) := fun e he => by
            obtain ⟨i, hi, hk, _⟩ := hup e he
            exact ⟨i, hi, hk⟩
          have hchk : (Instr.checkKey false 10000 k (act.eval z)).run P c.w = .ok () c.w := check_key hk (by rw [hky]; rfl) false hzz (by rw [hky]; trivial)
          have hno : (Instr.findKey k (act.eval z) es.toList).run P c.w = .ok none c.w := cnt_no hk hky hd0 hkeys (Nat.le_of_eq hvn.symm) hzz
          have hex : ∀ a : Act, execOp a.eval o = (do Instr.mapUpdate t (a.eval y) (a.eval z) (a.eval w); pure .skip) := fun a => by unfold execOp; simp only [ho]
          have hrun : (Instr.mapUpdate t (.map (some b)) (act.eval z) (act.eval w)).run P c.w = .ok () (setO c.w b (.map (es.push { key := act.eval z, val := act.eval w, born := clock }) (clock + 1))) := by
            unfold Instr.mapUpdate
            simp only [Sem.run_bind, run_underlying hu, Result.andThen_ok, MapKept.run_getObj_map hheap, hchk, hno, MapKept.run_setObj_map _ hheap]
            rfl
          obtain ⟨hrw, hvw⟩ := R_of_rv hsw (hx w)
          have hput : putM c.m q (.ob (.vm (E.ty e) (n + 1) fun i => bif Nat.beq i n then x w else f i)) q = some (.ob (.vm (E.ty e) (n + 1) fun i => bif Nat.beq i n then x w else f i)) := putM_same _ _ _
          have hst : Stab c (c.setRow q (.ob (.vm (E.ty e) (n + 1) fun i => bif Nat.beq i n then x w else f i)) (setO c.w b (.map (es.push { key := act.eval z, val := act.eval w, born := clock }) (clock + 1)))) := stab_ob (o0 := .vm (E.ty e) n f) hcq hput rfl (hm.mu q _ b hcq hbl).1 (by simp [setO]) (fun b' _ hne => setO_ne hne)
          have hne : ∀ i : Nat, i < n → Nat.beq i n = false := fun i hi => by rw [← Bool.not_eq_true, Nat.beq_eq]; omega
          have hsame : Nat.beq n n = true := by rw [Nat.beq_eq]
          refine unit_wp (hex act) (w' := setO c.w b (.map (es.push { key := act.eval z, val := act.eval w, born := clock }) (clock + 1))) (by rw [ev]; exact hrun) (hK (c.setRow q _ _) undef (step_ob hm hcq hput rfl hbl (setO_low (hm.mu q _ b hcq hbl).2.1) (fun b' _ hne => setO_ne hne) ?_) trivial)
          refine ⟨b, _, hbl, setO_at hlt, _, _, rfl, by simp [hsz], fun en hen => ?_, fun i hi => ?_⟩
          · rw [Array.toList_push, List.mem_append] at hen
            rcases hen with hen | hen
            · obtain ⟨i, hi, e', hr, hv⟩ := hup en hen
              refine ⟨i, by omega, e', ?_, hv⟩
              simp only [hne i hi, cond_false]
              exact R_stab hst hr
            · obtain rfl := List.mem_singleton.1 hen
              refine ⟨n, by omega, hev, ?_, hvw⟩
              simp only [hsame, cond_true]
              exact R_stab hst hrw
          · rcases Nat.lt_or_ge i n with hin | hin
            · obtain ⟨h2, en, hen, hke⟩ := hdn i hin
              simp only [hne i hin, cond_false]
              exact ⟨h2, en, by rw [Array.toList_push]; exact List.mem_append_left _ hen, hke⟩
            · obtain rfl : i = n := by omega
              simp only [hsame, cond_true]
              exact ⟨⟨hsw, hiw⟩, _, by rw [Array.toList_push]; exact List.mem_append_right _ (List.mem_singleton.2 rfl), hev⟩
        · exact h.elim
      · exact h.elim
    · rename_i q hy
      split at h
      · rename_i n hmq
        split at h
        · rename_i v hz
          obtain ⟨hky, hvn, h⟩ := h
          refine ⟨_, h, fun c act K Q hct hm hb hrd hf hx hK => ?_⟩
          have hcq := (hrd q (by simp)).trans hmq
          have h1 := hx y
          rw [hy] at h1
          obtain ⟨n', b, hcq', hbl, ev⟩ := (show R c _ _ from h1)
          injection ev with ev
          obtain ⟨b', ob, hb', hheap, es, clock, rfl, hsz, hup⟩ := hm.rows q _ hcq
          rw [hbl] at hb'; injection hb' with hb'; subst hb'
          have hlt : b < c.w.heap.size := (Array.getElem?_eq_some_iff.1 hheap).1
          obtain ⟨d0, hd0⟩ : ∃ d0, P.underlying k = some d0 := ⟨_, hk.desc.choose_spec.1⟩
          have hzz : RV Cx.bare (.u32 v) (act.eval z) := by
            have := hx z
            rw [hz] at this; exact flat_RV (c := c) trivial this
          have hev : act.eval z = .int .u32 (n : Int) := by
            have : [act.eval z] = [Value.int .u32 (U32 v)] := hzz
            injection this with this _
            rw [this]; unfold U32; rw [hvn]
          have hchk : (Instr.checkKey false 10000 k (act.eval z)).run P c.w = .ok () c.w := check_key hk (by rw [hky]; rfl) false hzz (by rw [hky]; trivial)
          have hno : (Instr.findKey k (act.eval z) es.toList).run P c.w = .ok none c.w := cnt_no hk hky hd0 hup (Nat.le_of_eq hvn.symm) hzz
          have hex : ∀ a : Act, execOp a.eval o = (do Instr.mapUpdate t (a.eval y) (a.eval z) (a.eval w); pure .skip) := fun a => by unfold execOp; simp only [ho]
          have hrun : (Instr.mapUpdate t (.map (some b)) (act.eval z) (act.eval w)).run P c.w = .ok () (setO c.w b (.map (es.push { key := act.eval z, val := act.eval w, born := clock }) (clock + 1))) := by
            unfold Instr.mapUpdate
            simp only [Sem.run_bind, run_underlying hu, Result.andThen_ok, MapKept.run_getObj_map hheap, hchk, hno, MapKept.run_setObj_map _ hheap]
            rfl
          have hput : putM c.m q (.ob (.cnt (n + 1))) q = some (.ob (.cnt (n + 1))) := putM_same _ _ _
          refine unit_wp (hex act) (w' := setO c.w b (.map (es.push { key := act.eval z, val := act.eval w, born := clock }) (clock + 1))) (by rw [ev]; exact hrun) (hK (c.setRow q _ _) undef (step_ob hm hcq hput trivial hbl (setO_low (hm.mu q _ b hcq hbl).2.1) (fun b' _ hne => setO_ne hne) ?_) trivial)
          refine ⟨b, _, hbl, setO_at hlt, _, _, rfl, by simp [hsz], fun e he => ?_⟩
          rw [Array.toList_push, List.mem_append] at he
          rcases he with he | he
          · obtain ⟨i, hi, e'⟩ := hup e he
            exact ⟨i, by omega, e'⟩
          · obtain rfl := List.mem_singleton.1 he
            exact ⟨n, by omega, hev⟩
        · exact h.elim
      · exact h.elim
    · exact h.elim
  · exact h.elim
theorem allB_of {p : Nat → Prop} : ∀ {l : Nat}, (∀ i, i < l → p i) → allB l p
  | 0, _ => trivial
  | _ + 1, h => ⟨allB_of fun i hi => h i (by omega), h _ (by omega)⟩
theorem forI_of {u : Bool} {l : Nat} {p : Nat → Prop} (h : ∀ i, i < l → p i) : forI u l p := by
  cases u with
  | true => exact h
  | false => exact allB_of h
theorem aeq_feq : ∀ {a b : AV} {τ : Ty}, Sh τ a → Sh τ b → AEq a b → FEq a b := by
  intro a
  induction a with
  | agg u l f ih =>
    intro b τ sa sb h
    cases b with
    | agg u' l' g =>
      obtain ⟨t1, rfl, h1⟩ := Sh_agg sa
      obtain ⟨rfl, rfl, h2⟩ := sb
      exact ⟨rfl, rfl, forI_of fun i hi => ih i (h1 i hi) (h2 i hi) (h i hi)⟩
    | _ => exact h.elim
  | _ => intro b τ sa sb h; cases b <;> first | exact h | exact h.elim
theorem zero_run {ty : TypeId → Ty} {e : TypeId} (he : TyOK P ty e) {c : Cx} {w : World} : ∃ z, (zeroValue e).run P w = .ok z w ∧ RV c (ty e).zero z := by
  obtain ⟨z, ⟨i, hi, hz, _, _⟩, _, hzv⟩ := he.inf
  refine ⟨z, by simp [zeroValue, typeInfo, hi, hz], ?_⟩
  rw [hzv]
  exact rv_of_R (zero_ok (c := c) he).2 (zero_ok (c := c) he).1
theorem tup_rv {c : Cx} {l : Nat} {f : Nat → AV} {vs : Array Value} (hs : vs.size = l) (h : ∀ i, i < l → ∃ v, vs[i]? = some v ∧ RV c (f i) v) : RV c (.tup l f) (.tuple vs) := by
  have each : ∀ i, ∃ g : List Value, i < l → R c (f i) g ∧ ∃ v, vs[i]? = some v ∧ match f i with
      | .agg _ _ _ => v = .agg g.toArray
      | .junk => True
      | _ => g = [v] := fun i => by
    by_cases hi : i < l
    · obtain ⟨v, hv, hr⟩ := h i hi
      cases hf : f i with
      | agg u n q =>
        rw [hf] at hr
        obtain ⟨cs, rfl, hr⟩ := hr
        exact ⟨cs, fun _ => ⟨hr, _, hv, rfl⟩⟩
      | junk => exact ⟨[], fun _ => ⟨trivial, v, hv, trivial⟩⟩
      | _ => rw [hf] at hr; exact ⟨[v], fun _ => ⟨hr, v, hv, rfl⟩⟩
    · exact ⟨[], fun hh => absurd hh hi⟩
  exact ⟨vs, fun i => (each i).choose, rfl, hs, fun i hi => (each i).choose_spec hi⟩
theorem look_rv {c : Cx} {a : AV} {v : Value} (h : RV c a v) (ok b : Bool) : RV c (match ok with | true => .tup 2 (nthA [a, .bo b]) | false => a) (if ok then .tuple #[v, .bool b] else v) := by
  cases ok with
  | false => exact h
  | true =>
    refine tup_rv rfl fun i hi => ?_
    rcases i with _ | _ | i
    · exact ⟨v, rfl, h⟩
    · exact ⟨.bool b, rfl, rfl⟩
    · omega
theorem found_valid {y z : Operand} {ok : Bool} {k e : TypeId} (hu : P.underlying t = some (.map k e)) (hk : TyOK P E.ty k) (he : TyOK P E.ty e) (sz : Sh (E.ty k) (x z)) (cz : Cmp (x z)) (hkt : keyT (E.ty k) = true) {d0 : TypeDesc} (hd0 : P.underlying k = some d0) {rd : List Nat} {n' : Nat} {f' : Nat → AV} {d : Nat → Bool}
    (base : ∀ (c : Cx) (act : Act), MemOK c → (∀ k, k ∈ rd → c.m k = m k) → (∀ y, RV c (x y) (act.eval y)) → ∃ b es clock, act.eval y = .map (some b) ∧ c.w.heap[b]? = some (.map es clock) ∧ EntsOK Sh Cmp (E.ty k) (E.ty e) n' f' ∧
            (∀ a, a < n' → ∀ b, b < n' → AEq (ekey f' a) (ekey f' b) → a = b) ∧ (∀ en ∈ es.toList, ∃ i, i < n' ∧ KV (E.ty k) (E.ty e) (f' i) en) ∧ (∀ i, i < n' → d i = true → ∃ en ∈ es.toList, KV (E.ty k) (E.ty e) (f' i) en))
    (h : Found (x z) n' f' d (E.ty e).zero fun v b => K ⟨match ok with
            | true => .tup 2 (nthA [v, .bo b])
            | false => v, [], rd⟩) (ho : o.op = .lookup t y z ok) : ∃ r, K r ∧ Valid P E.ty o x key m r := by
  have idx : ∀ (c : Cx) (act : Act) (es : Array MapEntry), EntsOK Sh Cmp (E.ty k) (E.ty e) n' f' → (∀ en ∈ es.toList, ∃ i, i < n' ∧ KV (E.ty k) (E.ty e) (f' i) en) → RV c (x z) (act.eval z) → ∀ en ∈ es.toList, ∃ i, i < n' ∧ KV (E.ty k) (E.ty e) (f' i) en ∧ (Op.equal k (act.eval z) en.key).run P c.w = .ok (eqB (x z) (ekey f' i)) c.w ∧
      (Instr.sameNow d0 (act.eval z) en.key = none ∨ Instr.sameNow d0 (act.eval z) en.key = some (eqB (x z) (ekey f' i))) := fun c act es hE hup hz en hen => by
    obtain ⟨i, hi, hkv⟩ := hup en hen
    obtain ⟨ks, _, kf, _⟩ := ents_at hE hi
    exact ⟨i, hi, hkv, op_equal hk hkt hz (flat_RV kf hkv.1) sz ks cz, same_now hk hd0 hz (flat_RV kf hkv.1) sz ks⟩
  cases h with
  | hit i hi hae hd h =>
    refine ⟨_, h, valid_val rfl fun c act hct hm hrd hx => ?_⟩
    obtain ⟨b, es, clock, ev, hheap, hE, hdis, hup, hdn⟩ := base c act hm hrd hx
    obtain ⟨ks, kc, kf, vs, vf⟩ := ents_at hE hi
    have hzi : RV c (ekey f' i) (act.eval z) := feq_RV (aeq_feq sz ks hae) (hx z)
    have ix := idx c act es hE hup (hx z)
    classical
    let T : MapEntry → Bool := fun en => if h : en ∈ es.toList then eqB (x z) (ekey f' (ix en h).choose) else false
    have hT' : ∀ en (h : en ∈ es.toList), T en = eqB (x z) (ekey f' (ix en h).choose) := fun en h => dif_pos h
    have hQ : ∀ en (h : en ∈ es.toList), T en = true → KV (E.ty k) (E.ty e) (f' i) en := fun en h ht => by
      rw [hT' en h, eqB_iff] at ht
      have hs := (ix en h).choose_spec
      have h3 : RV c (ekey f' (ix en h).choose) (act.eval z) := feq_RV (aeq_feq sz (ents_at hE hs.1).1 ht) (hx z)
      have := same_ent hk hkt hE hdis hs.1 hi h3 hzi
      rw [← this]; exact hs.2.1
    obtain ⟨en, hen, hkv⟩ := hdn i hi hd
    have heq : T en = true := by
      have h1 := (ix en hen).choose_spec
      have := op_equal (w := c.w) hk hkt (hx z) (flat_RV kf hkv.1) sz ks cz
      rw [h1.2.2.1] at this
      injection this with this _
      rw [hT' en hen, this, eqB_iff]; exact hae
    obtain ⟨jj, en', hrun, hat, hq⟩ := find_yes hd0 (T := T) (Q := fun en => KV (E.ty k) (E.ty e) (f' i) en) (l := es.toList) (v := act.eval z) (w := c.w) (fun en h => by
      have hs := (ix en h).choose_spec
      exact ⟨by rw [hT' en h]; exact hs.2.2.1, by rw [hT' en h]; exact hs.2.2.2, fun ht => hQ en h ht⟩) ⟨en, hen, heq⟩
    have hval : RV c (eval' f' i) en'.val := flat_RV vf hq.2
    refine ⟨if ok then .tuple #[en'.val, .bool true] else en'.val, ?_, look_rv hval ok true⟩
    unfold execOp
    simp only [ho, Sem.run_bind]
    have : (Instr.lookup t (act.eval y) (act.eval z) ok).run P c.w = .ok (if ok then .tuple #[en'.val, .bool true] else en'.val) c.w := by
      unfold Instr.lookup
      simp only [ev, Sem.run_bind, run_underlying hu, Result.andThen_ok, MapKept.run_getObj_map hheap, Sem.run_pure, check_key hk hkt es.isEmpty (hx z) sz, hrun]
    rw [this]
    simp only [Result.andThen_ok, Sem.run_pure]
  | miss hno h =>
    refine ⟨_, h, valid_val rfl fun c act hct hm hrd hx => ?_⟩
    obtain ⟨b, es, clock, ev, hheap, hE, hdis, hup, hdn⟩ := base c act hm hrd hx
    have ix := idx c act es hE hup (hx z)
    have hn := find_no hd0 (l := es.toList) (v := act.eval z) (w := c.w) fun en hen => by
      obtain ⟨i, hi, hkv, h1, h2⟩ := ix en hen
      have hf : eqB (x z) (ekey f' i) = false := by
        rw [← Bool.not_eq_true, eqB_iff]; exact hno i hi
      rw [hf] at h1 h2
      exact ⟨h1, h2⟩
    obtain ⟨zv, hzr, hzv⟩ := zero_run he (c := c) (w := c.w)
    refine ⟨if ok then .tuple #[zv, .bool false] else zv, ?_, look_rv hzv ok false⟩
    unfold execOp
    simp only [ho, Sem.run_bind]
    have : (Instr.lookup t (act.eval y) (act.eval z) ok).run P c.w = .ok (if ok then .tuple #[zv, .bool false] else zv) c.w := by
      unfold Instr.lookup
      simp only [ev, Sem.run_bind, run_underlying hu, Result.andThen_ok, MapKept.run_getObj_map hheap, Sem.run_pure, check_key hk hkt es.isEmpty (hx z) sz, hn, hzr]
    rw [this]
    simp only [Result.andThen_ok, Sem.run_pure]
/-- A value at a number. -/
theorem foundN_valid {y z : Operand} {ok : Bool} {k e : TypeId} (hu : P.underlying t = some (.map k e)) (hk : TyOK P E.ty k) (he : TyOK P E.ty e) (hky : E.ty k = .int .u32) {v : BitVec 32} (hz : x z = .u32 v) {rd : List Nat} {n : Nat} {f : Nat → AV}
    (base : ∀ (c : Cx) (act : Act), MemOK c → (∀ k, k ∈ rd → c.m k = m k) → (∀ y, RV c (x y) (act.eval y)) → ∃ b es clock, act.eval y = .map (some b) ∧ c.w.heap[b]? = some (.map es clock) ∧
      (∀ en ∈ es.toList, ∃ i : Nat, i < n ∧ en.key = .int .u32 (i : Int) ∧ R c (f i) en.val.cells.toList ∧ en.val = valOf (E.ty e) en.val.cells.toList) ∧ ∀ i, i < n → Sh (E.ty e) (f i) ∧ ∃ en ∈ es.toList, en.key = .int .u32 (i : Int))
    (h : FoundN v n f (E.ty e).zero fun v b => K ⟨match ok with
            | true => .tup 2 (nthA [v, .bo b])
            | false => v, [], rd⟩) (ho : o.op = .lookup t y z ok) : ∃ r, K r ∧ Valid P E.ty o x key m r := by
  obtain ⟨d0, hd0⟩ : ∃ d0, P.underlying k = some d0 := ⟨_, hk.desc.choose_spec.1⟩
  have hkt : keyT (E.ty k) = true := by rw [hky]; rfl
  have hzv : ∀ (c : Cx) (act : Act), (∀ y, RV c (x y) (act.eval y)) → RV Cx.bare (.u32 v) (act.eval z) := fun c act hx => by
    have := hx z
    rw [hz] at this; exact flat_RV (c := c) trivial this
  cases h with
  | hit i hi hvi h =>
    refine ⟨_, h, valid_val rfl fun c act hct hm hrd hx => ?_⟩
    obtain ⟨b, es, clock, ev, hheap, hup, hdn⟩ := base c act hm hrd hx
    have hzz := hzv c act hx
    have hlt := v.isLt
    have eqk : ∀ (j : Nat), j < 4294967296 → RV Cx.bare (.u32 (BitVec.ofNat 32 j)) (.int .u32 (j : Int)) := fun j hj => by
      show [Value.int .u32 (j : Int)] = [Value.int .u32 (U32 (BitVec.ofNat 32 j))]
      unfold U32
      rw [BitVec.toNat_ofNat, Nat.mod_eq_of_lt hj]
    classical
    let T : MapEntry → Bool := fun en => decide (en.key = .int .u32 (i : Int))
    have hev : act.eval z = .int .u32 (i : Int) := by
      have : [act.eval z] = [Value.int .u32 (U32 v)] := hzz
      injection this with this _
      rw [this]; unfold U32; rw [hvi]
    obtain ⟨en0, hen0, hk0⟩ := (hdn i hi).2
    have cmp : ∀ en ∈ es.toList, (Op.equal k (act.eval z) en.key).run P c.w = .ok (T en) c.w ∧ (Instr.sameNow d0 (act.eval z) en.key = none ∨ Instr.sameNow d0 (act.eval z) en.key = some (T en)) ∧ (T en = true → en.key = .int .u32 (i : Int)) := fun en hen => by
      obtain ⟨j, hj, hkj, _⟩ := hup en hen
      have hsz : es.toList.length < 4294967296 ∨ True := .inr trivial
      by_cases hj32 : j < 4294967296
      · have hb := eqk j hj32
        rw [← hkj] at hb
        have hT : T en = eqB (.u32 v) (.u32 (BitVec.ofNat 32 j)) := by
          rw [Bool.eq_iff_iff, eqB_iff]
          show decide (en.key = .int .u32 (i : Int)) = true ↔ v = BitVec.ofNat 32 j
          rw [decide_eq_true_iff, hkj]
          constructor
          · intro q
            injection q with _ q
            exact BitVec.eq_of_toNat_eq (by rw [BitVec.toNat_ofNat, Nat.mod_eq_of_lt hj32]; omega)
          · intro q
            rw [q, BitVec.toNat_ofNat, Nat.mod_eq_of_lt hj32] at hvi
            rw [hvi]
        exact ⟨by rw [hT]; exact op_equal hk hkt hzz hb (by rw [hky]; trivial) (by rw [hky]; trivial) trivial, by rw [hT]; exact same_now hk hd0 hzz hb (by rw [hky]; trivial) (by rw [hky]; trivial), fun q => of_decide_eq_true q⟩
      · have hne : ¬ (.int .u32 (j : Int) : Value) = .int .u32 (i : Int) := fun q => by
          injection q with _ q
          omega
        have hT : T en = false := by
          show decide (en.key = .int .u32 (i : Int)) = false
          rw [hkj]; exact decide_eq_false hne
        have hij : ¬ (i : Int) = (j : Int) := by omega
        have hun : P.underlying k = some (.int .u32) := by
          cases hk with
          | int _ k'' _ hu' _ hty => rw [hky] at hty; injection hty with e; rw [e]; exact hu'
          | _ => simp_all
        rw [hT, hkj, hev]
        refine ⟨?_, .inr ?_, fun q => by cases q⟩
        · have h1 : ∀ d, (Op.equalIn (d + 1) k (.int .u32 (i : Int)) (.int .u32 (j : Int))).run P c.w = .ok false c.w := fun d => by simp [Op.equalIn, run_underlying hun, hij]
          exact h1 9999
        · rw [hun] at hd0
          injection hd0 with hd0
          subst hd0
          simp [Instr.sameNow, hij]
    obtain ⟨jj, en', hrun, hat, hq⟩ := find_yes hd0 (T := T) (Q := fun en => en.key = .int .u32 (i : Int)) (l := es.toList) (v := act.eval z) (w := c.w) cmp ⟨en0, hen0, decide_eq_true hk0⟩
    obtain ⟨j, hj, hkj, hr, hv⟩ := hup en' (List.mem_of_getElem? hat)
    obtain rfl : j = i := by rw [hq] at hkj; injection hkj with _ hkj; omega
    have hval : RV c (f j) en'.val := by rw [hv]; exact rv_of_R (hdn j hi).1 hr
    refine ⟨if ok then .tuple #[en'.val, .bool true] else en'.val, ?_, look_rv hval ok true⟩
    unfold execOp
    simp only [ho, Sem.run_bind]
    have : (Instr.lookup t (act.eval y) (act.eval z) ok).run P c.w = .ok (if ok then .tuple #[en'.val, .bool true] else en'.val) c.w := by
      unfold Instr.lookup
      simp only [ev, Sem.run_bind, run_underlying hu, Result.andThen_ok, MapKept.run_getObj_map hheap, Sem.run_pure, check_key hk hkt es.isEmpty hzz (by rw [hky]; trivial), hrun]
    rw [this]
    simp only [Result.andThen_ok, Sem.run_pure]
  | miss hno h =>
    refine ⟨_, h, valid_val rfl fun c act hct hm hrd hx => ?_⟩
    obtain ⟨b, es, clock, ev, hheap, hup, hdn⟩ := base c act hm hrd hx
    have hzz := hzv c act hx
    have hkeys : ∀ e ∈ es.toList, ∃ i : Nat, i < n ∧ e.key = .int .u32 (i : Int) := fun e he => by
      obtain ⟨i, hi, hk, _⟩ := hup e he
      exact ⟨i, hi, hk⟩
    have hn : (Instr.findKey k (act.eval z) es.toList).run P c.w = .ok none c.w := cnt_no hk hky hd0 hkeys hno hzz
    obtain ⟨zv, hzr, hzv⟩ := zero_run he (c := c) (w := c.w)
    refine ⟨if ok then .tuple #[zv, .bool false] else zv, ?_, look_rv hzv ok false⟩
    unfold execOp
    simp only [ho, Sem.run_bind]
    have : (Instr.lookup t (act.eval y) (act.eval z) ok).run P c.w = .ok (if ok then .tuple #[zv, .bool false] else zv) c.w := by
      unfold Instr.lookup
      simp only [ev, Sem.run_bind, run_underlying hu, Result.andThen_ok, MapKept.run_getObj_map hheap, Sem.run_pure, check_key hk hkt es.isEmpty hzz (by rw [hky]; trivial), hn, hzr]
    rw [this]
    simp only [Result.andThen_ok, Sem.run_pure]
theorem s_lookup (hT : TysOK P E.ty) {y z : Operand} {ok : Bool} (ho : o.op = .lookup t y z ok) (h : sem E m key x (.lookup t y z ok) K) : ∃ r, K r ∧ Valid P E.ty o x key m r := by
  simp only [sem, semG] at h
  split at h
  · rename_i k e hty
    obtain ⟨hu, hk, he⟩ := (hT t (by rw [hty]; simp)).mp_of hty
    obtain ⟨sz, cz, hkt, h⟩ := h
    obtain ⟨d0, hd0⟩ : ∃ d0, P.underlying k = some d0 := ⟨_, hk.desc.choose_spec.1⟩
    split at h
    · rename_i kt et n f j q hy
      split at h
      · rename_i kt' et' n' f' d hmq
        obtain ⟨rfl, rfl, h⟩ := h
        have base : ∀ (c : Cx) (act : Act), MemOK c → (∀ k, k ∈ [q] → c.m k = m k) → (∀ y, RV c (x y) (act.eval y)) → ∃ b es clock, act.eval y = .map (some b) ∧ c.w.heap[b]? = some (.map es clock) ∧ EntsOK Sh Cmp (E.ty k) (E.ty e) n' f' ∧
            (∀ a, a < n' → ∀ b, b < n' → AEq (ekey f' a) (ekey f' b) → a = b) ∧ (∀ en ∈ es.toList, ∃ i, i < n' ∧ KV (E.ty k) (E.ty e) (f' i) en) ∧ (∀ i, i < n' → d i = true → ∃ en ∈ es.toList, KV (E.ty k) (E.ty e) (f' i) en) := fun c act hm hrd hx => by
          have hcq := (hrd q (by simp)).trans hmq
          have h1 := hx y
          rw [hy] at h1
          obtain ⟨d', b, hcq', hbl, ev⟩ := (show R c _ _ from h1)
          injection ev with ev
          obtain ⟨b', ob, hb', hheap, es, clock, rfl, hE, _, hdis, hup, hdn, _⟩ := hm.rows q _ hcq
          rw [hbl] at hb'; injection hb' with hb'; subst hb'
          exact ⟨b, es, clock, ev, hheap, hE, hdis, hup, hdn⟩
        exact found_valid hu hk he sz cz hkt hd0 base h ho
      · exact h.elim
    · rename_i q hy
      split at h
      · rename_i n hmq
        split at h
        · rename_i v hz
          obtain ⟨hky, hnv, h⟩ := h
          refine ⟨_, h, valid_val rfl fun c act hct hm hrd hx => ?_⟩
          have hcq := (hrd q (by simp)).trans hmq
          have h1 := hx y
          rw [hy] at h1
          obtain ⟨n', b, hcq', hbl, ev⟩ := (show R c _ _ from h1)
          injection ev with ev
          obtain ⟨b', ob, hb', hheap, es, clock, rfl, hsz, hup⟩ := hm.rows q _ hcq
          rw [hbl] at hb'; injection hb' with hb'; subst hb'
          have hzz : RV Cx.bare (.u32 v) (act.eval z) := by
            have := hx z
            rw [hz] at this; exact flat_RV (c := c) trivial this
          have hno : (Instr.findKey k (act.eval z) es.toList).run P c.w = .ok none c.w := cnt_no hk hky hd0 hup hnv hzz
          obtain ⟨zv, hzr, hzv⟩ := zero_run he (c := c) (w := c.w)
          refine ⟨if ok then .tuple #[zv, .bool false] else zv, ?_, look_rv hzv ok false⟩
          unfold execOp
          simp only [ho, Sem.run_bind]
          have : (Instr.lookup t (act.eval y) (act.eval z) ok).run P c.w = .ok (if ok then .tuple #[zv, .bool false] else zv) c.w := by
            unfold Instr.lookup
            simp only [ev, Sem.run_bind, run_underlying hu, Result.andThen_ok, MapKept.run_getObj_map hheap, Sem.run_pure, check_key hk (by rw [hky]; rfl) es.isEmpty hzz (by rw [hky]; trivial), hno, hzr]
          rw [this]
          simp only [Result.andThen_ok, Sem.run_pure]
        · exact h.elim
      · exact h.elim
    · rename_i q hy
      split at h
      · rename_i et n f hmq
        split at h
        · rename_i v hz
          obtain ⟨hky, rfl, h⟩ := h
          refine foundN_valid hu hk he hky hz (rd := [q]) (fun c act hm hrd hx => ?_) h ho
          have hcq := (hrd q (by simp)).trans hmq
          have h1 := hx y
          rw [hy] at h1
          obtain ⟨et', n', f', b, hcq', hbl, ev⟩ := (show R c _ _ from h1)
          injection ev with ev
          obtain ⟨b', ob, hb', hheap, es, clock, rfl, hsz, hup, hdn⟩ := hm.rows q _ hcq
          rw [hbl] at hb'; injection hb' with hb'; subst hb'
          exact ⟨b, es, clock, ev, hheap, hup, fun i hi => ⟨(hdn i hi).1.1, (hdn i hi).2⟩⟩
        · exact h.elim
      · exact h.elim
    · rename_i g et n f hy
      split at h
      · rename_i v hz
        obtain ⟨hky, rfl, h⟩ := h
        refine foundN_valid hu hk he hky hz (rd := []) (fun c act hm hrd hx => ?_) h ho
        have h1 := hx y
        rw [hy] at h1
        obtain ⟨b, es, clock, ev, _, _, _, hh, _, hup, hdn⟩ := (show R c _ _ from h1)
        injection ev with ev
        exact ⟨b, es, clock, ev, hh, hup, hdn⟩
      · exact h.elim
    · rename_i g kt et n f d hy
      obtain ⟨rfl, rfl, h⟩ := h
      refine found_valid hu hk he sz cz hkt hd0 (rd := []) (fun c act hm hrd hx => ?_) h ho
      have h1 := hx y
      rw [hy] at h1
      obtain ⟨b, es, clock, ev, _, _, _, hh, hok⟩ := (show R c _ _ from h1)
      injection ev with ev
      obtain ⟨hE, _, hdis, hup, hdn, _⟩ := mapOK_kv hok
      exact ⟨b, es, clock, ev, hh, hE, hdis, hup, hdn⟩
    · rename_i hy
      refine ⟨_, h, valid_val rfl fun c act hct hm hrd hx => ?_⟩
      have ev : act.eval y = .map none := by
        have := hx y
        rw [hy] at this; simpa [RV, R] using this
      obtain ⟨zv, hzr, hzv⟩ := zero_run he (c := c) (w := c.w)
      refine ⟨if ok then .tuple #[zv, .bool false] else zv, ?_, look_rv hzv ok false⟩
      have hn := find_no hd0 (l := []) (v := act.eval z) (w := c.w) fun en hen => by cases hen
      unfold execOp
      simp only [ho, Sem.run_bind]
      have : (Instr.lookup t (act.eval y) (act.eval z) ok).run P c.w = .ok (if ok then .tuple #[zv, .bool false] else zv) c.w := by
        unfold Instr.lookup
        simp only [ev, Sem.run_bind, run_underlying hu, Result.andThen_ok, Sem.run_pure, check_key hk hkt _ (hx z) sz, hn, hzr]
      rw [this]
      simp only [Result.andThen_ok, Sem.run_pure]
    · exact h.elim
  · exact h.elim
theorem s_range (hT : TysOK P E.ty) {y : Operand} (ho : o.op = .range t y) (h : sem E m key x (.range t y) K) : ∃ r, K r ∧ Valid P E.ty o x key m r := by
  simp only [sem, semG] at h
  split at h
  · rename_i s hty hy
    have hu := (hT t (by rw [hty]; simp)).str_of hty
    refine ⟨_, h, valid_ob (x0 := .stringIter ⟨s.toArray⟩ 0) (vf := fun b => .pointer (some ⟨b, 0, none⟩)) (fun c => show ObOK c (.it s 0) _ from rfl) (fun c' b h1 h2 => ⟨s, 0, b, h1, h2, rfl⟩) fun c act hx => ?_⟩
    have ev : act.eval y = .string ⟨s.toArray⟩ := by
      have := hx y
      rw [hy] at this; exact rv_str this
    unfold execOp
    simp only [ho, ev, Instr.range, Sem.run_bind, run_underlying hu, Result.andThen_ok, Sem.run_pure]
    rfl
  · rename_i k e g kt et n f d hty hy
    obtain ⟨hu, _, _⟩ := (hT t (by rw [hty]; simp)).mp_of hty
    refine ⟨_, h, fun c act K Q hct hm hb hrd hf hx hK => ?_⟩
    have h1 := hx y
    rw [hy] at h1
    obtain ⟨b, es, clock, ev, hlt, hmu, hfr, hh, hok⟩ := (show R c _ _ from h1)
    injection ev with ev
    have hlow : Below c.w.heap.size c.w (c.w.alloc (.mapIter (some b) clock #[] clock)) := (Below.refl _ _).alloc (Nat.le_refl _) _
    have hle : (leftOf es #[]).size ≤ n := by
      obtain ⟨_, _, _, _, _, _, _, ⟨ks, k1, k2, k3⟩, _⟩ := hok
      have h2 := pig n ks (fun i hi => (k3 i hi).1) k1
      have h3 : (leftOf es #[]).size ≤ es.size := by unfold leftOf; exact Array.size_filter_le
      omega
    have hstep := step_add hm hb (key := key) (r := .ob (.mi kt et n f d (fun _ => false) n none)) (bl := some c.w.heap.size) (sv := undef) (w := c.w.alloc (.mapIter (some b) clock #[] clock)) (hf key (Nat.le_refl _) (by omega)) hlow (fun b hb => by injection hb with hb; omega)
      ⟨c.w.heap.size, _, if_pos rfl, heap_alloc_new _ _, .inr ⟨b, es, clock, #[], rfl, Nat.lt_of_lt_of_le hlt hlow.size, (fun hq => by
        rcases hq with hq | hq
        · exact hmu hq
        · omega), (hlow.block b hlt).trans hh, hok, (fun e _ hc => by simp at hc), hle, fun i hi => by cases hi⟩⟩
    unfold Oper.wp
    have hex : (execOp act.eval o).run P c.w = .ok (.value (.pointer (some ⟨c.w.heap.size, 0, none⟩))) (c.w.alloc (.mapIter (some b) clock #[] clock)) := by
      unfold execOp
      simp only [ho, ev, Sem.run_bind, run_range_map c.w t _ _ b es clock hu hh, Result.andThen_ok, Sem.run_pure]
    rw [hex]
    exact hK _ _ hstep ⟨kt, et, n, f, d, _, n, none, c.w.heap.size, putM_same _ _ _, if_pos rfl, rfl⟩
  · rename_i k e hty hy
    obtain ⟨hu, _, _⟩ := (hT t (by rw [hty]; simp)).mp_of hty
    obtain ⟨kt, et, f, d, h⟩ := h
    refine ⟨_, h, valid_ob (x0 := .mapIter none 0 #[] 0) (vf := fun b => .pointer (some ⟨b, 0, none⟩)) (fun c => show ObOK c (.mi kt et 0 f d (fun _ => false) 0 none) _ from .inl ⟨rfl, rfl, rfl⟩) (fun c' b h1 h2 => ⟨kt, et, 0, f, d, _, 0, none, b, h1, h2, rfl⟩) fun c act hx => ?_⟩
    have ev : act.eval y = .map none := by
      have := hx y
      rw [hy] at this; simpa [RV, R] using this
    unfold execOp
    simp only [ho, ev, Instr.range, Sem.run_bind, run_underlying hu, Result.andThen_ok, Sem.run_pure]
    rfl
  · exact h.elim
theorem s_entry {y : Operand} (ho : o.op = .entry y) (h : sem E m key x (.entry y) K) : ∃ r, K r ∧ Valid P E.ty o x key m r := by
  simp only [sem, semG] at h
  split at h
  · rename_i q hy
    split at h
    · rename_i kt et n f d s l i hmq
      refine ⟨_, h, valid_val rfl fun c act hct hm hrd hx => ?_⟩
      have hcq := (hrd q (by simp)).trans hmq
      have h1 := hx y
      rw [hy] at h1
      obtain ⟨_, _, _, _, _, _, _, _, b, hcq', hbl, ev⟩ := (show R c _ _ from h1)
      injection ev with ev
      obtain ⟨b', ob, hb', hheap, ⟨_, _, h0⟩ | ⟨mb, es, clock, sa, rfl, hlt, hmu, hh, hok, _, _, hcu⟩⟩ := hm.rows q _ hcq
      · cases h0
      rw [hbl] at hb'; injection hb' with hb'; subst hb'
      obtain ⟨hi, e, he, sb, rfl, hkb⟩ := hcu i rfl
      obtain ⟨_, _, kf, _, vf⟩ := ents_at hok.1 hi
      have hrun := run_entry_at (P := P) c.w b mb clock sb es clock e hheap hh he hok.2.2.2.2.2.2.1
      refine ⟨.tuple #[e.key, e.val], ?_, tup_rv rfl fun j hj => ?_⟩
      · unfold execOp
        simp only [ho, ev, Sem.run_bind, hrun, Result.andThen_ok, Sem.run_pure]
      · rcases j with _ | _ | j
        · exact ⟨_, rfl, (rb_iff kf).1 hkb.1⟩
        · exact ⟨_, rfl, (rb_iff vf).1 hkb.2⟩
        · omega
    · exact h.elim
  · exact h.elim
theorem s_next {y : Operand} (ho : o.op = .next y true) (h : sem E m key x (.next y true) K) : ∃ r, K r ∧ Valid P E.ty o x key m r := by
  simp only [sem, semG] at h
  split at h
  · rename_i q hy
    split at h
    · rename_i s pos hmq
      have base : ∀ (c : Cx) (act : Act), MemOK c → (∀ k, k ∈ [q] → c.m k = m k) → (∀ y, RV c (x y) (act.eval y)) → ∃ b, c.bl q = some b ∧ act.eval y = .pointer (some ⟨b, 0, none⟩) ∧ c.w.heap[b]? = some (.stringIter ⟨s.toArray⟩ pos) ∧ c.m q = some (.ob (.it s pos)) := fun c act hm hrd hx => by
        have hcq := (hrd q (by simp)).trans hmq
        have h1 := hx y
        rw [hy] at h1
        obtain ⟨s', pos', b, hcq', hbl, ev⟩ := (show R c _ _ from h1)
        injection ev with ev
        obtain ⟨b', ob, hb', hheap, hob⟩ := hm.rows q _ hcq
        rw [hbl] at hb'; injection hb' with hb'; subst hb'
        have hob : ob = .stringIter ⟨s.toArray⟩ pos := hob
        subst hob
        exact ⟨b, hbl, ev, hheap, hcq⟩
      cases h with
      | more hlt h7 h =>
        refine ⟨_, h, fun c act K Q hct hm hb hrd hf hx hK => ?_⟩
        obtain ⟨b, hbl, ev, hheap, hcq⟩ := base c act hm hrd hx
        have hsz : pos < (⟨s.toArray⟩ : ByteArray).size := by simpa [ByteArray.size] using hlt
        have hget : ((⟨s.toArray⟩ : ByteArray).get! (pos + 0)).toNat = (s.getD pos 0).toNat := by
          show (s.toArray[pos + 0]!).toNat = _
          rw [Nat.add_zero]
          simp [List.getD, hlt]
        have hdec : Utf8.decode ⟨s.toArray⟩ pos = ((s.getD pos 0).toNat, 1) := by
          unfold Utf8.decode
          simp only [hget]
          rw [if_pos (show (s.getD pos 0).toNat < 0x80 from h7)]
        have hput : putM c.m q (.ob (.it s (pos + 1))) q = some (.ob (.it s (pos + 1))) := putM_same _ _ _
        have hblt : b < c.w.heap.size := (Array.getElem?_eq_some_iff.1 hheap).1
        have hset : (setObj b (.stringIter ⟨s.toArray⟩ (pos + 1))).run P c.w = .ok () (setO c.w b (.stringIter ⟨s.toArray⟩ (pos + 1))) := by
          simp [setObj, Sem.run, hheap, setO]
        have hgo : (getObj b).run P c.w = .ok (.stringIter ⟨s.toArray⟩ pos) c.w := by simp [getObj, Sem.run, hheap]
        have hrun : (Instr.next (.pointer (some ⟨b, 0, none⟩)) true o.type).run P c.w = .ok (.tuple #[.bool true, goInt pos, .int .i32 (((s.getD pos 0).toNat : Nat) : Int)]) (setO c.w b (.stringIter ⟨s.toArray⟩ (pos + 1))) := by
          unfold Instr.next
          simp only [Sem.run_bind, hgo, Result.andThen_ok, hsz, if_true, hdec, hset, Sem.run_pure]
        have hstep := step_ob (w := setO c.w b (.stringIter ⟨s.toArray⟩ (pos + 1))) hm hcq hput trivial hbl (setO_low (hm.mu q _ b hcq hbl).2.1) (fun b' _ hne => setO_ne hne) ⟨b, _, hbl, setO_at hblt, rfl⟩
        unfold Oper.wp
        have hex : (execOp act.eval o).run P c.w = .ok (.value (.tuple #[.bool true, goInt pos, .int .i32 (((s.getD pos 0).toNat : Nat) : Int)])) (setO c.w b (.stringIter ⟨s.toArray⟩ (pos + 1))) := by
          unfold execOp
          simp only [ho, ev, Sem.run_bind, hrun, Result.andThen_ok, Sem.run_pure]
        rw [hex]
        refine hK _ _ hstep (tup_rv rfl fun i hi => ?_)
        rcases i with _ | _ | _ | i
        · exact ⟨_, rfl, rfl⟩
        · exact ⟨_, rfl, rfl⟩
        · refine ⟨_, rfl, ?_⟩
          show [_] = [_]
          rw [BitVec.toInt_eq_toNat_of_lt (by rw [BitVec.toNat_ofNat]; omega), BitVec.toNat_ofNat, Nat.mod_eq_of_lt (by omega)]
          rfl
        · omega
      | over hle h =>
        refine ⟨_, h, valid_val rfl fun c act hct hm hrd hx => ?_⟩
        obtain ⟨b, hbl, ev, hheap, hcq⟩ := base c act hm hrd hx
        have hsz : ¬ pos < (⟨s.toArray⟩ : ByteArray).size := by simp [ByteArray.size]; omega
        have hgo : (getObj b).run P c.w = .ok (.stringIter ⟨s.toArray⟩ pos) c.w := by simp [getObj, Sem.run, hheap]
        refine ⟨.tuple #[.bool false], ?_, tup_rv rfl fun i hi => ?_⟩
        · unfold execOp
          have hrun : (Instr.next (.pointer (some ⟨b, 0, none⟩)) true o.type).run P c.w = .ok (.tuple #[.bool false]) c.w := by
            unfold Instr.next
            simp only [Sem.run_bind, hgo, Result.andThen_ok, hsz, if_false, Sem.run_pure]
          simp only [ho, ev, Sem.run_bind, hrun, Result.andThen_ok, Sem.run_pure]
        · obtain rfl : i = 0 := by omega
          exact ⟨_, rfl, rfl⟩
    · exact h.elim
  · exact h.elim
theorem sem_sound (hP : PgOK P E) (hxg : ∀ g, x (.global g) = E.gl g) (h : sem E m key x o.op K) : ∃ r, K r ∧ Valid P E.ty o x key m r := by
  cases hop : o.op with
  | move y => rw [hop] at h; exact s_move hop h
  | assign y => rw [hop] at h; exact s_assign hop h
  | pick y a b => rw [hop] at h; exact s_pick hop h
  | alloc t => rw [hop] at h; exact s_alloc hP.tys hop h
  | box t y => rw [hop] at h; exact s_box hP.tys hop h
  | build t ps => rw [hop] at h; exact s_build hP.tys hop h
  | buildSlice t l ps => rw [hop] at h; exact s_buildSlice hP.tys hop h
  | load t y => rw [hop] at h; exact s_load hP.tys hop h
  | store t y z => rw [hop] at h; exact s_store hP.tys hop h
  | nilCheck y => rw [hop] at h; exact s_nilCheck hop h
  | binOp op t y z t' => rw [hop] at h; exact s_binOp hP.tys hop h
  | unOp op t y => rw [hop] at h; exact s_unOp hop h
  | convert s d y => rw [hop] at h; exact s_convert hP.tys hop h
  | sliceToArrayPointer t y => rw [hop] at h; exact s_toArr hP.tys hop h
  | makeSlice t l q => rw [hop] at h; exact s_makeSlice hP.tys hop h
  | slice t y lo hi mx =>
    rw [hop] at h
    cases mx with
    | none => exact s_slice hP.tys hP.mx hop h
    | some _ =>
      cases hi with
      | none => exact h.elim
      | some _ => exact s_slice3 hP.tys hop h
  | fieldAddr t y i => rw [hop] at h; exact s_fieldAddr hP.tys hop h
  | field t y i => rw [hop] at h; exact s_field hP.tys hop h
  | indexAddr t y z => rw [hop] at h; exact s_indexAddr hP.tys hop h
  | index t y z => rw [hop] at h; exact s_index hP.tys hop h
  | extract y i => rw [hop] at h; exact s_extract hop h
  | makeMap t r =>
    rw [hop] at h
    cases r with
    | none => exact s_makeMap hP.tys hop h
    | some _ => exact h.elim
  | insert t y z w => rw [hop] at h; exact s_insert hP.tys hop h
  | mapUpdate t y z w => rw [hop] at h; exact s_mapUpdate hP.tys hop h
  | lookup t y z ok => rw [hop] at h; exact s_lookup hP.tys hop h
  | range t y => rw [hop] at h; exact s_range hP.tys hop h
  | next y b =>
    rw [hop] at h
    cases b with
    | true => exact s_next hop h
    | false => exact h.elim
  | entry y => rw [hop] at h; exact s_entry hop h
  | makeFunc fn first caps =>
    rw [hop] at h
    cases fn with
    | func f => exact s_makeFunc hop h
    | _ => exact h.elim
  | call c =>
    rw [hop] at h
    cases hc : c.callee with
    | value f =>
      cases f with
      | func f => exact s_call hP.ctr hxg hop hc h
      | tmp i => exact s_callv hP.ctr hxg hop hc h
      | _ => simp only [sem, semG, hc] at h
    | invoke r n => simp only [sem, semG, hc] at h
    | builtin b =>
      cases b with
      | len => exact s_len hP.tys hop hc h
      | cap => exact s_cap hP.tys hop hc h
      | min => exact s_min hop hc h
      | max => exact s_max hop hc h
      | copy => exact s_copy hP.tys hop hc h
      | append => exact s_append hP.tys hop hc h
      | _ => simp only [sem, semG, hc] at h
  | _ => rw [hop] at h; exact h.elim
end
end Go.Proofs.YtldlleoabbcpdaaDoor
