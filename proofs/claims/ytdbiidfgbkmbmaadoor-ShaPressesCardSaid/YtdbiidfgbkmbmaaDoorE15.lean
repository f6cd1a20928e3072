/- Literals, and slices that are made. -/
import Derived.Test.YtdbiidfgbkmbmaaDoorE14
import Derived.Laws.IdiomStrings
namespace Go.Proofs.YtdbiidfgbkmbmaaDoor
open Go.RowKit
theorem sumN_el (s : Ty) (n : Nat) : sumN (fun i => (el true (fun _ => s) i).size) n = n * s.size := sumN_const s.size n
theorem fold_set (off : Nat) : ∀ (vs : List Value) (k : Nat) (cs : Array Value), off + k + vs.length ≤ cs.size →
    ((vs.zipIdx k).foldl (fun (cs : Array Value) (q : Value × Nat) => cs.setIfInBounds (off + q.2) q.1) cs).toList = cs.toList.take (off + k) ++ vs ++ cs.toList.drop (off + k + vs.length)
  | [], k, cs, _ => by simp
  | v :: vs, k, cs, h => by
    simp only [List.zipIdx_cons, List.foldl_cons]
    simp only [List.length_cons] at h
    rw [fold_set off vs (k + 1) _ (by simp; omega)]
    have hk : off + k < cs.toList.length := by simp; omega
    rw [Array.toList_setIfInBounds, ← Nat.add_assoc]
    rw [List.take_set, List.drop_set]
    rw [if_pos (by omega)]
    have e : (List.take (off + k + 1) cs.toList).set (off + k) v = cs.toList.take (off + k) ++ [v] := by
      rw [List.take_succ_eq_append_getElem hk, List.set_append, if_neg (by rw [List.length_take]; omega), List.length_take, Nat.min_eq_left (by omega), Nat.sub_self]; rfl
    rw [e, List.length_cons, show off + k + 1 + vs.length = off + k + (vs.length + 1) by omega]
    simp
theorem fold_set0 (off : Nat) (vs : Array Value) (cs : Array Value) (h : off + vs.size ≤ cs.size) :
    vs.zipIdx.foldl (fun (cs : Array Value) (q : Value × Nat) => cs.setIfInBounds (off + q.2) q.1) cs = (cs.toList.take off ++ vs.toList ++ cs.toList.drop (off + vs.size)).toArray := by
  apply Array.ext'
  rw [← Array.foldl_toList]
  have := fold_set off vs.toList 0 cs (by simpa using h)
  simpa using this
section
variable {c : Cx} {w : World}
/-- The places of a literal's parts, and what the parts are. -/
theorem fill_ok {u : Bool} {l : Nat} {t : Nat → Ty} {place : Nat → Option (Nat × Nat)} (hp : ∀ i, i < l → place i = some (sumN (fun j => (el u t j).size) i, (el u t i).size)) :
    ∀ (ps : List (Nat × AV)) (vs : List (Nat × Value)) (f : Nat → AV) (cells : Array Value), vs.map (·.1) = ps.map (·.1) → (∀ j (h : j < ps.length) (h' : j < vs.length), RV c ps[j].2 vs[j].2) → litOk Sh u l t ps →
      R c (.agg u l f) cells.toList → Sh (.agg u l t) (.agg u l f) → ∃ cells', Instr.fill place cells vs = some cells' ∧ ∃ f', R c (.agg u l f') cells'.toList ∧ Sh (.agg u l t) (.agg u l f') ∧ ∀ i, i < l → f' i = look ps (f i) i
  | [], vs, f, cells, hm, _, _, hr, hs => by
    obtain rfl : vs = [] := by cases vs <;> simp_all
    exact ⟨cells, rfl, f, hr, hs, fun i _ => rfl⟩
  | (i, a) :: ps, [], f, cells, hm, _, _, _, _ => by simp at hm
  | (i, a) :: ps, (i', v) :: vs, f, cells, hm, hv, hl, hr, hs => by
    simp only [List.map_cons, List.cons.injEq] at hm
    obtain ⟨rfl, hm⟩ := hm
    obtain ⟨hi, hsa, hne, hl⟩ := hl
    have hva : RV c a v := hv 0 (by simp) (by simp)
    obtain ⟨hra, _⟩ := R_of_rv hsa hva
    have hla := R_len hra hsa
    have hsz : v.cells.size = (el u t i').size := by simpa using hla
    have hpath : (Ty.agg u l t).inP [i'] := by rw [inP_agg]; exact ⟨hi, inP_nil _⟩
    obtain ⟨hs2, hr2⟩ := R_upd [i'] hr hs hpath hra (by rw [at_one]; exact hsa)
    have hfit : sumN (fun j => (el u t j).size) i' + (el u t i').size ≤ cells.size := by
      have h1 := R_len hr hs
      rw [size_agg] at h1
      have h2 := sumN_le (f := fun j => (el u t j).size) hi
      have : cells.toList.length = cells.size := by simp
      omega
    rw [off_one] at hr2
    have hav : (AV.agg u l f).upd [i'] a = .agg u l (updU u f i' a) := by
      show AV.agg u l (updU u f i' ((f i').upd [] a)) = _
      congr 2; cases f i' <;> rfl
    rw [hav] at hr2 hs2
    have hn1 : ¬ v.cells.size ≠ (el u t i').size := by omega
    have hn2 : ¬ sumN (fun j => (el u t j).size) i' + v.cells.size > cells.size := by omega
    obtain ⟨cells', h1, f', h2, h3, h4⟩ := fill_ok hp ps vs (updU u f i' a) (v.cells.zipIdx.foldl (fun cs (q : Value × Nat) => cs.setIfInBounds (sumN (fun j => (el u t j).size) i' + q.2) q.1) cells) hm
      (fun j h h' => by have := hv (j + 1) (by simp; omega) (by simp; omega); simpa using this) hl (by rw [fold_set0 _ _ _ (by omega)]; simpa using hr2) hs2
    refine ⟨cells', ?_, f', h2, h3, fun j hj => ?_⟩
    · simp only [Instr.fill, hp i' hi, hn1, hn2, decide_false, Bool.or_self, Bool.false_eq_true, if_false]
      exact h1
    · rw [h4 j hj, updU_eq hs.2.2 hsa j hj]
      by_cases e : j = i'
      · subst e
        rw [if_pos rfl]
        have hnone : ∀ (qs : List (Nat × AV)) (z : AV), (qs.all fun q => !Nat.beq j q.1) = true → look qs z j = z := by
          intro qs z hq
          induction qs with
          | nil => rfl
          | cons q qs ih =>
            simp only [List.all_cons, Bool.and_eq_true, Bool.not_eq_true'] at hq
            show (bif Nat.beq j q.1 then q.2 else look qs z j) = z
            rw [hq.1]; exact ih hq.2
        rw [hnone ps a hne]
        show _ = (bif Nat.beq j j then a else _)
        simp
      · rw [if_neg e]
        show _ = (bif Nat.beq j i' then a else _)
        have : Nat.beq j i' = false := by rw [← Bool.not_eq_true, Nat.beq_eq]; exact e
        rw [this]; rfl
theorem look_Sh {τ : Ty} : ∀ {ps : List (Nat × AV)} {l : Nat} {z : AV} {j : Nat}, litOk Sh true l (fun _ => τ) ps → Sh τ z → Sh τ (look ps z j)
  | [], _, _, _, _, hz => hz
  | (i, a) :: ps, l, z, j, h, hz => by
    obtain ⟨_, ha, _, h⟩ := h
    show Sh τ (bif Nat.beq j i then a else look ps z j)
    cases Nat.beq j i
    · exact look_Sh h hz
    · exact ha
theorem litA_eq {τ : Ty} {ps : List (Nat × AV)} {l j : Nat} (h : litOk Sh true l (fun _ => τ) ps) (hz : Sh τ τ.zero) : litA τ ps j = look ps τ.zero j := by
  have hs := look_Sh (j := j) h hz
  cases τ with
  | int k =>
    cases k <;> first
      | rfl
      | (show AV.u8 (asU8 (look ps (.u8 0) j)) = look ps (.u8 0) j
         change Sh _ (look ps (.u8 0) j) at hs
         cases hq : look ps (.u8 0) j <;> rw [hq] at hs <;> first | exact hs.elim | rfl)
      | (show AV.u16 (asU16 (look ps (.u16 0) j)) = look ps (.u16 0) j
         change Sh _ (look ps (.u16 0) j) at hs
         cases hq : look ps (.u16 0) j <;> rw [hq] at hs <;> first | exact hs.elim | rfl)
      | (show AV.u32 (asU32 (look ps (.u32 0) j)) = look ps (.u32 0) j
         change Sh _ (look ps (.u32 0) j) at hs
         cases hq : look ps (.u32 0) j <;> rw [hq] at hs <;> first | exact hs.elim | rfl)
      | (show AV.u64 (asU64 (look ps (.u64 0) j)) = look ps (.u64 0) j
         change Sh _ (look ps (.u64 0) j) at hs
         cases hq : look ps (.u64 0) j <;> rw [hq] at hs <;> first | exact hs.elim | rfl)
  | _ => rfl
theorem R_agg_congr {u : Bool} {l : Nat} {f g : Nat → AV} {cs : List Value} (h : ∀ i, i < l → f i = g i) (hr : R c (.agg u l f) cs) : R c (.agg u l g) cs := by
  obtain ⟨gg, hg, rfl⟩ := hr
  exact ⟨gg, fun i hi => by rw [← h i hi]; exact hg i hi, rfl⟩
theorem Sh_agg_congr {u : Bool} {l : Nat} {t : Nat → Ty} {f g : Nat → AV} (h : ∀ i, i < l → f i = g i) (hs : Sh (.agg u l t) (.agg u l f)) : Sh (.agg u l t) (.agg u l g) :=
  ⟨rfl, rfl, fun i hi => by rw [← h i hi]; exact hs.2.2 i hi⟩
end
section
variable {P : Program} {E : Pg} {o : Oper} {x : Operand → AV} {key : Nat} {m : Nat → Option Row} {K : Res → Prop} {t : TypeId}
theorem parts_vals {ps : Array (Nat × Operand)} {c : Cx} {a : Act} (hx : ∀ y, RV c (x y) (a.eval y)) :
    (ps.map fun (q : Nat × Operand) => (q.1, a.eval q.2)).toList.map (·.1) = (ps.toList.map fun (q : Nat × Operand) => (q.1, x q.2)).map (·.1) ∧
    ∀ j (h : j < (ps.toList.map fun (q : Nat × Operand) => (q.1, x q.2)).length) (h' : j < (ps.map fun (q : Nat × Operand) => (q.1, a.eval q.2)).toList.length), RV c (ps.toList.map fun (q : Nat × Operand) => (q.1, x q.2))[j].2 ((ps.map fun (q : Nat × Operand) => (q.1, a.eval q.2)).toList)[j].2 := by
  constructor
  · simp
  · intro j h h'
    simp only [Array.toList_map, List.getElem_map]
    exact hx _
theorem agg_zero {u : Bool} {l : Nat} {f : Nat → Ty} : (Ty.agg u l f).zero = .agg u l (fun i => (el u f i).zero) := by cases u <;> rfl
theorem s_build (hT : TysOK P E.ty) {ps : Array (Nat × Operand)} (ho : o.op = .build t ps) (h : sem E m key x (.build t ps) K) : ∃ r, K r ∧ Valid P E.ty o x key m r := by
  have main : ∀ {u : Bool} {l : Nat} {f : Nat → Ty} {F : Nat → AV}, E.ty t = .agg u l f → litOk Sh u l f (ps.toList.map fun (q : Nat × Operand) => (q.1, x q.2)) →
      (∀ i, i < l → look (ps.toList.map fun (q : Nat × Operand) => (q.1, x q.2)) (el u f i).zero i = F i) → K ⟨.agg u l F, [], []⟩ → ∃ r, K r ∧ Valid P E.ty o x key m r := fun {u l f F} hty hl hF hk => by
    have htt := hT t (by rw [hty]; simp)
    refine ⟨_, hk, valid_val rfl fun c a _ _ _ hx => ?_⟩
    obtain ⟨z, ⟨it, hit, hz, hsz, _⟩, hzc, hzv⟩ := htt.inf
    have hz0 := zero_ok (c := c) htt
    rw [hty, agg_zero] at hz0
    obtain ⟨pv1, pv2⟩ := parts_vals (ps := ps) (x := x) hx
    have hplace : ∃ place, (∀ i, i < l → place i = some (sumN (fun j => (el u f j).size) i, (el u f i).size)) ∧ ∀ cells, Instr.fill place z.cells (ps.map fun (q : Nat × Operand) => (q.1, a.eval q.2)).toList = some cells → P.built t (ps.map fun (q : Nat × Operand) => (q.1, a.eval q.2)).toList = some cells := by
      cases u with
      | true =>
        obtain ⟨e, hu, he, h0, rfl⟩ := htt.arr_of hty
        obtain ⟨z', ⟨ie, hie, _, hse, _⟩, _⟩ := he.inf
        refine ⟨fun i => some (i * ie.size, ie.size), fun i _ => ?_, fun cells hc => ?_⟩
        · show some (i * ie.size, ie.size) = some (sumN (fun _ => (E.ty e).size) i, (E.ty e).size)
          rw [sumN_const, hse]
        · unfold Program.built; simp only [hit, hu, hz, hie]; exact hc
      | false =>
        obtain ⟨fs, hu, hn, hfs⟩ := htt.st_of hty
        have hmap : fs.toList.mapM (fun fl => (P.info? fl.type).map fun i => (fl.offset, i.size)) = some (fs.toList.map fun fl => (fl.offset, (E.ty fl.type).size)) := by
          have : ∀ (l : List Field), (∀ fl ∈ l, ∃ i, P.info? fl.type = some i ∧ i.size = (E.ty fl.type).size) → l.mapM (fun fl => (P.info? fl.type).map fun i => (fl.offset, i.size)) = some (l.map fun fl => (fl.offset, (E.ty fl.type).size)) := by
            intro l
            induction l with
            | nil => intro _; rfl
            | cons fl l ih =>
              intro h
              obtain ⟨i, hi, hs⟩ := h fl (by simp)
              rw [List.mapM_cons, ih (fun q hq => h q (by simp [hq]))]
              simp [hi, hs]
          refine this _ (fun fl hfl => ?_)
          obtain ⟨i, hi, rfl⟩ := List.getElem_of_mem hfl
          have hi' : i < fs.size := by simpa using hi
          obtain ⟨z', ⟨ie, hie, _, hse, _⟩, _⟩ := (hfs i hi').1.inf
          exact ⟨ie, by simpa using hie, by simpa using hse⟩
        refine ⟨((fs.toList.map fun fl => (fl.offset, (E.ty fl.type).size)).toArray[·]?), fun i hi => ?_, fun cells hc => ?_⟩
        · have hi' : i < fs.size := by omega
          obtain ⟨_, e1, e2, _⟩ := hfs i hi'
          simp only [List.getElem?_toArray, List.getElem?_map]
          rw [List.getElem?_eq_getElem (by simpa using hi')]
          simp only [Option.map_some, Array.getElem_toList]
          rw [e2, ← e1]; rfl
        · unfold Program.built; simp only [hit, hu, hz, hmap]; exact hc
    obtain ⟨place, hp1, hp2⟩ := hplace
    obtain ⟨cells, hfill, f', hr, hs, hf'⟩ := fill_ok (c := c) hp1 _ _ (fun i => (el u f i).zero) z.cells pv1 pv2 hl (by rw [hzc, hty]; exact hz0.1) hz0.2
    refine ⟨.agg cells, ?_, cells.toList, by simp, R_agg_congr (fun i hi => by rw [hf' i hi]; exact hF i hi) hr⟩
    unfold execOp
    simp only [ho, Sem.run_bind, run_build c.w t _ cells (hp2 cells hfill), Result.andThen_ok, Sem.run_pure]
  simp only [sem, semG] at h
  split at h
  · rename_i l f hty
    obtain ⟨hl, h⟩ := h
    have htt := hT t (by rw [hty]; simp)
    obtain ⟨e, hu, he, h0, rfl⟩ := htt.arr_of hty
    exact main hty hl (fun i hi => (litA_eq hl (zero_ok (c := Cx.nil) he).2).symm) h
  · rename_i l f hty
    exact main hty h.1 (fun i hi => rfl) h.2
  · exact h.elim
/-- A slice of the call's own comes into being. -/
theorem valid_own {e : TypeId} {n : Nat} {f : Nat → AV} (h : ∀ (c : Cx) (act : Act), c.ty = E.ty → (∀ y, RV c (x y) (act.eval y)) → ∃ (cs : Array Value) (q : Nat) (xs : List Value), n ≤ q ∧ q ≤ maxLen ∧ cs.size = q * (E.ty e).size ∧ cs.toList.take (n * (E.ty e).size) = xs ∧ R c (.agg true n f) xs ∧ Sh (.agg true n fun _ => E.ty e) (.agg true n f) ∧
      (execOp act.eval o).run P c.w = .ok (.value (.slice (some ⟨c.w.heap.size, 0, none⟩) n q)) (c.w.alloc (.cells cs e))) : Valid P E.ty o x key m ⟨.gsl e key n, [(key, .grow e n f)], []⟩ := by
  intro c act K Q hty hm hb hrd hf hx hK
  obtain ⟨cs, q, xs, hnq, hqm, hsz, htk, hr, hs, hrun⟩ := h c act hty hx
  unfold Oper.wp
  rw [hrun]
  have hlow : Below c.w.heap.size c.w (c.w.alloc (.cells cs e)) := (Below.refl _ _).alloc (Nat.le_refl _) _
  have hst := stab_add (c := c) (key := key) (r := .grow e n f) (bl := some c.w.heap.size) (sv := .slice (some ⟨c.w.heap.size, 0, none⟩) n q) (w := c.w.alloc (.cells cs e)) (hf key (Nat.le_refl _) (by omega)) hlow.size hlow.block
  have hsv : (c.addRow key (.grow e n f) (some c.w.heap.size) (.slice (some ⟨c.w.heap.size, 0, none⟩) n q) (c.w.alloc (.cells cs e))).sv key = .slice (some ⟨c.w.heap.size, 0, none⟩) n q := if_pos rfl
  have hbl : (c.addRow key (.grow e n f) (some c.w.heap.size) (.slice (some ⟨c.w.heap.size, 0, none⟩) n q) (c.w.alloc (.cells cs e))).bl key = some c.w.heap.size := if_pos rfl
  have hxl := R_len hr hs
  rw [size_agg, show sumN (fun i => (el true (fun _ => E.ty e) i).size) n = n * (E.ty e).size from sumN_el _ _] at hxl
  have hstep := step_add hm hb (key := key) (r := .grow e n f) (bl := some c.w.heap.size) (sv := .slice (some ⟨c.w.heap.size, 0, none⟩) n q) (w := c.w.alloc (.cells cs e)) (hf key (Nat.le_refl _) (by omega)) hlow (fun b hb => by injection hb with hb; omega)
    (R_grow (R_stab hst hr) (by rw [show (c.addRow key _ _ _ _).ty = E.ty from hty]; exact hs) (by
      rw [hsv, show (c.addRow key _ _ _ _).ty = E.ty from hty]
      exact ⟨hxl, .inr ⟨c.w.heap.size, q, cs, rfl, Nat.le_trans hm.bf hb, heap_alloc_new _ _, hnq, hqm, hsz, htk⟩⟩) (by rw [hsv, hbl]; rfl))
  refine hK _ _ hstep ⟨n, f, some ⟨c.w.heap.size, 0, none⟩, q, putM_same _ _ _, Nat.le_refl _, rfl, hnq, hqm, fun _ => ⟨_, rfl⟩, fun _ => hsv⟩
theorem made_list (z : Array Value) (hz : 0 < z.size) : ∀ n, (madeCells z (n * z.size)).toList = (List.range n).flatMap (fun _ => z.toList)
  | 0 => by simp [madeCells]
  | n + 1 => by
    rw [fm_succ, ← made_list z hz n]
    apply List.ext_getElem?
    intro j
    simp only [madeCells, Array.toList_map, Array.toList_range, List.getElem?_map]
    rcases Nat.lt_or_ge j (n * z.size) with h | h
    · rw [List.getElem?_append_left (by simpa using h), List.getElem?_range (by rw [Nat.succ_mul]; omega), List.getElem?_map, List.getElem?_range h]
    · rw [List.getElem?_append_right (by simpa using h)]
      simp only [List.length_map, List.length_range]
      rcases Nat.lt_or_ge j ((n + 1) * z.size) with h' | h'
      · rw [List.getElem?_range h']
        rw [Nat.succ_mul] at h'
        have hj : j - n * z.size < z.size := by omega
        have hmod : j % z.size = j - n * z.size := by
          have : j = (j - n * z.size) + n * z.size := by omega
          rw [this, Nat.add_mul_mod_self_right, Nat.mod_eq_of_lt hj]; omega
        simp [hmod, hj]
      · rw [List.getElem?_eq_none (by simpa using h'), List.getElem?_eq_none (by rw [Nat.succ_mul] at h'; simp; omega)]; rfl
theorem zeros_R (hT : TysOK P E.ty) {e : TypeId} (he : TyOK P E.ty e) (c : Cx) (n : Nat) {z : Value} (hzc : z.cells.toList = (E.ty e).zc) (h0 : 0 < (E.ty e).size) (hsz : z.cells.size = (E.ty e).size) :
    R c (.agg true n fun _ => (E.ty e).zero) (madeCells z.cells (n * z.cells.size)).toList ∧ Sh (.agg true n fun _ => E.ty e) (.agg true n fun _ => (E.ty e).zero) := by
  rw [made_list z.cells (by omega) n, hzc]
  exact ⟨⟨fun _ => (E.ty e).zc, fun i _ => (zero_ok he).1, rfl⟩, rfl, rfl, fun i _ => (zero_ok (c := c) he).2⟩
theorem s_makeSlice (hT : TysOK P E.ty) {y z : Operand} (ho : o.op = .makeSlice t y z) (h : sem E m key x (.makeSlice t y z) K) : ∃ r, K r ∧ Valid P E.ty o x key m r := by
  simp only [sem, semG] at h
  split at h
  · rename_i e hty
    obtain ⟨hu, he, h0⟩ := (hT t (by rw [hty]; simp)).sl_of hty
    obtain ⟨n, h, hn⟩ := idx_all h
    obtain ⟨q, ⟨hnq, hqb, h⟩, hq⟩ := idx_all h
    refine ⟨_, h, valid_own fun c a hct hx => ?_⟩
    obtain ⟨kn, en⟩ := hn c _ (hx y)
    obtain ⟨kq, eq⟩ := hq c _ (hx z)
    obtain ⟨zv, ⟨i, hi, hz, hsz, hby⟩, hzc, _⟩ := he.inf
    have hzs : zv.cells.size = (E.ty e).size := by
      have := R_len (zero_ok (c := c) he).1 (zero_ok (c := c) he).2
      rw [← hzc] at this; simpa using this
    unfold bnd at hqb
    have hmx : q ≤ maxLen := by unfold maxLen; omega
    have hb2 : (i.bytes : Int) * (q : Int) ≤ 281474976710656 := by
      have : i.bytes * q ≤ 10000 * 1000000000 := Nat.mul_le_mul hby hqb
      have h2 : ((i.bytes * q : Nat) : Int) ≤ 281474976710656 := by omega
      rwa [Int.natCast_mul] at h2
    have hrun := run_make (P := P) c.w t e i zv hu hi hz kn kq (n : Int) (q : Int) (by omega) (by omega) hb2 (by omega)
    simp only [Int.toNat_natCast] at hrun
    obtain ⟨hr, hs⟩ := zeros_R hT he c n hzc h0 hzs
    obtain ⟨hrq, hsq⟩ := zeros_R hT he c q hzc h0 hzs
    refine ⟨madeCells zv.cells (q * i.size), q, _, hnq, hmx, by rw [size_madeCells, hsz], ?_, hr, hs, ?_⟩
    · rw [hsz, ← hzs, made_list _ (by omega), made_list _ (by omega)]
      have hsplit : ∀ (k : Nat) (g : Nat → List Value), (∀ i, (g i).length = zv.cells.size) → ∀ d, ((List.range (k + d)).flatMap g).take (k * zv.cells.size) = (List.range k).flatMap g := by
        intro k g hg d
        induction d with
        | zero => rw [Nat.add_zero, List.take_of_length_le (by rw [fm_len, sumN_congr (g := fun _ => zv.cells.size) k (fun i _ => hg i), sumN_const]; exact Nat.le_refl _)]
        | succ d ih =>
          rw [← Nat.add_assoc, fm_succ, List.take_append_of_le_length, ih]
          rw [fm_len, sumN_congr (g := fun _ => zv.cells.size) (k + d) (fun i _ => hg i), sumN_const]
          exact Nat.mul_le_mul_right _ (by omega)
      obtain ⟨d, rfl⟩ := Nat.exists_eq_add_of_le hnq
      exact hsplit n _ (fun _ => by simp) d
    · unfold execOp
      simp only [ho, en, eq, Sem.run_bind, hrun, Result.andThen_ok, Sem.run_pure]
  · exact h.elim
theorem run_buildSlice' {e l : Nat} (hu : P.underlying t = some (.slice e)) {ty : TypeId → Ty} (he : TyOK P ty e) {i : TypeInfo} {zv : Value} (hi : P.info? e = some i) (hz : i.zero = some zv) (hl : l * (ty e).size ≤ 16777216) {V : Array (Nat × Value)} {cells : Array Value} {w : World}
    (hf : Instr.fill (fun j => some (j * (ty e).size, (ty e).size)) (madeCells zv.cells (l * (ty e).size)) V.toList = some cells) : (Instr.buildSlice t l V).run P w = .ok (.slice (some ⟨w.heap.size, 0, none⟩) l l) (w.alloc (.cells cells e)) := by
  have n1 : ¬ l * (ty e).size > 2 ^ 24 := by omega
  have hn : (newRow e cells).run P w = .ok ⟨w.heap.size, 0, none⟩ (w.alloc (.cells cells e)) := by simp [newRow, go_sem]
  unfold madeCells at hf
  by_cases hl0 : l * (ty e).size = 0
  · rw [hl0] at hf
    have e0 : (Array.range 0).map (zv.cells[· % zv.cells.size]!) = (Array.range 0).map ((#[] : Array Value)[· % (#[] : Array Value).size]!) := by simp [Array.range_zero']
    rw [e0] at hf
    simp only [Instr.buildSlice, Sem.run_bind, run_underlying hu, run_sizeOf' he, Result.andThen_ok, n1, if_false, hl0, if_true, Sem.run_pure, Nat.not_lt_zero, gt_iff_lt]
    rw [hf]
    simp only [Sem.run_bind, hn, Result.andThen_ok, Sem.run_pure]
  · have hzr : (zeroValue e).run P w = .ok zv w := by simp [zeroValue, typeInfo, hi, hz]
    simp only [Instr.buildSlice, Sem.run_bind, run_underlying hu, run_sizeOf' he, Result.andThen_ok, n1, if_false, hl0, Sem.run_pure, hzr]
    rw [hf]
    simp only [Sem.run_bind, hn, Result.andThen_ok, Sem.run_pure]
/-- The world behind a block that nobody writes. -/
def Cx.withBlock (c : Cx) (w : World) : Cx := { c with Mu := fun b => c.Mu b ∧ b < c.w.heap.size, w := w }
theorem stab_block {c : Cx} {w : World} (hsz : c.w.heap.size ≤ w.heap.size) (hh : ∀ b, b < c.w.heap.size → ¬ c.Mu b → (∀ o, w.cell? ⟨b, o, none⟩ = c.w.cell? ⟨b, o, none⟩) ∧ (b < c.fb → w.heap[b]? = c.w.heap[b]?)) : Stab c (c.withBlock w) :=
  ⟨rfl, Nat.le_refl _, rfl, fun k τ a h => ⟨⟨a, h⟩, rfl⟩, fun k e n f h => ⟨n, f, h, Nat.le_refl _, fun _ => ⟨rfl, rfl⟩⟩, fun b hb h => ⟨fun hq => h hq.1, hh b hb h⟩, hsz⟩
theorem step_block {c : Cx} (hm : MemOK c) {w : World} (hlow : Below c.base c.w w) (hh : ∀ b, b < c.w.heap.size → ¬ c.Mu b → (∀ o, w.cell? ⟨b, o, none⟩ = c.w.cell? ⟨b, o, none⟩) ∧ (b < c.fb → w.heap[b]? = c.w.heap[b]?)) (hr : ∀ k r b, c.m k = some r → c.bl k = some b → w.heap[b]? = c.w.heap[b]?) : Step c [] (c.withBlock w) := by
  have hst := stab_block hlow.size hh
  exact ⟨hst, ⟨fun k r hk => RowOK_stab hst rfl rfl rfl (fun b hb => hr k r b hk hb) (hm.rows k r hk), hm.inj, fun k r b hk hb => ⟨⟨(hm.mu k r b hk hb).1, row_lt (hm.rows k r hk) hb⟩, (hm.mu k r b hk hb).2⟩, hm.bf⟩, rfl, rfl, rfl, hlow⟩
/-- A new block holds what nobody writes. -/
theorem valid_block {et : Ty} {n : Nat} {f : Nat → AV} (h : ∀ (c : Cx) (act : Act), c.ty = E.ty → (∀ y, RV c (x y) (act.eval y)) → ∃ (w : World) (q : Nat) (g : Nat → List Value), Below c.w.heap.size c.w w ∧ c.w.heap.size < w.heap.size ∧ n ≤ q ∧ q ≤ maxLen ∧
    (∀ i, i < n → Sh et (f i) ∧ R c (f i) (g i) ∧ w.rangeAt c.w.heap.size (i * et.size) (g i)) ∧ (execOp act.eval o).run P c.w = .ok (.value (.slice (some ⟨c.w.heap.size, 0, none⟩) n q)) w) :
    Valid P E.ty o x key m ⟨.imm true et n f, [], []⟩ := by
  intro c act K Q hty hm hb hrd hf hx hK
  obtain ⟨w, q, g, hlow, hlt, h1, h2, h3, hrun⟩ := h c act hty hx
  unfold Oper.wp
  rw [hrun]
  have hbl : ∀ b, b < c.w.heap.size → w.heap[b]? = c.w.heap[b]? := hlow.block
  have hstep := step_block hm (hlow.mono (Nat.le_trans hm.bf hb)) (fun b hb _ => same_old (hbl b hb)) (fun k r b hk hb => hbl b (row_lt (hm.rows k r hk) hb))
  refine hK _ _ hstep ⟨_, q, rfl, h1, h2, fun hl => ⟨c.w.heap.size, 0, rfl, hlt, fun hq => absurd hq.2 (Nat.lt_irrefl _), fun _ => hb, fun i hi => ?_⟩⟩
  obtain ⟨a1, a2, a3⟩ := h3 i hi
  exact ⟨a1, g i, R_stab hstep.stab a2, by rw [Nat.zero_add]; exact a3⟩
theorem cell_freeze (w : World) (a b : Addr) (n : Nat) : (w.freeze a n).cell? b = w.cell? b := by
  unfold World.freeze
  split
  · rfl
  · unfold World.cell?
    simp only [Array.getElem?_modify]
    by_cases hb : a.block = b.block
    · rw [if_pos hb]
      cases h : w.heap[b.block]? with
      | none => rfl
      | some o => cases o <;> rfl
    · rw [if_neg hb]
theorem heap_freeze (w : World) (a : Addr) (n k : Nat) (h : k ≠ a.block) : (w.freeze a n).heap[k]? = w.heap[k]? := by
  unfold World.freeze
  split
  · rfl
  · simp only [Array.getElem?_modify]
    rw [if_neg (by omega)]
theorem below_freeze {B : Nat} {w : World} {p : Addr} (hp : B ≤ p.block) (n : Nat) : Below B w (w.freeze p n) := by
  refine ⟨?_, ?_, ?_, ?_, fun k hk => heap_freeze w p n k (by omega)⟩ <;> unfold World.freeze <;> split <;> simp
theorem size_freeze (w : World) (p : Addr) (n : Nat) : (w.freeze p n).heap.size = w.heap.size := by
  unfold World.freeze; split <;> simp
theorem run_mark (w : World) {t e : TypeId} {A : Option Addr} {n q b oo : Nat} {v : Value} (hu : P.underlying t = some (.slice e)) (he : P.underlying e = some (.int .u8)) (hA : A = some ⟨b, oo, none⟩) (hc : w.cell? ⟨b, oo, none⟩ = some v) :
    ∃ k, (convert t t (.slice A n q)).run P w = .ok (.slice A n q) (w.freeze ⟨b, k, none⟩ 1) := by
  subst hA
  have : ∃ p, w.shape? b = some p := by
    unfold World.cell? at hc
    unfold World.shape?
    cases h : w.heap[b]? with
    | none => simp [h] at hc
    | some o => cases o <;> simp [h] at hc ⊢
  obtain ⟨⟨e', k⟩, hsh⟩ := this
  exact ⟨k, by simp [convert, run_underlying hu, run_underlying he, markStringish, hsh]⟩
theorem str_row {c : Cx} {b : List UInt8} {k : Nat} : ∀ i, i < b.length → Sh (.int .u8) (.u8 (BitVec.ofNat 8 (b.getD i 0).toNat)) ∧ R c (.u8 (BitVec.ofNat 8 (b.getD i 0).toNat)) [.int .u8 ((b.getD i 0).toNat : Int)] := fun i _ =>
  ⟨trivial, by
    show [_] = [_]
    unfold U8
    rw [BitVec.toNat_ofNat, Nat.mod_eq_of_lt (UInt8.toNat_lt _)]⟩
theorem u8_under (hT : TysOK P E.ty) {e : TypeId} (he : E.ty e = .int .u8) : P.underlying e = some (.int .u8) := by
  have := hT e (by rw [he]; simp)
  cases this with
  | int _ k _ hu _ hty => rw [he] at hty; injection hty with hk; rw [hk]; exact hu
  | _ => simp_all
theorem s_convert (hT : TysOK P E.ty) {s d : TypeId} {y : Operand} (ho : o.op = .convert s d y) (h : sem E m key x (.convert s d y) K) : ∃ r, K r ∧ Valid P E.ty o x key m r := by
  simp only [sem, semG] at h
  obtain ⟨hs, h⟩ := okT_of h
  split at h
  · rename_i e hty
    obtain ⟨hu, he, h0⟩ := (hT d (by rw [hty]; simp)).sl_of hty
    split at h
    · rename_i fr et n f hx
      obtain ⟨rfl, rfl, rfl, he8, hn, h⟩ := h
      have hu8 := u8_under hT he8
      refine ⟨_, h, fun c act K Q hct hm hb hrd hf hxx hK => ?_⟩
      have h1 := hxx y
      rw [hx] at h1
      obtain ⟨A, q, ev, hnq, hqm, hA⟩ := h1
      injection ev with ev
      obtain ⟨b, oo, eA, hlt, hmu, hfr, hi⟩ := hA hn
      have hcell : ∃ v, c.w.cell? ⟨b, oo, none⟩ = some v := by
        obtain ⟨hsh, ds, hr, hrg⟩ := hi 0 hn
        have hl := R_len hr hsh
        cases ds with
        | nil => simp [Ty.size] at hl
        | cons v vs => exact ⟨v, by have := hrg 0 v rfl; simpa using this⟩
      obtain ⟨v, hcv⟩ := hcell
      obtain ⟨k, hrun⟩ := run_mark c.w hu hu8 eA hcv (n := n) (q := q)
      have hstep := step_block hm (w := c.w.freeze ⟨b, k, none⟩ 1) (below_freeze (Nat.le_trans hm.bf (hfr rfl)) 1) (fun b' hb' _ => ⟨fun o => cell_freeze _ _ _ _, fun hf' => heap_freeze _ _ _ _ (fun e => by have := hfr rfl; simp only at e; omega)⟩)
        (fun k' r' b' hk' hb' => heap_freeze _ _ _ _ (fun e => hmu (by have := (hm.mu k' r' b' hk' hb').1; simp only at e; rw [← e]; exact this)))
      unfold Oper.wp
      have hex : (execOp act.eval o).run P c.w = .ok (.value (act.eval y)) (c.w.freeze ⟨b, k, none⟩ 1) := by
        unfold execOp
        simp only [ho, ev, Sem.run_bind, hrun, Result.andThen_ok, Sem.run_pure]
      rw [hex]
      refine hK _ _ hstep ?_
      have := hxx y
      rw [hx] at this
      exact RV_stab hstep.stab this
    · rename_i b hx
      obtain ⟨hss, he8, hbn, h⟩ := h
      have hus := (hT s hs).str_of hss
      have hu8 := u8_under hT he8
      refine ⟨_, h, valid_block fun c act hct hxx => ?_⟩
      have ev := hxx y
      rw [hx] at ev
      have ev := rv_str ev
      have hsz : (⟨b.toArray⟩ : ByteArray).size = b.length := by simp [ByteArray.size]
      have hcap := grownCap_ge c.w (⟨b.toArray⟩ : ByteArray).size 0 e
      obtain ⟨C, fz, hC, hrun⟩ : ∃ C fz, C = bytesRow ⟨b.toArray⟩ (grownCap c.w (⟨b.toArray⟩ : ByteArray).size 0 e) ∧ (convert s d (.string ⟨b.toArray⟩)).run P c.w = .ok (.slice (some ⟨c.w.heap.size, 0, none⟩) (⟨b.toArray⟩ : ByteArray).size (grownCap c.w (⟨b.toArray⟩ : ByteArray).size 0 e)) (c.w.drew.alloc (.cells C e fz)) := ⟨_, _, rfl, run_bytes_of_string (P := P) c.w s d e ⟨b.toArray⟩ hus hu hu8⟩
      have hlow : ∀ o, Below c.w.heap.size c.w (c.w.drew.alloc o) := fun o => (Below.refl _ _).drew.alloc (Nat.le_refl _) o
      unfold bnd at hbn
      refine ⟨c.w.drew.alloc (.cells C e fz), grownCap c.w (⟨b.toArray⟩ : ByteArray).size 0 e, fun i => [.int .u8 ((b.getD i 0).toNat : Int)], hlow _, ?_, ?_, ?_, fun i hi => ⟨(str_row (c := c) (k := 0) i hi).1, (str_row (c := c) (k := 0) i hi).2, ?_⟩, ?_⟩
      · simp
      · rw [hsz] at hcap ⊢; exact hcap
      · exact grownCap_le_maxLen _ _ _ _ (by rw [hsz]; unfold maxLen; omega)
      · intro j v hj
        have hj0 : j = 0 := by
          have := (List.getElem?_eq_some_iff.1 hj).1
          simp at this; exact this
        subst hj0
        simp only [List.getElem?_cons_zero, Option.some.injEq] at hj
        subst hj
        have hnew : ∀ (C : Array Value) (fz : Nat × Nat), (c.w.drew.alloc (.cells C e fz)).heap[c.w.heap.size]? = some (.cells C e fz) := fun C fz => by
          show (c.w.heap.push _)[c.w.heap.size]? = _
          simp
        unfold World.cell?
        simp only [hnew, Ty.size, Nat.mul_one, Nat.add_zero]
        rw [hC]
        simp [bytesRow, Array.getElem?_append, hi, List.getD]
      · unfold execOp
        rw [hsz] at hrun
        simp only [ho, ev, Sem.run_bind, hrun, Result.andThen_ok, Sem.run_pure, hsz]
    · exact h.elim
  · rename_i hty
    split at h
    · rename_i b hx
      refine ⟨_, h, valid_yld rfl fun c a _ _ _ hxx => ⟨_, by unfold execOp; rw [ho], ?_⟩⟩
      have ev := hxx y
      rw [hx] at ev
      have ev' := rv_str ev
      obtain ⟨ds, hus, _⟩ := (hT s hs).desc
      have hud := (hT d (by rw [hty]; simp)).str_of hty
      refine ⟨_, ?_, ev⟩
      rw [ev']
      simp [convert, run_underlying hus, run_underlying hud]
    · exact h.elim
  · obtain ⟨r, h1, h2⟩ := conv_det h
    refine ⟨_, h1, valid_yld rfl fun c a _ _ _ hx => ⟨_, by unfold execOp; rw [ho], ?_⟩⟩
    obtain ⟨r', rfl, h3⟩ := conv_sound hT (c := c) (w := c.w) (hT s hs) (hx y) (h2 (· = r) rfl)
    exact h3
theorem s_buildSlice (hT : TysOK P E.ty) {l : Nat} {ps : Array (Nat × Operand)} (ho : o.op = .buildSlice t l ps) (h : sem E m key x (.buildSlice t l ps) K) : ∃ r, K r ∧ Valid P E.ty o x key m r := by
  simp only [sem, semG] at h
  split at h
  · rename_i e hty
    obtain ⟨hu, he, h0⟩ := (hT t (by rw [hty]; simp)).sl_of hty
    obtain ⟨hlb, hl, h⟩ := h
    have key0 : ∀ (c : Cx) (a : Act), c.ty = E.ty → (∀ y, RV c (x y) (a.eval y)) → ∃ cells : Array Value, l ≤ maxLen ∧ cells.size = l * (E.ty e).size ∧ R c (.agg true l (litA (E.ty e) (ps.toList.map fun (q : Nat × Operand) => (q.1, x q.2)))) cells.toList ∧ Sh (.agg true l fun _ => E.ty e) (.agg true l (litA (E.ty e) (ps.toList.map fun (q : Nat × Operand) => (q.1, x q.2)))) ∧
        (execOp a.eval o).run P c.w = .ok (.value (.slice (some ⟨c.w.heap.size, 0, none⟩) l l)) (c.w.alloc (.cells cells e)) := fun c a hct hx => by
      obtain ⟨zv, ⟨i, hi, hz, hsz, hby⟩, hzc, _⟩ := he.inf
      have hzs : zv.cells.size = (E.ty e).size := by
        have := R_len (zero_ok (c := c) he).1 (zero_ok (c := c) he).2
        rw [← hzc] at this; simpa using this
      obtain ⟨hr, hs⟩ := zeros_R hT he c l hzc h0 hzs
      obtain ⟨pv1, pv2⟩ := parts_vals (ps := ps) (x := x) hx
      have hp : ∀ j, j < l → (fun j => some (j * i.size, i.size)) j = some (sumN (fun j => (el true (fun _ => E.ty e) j).size) j, (el true (fun _ => E.ty e) j).size) := fun j _ => by
        show some (j * i.size, i.size) = some (sumN (fun _ => (E.ty e).size) j, (E.ty e).size)
        rw [sumN_const, hsz]
      obtain ⟨cells, hfill, f', hr', hs', hf'⟩ := fill_ok (c := c) hp _ _ _ _ pv1 pv2 hl hr hs
      have hlen := R_len hr' hs'
      rw [size_agg, show sumN (fun i => (el true (fun _ => E.ty e) i).size) l = l * (E.ty e).size from sumN_el _ _] at hlen
      have hfin : ∀ j, j < l → f' j = litA (E.ty e) (ps.toList.map fun (q : Nat × Operand) => (q.1, x q.2)) j := fun j hj => by
        rw [hf' j hj, litA_eq hl (zero_ok (c := c) he).2]
      have hlm : l ≤ maxLen := by
        unfold maxLen
        have : l * 1 ≤ l * (E.ty e).size := Nat.mul_le_mul_left _ h0
        omega
      refine ⟨cells, hlm, by simpa using hlen, R_agg_congr hfin hr', Sh_agg_congr hfin hs', ?_⟩
      have hfill' : Instr.fill (fun j => some (j * (E.ty e).size, (E.ty e).size)) (madeCells zv.cells (l * (E.ty e).size)) (ps.map fun (q : Nat × Operand) => (q.1, a.eval q.2)).toList = some cells := by
        rw [← hsz]; rw [hzs] at hfill; rw [← hsz] at hfill; exact hfill
      unfold execOp
      simp only [ho, Sem.run_bind, run_buildSlice' hu he hi hz (by omega) hfill', Result.andThen_ok, Sem.run_pure]
    split at h
    · refine ⟨_, h, valid_block fun c a hct hx => ?_⟩
      obtain ⟨cells, h1, h2, h3, h4, h5⟩ := key0 c a hct hx
      obtain ⟨g, hg, hcs⟩ := h3
      have hsz : ∀ i, i < l → (g i).length = (E.ty e).size := fun i hi => R_len (hg i hi) (h4.2.2 i hi)
      refine ⟨_, l, g, (Below.refl _ _).alloc (Nat.le_refl _) _, by simp, Nat.le_refl _, h1, fun i hi => ⟨h4.2.2 i hi, hg i hi, ?_⟩, h5⟩
      obtain ⟨post, hp⟩ := fm_split g i l hi
      have hpre : ((List.range i).flatMap g).length = i * (E.ty e).size := by rw [fm_len, sumN_congr (g := fun _ => (E.ty e).size) i (fun j hj => hsz j (by omega)), sumN_const]
      intro j v hj
      have hjl : j < (g i).length := (List.getElem?_eq_some_iff.1 hj).1
      have hnew : (c.w.alloc (.cells cells e)).heap[c.w.heap.size]? = some (.cells cells e) := heap_alloc_new _ _
      unfold World.cell?
      simp only [hnew]
      have : cells.toList[i * (E.ty e).size + j]? = some v := by
        rw [hcs, hp, List.getElem?_append_left (by rw [List.length_append]; omega), ← hpre, List.getElem?_append_right (by omega), Nat.add_sub_cancel_left]; exact hj
      simpa using this
    refine ⟨_, h, valid_own fun c a hct hx => ?_⟩
    obtain ⟨cells, h1, h2, h3, h4, h5⟩ := key0 c a hct hx
    exact ⟨cells, l, cells.toList, Nat.le_refl _, h1, h2, by rw [List.take_of_length_le (by simp; omega)], h3, h4, h5⟩
  · exact h.elim
end
end Go.Proofs.YtdbiidfgbkmbmaaDoor
