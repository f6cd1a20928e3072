/- The builtin copy. -/
import Derived.Test.YtdbiidfgbkmbmaaDoorE16
namespace Go.Proofs.YtdbiidfgbkmbmaaDoor
open Go.RowKit
section
variable {P : Program} {E : Pg} {o : Oper} {x : Operand → AV} {key : Nat} {m : Nat → Option Row} {K : Res → Prop} {t : TypeId}
theorem run_copy0 {e : TypeId} (hu : P.underlying t = some (.slice e)) {ty : TypeId → Ty} (he : TyOK P ty e) {t2 : TypeId} {tt : TypeId} {dp sp : Option Addr} {dl dc sl sc : Nat} (h : min sl dl = 0) {w : World} :
    (Builtin.copy_ #[t, t2] tt #[.slice dp dl dc, .slice sp sl sc]).run P w = .ok (.int .i64 ((0 : Nat) : Int)) w := by
  have hm : Nat.min sl dl = 0 := h
  cases sp <;> cases dp <;> simp [Builtin.copy_, run_underlying hu, Builtin.lenOf, hm, run_sizeOf' he, Builtin.firstCells, loadCells, loadCellsFrom, goInt, storeCells]
theorem run_copy1 {e : TypeId} (hu : P.underlying t = some (.slice e)) {ty : TypeId → Ty} (he : TyOK P ty e) {t2 : TypeId} {tt : TypeId} {b bo sb so : Nat} {dl dc sl sc : Nat} {D : List Value} (hl : D.length = min sl dl * (ty e).size)
    {w : World} {cs : Array Value} {et : TypeId} (hb : w.heap[b]? = some (.cells cs et (0, 0))) (hfit : bo + D.length ≤ cs.size) (hs : w.rangeAt sb so D) (h1 : ∀ v ∈ D, v.oneCell' = true) :
    (Builtin.copy_ #[t, t2] tt #[.slice (some ⟨b, bo, none⟩) dl dc, .slice (some ⟨sb, so, none⟩) sl sc]).run P w = .ok (.int .i64 ((min sl dl : Nat) : Int)) (w.setRow b (cs.toList.take bo ++ D ++ cs.toList.drop (bo + D.length)).toArray) := by
  have hf := run_firstCells_some (P := P) w (ty e).size (min sl dl) ⟨sb, so, none⟩ sl sc D hl (fun j v hj => by rw [Addr.add_mid]; exact hs j v hj)
  have hst := run_storeCells_at P b bo et D 0 cs w hb (by omega) h1
  simp only [Nat.add_zero] at hst
  have hm : Nat.min sl dl = min sl dl := rfl
  simp [Builtin.copy_, run_underlying hu, Builtin.lenOf, hm, run_sizeOf' he, hf, hst, goInt]
theorem grow_set {c : Cx} (hm : MemOK c) {k e n b : Nat} {f f' : Nat → AV} (hck : c.m k = some (.grow e n f)) (hbl : c.bl k = some b) (hn : 0 < n) {O : Nat} {D : List Value}
    (hcut : ∀ xs, R c (.agg true n f) xs → Sh (.agg true n fun _ => c.ty e) (.agg true n f) → O + D.length ≤ xs.length ∧ R c (.agg true n f') (xs.take O ++ D ++ xs.drop (O + D.length)) ∧ Sh (.agg true n fun _ => c.ty e) (.agg true n f')) :
    ∃ cur, c.w.heap[b]? = some (.cells cur e (0, 0)) ∧ O + D.length ≤ cur.size ∧ Step c [(k, .grow e n f')] (c.setRow k (.grow e n f') (c.w.setRow b (cur.toList.take O ++ D ++ cur.toList.drop (O + D.length)).toArray)) := by
  obtain ⟨xs, hr, hs, hown, hbl2⟩ := grow_R (hm.rows k _ hck)
  obtain ⟨cap, cur, hsv, hbb, hheap, hnc, hcm, hcsz, htk⟩ := own_parts hown hn (hbl2.trans hbl)
  obtain ⟨hfit, hr2, hs2⟩ := hcut xs hr hs
  have hxl := R_len hr hs
  rw [size_agg, sumN_el] at hxl
  have hcl : xs.length ≤ cur.size := by rw [hxl, hcsz]; exact Nat.mul_le_mul_right _ hnc
  have hcut2 : cur.toList = xs ++ cur.toList.drop (n * (c.ty e).size) := by rw [← htk, List.take_append_drop]
  refine ⟨cur, hheap, by omega, ?_⟩
  generalize hrest : cur.toList.drop (n * (c.ty e).size) = rest at *
  have hL : cur.toList.take O ++ D ++ cur.toList.drop (O + D.length) = (xs.take O ++ D ++ xs.drop (O + D.length)) ++ rest := by
    rw [hcut2, List.take_append_of_le_length (by omega), List.drop_append_of_le_length (by omega)]; simp
  rw [hL]
  obtain ⟨w', hw'⟩ : ∃ w', w' = c.w.setRow b ((xs.take O ++ D ++ xs.drop (O + D.length)) ++ rest).toArray := ⟨_, rfl⟩
  rw [← hw']
  have hbase := (hm.mu k _ b hck hbl).2.1
  have hstab := stab_set (c := c) (key := k) (r := .grow e n f') (b := b) (w := w') hck (.inr ⟨_, _, _, _, rfl, rfl⟩) (hm.mu k _ b hck hbl).1 (by rw [hw']; simp) (fun b' _ hne => by rw [hw']; exact setRow_other c.w b b' _ hne)
  refine step_set hm hck (.inr ⟨_, _, _, _, rfl, rfl⟩) hbl (by rw [hw']; exact setRow_low hbase) (fun b' _ hne => by rw [hw']; exact setRow_other c.w b b' _ hne) ?_
  refine R_grow (c := c.setRow k _ w') (xs := xs.take O ++ D ++ xs.drop (O + D.length)) (R_stab hstab hr2) hs2 ?_ hbl2
  refine ⟨by show _ = n * (c.ty e).size; simp; omega, .inr ⟨b, cap, _, hsv, hbb, by rw [← setRow_heap c.w b cur _ e (0, 0) hheap, ← hw']; rfl, hnc, hcm, by show _ = cap * (c.ty e).size; simp; rw [← hcsz, ← Array.length_toList, hcut2]; simp; omega, ?_⟩⟩
  show List.take (n * (c.ty e).size) _ = _
  have : (xs.take O ++ D ++ xs.drop (O + D.length)).length = xs.length := by simp; omega
  rw [← hxl, ← this]
  exact List.take_left
/-- The first elements of what is read, as cells. -/
theorem seen_cells {c : Cx} {et : Ty} {n cnt : Nat} {g : Nat → AV} {b o : Nat} {gg : Nat → List Value} (h : ∀ i, i < n → Sh et (g i) ∧ R c (g i) (gg i) ∧ c.w.rangeAt b (o + i * et.size) (gg i)) (hc : cnt ≤ n) :
    ((List.range cnt).flatMap gg).length = cnt * et.size ∧ c.w.rangeAt b o ((List.range cnt).flatMap gg) ∧ (∀ v ∈ (List.range cnt).flatMap gg, v.oneCell' = true) ∧ ∀ i, i < cnt → (gg i).length = et.size := by
  have hl : ∀ i, i < cnt → (gg i).length = et.size := fun i hi => R_len (h i (by omega)).2.1 (h i (by omega)).1
  refine ⟨fm_len_const hl, range_fm cnt (fun i hi => ⟨(h i (by omega)).2.2, hl i hi⟩), fun v hv => ?_, hl⟩
  obtain ⟨i, hi, hvi⟩ := List.mem_flatMap.1 hv
  have hi : i < cnt := by simpa using hi
  exact R_one (h i (by omega)).2.1 (h i (by omega)).1 v hvi
theorem splice_R {c : Cx} {et : Ty} {N o cnt : Nat} {f g : Nat → AV} {xs : List Value} {gg : Nat → List Value} (hr : R c (.agg true N f) xs) (hs : Sh (.agg true N fun _ => et) (.agg true N f)) (hN : o + cnt ≤ N)
    (hg : ∀ i, i < cnt → Sh et (g i) ∧ R c (g i) (gg i)) :
    o * et.size + ((List.range cnt).flatMap gg).length ≤ xs.length ∧ R c (.agg true N (spliceA et f o cnt g)) (xs.take (o * et.size) ++ (List.range cnt).flatMap gg ++ xs.drop (o * et.size + ((List.range cnt).flatMap gg).length)) ∧ Sh (.agg true N fun _ => et) (.agg true N (spliceA et f o cnt g)) := by
  have hxl := R_len hr hs
  rw [size_agg, sumN_el] at hxl
  obtain ⟨hh, hhh, rfl⟩ := hr
  have hs' : ∀ i, i < N → Sh et (f i) := hs.2.2
  have hgl : ∀ i, i < cnt → (gg i).length = et.size := fun i hi => R_len (hg i hi).2 (hg i hi).1
  have heq := spliceA_eq (τ := et) (f := f) (g := g) (N := N) (o := o) (cnt := cnt) hs' (fun j hj => (hg j hj).1)
  refine ⟨?_, ⟨fun j => if o ≤ j ∧ j < o + cnt then gg (j - o) else hh j, fun i hi => ?_, (fm_splice (fun i hi => R_len (hhh i hi) (hs' i hi)) hgl hN).symm⟩, rfl, rfl, fun i hi => ?_⟩
  · rw [fm_len_const hgl, hxl, ← Nat.add_mul]; exact Nat.mul_le_mul_right _ hN
  · rw [heq i hi]
    by_cases h : o ≤ i ∧ i < o + cnt
    · simp only [h, and_self, if_true]; exact (hg (i - o) (by omega)).2
    · simp only [h, if_false]; exact hhh i hi
  · rw [heq i hi]
    by_cases h : o ≤ i ∧ i < o + cnt
    · simp only [h, and_self, if_true]; exact (hg (i - o) (by omega)).1
    · simp only [h, if_false]; exact hs' i hi
/-- A row's content is told in another way. -/
theorem step_same {c : Cx} (hm : MemOK c) {k e n : Nat} {f f' : Nat → AV} (hck : c.m k = some (.grow e n f)) (hf : ∀ i, i < n → f i = f' i) : Step c [(k, .grow e n f')] (c.setRow k (.grow e n f') c.w) := by
  have hst : Stab c (c.setRow k (.grow e n f') c.w) := by
    refine ⟨rfl, Nat.le_refl _, rfl, fun k' τ a hk => ?_, fun k' e' n' q hk => ?_, fun b' hb hm => ⟨hm, same_old rfl⟩, Nat.le_refl _⟩
    · by_cases h : k' = k
      · subst h; rw [hck] at hk; cases hk
      · exact ⟨⟨a, (putM_ne _ _ h).trans hk⟩, rfl⟩
    · by_cases h : k' = k
      · subst h
        rw [hck] at hk; injection hk with hk; injection hk with e1 e2 e3; subst e1; subst e2
        exact ⟨n, f', putM_same _ _ _, Nat.le_refl _, fun _ => ⟨rfl, rfl⟩⟩
      · exact ⟨n', q, (putM_ne _ _ h).trans hk, Nat.le_refl _, fun _ => ⟨rfl, rfl⟩⟩
  have hold : ∀ {k' : Nat} {r' : Row}, (c.setRow k (.grow e n f') c.w).m k' = some r' → ∃ r'', c.m k' = some r'' := fun {k' r'} h => by
    by_cases e : k' = k
    · subst e; exact ⟨_, hck⟩
    · have h' : putM c.m k _ k' = some r' := h
      rw [putM_ne _ _ e] at h'; exact ⟨_, h'⟩
  refine ⟨hst, ⟨fun k' r' hk => ?_, fun k1 k2 r1 r2 b' h1 h2 h3 h4 => ?_, fun k' r' b' h1 h2 => ?_, hm.bf⟩, rfl, rfl, rfl, Below.refl _ _⟩
  · by_cases h : k' = k
    · subst h
      have hk' : putM c.m k' _ k' = some r' := hk
      rw [putM_same] at hk'; injection hk' with hk'; subst hk'
      obtain ⟨xs, hr, hs, hown, hbl⟩ := grow_R (hm.rows k' _ hck)
      exact R_grow (R_stab hst (R_agg_congr hf hr)) (Sh_agg_congr hf hs) hown hbl
    · have hk' : putM c.m k _ k' = some r' := hk
      rw [putM_ne _ _ h] at hk'
      exact RowOK_stab hst rfl rfl rfl (fun _ _ => rfl) (hm.rows k' r' hk')
  · obtain ⟨q1, hq1⟩ := hold h1
    obtain ⟨q2, hq2⟩ := hold h2
    exact hm.inj k1 k2 q1 q2 b' hq1 hq2 h3 h4
  · obtain ⟨q1, hq1⟩ := hold h1
    exact hm.mu k' q1 b' hq1 h2
theorem copy_grow {e : TypeId} (hu : P.underlying t = some (.slice e)) (he : TyOK P E.ty e) {t2 tt : TypeId} {c : Cx} (hct : c.ty = E.ty) (hm : MemOK c) {k n' ofs l n q q2 : Nat} {f g : Nat → AV} {A B : Option Addr} (hck : c.m k = some (.grow e n' f)) (hol : ofs + l ≤ n')
    (hB : 0 < l → ∃ b, c.bl k = some b ∧ B = some ⟨b, ofs * (E.ty e).size, none⟩)
    (hA : 0 < n → ∃ (b o : Nat) (gg : Nat → List Value), A = some ⟨b, o, none⟩ ∧ b < c.w.heap.size ∧ ∀ i, i < n → Sh (E.ty e) (g i) ∧ R c (g i) (gg i) ∧ c.w.rangeAt b (o + i * (E.ty e).size) (gg i)) :
    ∃ w', (Builtin.copy_ #[t, t2] tt #[.slice B l q2, .slice A n q]).run P c.w = .ok (.int .i64 ((min n l : Nat) : Int)) w' ∧ Step c [(k, .grow e n' (spliceA (E.ty e) f ofs (min n l) g))] (c.setRow k (.grow e n' (spliceA (E.ty e) f ofs (min n l) g)) w') := by
  obtain ⟨_, _, hs0, _, _⟩ := grow_R (hm.rows k _ hck)
  rw [hct] at hs0
  by_cases hmin : min n l = 0
  · rw [hmin]
    refine ⟨c.w, run_copy0 hu he hmin, step_same hm hck fun i hi => ?_⟩
    rw [spliceA_eq (N := n') (fun j hj => hs0.2.2 j hj) (fun j hj => by omega) i hi, if_neg (by omega)]
  · have hn0 : 0 < n' := by omega
    have hn1 : ofs + min n l ≤ n' := by omega
    have hn2 : min n l ≤ n := by omega
    obtain ⟨sb, so, gg, rfl, hsbl, hgg⟩ := hA (by omega)
    obtain ⟨b, hbl, rfl⟩ := hB (by omega)
    obtain ⟨c1, c2, c3, c4⟩ := seen_cells (cnt := min n l) hgg hn2
    obtain ⟨cur, hheap, hfit, hstep⟩ := grow_set (f' := spliceA (E.ty e) f ofs (min n l) g) (O := ofs * (E.ty e).size) (D := (List.range (min n l)).flatMap gg) hm hck hbl hn0 (fun xs hr hs => by
      rw [hct] at hs ⊢
      exact splice_R (o := ofs) (cnt := min n l) hr hs hn1 (fun i hi => ⟨(hgg i (Nat.lt_of_lt_of_le hi hn2)).1, (hgg i (Nat.lt_of_lt_of_le hi hn2)).2.1⟩))
    exact ⟨_, run_copy1 hu he c1 hheap hfit c2 c3, hstep⟩
theorem exec_copy {y z : Operand} {t s' : TypeId} (ho : o.op = .call ⟨.builtin .copy, #[y, z], #[t, s']⟩) (ρ : Operand → Value) : execOp ρ o = (do pure (Next.value (← Builtin.copy_ #[t, s'] o.type #[ρ y, ρ z]))) := by
  obtain ⟨cs, hex⟩ := exec_builtin (ags := [y, z]) (ρ := ρ) ho
  rw [hex]; rfl
theorem val_wp {s : Sem Value} {c : Cx} {act : Act} {K : Act → World → Prop} {Q : Exit → Act → World → Prop} {w' : World} {v : Value} (hex : execOp act.eval o = (do pure (Next.value (← s)))) (hs : s.run P c.w = .ok v w') (h : K (act.put o.dst v) w') : o.wp P act c.w K Q := by
  unfold Oper.wp
  rw [hex]
  simp only [Sem.run_bind, hs, Result.andThen_ok, Sem.run_pure]
  exact h
theorem len_slice {a : AV} {F : Nat → Prop} (h : lenOf a F) : ∃ n, F n ∧ ∀ (c : Cx) (v : Value), RV c a v → ∃ A q, v = .slice A n q ∧ n ≤ q := by
  cases a <;> simp only [lenOf] at h <;> try exact h.elim
  case nils => exact ⟨0, h, fun c v hv => ⟨none, 0, by simpa [RV, R] using hv, Nat.le_refl _⟩⟩
  case imm => exact ⟨_, h, fun c v hv => by obtain ⟨A, q, e, h1, _⟩ := rv_imm hv; exact ⟨A, q, e, h1⟩⟩
  case gsl => exact ⟨_, h, fun c v hv => by obtain ⟨_, _, A, q, _, _, e, h1, _⟩ := rv_gsl hv; exact ⟨A, q, e, h1⟩⟩
  case gsub => exact ⟨_, h, fun c v hv => by obtain ⟨_, _, A, q, _, _, e, h1, _⟩ := rv_gsub hv; exact ⟨A, q, e, h1⟩⟩
  case sub => exact ⟨_, h, fun c v hv => by obtain ⟨_, _, _, _, _, A, q, _, _, _, _, _, _, e, h1, _⟩ := rv_sub hv; exact ⟨A, q, e, h1⟩⟩
theorem s_copy (hT : TysOK P E.ty) {c : Call} (ho : o.op = .call c) (hc : c.callee = .builtin .copy) (h : sem E m key x (.call c) K) : ∃ r, K r ∧ Valid P E.ty o x key m r := by
  simp only [sem, semG, hc] at h
  split at h
  · rename_i y z t s' hy ht
    have hcall := call_of hc hy
    have ht' : c.argTypes = #[t, s'] := by rw [← Array.toArray_toList (xs := c.argTypes), ht]
    rw [ht'] at hcall
    rw [hcall] at ho
    have hex := exec_copy ho
    split at h
    · rename_i e e' hty hty2
      obtain ⟨rfl, h⟩ := h
      obtain ⟨hu, he, h0⟩ := (hT t (by rw [hty]; simp)).sl_of hty
      unfold semCopy at h
      split at h
      · rename_i hz
        obtain ⟨n, h, hv⟩ := len_slice h
        refine ⟨_, h, fun c act K Q hct hm hb hrd hf hx hK => ?_⟩
        obtain ⟨A, q, ey, _⟩ := hv c _ (hx y)
        have ez : act.eval z = .slice none 0 0 := by have := hx z; rw [hz] at this; simpa [RV, R] using this
        refine val_wp (hex _) (by rw [ey, ez]; exact run_copy0 hu he (by simp)) (hK c _ (Step.refl hm) rfl)
      · rename_i a hz
        obtain ⟨et, n, g, rd, ⟨rfl, h⟩, hseen⟩ := elems_all h
        split at h
        · rename_i hd
          refine ⟨_, h, fun c act K Q hct hm hb hrd hf hx hK => ?_⟩
          obtain ⟨A, q, ez, _⟩ := hseen c _ hct hm hrd (hx z)
          have ey : act.eval y = .slice none 0 0 := by have := hx y; rw [hd] at this; simpa [RV, R] using this
          refine val_wp (hex _) (by rw [ey, ez]; exact run_copy0 hu he (by simp)) (hK c _ (Step.refl hm) rfl)
        · rename_i et' k p ofs l hd
          split at h
          · rename_i τ a hmk
            obtain ⟨rfl, h⟩ := h
            refine ⟨_, h, fun c act K Q hct hm hb hrd hf hx hK => ?_⟩
            have hck := (hrd k (by simp)).trans hmk
            obtain ⟨A, q, ez, hnq, hqm, hA⟩ := hseen c _ hct hm (fun k hk => hrd k (by simp [hk])) (hx z)
            have h1 := hx y
            rw [hd] at h1
            obtain ⟨τ', a', b, N, ge, B, q2, hm1, hbl, hp, hat, hg0, hol, ey, hlq, hqm2, hB⟩ := rv_sub h1
            rw [hck] at hm1; injection hm1 with hm1; injection hm1 with e1 e2
            subst e1; subst e2
            obtain ⟨b', cs, t', hbl', hheap, hr, hs⟩ := hm.rows k _ hck
            rw [hbl] at hbl'; injection hbl' with hbl'; subst hbl'
            obtain ⟨hs2, pre, post, ds, hcut, hpl, hr2⟩ := R_at p hr hs hp
            have hlenp : (τ.at p).len = N := by rw [hat]; rfl
            -- the array as a value
            have hagg : ∃ F, a.at p = .agg true N F := by
              rw [hat] at hs2
              cases hap : a.at p with
              | agg u l f => rw [hap] at hs2; obtain ⟨rfl, rfl, _⟩ := hs2; exact ⟨f, rfl⟩
              | _ => rw [hap] at hs2; exact hs2.elim
            obtain ⟨F, hF⟩ := hagg
            have hFi : (fun i => a.at (p ++ [i])) = F := funext fun i => by rw [avat_app, hF]; exact avat_nil _
            rw [hF] at hr2
            rw [hF, hat] at hs2
            have hs3 : Sh (.agg true N fun _ => E.ty e) (.agg true N F) := ⟨rfl, rfl, fun i hi => by rw [← hg0]; exact hs2.2.2 i hi⟩
            have hss : ∀ f, Sh (.agg true N fun _ => E.ty e) (.agg true N f) → Sh (τ.at p) (.agg true N f) := fun f h => by rw [hat]; exact ⟨rfl, rfl, fun i hi => by have := h.2.2 i hi; rw [← hg0] at this; exact this⟩
            by_cases hmin : min n l = 0
            · -- nothing is copied
              rw [hlenp, hFi, hmin] at hK
              obtain ⟨_, hrs, hshs⟩ := splice_R (o := ofs) (cnt := 0) (g := g) (gg := fun _ => []) hr2 hs3 (by omega) (fun i hi => by omega)
              obtain ⟨hsu, hru⟩ := R_upd p hr hs hp hrs (hss _ hshs)
              have hsame : List.take (τ.off p) cs.toList ++ (ds.take (ofs * (E.ty e).size) ++ (List.range 0).flatMap (fun _ => []) ++ ds.drop (ofs * (E.ty e).size + ((List.range 0).flatMap (fun _ => ([] : List Value))).length)) ++ List.drop (τ.off p + (ds.take (ofs * (E.ty e).size) ++ (List.range 0).flatMap (fun _ => []) ++ ds.drop (ofs * (E.ty e).size + ((List.range 0).flatMap (fun _ => ([] : List Value))).length)).length) cs.toList = cs.toList := by
                rw [← hpl, hcut]; simp
              rw [hsame] at hru
              have hrow : RowOK c k (.var τ (a.upd p (.agg true N (spliceA (E.ty e) F ofs 0 g)))) := ⟨b, cs, t', hbl, hheap, hru, hsu⟩
              have hstab := stab_set (c := c) (key := k) (r := .var τ (a.upd p (.agg true N (spliceA (E.ty e) F ofs 0 g)))) (b := b) (w := c.w) hck (.inl ⟨_, _, _, rfl, rfl⟩) (hm.mu k _ b hck hbl).1 (Nat.le_refl _) (fun b' _ _ => rfl)
              refine val_wp (hex _) (by rw [ey, ez]; exact run_copy0 hu he hmin) (hK (c.setRow k _ c.w) _ (step_set hm hck (.inl ⟨_, _, _, rfl, rfl⟩) hbl (Below.refl _ _) (fun b' _ _ => rfl) ?_) rfl)
              exact ⟨b, cs, t', hbl, hheap, R_stab hstab hru, hsu⟩
            · obtain ⟨sb, so, gg, rfl, hsbl, hgg⟩ := hA (by omega)
              have hB := hB (by omega)
              subst hB
              obtain ⟨c1, c2, c3, c4⟩ := seen_cells (cnt := min n l) hgg (by omega)
              obtain ⟨hfit, hrs, hshs⟩ := splice_R (o := ofs) (cnt := min n l) (g := g) (gg := gg) hr2 hs3 (by omega) (fun i hi => ⟨(hgg i (by omega)).1, (hgg i (by omega)).2.1⟩)
              obtain ⟨hsu, hru⟩ := R_upd p hr hs hp hrs (hss _ hshs)
              have hdl := R_len hr2 hs2
              generalize hD : (List.range (min n l)).flatMap gg = D at *
              have hlist : List.take (τ.off p) cs.toList ++ (ds.take (ofs * (E.ty e).size) ++ D ++ ds.drop (ofs * (E.ty e).size + D.length)) ++ List.drop (τ.off p + (ds.take (ofs * (E.ty e).size) ++ D ++ ds.drop (ofs * (E.ty e).size + D.length)).length) cs.toList = cs.toList.take (τ.off p + ofs * (E.ty e).size) ++ D ++ cs.toList.drop (τ.off p + ofs * (E.ty e).size + D.length) := by
                have hsl : (ds.take (ofs * (E.ty e).size) ++ D ++ ds.drop (ofs * (E.ty e).size + D.length)).length = ds.length := by simp; omega
                rw [hsl, ← hpl, hcut]
                have := splice_mid pre ds post D (ofs * (E.ty e).size) hfit
                rw [← this]
              rw [hlist] at hru
              have hfit2 : τ.off p + ofs * (E.ty e).size + D.length ≤ cs.size := by
                have hl : cs.toList.length = cs.size := by simp
                rw [hcut] at hl; simp at hl; omega
              have hrun := run_copy1 (P := P) hu he (t2 := s') (tt := o.type) (dl := l) (dc := q2) (sl := n) (sc := q) c1 hheap hfit2 c2 c3
              generalize cs.toList.take (τ.off p + ofs * (E.ty e).size) ++ D ++ cs.toList.drop (τ.off p + ofs * (E.ty e).size + D.length) = L at *
              obtain ⟨w', hw'⟩ : ∃ w', w' = c.w.setRow b L.toArray := ⟨_, rfl⟩
              rw [← hw'] at hrun
              rw [hlenp, hFi] at hK
              have hbase := (hm.mu k _ b hck hbl).2.1
              have hstab := stab_set (c := c) (key := k) (r := .var τ (a.upd p (.agg true N (spliceA (E.ty e) F ofs (min n l) g)))) (b := b) (w := w') hck (.inl ⟨_, _, _, rfl, rfl⟩) (hm.mu k _ b hck hbl).1 (by rw [hw']; simp) (fun b' _ hne => by rw [hw']; exact setRow_other c.w b b' _ hne)
              refine val_wp (hex _) (by rw [ey, ez]; exact hrun) (hK (c.setRow k _ w') _ (step_set hm hck (.inl ⟨_, _, _, rfl, rfl⟩) hbl (by rw [hw']; exact setRow_low hbase) (fun b' _ hne => by rw [hw']; exact setRow_other c.w b b' _ hne) ?_) rfl)
              exact ⟨b, L.toArray, t', hbl, by rw [← setRow_heap c.w b cs L.toArray t' (0, 0) hheap, ← hw']; rfl, R_stab hstab hru, hsu⟩
          · exact h.elim
        · rename_i e' k l hd
          split at h
          · rename_i e2 l' f hmk
            obtain ⟨rfl, rfl, h⟩ := h
            refine ⟨_, h, fun c act K Q hct hm hb hrd hf hx hK => ?_⟩
            have hck := (hrd k (by simp)).trans hmk
            obtain ⟨A, q, ez, hnq, hqm, hA⟩ := hseen c _ hct hm (fun k hk => hrd k (by simp [hk])) (hx z)
            have h1 := hx y
            rw [hd] at h1
            obtain ⟨n', f', B, q2, hm1, hl, ey, hq1, hq2, hBs, hcur⟩ := rv_gsl h1
            rw [hck] at hm1; injection hm1 with hm1; injection hm1 with e1 e2 e3
            subst e1; subst e2; subst e3
            obtain ⟨w', hrun, hstep⟩ := copy_grow hu he (t2 := s') (tt := o.type) hct hm (ofs := 0) (l := l') (q2 := q2) (q := q) (B := B) hck (by omega) (fun hl0 => by
              obtain ⟨b, cap, cur, hbl, hsv, _⟩ := grow_parts (hm.rows k _ hck) hl0
              rw [hcur rfl] at hsv; injection hsv with e1 _ _
              exact ⟨b, hbl, by rw [e1, Nat.zero_mul]⟩) hA
            exact val_wp (hex _) (by rw [ey, ez]; exact hrun) (hK _ _ hstep rfl)
          · exact h.elim
        · rename_i e' k al ofs l hd
          split at h
          · rename_i e2 l' f hmk
            obtain ⟨rfl, rfl, h⟩ := h
            refine ⟨_, h, fun c act K Q hct hm hb hrd hf hx hK => ?_⟩
            have hck := (hrd k (by simp)).trans hmk
            obtain ⟨A, q, ez, hnq, hqm, hA⟩ := hseen c _ hct hm (fun k hk => hrd k (by simp [hk])) (hx z)
            have h1 := hx y
            rw [hd] at h1
            obtain ⟨n', f', B, q2, hm1, hl, ey, hq1, hq2, hol, hBs⟩ := rv_gsub h1
            rw [hck] at hm1; injection hm1 with hm1; injection hm1 with e1 e2 e3
            subst e1; subst e2; subst e3
            obtain ⟨w', hrun, hstep⟩ := copy_grow hu he (t2 := s') (tt := o.type) hct hm (ofs := ofs) (l := l) (q2 := q2) (q := q) (B := B) hck (by omega) (fun hl0 => by
              obtain ⟨ad, rfl, hcur⟩ := hBs hl0
              obtain ⟨b, hbl, rfl⟩ := hcur rfl
              rw [hct]
              exact ⟨b, hbl, rfl⟩) hA
            exact val_wp (hex _) (by rw [ey, ez]; exact hrun) (hK _ _ hstep rfl)
          · exact h.elim
        · exact h.elim
    · exact h.elim
  · exact h.elim
end
end Go.Proofs.YtdbiidfgbkmbmaaDoor
