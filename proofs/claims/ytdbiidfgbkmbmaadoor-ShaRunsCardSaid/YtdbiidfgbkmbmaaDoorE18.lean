/- The builtin append. -/
import Derived.Test.YtdbiidfgbkmbmaaDoorE17
namespace Go.Proofs.YtdbiidfgbkmbmaaDoor
open Go.RowKit
def Cx.growRow (c : Cx) (k : Nat) (r : Row) (v : Value) (w : World) : Cx :=
  { c with Mu := fun b => c.Mu b ∨ c.w.heap.size ≤ b, m := putM c.m k r, bl := updN c.bl k v.ownBlock, sv := updN c.sv k v, w := w }
theorem stab_grow {c : Cx} (hm : MemOK c) {k e n n' : Nat} {f f' : Nat → AV} {v : Value} {w : World} (hck : c.m k = some (.grow e n f)) (hn : n ≤ n') (hv : n' = n → v = c.sv k) (hg : c.w.grownBy w (c.sv k).ownBlock) : Stab c (c.growRow k (.grow e n' f') v w) := by
  obtain ⟨xs, hr, hs, hown, hbl⟩ := grow_R (hm.rows k _ hck)
  refine ⟨rfl, Nat.le_refl _, rfl, fun k' τ a hk => ?_, fun k' e1 n1 f1 hk => ?_, fun b hb hmu => ⟨fun hq => ?_, same_old (hg.block b hb (fun hq => hmu ?_))⟩, hg.size⟩
  · have hne : k' ≠ k := fun e => by rw [e, hck] at hk; cases hk
    exact ⟨⟨a, (putM_ne _ _ hne).trans hk⟩, if_neg hne⟩
  · by_cases h : k' = k
    · subst h
      rw [hck] at hk; injection hk with hk; injection hk with e1 e2 e3; subst e1; subst e2; subst e3
      refine ⟨n', f', putM_same _ _ _, hn, fun e => ⟨(if_pos rfl).trans (hv e), (if_pos rfl).trans ?_⟩⟩
      rw [hv e, hbl]
    · exact ⟨n1, f1, (putM_ne _ _ h).trans hk, Nat.le_refl _, fun _ => ⟨if_neg h, if_neg h⟩⟩
  · rcases hq with hq | hq
    · exact hmu hq
    · omega
  · exact (hm.mu k _ b hck (by rw [← hbl, ← hq])).1
theorem step_grow {c : Cx} (hm : MemOK c) (hb : c.fb ≤ c.w.heap.size) {k e n n' : Nat} {f f' : Nat → AV} {v : Value} {w : World} (hck : c.m k = some (.grow e n f)) (hn : n ≤ n') (hv : n' = n → v = c.sv k) (hg : c.w.grownBy w (c.sv k).ownBlock)
    (hblk : v.ownBlock = c.bl k ∨ ∀ b, v.ownBlock = some b → c.w.heap.size ≤ b) (hrow : RowOK (c.growRow k (.grow e n' f') v w) k (.grow e n' f')) : Step c [(k, .grow e n' f')] (c.growRow k (.grow e n' f') v w) := by
  have hst := stab_grow (f' := f') hm hck hn hv hg
  obtain ⟨xs, hr, hs, hown, hbl⟩ := grow_R (hm.rows k _ hck)
  have hold : ∀ {k' : Nat} {r' : Row}, k' ≠ k → (c.growRow k (.grow e n' f') v w).m k' = some r' → c.m k' = some r' := fun {k' r'} hk h => by
    have h' : putM c.m k _ k' = some r' := h
    rw [putM_ne _ _ hk] at h'; exact h'
  have hbo : ∀ {k' b' : Nat}, k' ≠ k → (c.growRow k (.grow e n' f') v w).bl k' = some b' → c.bl k' = some b' := fun {k' b'} hk h => by
    have h' : updN c.bl k _ k' = some b' := h
    rw [show updN c.bl k v.ownBlock k' = c.bl k' from if_neg hk] at h'; exact h'
  have hbk : (c.growRow k (.grow e n' f') v w).bl k = v.ownBlock := if_pos rfl
  have hself : ∀ {b : Nat}, v.ownBlock = some b → (c.bl k = some b) ∨ c.w.heap.size ≤ b := fun {b} h => by
    rcases hblk with h1 | h1
    · exact .inl (h1 ▸ h)
    · exact .inr (h1 b h)
  refine ⟨hst, ⟨fun k' r' hk => ?_, fun k1 k2 r1 r2 b' h1 h2 h3 h4 => ?_, fun k' r' b' h1 h2 => ?_, hm.bf⟩, rfl, rfl, rfl, ?_⟩
  · by_cases h : k' = k
    · subst h
      have hk' : putM c.m k' _ k' = some r' := hk
      rw [putM_same] at hk'; injection hk' with hk'; subst hk'; exact hrow
    · have hk' := hold h hk
      refine RowOK_stab hst (if_neg h) (if_neg h) rfl (fun b' hb' => hg.block b' (row_lt (hm.rows k' r' hk') hb') (fun e => h ?_)) (hm.rows k' r' hk')
      exact hm.inj k' k r' _ b' hk' hck hb' (by rw [← hbl, ← e])
  · by_cases e1 : k1 = k
    · by_cases e2 : k2 = k
      · rw [e1, e2]
      · subst e1
        have q2 := hbo e2 h4
        have hm2 := hold e2 h2
        rw [hbk] at h3
        rcases hself h3 with hq | hq
        · exact (hm.inj k1 k2 _ r2 b' hck hm2 hq q2)
        · have := row_lt (hm.rows k2 r2 hm2) q2; omega
    · by_cases e2 : k2 = k
      · subst e2
        have q1 := hbo e1 h3
        have hm1 := hold e1 h1
        rw [hbk] at h4
        rcases hself h4 with hq | hq
        · exact (hm.inj k1 k2 r1 _ b' hm1 hck q1 hq)
        · have := row_lt (hm.rows k1 r1 hm1) q1; omega
      · exact hm.inj k1 k2 r1 r2 b' (hold e1 h1) (hold e2 h2) (hbo e1 h3) (hbo e2 h4)
  · by_cases e1 : k' = k
    · subst e1
      rw [hbk] at h2
      rcases hself h2 with hq | hq
      · have := hm.mu k' _ b' hck hq; exact ⟨.inl this.1, this.2⟩
      · exact ⟨.inr hq, by show c.base ≤ b'; have := hm.bf; omega, fun _ => by show c.fb ≤ b'; omega⟩
    · have := hm.mu k' r' b' (hold e1 h1) (hbo e1 h2); exact ⟨.inl this.1, this.2⟩
  · refine (Below.refl c.base c.w).grown hg (Nat.le_trans hm.bf hb) (fun b hq => (hm.mu k _ b hck (by rw [← hbl]; exact hq)).2.1)
section
variable {P : Program} {E : Pg} {o : Oper} {x : Operand → AV} {key : Nat} {m : Nat → Option Row} {K : Res → Prop} {t : TypeId}
theorem exec_append {y z : Operand} {t : TypeId} (ho : o.op = .call ⟨.builtin .append, #[y, z], #[t, t]⟩) (ρ : Operand → Value) : execOp ρ o = (do pure (Next.value (← Builtin.append_ #[t, t] o.type #[ρ y, ρ z]))) := by
  obtain ⟨cs, hex⟩ := exec_builtin (ags := [y, z]) (ρ := ρ) ho
  rw [hex]; rfl
/-- Append, whatever it is behind. -/
theorem run_app {e : TypeId} (hu : P.underlying t = some (.slice e)) (he : TyOK P E.ty e) (h0 : 0 < (E.ty e).size) {tt : TypeId} {w : World} {base : Nat} {v : Value} {l n q : Nat} {xs : List Value} {A : Option Addr} {D : List Value} (hown : w.ownsRow base e (E.ty e).size v l xs) (hb : base ≤ w.heap.size)
    (hl : D.length = n * (E.ty e).size) (hA : 0 < n → ∃ b o, A = some ⟨b, o, none⟩ ∧ w.rangeAt b o D) (h1 : ∀ u ∈ D, u.oneCell' = true) (hbnd : l + n ≤ 1000000000) :
    ∃ v' w', (Builtin.append_ #[t, t] tt #[v, .slice A n q]).run P w = .ok v' w' ∧ w'.ownsRow base e (E.ty e).size v' (l + n) (xs ++ D) ∧ w.grownBy w' v.ownBlock ∧ (n = 0 → v' = v) ∧ (v'.ownBlock = v.ownBlock ∨ ∀ b, v'.ownBlock = some b → w.heap.size ≤ b) := by
  obtain ⟨zv, ⟨i, hi, hz, hsz, hby⟩, hzc, _⟩ := he.inf
  have hzs : zv.cells.size = (E.ty e).size := by
    have := R_len (zero_ok (c := Cx.nil) he).1 (zero_ok (c := Cx.nil) he).2
    rw [← hzc] at this; simpa using this
  have hml : l + n ≤ maxLen := by unfold maxLen; omega
  have hbytes : (l + n) * i.bytes ≤ 140737488355328 := by
    have : (l + n) * i.bytes ≤ 1000000000 * 10000 := Nat.mul_le_mul hbnd hby
    omega
  by_cases hn : n = 0
  · subst hn
    have hD : D = [] := List.eq_nil_of_length_eq_zero (by simpa using hl)
    subst hD
    refine ⟨v, w, ?_, by simpa using hown, World.grownBy.refl w _, fun _ => rfl, .inl rfl⟩
    obtain ⟨_, ⟨rfl, rfl⟩ | ⟨g, cap, cur, rfl, _, hh, hlc, _⟩⟩ := hown
    · cases A <;> simp [Builtin.append_, run_underlying hu, sizeOf, typeInfo, hi, Builtin.lenOf, Builtin.firstCells, loadCells, loadCellsFrom, go_sem]
    · cases A <;> simp [Builtin.append_, run_underlying hu, sizeOf, typeInfo, hi, Builtin.lenOf, Builtin.firstCells, loadCells, loadCellsFrom, storeCells, hlc, go_sem]
  · obtain ⟨sb, so, rfl, hrg⟩ := hA (by omega)
    have hnews : ∀ j u, D[j]? = some u → w.cell? ((⟨sb, so, none⟩ : Addr).add j) = some u := fun j u hj => by rw [Addr.add_mid]; exact hrg j u hj
    obtain ⟨v', w', hr, hown', hg, hnil⟩ := run_append_own (P := P) w base t tt e i zv (E.ty e).size i.bytes hu hi hz hsz rfl hzs h0 v l xs hown ⟨sb, so, none⟩ n q D hl hnews h1 hml hbytes hb
    refine ⟨v', w', hr, hown', hg, fun h => absurd h hn, ?_⟩
    obtain ⟨hxl, ⟨rfl, rfl⟩ | ⟨g, cap, cur, rfl, hbg, hh, hlc, hcm, hcs, htk⟩⟩ := hown
    · right
      have hxs : xs = [] := List.eq_nil_of_length_eq_zero (by simpa using hxl)
      subst hxs
      obtain ⟨v2, w2, hr2, hown2, _, _⟩ := run_append_own (P := P) w w.heap.size t tt e i zv (E.ty e).size i.bytes hu hi hz hsz rfl hzs h0 _ 0 [] (World.ownsRow_nil _ _ _ _) ⟨sb, so, none⟩ n q D hl hnews h1 hml hbytes (Nat.le_refl _)
      rw [hr] at hr2; injection hr2 with e1 e2; subst e1
      intro b hq
      exact (hown2.lt b hq).1
    · by_cases hroom : l + n ≤ cap
      · left
        have hfit : l * i.size + D.length ≤ cur.size := by rw [hl, hcs, hsz, ← Nat.add_mul]; exact Nat.mul_le_mul_right _ hroom
        have hr2 := run_append_room (P := P) w t tt e i hu hi g l cap cur hh ⟨sb, so, none⟩ n q D (by rw [hsz]; exact hl) hnews h1 hroom hfit
        rw [hr] at hr2; injection hr2 with e1 e2; subst e1; rfl
      · right
        have holds : ∀ j u, xs[j]? = some u → w.cell? ((⟨g, 0, none⟩ : Addr).add j) = some u := (show w.ownsRow base e (E.ty e).size (.slice (some ⟨g, 0, none⟩) l cap) l xs from ⟨hxl, .inr ⟨g, cap, cur, rfl, hbg, hh, hlc, hcm, hcs, htk⟩⟩).cells (g := g) rfl
        have hr2 := run_append_grow (P := P) w t tt e i zv hu hi hz ⟨g, 0, none⟩ l cap xs (by rw [hsz]; exact hxl) holds ⟨sb, so, none⟩ n q D (by rw [hsz]; exact hl) hnews (by omega) (by omega) (growslice_fits (by omega) hbytes)
        rw [hr] at hr2; injection hr2 with e1 e2; subst e1
        intro b hq
        have : w.heap.size = b := by simpa [Value.ownBlock] using hq
        omega
theorem seen_app {c : Cx} {et : Ty} {n : Nat} {g : Nat → AV} {A : Option Addr} (hA : 0 < n → ∃ (b o : Nat) (gg : Nat → List Value), A = some ⟨b, o, none⟩ ∧ b < c.w.heap.size ∧ ∀ i, i < n → Sh et (g i) ∧ R c (g i) (gg i) ∧ c.w.rangeAt b (o + i * et.size) (gg i)) :
    ∃ gg : Nat → List Value, ((List.range n).flatMap gg).length = n * et.size ∧ (∀ i, i < n → Sh et (g i) ∧ R c (g i) (gg i)) ∧ (0 < n → ∃ b o, A = some ⟨b, o, none⟩ ∧ c.w.rangeAt b o ((List.range n).flatMap gg)) ∧ ∀ u ∈ (List.range n).flatMap gg, u.oneCell' = true := by
  by_cases hn : n = 0
  · subst hn
    exact ⟨fun _ => [], by simp, fun i hi => by omega, fun h => by omega, by simp⟩
  · obtain ⟨b, o, gg, e, _, h⟩ := hA (by omega)
    obtain ⟨c1, c2, c3, c4⟩ := seen_cells (cnt := n) h (Nat.le_refl _)
    exact ⟨gg, c1, fun i hi => ⟨(h i hi).1, (h i hi).2.1⟩, fun _ => ⟨b, o, e, c2⟩, c3⟩
theorem s_append (hT : TysOK P E.ty) {c : Call} (ho : o.op = .call c) (hc : c.callee = .builtin .append) (h : sem E m key x (.call c) K) : ∃ r, K r ∧ Valid P E.ty o x key m r := by
  simp only [sem, semG, hc] at h
  split at h
  · rename_i y z t t' hy ht
    have hcall := call_of hc hy
    have ht' : c.argTypes = #[t, t'] := by rw [← Array.toArray_toList (xs := c.argTypes), ht]
    rw [ht'] at hcall
    rw [hcall] at ho
    split at h
    · rename_i e hty
      obtain ⟨rfl, h⟩ := h
      have hex := exec_append ho
      obtain ⟨hu, he, h0⟩ := (hT t (by rw [hty]; simp)).sl_of hty
      unfold semAppend at h
      split at h
      · rename_i hz
        obtain ⟨n, ⟨hbn, h⟩, hv⟩ := len_slice h
        refine ⟨_, h, fun c act K Q hct hm hb hrd hf hx hK => ?_⟩
        obtain ⟨A, q, ey, hnq⟩ := hv c _ (hx y)
        obtain ⟨zv, ⟨i, hi, _⟩, _⟩ := he.inf
        have ez : act.eval z = .slice none 0 0 := by have := hx z; rw [hz] at this; simpa [RV, R] using this
        refine val_wp (v := act.eval y) (hex _) ?_ (hK c _ (Step.refl hm) (hx y))
        rw [ey, ez]
        cases A <;> simp [Builtin.append_, run_underlying hu, sizeOf, typeInfo, hi, Builtin.lenOf, Builtin.firstCells, storeCells, hnq]
      · rename_i a hz
        obtain ⟨et, n, g, rd, ⟨rfl, h⟩, hseen⟩ := elems_all h
        split at h
        · rename_i hd
          obtain ⟨hbn, h⟩ := h
          unfold bnd at hbn
          refine ⟨_, h, fun c act K Q hct hm hb hrd hf hx hK => ?_⟩
          obtain ⟨A, q, ez, hnq, hqm, hA⟩ := hseen c _ hct hm hrd (hx z)
          have ey : act.eval y = .slice none 0 0 := by have := hx y; rw [hd] at this; simpa [RV, R] using this
          obtain ⟨gg, d1, d2, d3, d4⟩ := seen_app hA
          obtain ⟨v', w', hrun, hown', hg, hv0, hblk⟩ := run_app (tt := o.type) (q := q) hu he h0 (World.ownsRow_nil c.w c.w.heap.size e _) (Nat.le_refl _) d1 d3 d4 (by omega)
          rw [Nat.zero_add, List.nil_append] at hown'
          have hnone : Value.ownBlock (.slice none 0 0) = none := rfl
          have hlow : Below c.w.heap.size c.w w' := (Below.refl _ _).grown hg (Nat.le_refl _) (fun k hk => by rw [hnone] at hk; cases hk)
          have hbl : ∀ b, v'.ownBlock = some b → c.w.heap.size ≤ b := fun b hq => (hown'.lt b hq).1
          have hst := stab_add (c := c) (key := key) (r := .grow e n g) (bl := v'.ownBlock) (sv := v') (w := w') (hf key (Nat.le_refl _) (by omega)) hlow.size hlow.block
          have hsv : (c.addRow key (.grow e n g) v'.ownBlock v' w').sv key = v' := if_pos rfl
          have hblk : (c.addRow key (.grow e n g) v'.ownBlock v' w').bl key = v'.ownBlock := if_pos rfl
          have hown2 : w'.ownsRow c.base e (E.ty e).size v' n ((List.range n).flatMap gg) := by
            obtain ⟨a1, a2 | ⟨gb, cap, cur, r1, r2, r3⟩⟩ := hown'
            · exact ⟨a1, .inl a2⟩
            · exact ⟨a1, .inr ⟨gb, cap, cur, r1, by have := hm.bf; omega, r3⟩⟩
          refine val_wp (hex _) (by rw [ey, ez]; exact hrun) (hK _ _ (step_add hm hb (hf key (Nat.le_refl _) (by omega)) hlow hbl (R_grow (xs := (List.range n).flatMap gg) (R_stab hst ⟨gg, fun i hi => (d2 i hi).2, rfl⟩) ⟨rfl, rfl, fun i hi => by rw [show (c.addRow key (.grow e n g) v'.ownBlock v' w').ty = E.ty from hct]; exact (d2 i hi).1⟩ (by rw [hsv, show (c.addRow key (.grow e n g) v'.ownBlock v' w').ty = E.ty from hct]; exact hown2) (by rw [hsv, hblk]))) ?_)
          obtain ⟨_, ⟨a1, a2⟩ | ⟨gb, cap, cur, rfl, _, _, r3, r4, _⟩⟩ := hown2
          · subst a1
            exact ⟨n, g, none, 0, putM_same _ _ _, Nat.le_refl _, by rw [a2], by omega, Nat.zero_le _, fun h => by omega, fun _ => by rw [hsv, a2]⟩
          · exact ⟨n, g, _, cap, putM_same _ _ _, Nat.le_refl _, rfl, r3, r4, fun _ => ⟨_, rfl⟩, fun _ => hsv⟩
        · rename_i e' k l hd
          split at h
          · rename_i e2 l' f hmk
            obtain ⟨rfl, rfl, hbn, h⟩ := h
            unfold bnd at hbn
            refine ⟨_, h, fun c act K Q hct hm hb hrd hf hx hK => ?_⟩
            have hck := (hrd k (by simp)).trans hmk
            obtain ⟨A, q, ez, hnq, hqm, hA⟩ := hseen c _ hct hm (fun k hk => hrd k (by simp [hk])) (hx z)
            have h1 := hx y
            rw [hd] at h1
            obtain ⟨n', f', B, q2, hm1, hl, ey, hq1, hq2, hBs, hcur⟩ := rv_gsl h1
            rw [hck] at hm1; injection hm1 with hm1; injection hm1 with e1 e2 e3
            subst e1; subst e2; subst e3
            obtain ⟨xs, hr, hs, hown, hbl⟩ := grow_R (hm.rows k _ hck)
            rw [hct] at hs hown
            have hsv := hcur rfl
            rw [← ey] at hsv
            obtain ⟨gg, d1, d2, d3, d4⟩ := seen_app hA
            obtain ⟨v', w', hrun, hown', hg, hv0, hblk⟩ := run_app (tt := o.type) (q := q) hu he h0 hown (Nat.le_trans hm.bf hb) d1 d3 d4 hbn
            rw [hbl] at hblk
            rw [hsv] at hrun
            have hst := stab_grow (f' := joinA (E.ty e2) f l' g) (n' := l' + n) (v := v') (w := w') hm hck (by omega) (fun e => hv0 (by omega)) hg
            obtain ⟨hx1, hx2, rfl⟩ := hr
            have hj := joinA_eq (τ := E.ty e2) (f := f) (g := g) (l := l') (n := n) (fun j hj => hs.2.2 j hj) (fun j hj => (d2 j hj).1)
            have hR : R c (.agg true (l' + n) (joinA (E.ty e2) f l' g)) ((List.range l').flatMap hx1 ++ (List.range n).flatMap gg) := by
              refine ⟨fun i => if i < l' then hx1 i else gg (i - l'), fun i hi => ?_, ?_⟩
              · rw [hj i hi]
                by_cases hc : i < l'
                · simp only [hc, if_true]; exact hx2 i hc
                · simp only [hc, if_false]; exact (d2 (i - l') (by omega)).2
              · rw [fm_add]
                congr 1
                · exact fm_congr l' (fun i hi => (if_pos hi).symm)
                · exact fm_congr n (fun i hi => by rw [if_neg (by omega), Nat.add_sub_cancel_left])
            have hS : Sh (.agg true (l' + n) fun _ => E.ty e2) (.agg true (l' + n) (joinA (E.ty e2) f l' g)) := ⟨rfl, rfl, fun i hi => by
              rw [hj i hi]
              by_cases hc : i < l'
              · rw [if_pos hc]; exact hs.2.2 i hc
              · rw [if_neg hc]; exact (d2 (i - l') (by omega)).1⟩
            have hsv2 : (c.growRow k (.grow e2 (l' + n) (joinA (E.ty e2) f l' g)) v' w').sv k = v' := if_pos rfl
            have hbl2 : (c.growRow k (.grow e2 (l' + n) (joinA (E.ty e2) f l' g)) v' w').bl k = v'.ownBlock := if_pos rfl
            refine val_wp (hex _) (by rw [ez]; exact hrun) (hK _ _ (step_grow hm hb hck (by omega) (fun e => hv0 (by omega)) hg hblk (R_grow (R_stab hst hR) (by rw [show (c.growRow k _ v' w').ty = E.ty from hct]; exact hS) (by rw [hsv2, show (c.growRow k _ v' w').ty = E.ty from hct]; exact hown') (by rw [hsv2, hbl2]))) ?_)
            obtain ⟨_, ⟨a1, a2⟩ | ⟨gb, cap, cur, rfl, _, _, r3, r4, _⟩⟩ := hown'
            · subst a1
              exact ⟨l' + n, _, none, 0, putM_same _ _ _, Nat.le_refl _, by rw [a2], by omega, Nat.zero_le _, fun h => by omega, fun _ => by rw [hsv2, a2]⟩
            · exact ⟨l' + n, _, _, cap, putM_same _ _ _, Nat.le_refl _, rfl, r3, r4, fun _ => ⟨_, rfl⟩, fun _ => hsv2⟩
          · exact h.elim
        · exact h.elim
    · exact h.elim
  · exact h.elim
end
end Go.Proofs.YtdbiidfgbkmbmaaDoor
