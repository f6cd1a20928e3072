/- A store into a row that is there. -/
import Derived.Test.YtdbiidfgbkmbmaaDoorE13
namespace Go.Proofs.YtdbiidfgbkmbmaaDoor
open Go.RowKit
/-- The world behind a row that is written. -/
def Cx.setRow (c : Cx) (key : Nat) (r : Row) (w : World) : Cx := { c with m := putM c.m key r, w := w }
theorem stab_set {c : Cx} {key : Nat} {r r0 : Row} {w : World} {b : Nat} (h0 : c.m key = some r0) (hr : (∃ τ a a', r0 = .var τ a ∧ r = .var τ a') ∨ (∃ e n f f', r0 = .grow e n f ∧ r = .grow e n f'))
    (hmu : c.Mu b) (hsz : c.w.heap.size ≤ w.heap.size) (hh : ∀ b', b' < c.w.heap.size → b' ≠ b → w.heap[b']? = c.w.heap[b']?) : Stab c (c.setRow key r w) := by
  refine ⟨rfl, Nat.le_refl _, rfl, fun k τ a hk => ?_, fun k e n f hk => ?_, fun b' hb hm => ⟨hm, same_old (hh b' hb (fun e => hm (e ▸ hmu)))⟩, hsz⟩
  · by_cases h : k = key
    · subst h
      rw [h0] at hk; injection hk with hk; subst hk
      rcases hr with ⟨τ', a1, a2, e1, rfl⟩ | ⟨_, _, _, _, e1, _⟩
      · injection e1 with e1 e2; subst e1
        exact ⟨⟨a2, putM_same _ _ _⟩, rfl⟩
      · cases e1
    · exact ⟨⟨a, (putM_ne _ _ h).trans hk⟩, rfl⟩
  · by_cases h : k = key
    · subst h
      rw [h0] at hk; injection hk with hk; subst hk
      rcases hr with ⟨_, _, _, e1, _⟩ | ⟨e', n', f1, f2, e1, rfl⟩
      · cases e1
      · injection e1 with e1 e2 e3; subst e1; subst e2
        exact ⟨n, f2, putM_same _ _ _, Nat.le_refl _, fun _ => ⟨rfl, rfl⟩⟩
    · exact ⟨n, f, (putM_ne _ _ h).trans hk, Nat.le_refl _, fun _ => ⟨rfl, rfl⟩⟩
theorem step_set {c : Cx} (hm : MemOK c) {key : Nat} {r r0 : Row} {w : World} {b : Nat} (h0 : c.m key = some r0) (hr : (∃ τ a a', r0 = .var τ a ∧ r = .var τ a') ∨ (∃ e n f f', r0 = .grow e n f ∧ r = .grow e n f'))
    (hb : c.bl key = some b) (hlow : Below c.base c.w w) (hh : ∀ b', b' < c.w.heap.size → b' ≠ b → w.heap[b']? = c.w.heap[b']?) (hrow : RowOK (c.setRow key r w) key r) : Step c [(key, r)] (c.setRow key r w) := by
  have hst := stab_set (w := w) h0 hr (hm.mu key r0 b h0 hb).1 hlow.size hh
  have hold : ∀ {k : Nat} {r' : Row}, (c.setRow key r w).m k = some r' → ∃ r'', c.m k = some r'' := fun {k r'} h => by
    by_cases e : k = key
    · subst e; exact ⟨_, h0⟩
    · have h' : putM c.m key r k = some r' := h
      rw [putM_ne _ _ e] at h'; exact ⟨_, h'⟩
  refine ⟨hst, ⟨fun k r' hk => ?_, fun k k' r1 r2 b' h1 h2 h3 h4 => ?_, fun k r' b' h1 h2 => ?_, hm.bf⟩, rfl, rfl, rfl, hlow⟩
  · by_cases e : k = key
    · subst e
      have hk' : putM c.m k r k = some r' := hk
      rw [putM_same] at hk'; injection hk' with hk'; subst hk'; exact hrow
    · have hk' : putM c.m key r k = some r' := hk
      rw [putM_ne _ _ e] at hk'
      refine RowOK_stab hst rfl rfl rfl (fun b' hb' => hh b' (row_lt (hm.rows k r' hk') hb') (fun e' => e ?_)) (hm.rows k r' hk')
      subst e'
      exact hm.inj k key r' r0 b' hk' h0 hb' hb
  · obtain ⟨q1, hq1⟩ := hold h1
    obtain ⟨q2, hq2⟩ := hold h2
    exact hm.inj k k' q1 q2 b' hq1 hq2 h3 h4
  · obtain ⟨q1, hq1⟩ := hold h1
    exact hm.mu k q1 b' hq1 h2
theorem setRow_low {c : Cx} {b : Nat} {cs : Array Value} (hb : c.base ≤ b) : Below c.base c.w (c.w.setRow b cs) :=
  ⟨rfl, rfl, rfl, by simp, fun k hk => setRow_other c.w b k cs (by omega)⟩

theorem grow_R {c : Cx} {k e n : Nat} {f : Nat → AV} (h : RowOK c k (.grow e n f)) : ∃ xs, R c (.agg true n f) xs ∧ Sh (.agg true n fun _ => c.ty e) (.agg true n f) ∧ c.w.ownsRow c.base e (c.ty e).size (c.sv k) n xs ∧ (c.sv k).ownBlock = c.bl k := by
  obtain ⟨g, hown, hbl, hg⟩ := h
  exact ⟨_, ⟨g, fun i hi => (hg i hi).1, rfl⟩, ⟨rfl, rfl, fun i hi => (hg i hi).2⟩, hown, hbl⟩
theorem R_grow {c : Cx} {k e n : Nat} {f : Nat → AV} {xs : List Value} (hr : R c (.agg true n f) xs) (hs : Sh (.agg true n fun _ => c.ty e) (.agg true n f)) (hown : c.w.ownsRow c.base e (c.ty e).size (c.sv k) n xs) (hbl : (c.sv k).ownBlock = c.bl k) : RowOK c k (.grow e n f) := by
  obtain ⟨g, hg, rfl⟩ := hr
  exact ⟨g, hown, hbl, fun i hi => ⟨hg i hi, hs.2.2 i hi⟩⟩
theorem own_parts {w : World} {base e s n b : Nat} {v : Value} {xs : List Value} (h : w.ownsRow base e s v n xs) (hn : 0 < n) (hb : v.ownBlock = some b) : ∃ cap cur, v = .slice (some ⟨b, 0, none⟩) n cap ∧ base ≤ b ∧ w.heap[b]? = some (.cells cur e (0, 0)) ∧ n ≤ cap ∧ cap ≤ maxLen ∧ cur.size = cap * s ∧ cur.toList.take (n * s) = xs := by
  obtain ⟨_, ⟨_, h0⟩ | ⟨g, cap, cur, rfl, r⟩⟩ := h
  · omega
  · injection hb with hb; subst hb
    exact ⟨cap, cur, rfl, r⟩

section
variable {P : Program} {E : Pg} {o : Oper} {x : Operand → AV} {key : Nat} {m : Nat → Option Row} {K : Res → Prop} {t : TypeId}
theorem unit_wp {s : Sem Unit} {c : Cx} {act : Act} {K : Act → World → Prop} {Q : Exit → Act → World → Prop} {w' : World} (hex : execOp act.eval o = (do s; pure .skip)) (hs : s.run P c.w = .ok () w') (h : K (act.put o.dst undef) w') : o.wp P act c.w K Q := by
  unfold Oper.wp
  rw [hex]
  simp only [Sem.run_bind, hs, Result.andThen_ok, Sem.run_pure]
  exact h
theorem s_store (hT : TysOK P E.ty) {y z : Operand} (ho : o.op = .store t y z) (h : sem E m key x (.store t y z) K) : ∃ r, K r ∧ Valid P E.ty o x key m r := by
  simp only [sem, semG] at h
  obtain ⟨ht, h⟩ := okT_of h
  have htt := hT t ht
  have hex : ∀ a : Act, execOp a.eval o = (do Instr.storeAt t (a.eval y) (a.eval z); pure .skip) := fun a => by unfold execOp; simp only [ho]
  split at h
  · rename_i τ' k p hy
    split at h
    · rename_i τ a hmk
      obtain ⟨rfl, hsz, h⟩ := h
      refine ⟨_, h, fun c act K Q hty hm hb hrd hf hx hK => ?_⟩
      have hck := (hrd k (by simp)).trans hmk
      have h1 := hx y
      rw [hy] at h1
      obtain ⟨τ₀, av, b, hm1, hbl, hp, hat, ev⟩ := rv_ptr h1
      rw [hck] at hm1; injection hm1 with hm1; injection hm1 with e1 e2
      subst e1; subst e2
      obtain ⟨b', cs, t', hb', hh, hr, hs⟩ := hm.rows k _ hck
      rw [hbl] at hb'; injection hb' with hb'; subst hb'
      obtain ⟨hrz, _⟩ := R_of_rv hsz (hx z)
      rw [← hat] at hsz
      obtain ⟨hs2, hr2⟩ := R_upd p hr hs hp hrz hsz
      rw [hat] at hsz
      have hfit : τ.off p + (E.ty t).size ≤ cs.size := by
        obtain ⟨hs3, pre, post, ds, hcut, hpl, hr3⟩ := R_at p hr hs hp
        rw [hat] at hs3
        have := R_len hr3 hs3
        have hl : cs.toList.length = cs.size := by simp
        rw [hcut] at hl; simp at hl; omega
      have hst := run_storeVar' htt (hx z) hsz hh hfit
      have hbase := (hm.mu k _ b hck hbl).2.1
      generalize (cs.toList.take (τ.off p) ++ (act.eval z).cells.toList ++ cs.toList.drop (τ.off p + (act.eval z).cells.toList.length)) = L at *
      obtain ⟨w', hw'⟩ : ∃ w', w' = c.w.setRow b L.toArray := ⟨_, rfl⟩
      have hstab := stab_set (c := c) (key := k) (r := .var τ (a.upd p (x z))) (b := b) (w := w') hck (.inl ⟨_, _, _, rfl, rfl⟩) (hm.mu k _ b hck hbl).1 (by rw [hw']; simp) (fun b' _ hne => by rw [hw']; exact setRow_other c.w b b' _ hne)
      refine unit_wp (hex act) (w' := w') ?_ (hK (c.setRow k (.var τ (a.upd p (x z))) w') undef (step_set hm hck (.inl ⟨_, _, _, rfl, rfl⟩) hbl (by rw [hw']; exact setRow_low hbase) (fun b' _ hne => by rw [hw']; exact setRow_other c.w b b' _ hne) ?_) trivial)
      · simp only [ev, Instr.storeAt, Instr.sureAddr, Sem.run_bind, Sem.run_pure, Result.andThen_ok, hst, hw']
      · exact ⟨b, L.toArray, t', hbl, by rw [← setRow_heap c.w b cs L.toArray t' (0, 0) hh, ← hw']; rfl, R_stab hstab hr2, hs2⟩
    · exact h.elim
  · rename_i τ' e k l i p hy
    split at h
    · rename_i e' l' f hmk
      obtain ⟨rfl, rfl, hsz, h⟩ := h
      refine ⟨_, h, fun c act K Q hty hm hb hrd hf hx hK => ?_⟩
      have hck := (hrd k (by simp)).trans hmk
      have h1 := hx y
      rw [hy] at h1
      obtain ⟨n', f', ad, hm1, hl, ev, hcur⟩ := rv_gpt h1
      rw [hck] at hm1; injection hm1 with hm1; injection hm1 with e1 e2 e3
      subst e1; subst e2; subst e3
      obtain ⟨hi, hp, hat, b, hbl, rfl⟩ := hcur rfl
      rw [hty] at hp hat ev
      obtain ⟨xs, hr, hs, hown, hbl2⟩ := grow_R (hm.rows k _ hck)
      rw [hty] at hs hown
      obtain ⟨cap, cur, hsv, hbb, hheap, hnc, hcm, hcsz, htk⟩ := own_parts hown (by omega : 0 < l') (hbl2.trans hbl)
      have hpath : (Ty.agg true l' fun _ => E.ty e').inP (i :: p) := by rw [inP_agg]; exact ⟨hi, hp⟩
      have hoff : (Ty.agg true l' fun _ => E.ty e').off (i :: p) = i * (E.ty e').size + (E.ty e').off p := by
        rw [off_agg]; congr 1; exact sumN_const (E.ty e').size i
      have hat2 : (Ty.agg true l' fun _ => E.ty e').at (i :: p) = E.ty t := by rw [at_agg]; exact hat
      obtain ⟨hrz, _⟩ := R_of_rv hsz (hx z)
      obtain ⟨hs2, hr2⟩ := R_upd (i :: p) hr hs hpath hrz (by rw [hat2]; exact hsz)
      rw [hoff] at hr2
      have hxl := R_len hr hs
      rw [size_agg, sumN_const (E.ty e').size l' |> fun h => (show sumN (fun i => (el true (fun _ => E.ty e') i).size) l' = _ from h)] at hxl
      have hzl := R_len hrz hsz
      have hfit : i * (E.ty e').size + (E.ty e').off p + (E.ty t).size ≤ xs.length := by
        obtain ⟨hs3, pre, post, ds, hcut, hpl, hr3⟩ := R_at (i :: p) hr hs hpath
        rw [hat2] at hs3
        have := R_len hr3 hs3
        rw [hcut, ← hoff]; simp; omega
      have hcl : xs.length ≤ cur.size := by rw [hxl, hcsz]; exact Nat.mul_le_mul_right _ hnc
      have hst := run_storeVar' htt (hx z) hsz hheap (o := i * (E.ty e').size + (E.ty e').off p) (by omega)
      have hcut2 : cur.toList = xs ++ cur.toList.drop (l' * (E.ty e').size) := by rw [← htk, List.take_append_drop]
      generalize hD : (act.eval z).cells.toList = D at *
      generalize hO : i * (E.ty e').size + (E.ty e').off p = O at *
      generalize cur.toList.drop (l' * (E.ty e').size) = rest at *
      have hL : cur.toList.take O ++ D ++ cur.toList.drop (O + D.length) = (xs.take O ++ D ++ xs.drop (O + D.length)) ++ rest := by
        rw [hcut2, List.take_append_of_le_length (by omega), List.drop_append_of_le_length (by omega)]; simp
      rw [hL] at hst
      obtain ⟨w', hw'⟩ : ∃ w', w' = c.w.setRow b ((xs.take O ++ D ++ xs.drop (O + D.length)) ++ rest).toArray := ⟨_, rfl⟩
      have hbase := (hm.mu k _ b hck hbl).2.1
      have hstab := stab_set (c := c) (key := k) (r := .grow e' l' (updA f i ((f i).upd p (x z)))) (b := b) (w := w') hck (.inr ⟨_, _, _, _, rfl, rfl⟩) (hm.mu k _ b hck hbl).1 (by rw [hw']; simp) (fun b' _ hne => by rw [hw']; exact setRow_other c.w b b' _ hne)
      refine unit_wp (hex act) (w' := w') ?_ (hK (c.setRow k (.grow e' l' (updA f i ((f i).upd p (x z)))) w') undef (step_set hm hck (.inr ⟨_, _, _, _, rfl, rfl⟩) hbl (by rw [hw']; exact setRow_low hbase) (fun b' _ hne => by rw [hw']; exact setRow_other c.w b b' _ hne) ?_) trivial)
      · simp only [ev, Instr.storeAt, Instr.sureAddr, Sem.run_bind, Sem.run_pure, Result.andThen_ok, hst, hw']
      · refine R_grow (c := c.setRow k _ w') (xs := xs.take O ++ D ++ xs.drop (O + D.length)) (R_stab hstab hr2) (by rw [show (c.setRow k _ w').ty = E.ty from hty]; exact hs2) ?_ (by exact hbl2)
        rw [show (c.setRow k _ w').ty = E.ty from hty]
        refine ⟨by simp; omega, .inr ⟨b, cap, _, hsv, hbb, by rw [← setRow_heap c.w b cur _ e' (0, 0) hheap, ← hw']; rfl, hnc, hcm, by simp; rw [← hcsz, ← Array.length_toList, hcut2]; simp; omega, ?_⟩⟩
        have : (xs.take O ++ D ++ xs.drop (O + D.length)).length = xs.length := by simp; omega
        rw [← hxl, ← this]
        exact List.take_left
    · exact h.elim
  · exact h.elim
end
end Go.Proofs.YtdbiidfgbkmbmaaDoor
