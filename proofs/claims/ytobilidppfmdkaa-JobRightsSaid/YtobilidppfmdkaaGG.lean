/- Calls that hand back parts of what they were handed. -/
import Derived.Test.YtobilidppfmdkaaGF
namespace Go.Proofs.Ytobilidppfmdkaa
open Go.RowKit
def noM (_ : Nat) : Option Row := none
theorem noKey {k' k : Nat} {p : Prop} (h : keyIs [] noK k' k = true) : p := nomatch (show false = true from h)
/-- What is told of a value without a row holds where the value holds. -/
theorem Le_same {c : Cx} {ty : TypeId → Ty} : ∀ {b a : AV} {cs : List Value}, Le noM ty [] noK a b → R c a cs → R c b cs := by
  intro b
  induction b with
  | junk => intro a cs _ _; trivial
  | und => intro a cs hle h; cases a <;> first | exact hle.elim | exact h
  | nilp => intro a cs hle h; cases a <;> first | exact hle.elim | exact h
  | nils => intro a cs hle h; cases a <;> first | exact hle.elim | exact h
  | bo y => intro a cs hle h; cases a <;> first | exact hle.elim | (have hle : _ = y := hle; subst hle; exact h)
  | u8 y => intro a cs hle h; cases a <;> first | exact hle.elim | (have hle : _ = y := hle; subst hle; exact h)
  | u16 y => intro a cs hle h; cases a <;> first | exact hle.elim | (have hle : _ = y := hle; subst hle; exact h)
  | u32 y => intro a cs hle h; cases a <;> first | exact hle.elim | (have hle : _ = y := hle; subst hle; exact h)
  | u64 y => intro a cs hle h; cases a <;> first | exact hle.elim | (have hle : _ = y := hle; subst hle; exact h)
  | i32 y => intro a cs hle h; cases a <;> first | exact hle.elim | (have hle : _ = y := hle; subst hle; exact h)
  | i8 y => intro a cs hle h; cases a <;> first | exact hle.elim | (have hle : _ = y := hle; subst hle; exact h)
  | i16 y => intro a cs hle h; cases a <;> first | exact hle.elim | (have hle : _ = y := hle; subst hle; exact h)
  | fn y => intro a cs hle h; cases a <;> first | exact hle.elim | (have hle : _ = y := hle; subst hle; exact h)
  | str y => intro a cs hle h; cases a <;> first | exact hle.elim | (have hle : _ = y := hle; subst hle; exact h)
  | clo f' nf' n' g' ih =>
    intro a cs hle h
    cases a with
    | clo f nf n g =>
      obtain ⟨rfl, rfl, rfl, hi⟩ := hle
      obtain ⟨u, rfl, hnn, hg⟩ := h
      exact ⟨u, rfl, hnn, fun i h => ⟨ih i (hi i h) (hg i h).1, noAgg_le (hi i h) (hg i h).2⟩⟩
    | _ => exact hle.elim
  | gcap _ _ _ => intro a cs hle h; cases a <;> exact hle.elim
  | nilm => intro a cs hle h; cases a <;> first | exact hle.elim | exact h
  | nilf => intro a cs hle h; cases a <;> first | exact hle.elim | exact h
  | mpt kt' et' n' f' j' k' =>
    intro a cs hle h
    cases a <;> first | exact hle.elim | exact noKey hle.1
  | itp k' =>
    intro a cs hle h
    cases a <;> first | exact hle.elim | exact noKey hle
  | cmt k' =>
    intro a cs hle h
    cases a <;> first | exact hle.elim | exact noKey hle
  | anyb => intro a cs hle h; cases a <;> exact hle.elim
  | anym =>
    intro a cs hle h
    cases a with
    | nilm => exact ⟨_, h⟩
    | anym => exact h
    | mpt kt et n f j k =>
      obtain ⟨d, b, _, _, rfl⟩ := h
      exact ⟨_, rfl⟩
    | cmt k =>
      obtain ⟨d, b, _, _, rfl⟩ := h
      exact ⟨_, rfl⟩
    | _ => exact hle.elim
  | nat y =>
    intro a cs hle h
    cases a with
    | nat x => have hle : x = y := hle; subst hle; exact h
    | int x => have hle : x = (y : Int) := hle; subst hle; exact h
    | _ => exact hle.elim
  | int y =>
    intro a cs hle h
    cases a with
    | nat x => have hle : (x : Int) = y := hle; subst hle; exact h
    | int x => have hle : x = y := hle; subst hle; exact h
    | _ => exact hle.elim
  | ptr τ' k' p' => intro a cs hle h; cases a <;> first | exact hle.elim | exact noKey hle.1
  | gsub e' k' al' o' l' => intro a cs hle h; cases a <;> first | exact hle.elim | exact noKey hle.1
  | sub et' k' p' o' l' => intro a cs hle h; cases a <;> first | exact hle.elim | exact noKey hle.1
  | spt et' k' p' o' l' => intro a cs hle h; cases a <;> exact hle.elim
  | gspt e' k' al' o' l' => intro a cs hle h; cases a <;> exact hle.elim
  | gpt τ' e' k' l' i' p' => intro a cs hle h; cases a <;> first | exact hle.elim | exact noKey hle.1
  | gsl e' k' l' => intro a cs hle h; cases a <;> first | exact hle.elim | exact noKey hle.1 | exact hle.2.2.elim
  | ipt τ' a' ih =>
    intro a cs hle h
    cases a with
    | ipt τ a =>
      obtain ⟨rfl, hs, hl⟩ := hle
      obtain ⟨b, o, ds, rfl, hlt, hmu, hra, hsa, hrg⟩ := h
      exact ⟨b, o, ds, rfl, hlt, hmu, ih hl hra, hs, hrg⟩
    | ptr τ k p => exact hle.2.2.2.elim
    | _ => exact hle.elim
  | imm fr' et' l' f' ih =>
    intro a cs hle h
    cases a with
    | nils =>
      have hle : l' = 0 := hle
      subst hle
      have h : cs = [.slice none 0 0] := h
      exact ⟨none, 0, h, Nat.le_refl _, Nat.zero_le _, fun h => absurd h (by omega)⟩
    | imm fr et l f =>
      obtain ⟨hfr, rfl, rfl, hi⟩ := hle
      obtain ⟨A, q, rfl, h1, h2, h3⟩ := h
      refine ⟨A, q, rfl, h1, h2, fun hl => ?_⟩
      obtain ⟨b, o, rfl, hlt, hmu, hbb, hj⟩ := h3 hl
      refine ⟨b, o, rfl, hlt, hmu, fun h => hbb (by subst h; simpa using hfr), fun i h => ?_⟩
      obtain ⟨_, ds, hd, hrg⟩ := hj i h
      exact ⟨(hi i h).1, ds, ih i (hi i h).2 hd, hrg⟩
    | gsl e k l => exact hle.2.2.2.elim
    | gsub e k al o l => exact hle.2.2.2.elim
    | sub et k p o l => exact hle.2.2.2.2.elim
    | _ => exact hle.elim
  | agg u' l' f' ih =>
    intro a cs hle h
    cases a with
    | agg u l f =>
      obtain ⟨rfl, rfl, hi⟩ := hle
      obtain ⟨g, hg, rfl⟩ := h
      exact ⟨g, fun i h => ih i (hi i h) (hg i h), rfl⟩
    | _ => exact hle.elim
  | tup l' f' ih =>
    intro a cs hle h
    cases a with
    | tup l f =>
      obtain ⟨rfl, hi⟩ := hle
      obtain ⟨vs, g, rfl, hsz, hg⟩ := h
      refine ⟨vs, g, rfl, hsz, fun i h => ?_⟩
      obtain ⟨h1, v, hv, hmt⟩ := hg i h
      refine ⟨ih i (hi i h) h1, v, hv, ?_⟩
      have hle := hi i h
      revert hle hmt
      generalize f i = x
      generalize f' i = y
      intro hmt hle
      cases y with
      | junk => trivial
      | agg _ _ _ => cases x <;> first | exact hle.elim | exact hmt
      | _ => cases x <;> first | exact hle.elim | exact hmt
    | _ => exact hle.elim
theorem Le_same_rv {c : Cx} {ty : TypeId → Ty} {a b : AV} {v : Value} (hle : Le noM ty [] noK a b) (h : RV c a v) : RV c b v := by
  cases b with
  | junk => trivial
  | agg u' l' f' =>
    cases a with
    | agg u l f =>
      obtain ⟨cs, rfl, hc⟩ := h
      exact ⟨cs, rfl, Le_same (b := .agg u' l' f') hle hc⟩
    | _ => exact hle.elim
  | _ =>
    cases a with
    | agg u l f => exact hle.elim
    | junk => exact hle.elim
    | _ => exact Le_same hle h
def NoRowL : List AV → Prop
  | [] => True
  | a :: l => NoRow a ∧ NoRowL l
theorem alias_vals {c c' : Cx} {ty : TypeId → Ty} (hw : c'.w = c.w) (hmu : ∀ b, c'.Mu b → c.Mu b) : ∀ {args vs : List AV} {zs : List Value}, LeL noM ty [] noK args vs → NoRowL vs → RVs c args zs → RVs c' vs zs
  | [], [], _, _, _, .nil => .nil
  | _ :: _, _ :: _, _, h, hn, .cons h1 h2 => .cons (RV_norow hw hmu hn.1 (Le_same_rv h.1 h1)) (alias_vals hw hmu h.2 hn.2 h2)
def aliasP (ty : TypeId → Ty) (C : SpecP) : Ctr := fun args _ _ K =>
  C (fun vs => LeLW noM ty [] noK args vs ∧ NoRowL vs) (fun b => K ⟨b, [], []⟩)
def KeepsA (E : Pg) (fn : Func) (C : SpecP) : Prop := ∀ A K, C A K → ∃ vs b, A vs ∧ K b ∧ Nat.ble vs.length fn.ntmps = true ∧ NoRow b ∧
  W E fn.ntmps (fun _ => none) (fn.body.getD .skip) ⟨argT vs, fun _ => none, 8⟩ (fun s => wRes E s fn.results.toList fun a => LeW noM E.ty [] noK a b) (fin fun s => wRes E s fn.results.toList fun a => LeW noM E.ty [] noK a b)
theorem goodA {P : Program} {E : Pg} (hP : PgOK P E) (hmix : P.follows .mixedOrders = true) {f : FuncId} {fn : Func} (hf : P.funcs[f]? = some fn) (hnm : (fn.name == "runtime.NumGoroutine") = false) (hb : fn.body.isSome = true) {C : SpecP} (h : KeepsA E fn C) :
    Good P E.ty E.gl f (aliasP E.ty C) := by
  intro args m key K hc
  obtain ⟨code, hcode⟩ := Option.isSome_iff_exists.1 hb
  obtain ⟨vs, b, hA, hK, hlen, hnb, hW⟩ := h _ _ hc
  rw [hcode] at hW
  refine ⟨_, hK, .inl ⟨⟨fn, hf, hnm, by rw [hcode]; rfl⟩, fun c vals hty hm hbs hrd hfr hgl hvals => ?_⟩⟩
  obtain ⟨c0, hc0⟩ : ∃ c0 : Cx, c0 = { c with m := fun _ => none, base := c.w.heap.size, fb := c.w.heap.size, kp := True } := ⟨_, rfl⟩
  have e1 : c0.w = c.w := by rw [hc0]
  have e2 : ∀ b, c0.Mu b → c.Mu b := fun b h => by rw [hc0] at h; exact h
  have e3 : ∀ b, c.Mu b → c0.Mu b := fun b h => by rw [hc0]; exact h
  have e4 : c0.base = c.w.heap.size := by rw [hc0]
  have hm0 : MemOK c0 := by subst hc0; exact ⟨fun k r h => (by cases h), fun k k' r r' b h => (by cases h), fun k r b h => (by cases h), Nat.le_refl _⟩
  have hv0 : RVs c0 vs vals := alias_vals e1 e2 (LeLW_of hA.1) hA.2 hvals
  have hsz : (vals.toArray ++ Array.replicate (fn.ntmps - vals.toArray.size) undef).size = fn.ntmps := by
    have := RVs_len hv0
    simp at hlen ⊢; omega
  have habs : Abs P E fn.ntmps c0 ⟨argT vs, fun _ => none, 8⟩ c0 { tmps := vals.toArray ++ Array.replicate (fn.ntmps - vals.toArray.size) undef, defers := [] } :=
    ⟨by rw [hc0]; exact hty, hm0, by rw [hc0]; exact Nat.le_refl _, rfl, rfl, Below.refl _ _, Stab.refl _, by rw [hc0], fun i => argT_ok hv0 _ i, hsz, rfl, fun g => RV_norow (c := c) (c' := c0) e1 e2 (hP.flat g) (hgl g), fun _ _ _ h => h⟩
  rw [← e1]
  refine calls_of_wp hf hcode ?_
  have key : ∀ s' c1 a', (wRes E s' fn.results.toList fun a => LeW noM E.ty [] noK a b) → Abs P E fn.ntmps c0 s' c1 a' → a'.defers = [] ∧ ∃ v, (results fn a'.tmps).run P c1.w = .ok v c1.w ∧ (∃ c' v', Ending.returned v = .returned v' ∧ c'.w = c1.w ∧ Step c [] c' ∧ RV c' b v') := by
    intro s' c1 a' hres ha'
    obtain ⟨v, z, hov, hz, hrun⟩ := wRes_ok hP.tys ha' hres
    have hz' := Le_same_rv (LeW_of hov) hz
    have hl := ha'.low
    rw [e4, e1] at hl
    have hst : Step c [] (c.withBlock c1.w) := step_block hm (hl.mono (Nat.le_trans hm.bf hbs)) (fun b hb _ => same_old (hl.block b hb)) (fun k r b hk hb => hl.block b (row_lt (hm.rows k r hk) hb))
    refine ⟨ha'.dfr, z, hrun, c.withBlock c1.w, z, rfl, rfl, hst, RV_norow (c := c1) (c' := c.withBlock c1.w) rfl (fun b hb => ha'.keep (by rw [hc0]; trivial) b (by rw [e1]; exact hb.2) (e3 b hb.1)) hnb hz'⟩
  refine W_sound hP (fun k _ => by rw [hc0]) hmix (fun _ _ => rfl) code _ c0 _ _ _ _ hW habs (fun k _ => rfl) (fun s' c1 a' hq ha' _ => key s' c1 a' hq ha') fun e s' c1 a' hq hne ha' _ => ?_
  cases e with
  | ret => exact key s' c1 a' hq ha'
  | _ => exact hq.elim
end Go.Proofs.Ytobilidppfmdkaa
