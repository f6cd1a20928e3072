/- The program's types; what a step of the machine does to memory; each operation that computes or reads. -/
import Derived.Test.YtdbiidfgbkmbmaaDoorE4
import Derived.OwnWalk
namespace Go.Proofs.YtdbiidfgbkmbmaaDoor
open Go.RowKit

def Ty.zc : Ty → List Value
  | .no => []
  | .bo => [.bool false]
  | .int k => [.int k 0]
  | .str => [.string ⟨#[]⟩]
  | .pt => [.pointer none]
  | .sl _ => [.slice none 0 0]
  | .agg true l f => (List.range l).flatMap (fun _ => (f 0).zc)
  | .agg false l f => (List.range l).flatMap (fun i => (f i).zc)
def maxN (f : Nat → Nat) : Nat → Nat
  | 0 => 0
  | i + 1 => max (maxN f i) (f i)
def Ty.rank : Ty → Nat
  | .agg true _ f => (f 0).rank + 1
  | .agg false l f => maxN (fun i => (f i).rank) l + 1
  | _ => 0
theorem le_maxN {f : Nat → Nat} {i : Nat} : ∀ {n : Nat}, i < n → f i ≤ maxN f n
  | 0, h => by omega
  | n + 1, h => by
    rw [maxN]
    rcases Nat.lt_succ_iff_lt_or_eq.1 h with h | rfl
    · have := le_maxN (f := f) h; omega
    · omega
def Ty.isA : Ty → Bool
  | .agg _ _ _ => true
  | _ => false
def valOf (τ : Ty) (ds : List Value) : Value := match τ with
  | .agg _ _ _ => .agg ds.toArray
  | _ => ds.headD undef
def Inf (P : Program) (t : TypeId) (z : Value) (s : Nat) : Prop := ∃ i, P.info? t = some i ∧ i.zero = some z ∧ i.size = s ∧ i.bytes ≤ 10000
theorem Inf.mk {P : Program} {t : TypeId} {z : Value} {s : Nat} (h : (P.info? t).map (fun i => (i.zero, i.size, decide (i.bytes ≤ 10000))) = some (some z, s, true)) : Inf P t z s := by
  obtain ⟨i, hi, hz⟩ := Option.map_eq_some_iff.1 h
  simp only [Prod.mk.injEq, decide_eq_true_eq] at hz
  exact ⟨i, hi, hz.1, hz.2.1, hz.2.2⟩
/-- The type is what it is told to be. -/
inductive TyOK (P : Program) (ty : TypeId → Ty) : TypeId → Prop where
  | bo (t) (hu : P.underlying t = some .bool) (hi : Inf P t (.bool false) 1) (hty : ty t = .bo) : TyOK P ty t
  | int (t) (k : IntKind) (hk : k ≠ .i8 ∧ k ≠ .i16) (hu : P.underlying t = some (.int k)) (hi : Inf P t (.int k 0) 1) (hty : ty t = .int k) : TyOK P ty t
  | str (t) (hu : P.underlying t = some .string) (hi : Inf P t (.string ⟨#[]⟩) 1) (hty : ty t = .str) : TyOK P ty t
  | pt (t e) (hu : P.underlying t = some (.pointer e)) (hi : Inf P t (.pointer none) 1) (hty : ty t = .pt) : TyOK P ty t
  | sl (t e) (hu : P.underlying t = some (.slice e)) (hi : Inf P t (.slice none 0 0) 1) (he : TyOK P ty e) (hp : 0 < (ty e).size) (hty : ty t = .sl e) : TyOK P ty t
  | arr (t n e) (hu : P.underlying t = some (.array n e)) (he : TyOK P ty e) (hp : 0 < (ty e).size) (hi : Inf P t (.agg (ty t).zc.toArray) (ty t).size) (hr : (ty t).rank < 9000) (hq : P.eqGuardType P.depth t = false) (hty : ty t = .agg true n (fun _ => ty e)) : TyOK P ty t
  | st (t) (fs : Array Field) (n f) (hu : P.underlying t = some (.struct fs)) (hn : fs.size = n)
      (hf : ∀ (i : Nat) (h : i < fs.size), TyOK P ty fs[i].type) (hg : ∀ (i : Nat) (h : i < fs.size), f i = ty fs[i].type ∧ fs[i].offset = sumN (fun j => (f j).size) i ∧ 0 < (f i).size)
      (hi : Inf P t (.agg (ty t).zc.toArray) (ty t).size) (hr : (ty t).rank < 9000) (hq : P.eqGuardType P.depth t = false) (hh : P.stoodInHeld t = false) (hnm : ∀ (i : Nat) (h : i < fs.size), fs[i].name ≠ "_") (hty : ty t = .agg false n f) : TyOK P ty t

section
variable {P : Program} {ty : TypeId → Ty} {t : TypeId} {c : Cx}
theorem TyOK.inf (h : TyOK P ty t) : ∃ z, Inf P t z (ty t).size ∧ z.cells.toList = (ty t).zc ∧ (z = valOf (ty t) (ty t).zc) := by
  cases h with
  | bo _ _ hi hty => rw [hty]; exact ⟨_, hi, rfl, rfl⟩
  | int _ k _ _ hi hty => rw [hty]; exact ⟨_, hi, rfl, rfl⟩
  | str _ _ hi hty => rw [hty]; exact ⟨_, hi, rfl, rfl⟩
  | pt _ _ _ hi hty => rw [hty]; exact ⟨_, hi, rfl, rfl⟩
  | sl _ _ _ hi _ _ hty => rw [hty]; exact ⟨_, hi, rfl, rfl⟩
  | arr _ _ _ _ _ _ hi _ _ hty => exact ⟨_, hi, by simp [Value.cells], by rw [hty]; rfl⟩
  | st _ _ _ _ _ _ _ _ hi _ _ _ _ hty => exact ⟨_, hi, by simp [Value.cells], by rw [hty]; rfl⟩
theorem TyOK.size (h : TyOK P ty t) : (P.info? t).map (·.size) = some (ty t).size := by
  obtain ⟨z, ⟨i, hi, _, hs, _⟩, _⟩ := h.inf
  rw [hi]; simp [hs]
theorem TyOK.desc (h : TyOK P ty t) : ∃ d, P.underlying t = some d ∧ d.isRow = (ty t).isA := by
  cases h with
  | bo _ hu _ hty => rw [hty]; exact ⟨_, hu, rfl⟩
  | int _ k _ hu _ hty => rw [hty]; exact ⟨_, hu, rfl⟩
  | str _ hu _ hty => rw [hty]; exact ⟨_, hu, rfl⟩
  | pt _ _ hu _ hty => rw [hty]; exact ⟨_, hu, rfl⟩
  | sl _ _ hu _ _ _ hty => rw [hty]; exact ⟨_, hu, rfl⟩
  | arr _ _ _ hu _ _ _ _ _ hty => rw [hty]; exact ⟨_, hu, rfl⟩
  | st _ _ _ _ hu _ _ _ _ _ _ _ _ hty => rw [hty]; exact ⟨_, hu, rfl⟩
theorem zero_ok (h : TyOK P ty t) : R c (ty t).zero (ty t).zc ∧ Sh (ty t) (ty t).zero := by
  induction h with
  | bo _ _ _ hty => rw [hty]; exact ⟨rfl, trivial⟩
  | int _ k hk _ _ hty => rw [hty]; cases k <;> first | exact ⟨rfl, trivial⟩ | exact absurd rfl hk.1 | exact absurd rfl hk.2
  | str _ _ _ hty => rw [hty]; exact ⟨rfl, trivial⟩
  | pt _ _ _ _ hty => rw [hty]; exact ⟨rfl, trivial⟩
  | sl _ _ _ _ _ _ hty => rw [hty]; exact ⟨rfl, trivial⟩
  | arr _ n e _ _ _ _ _ _ hty ih =>
    rw [hty]
    exact ⟨⟨_, fun i _ => ih.1, rfl⟩, rfl, rfl, fun i _ => ih.2⟩
  | st _ fs n f _ hn _ hg _ _ _ _ _ hty ih =>
    rw [hty]
    refine ⟨⟨_, fun i hi => ?_, rfl⟩, rfl, rfl, fun i hi => ?_⟩
    · have := ih i (by omega); rw [← (hg i (by omega)).1] at this; exact this.1
    · have := ih i (by omega); rw [← (hg i (by omega)).1] at this; exact this.2
theorem Sh_isA {τ : Ty} {u : Bool} {l : Nat} {g : Nat → AV} (h : Sh τ (.agg u l g)) : τ.isA = true := by
  obtain ⟨f, rfl, _⟩ := Sh_agg h; rfl
theorem rv_of_R {τ : Ty} {a : AV} {ds : List Value} (hs : Sh τ a) (h : R c a ds) : RV c a (valOf τ ds) := by
  have hl := R_len h hs
  cases τ with
  | agg u l f =>
    cases a with
    | agg u' l' g => exact ⟨ds, rfl, h⟩
    | _ => exact hs.elim
  | _ =>
    have h1 : ∃ v, ds = [v] := by
      match ds, hl with
      | [v], _ => exact ⟨v, rfl⟩
    obtain ⟨v, rfl⟩ := h1
    cases a with
    | agg u' l' g => have := Sh_isA hs; simp [Ty.isA] at this
    | junk => trivial
    | _ => exact h
theorem R_of_rv {τ : Ty} {a : AV} {v : Value} (hs : Sh τ a) (h : RV c a v) : R c a v.cells.toList ∧ v = valOf τ v.cells.toList := by
  cases τ with
  | agg u l f =>
    cases a with
    | agg u' l' g => obtain ⟨cs, rfl, hr⟩ := h; exact ⟨by simpa [Value.cells] using hr, by simp [Value.cells, valOf]⟩
    | _ => exact hs.elim
  | _ =>
    have h1 : R c a [v] := by
      cases a with
      | agg u' l' g => have := Sh_isA hs; simp [Ty.isA] at this
      | junk => trivial
      | _ => exact h
    have h2 := R_one h1 hs v (by simp)
    have h3 : v.cells = #[v] := by cases v <;> first | rfl | (simp [Value.oneCell'] at h2)
    rw [h3]; exact ⟨h1, rfl⟩
theorem run_isAgg' (h : TyOK P ty t) (w : World) : (isAgg t).run P w = .ok (ty t).isA w := by
  obtain ⟨d, hu, hd⟩ := h.desc
  unfold isAgg
  rw [Sem.run_bind, run_underlying hu w]
  rw [← hd]
  cases d <;> simp
theorem run_sizeOf' (h : TyOK P ty t) (w : World) : (sizeOf t).run P w = .ok (ty t).size w := by
  obtain ⟨z, ⟨i, hi, _, hs, _⟩, _⟩ := h.inf
  simp [sizeOf, typeInfo, hi, hs]
/-- A variable is read. -/
theorem run_loadVar' (h : TyOK P ty t) {w : World} {b o : Nat} {a : AV} {ds : List Value} (hr : w.rangeAt b o ds) (hR : R c a ds) (hs : Sh (ty t) a) :
    (loadVar t ⟨b, o, none⟩).run P w = .ok (valOf (ty t) ds) w := by
  obtain ⟨d, hu, hd⟩ := h.desc
  have hl := R_len hR hs
  cases hA : (ty t).isA with
  | true =>
    rw [hA] at hd
    rw [run_loadVar_mid w b o t ds d hr hu hd (by rw [h.size, hl])]
    cases hty : ty t <;> rw [hty] at hA <;> first | rfl | (simp [Ty.isA] at hA)
  | false =>
    have h1 : ∃ v, ds = [v] := by
      have : ds.length = 1 := by rw [hl]; cases hty : ty t <;> rw [hty] at hA <;> first | rfl | (simp [Ty.isA] at hA)
      match ds, this with
      | [v], _ => exact ⟨v, rfl⟩
    obtain ⟨v, rfl⟩ := h1
    have hc := hr 0 v rfl
    have e : valOf (ty t) [v] = v := by cases hty : ty t <;> rw [hty] at hA <;> first | rfl | (simp [Ty.isA] at hA)
    rw [e]
    simp only [Nat.add_zero] at hc
    simp [loadVar, run_isAgg' h, hA, hc]
/-- A variable is written. -/
theorem run_storeVar' (h : TyOK P ty t) {w : World} {b o : Nat} {a : AV} {v : Value} (hv : RV c a v) (hs : Sh (ty t) a) {cs : Array Value} {e : TypeId} (hb : w.heap[b]? = some (.cells cs e (0, 0))) (ho : o + (ty t).size ≤ cs.size) :
    (storeVar t ⟨b, o, none⟩ v).run P w = .ok () (w.setRow b (cs.toList.take o ++ v.cells.toList ++ cs.toList.drop (o + v.cells.toList.length)).toArray) := by
  obtain ⟨hR, _⟩ := R_of_rv hs hv
  have hl := R_len hR hs
  have hst := run_storeCells_at P b o e v.cells.toList 0 cs w hb (by omega) (R_one hR hs)
  have hsz : v.cells.size = (ty t).size := by simpa using hl
  simp only [Nat.add_zero] at hst
  simp [storeVar, run_sizeOf' h, hsz, hst]
end

/-- What a step may do: its rows are written, all that was told holds on, and below the call's own nothing turns. -/
structure Step (c : Cx) (wr : List (Nat × Row)) (c' : Cx) : Prop where
  stab : Stab c c'
  mem : MemOK c'
  m : c'.m = putW c.m wr
  base : c'.base = c.base
  fb : c'.fb = c.fb
  low : Below c.base c.w c'.w
theorem Stab.refl (c : Cx) : Stab c c :=
  ⟨rfl, Nat.le_refl _, rfl, fun k τ a h => ⟨⟨a, h⟩, rfl⟩, fun k e n f h => ⟨n, f, h, Nat.le_refl _, fun _ => ⟨rfl, rfl⟩⟩, fun b _ h => ⟨h, same_old rfl⟩, Nat.le_refl _⟩
theorem Stab.trans {a b c : Cx} (h : Stab a b) (k : Stab b c) : Stab a c :=
  ⟨k.ty.trans h.ty, Nat.le_trans k.base h.base, k.fb.trans h.fb, fun x τ v hx => by
    obtain ⟨⟨v', h1⟩, h2⟩ := h.var x τ v hx
    obtain ⟨h3, h4⟩ := k.var x τ v' h1
    exact ⟨h3, h4.trans h2⟩, fun x e n f hx => by
    obtain ⟨n', f', h1, h2, h3⟩ := h.grow x e n f hx
    obtain ⟨n'', f'', h4, h5, h6⟩ := k.grow x e n' f' h1
    exact ⟨n'', f'', h4, Nat.le_trans h2 h5, fun e => by
      obtain ⟨h7, h8⟩ := h6 (by omega)
      obtain ⟨h9, h10⟩ := h3 (by omega)
      exact ⟨h7.trans h9, h8.trans h10⟩⟩, fun x hx hm => by
    obtain ⟨h1, h2, h5⟩ := h.old x hx hm
    obtain ⟨h3, h4, h6⟩ := k.old x (Nat.lt_of_lt_of_le hx h.size) h1
    exact ⟨h3, fun o => (h4 o).trans (h2 o), fun hf => (h6 (h.fb ▸ hf)).trans (h5 hf)⟩, Nat.le_trans h.size k.size⟩
theorem Step.refl {c : Cx} (h : MemOK c) : Step c [] c := ⟨Stab.refl c, h, rfl, rfl, rfl, Below.refl _ _⟩

/-- The operation makes r, whatever else lies in memory. -/
def Valid (P : Program) (ty : TypeId → Ty) (o : Oper) (x : Operand → AV) (key : Nat) (view : Nat → Option Row) (r : Res) : Prop :=
  ∀ (c : Cx) (a : Act) (K : Act → World → Prop) (Q : Exit → Act → World → Prop), c.ty = ty → MemOK c → c.fb ≤ c.w.heap.size → (∀ k, k ∈ r.rd → c.m k = view k) → (∀ j, key ≤ j → j < key + 8 → c.m j = none) →
    (∀ y, RV c (x y) (a.eval y)) → (∀ c' v, Step c r.wr c' → RV c' r.v v → K (a.put o.dst v) c'.w) → o.wp P a c.w K Q

section
variable {P : Program} {ty : TypeId → Ty} {o : Oper} {x : Operand → AV} {key : Nat} {view : Nat → Option Row} {r : Res}
/-- An operation that yields a value and leaves memory alone. -/
theorem valid_val (hw : r.wr = []) (h : ∀ (c : Cx) (a : Act), c.ty = ty → MemOK c → (∀ k, k ∈ r.rd → c.m k = view k) → (∀ y, RV c (x y) (a.eval y)) → ∃ v, (execOp a.eval o).run P c.w = .ok (.value v) c.w ∧ RV c r.v v) : Valid P ty o x key view r := by
  intro c a K Q hty hm hb hrd hf hx hK
  obtain ⟨v, hv, hr⟩ := h c a hty hm hrd hx
  unfold Oper.wp
  rw [hv]
  exact hK c v (by rw [hw]; exact Step.refl hm) hr
theorem valid_yld (hw : r.wr = []) (h : ∀ (c : Cx) (a : Act), c.ty = ty → MemOK c → (∀ k, k ∈ r.rd → c.m k = view k) → (∀ y, RV c (x y) (a.eval y)) → ∃ s : Sem Value, execOp a.eval o = (do pure (Next.value (← s))) ∧ Yld P c c.w s r.v) : Valid P ty o x key view r :=
  valid_val hw fun c a hty hm hrd hx => by
    obtain ⟨s, he, z, hz, hr⟩ := h c a hty hm hrd hx
    exact ⟨z, by rw [he]; simp [hz], hr⟩
end
end Go.Proofs.YtdbiidfgbkmbmaaDoor
