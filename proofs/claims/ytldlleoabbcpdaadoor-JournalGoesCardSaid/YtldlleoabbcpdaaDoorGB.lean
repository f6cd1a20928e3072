/- The machine of plain values, part B. -/
import Derived.Test.YtldlleoabbcpdaaDoorGA
import Derived.OwnWalk
import Derived.Laws.StructEq
import Derived.ChangeKeysEq
/- The program's types; what a step of the machine does to memory; each operation that computes or reads. -/
namespace Go.Proofs.YtldlleoabbcpdaaDoor
open Go.RowKit

def Ty.zc : Ty → List Value
  | .no => []
  | .bo => [.bool false]
  | .int k => [.int k 0]
  | .str => [.string ⟨#[]⟩]
  | .pt => [.pointer none]
  | .sl _ => [.slice none 0 0]
  | .mp _ _ => [.map none]
  | .fu => [.nilFunc]
  | .agg true l f => (List.range l).flatMap (fun _ => (f 0).zc)
  | .agg false l f => (List.range l).flatMap (fun i => (f i).zc)
def maxN (f : Nat → Nat) : Nat → Nat
  | 0 => 0
  | i + 1 => max (maxN f i) (f i)
def Ty.rank : Ty → Nat
  | .agg true _ f => (f 0).rank + 1
  | .agg false l f => maxN (fun i => (f i).rank) l + 1
  | _ => 0
theorem le_maxN {f : Nat → Nat} {i : Nat} : ∀ {n : Nat}, i < n → f i ≤ maxN f n
  | 0, h => by omega
  | n + 1, h => by
    rw [maxN]
    rcases Nat.lt_succ_iff_lt_or_eq.1 h with h | rfl
    · have := le_maxN (f := f) h; omega
    · omega
def Ty.isA : Ty → Bool
  | .agg _ _ _ => true
  | _ => false
def Inf (P : Program) (t : TypeId) (z : Value) (s : Nat) : Prop := ∃ i, P.info? t = some i ∧ i.zero = some z ∧ i.size = s ∧ i.bytes ≤ 10000
theorem Inf.mk {P : Program} {t : TypeId} {z : Value} {s : Nat} (h : (P.info? t).map (fun i => (i.zero, i.size, decide (i.bytes ≤ 10000))) = some (some z, s, true)) : Inf P t z s := by
  obtain ⟨i, hi, hz⟩ := Option.map_eq_some_iff.1 h
  simp only [Prod.mk.injEq, decide_eq_true_eq] at hz
  exact ⟨i, hi, hz.1, hz.2.1, hz.2.2⟩
/-- The type is what it is told to be. -/
inductive TyOK (P : Program) (ty : TypeId → Ty) : TypeId → Prop where
  | bo (t) (hu : P.underlying t = some .bool) (hi : Inf P t (.bool false) 1) (hty : ty t = .bo) : TyOK P ty t
  | int (t) (k : IntKind) (hk : True) (hu : P.underlying t = some (.int k)) (hi : Inf P t (.int k 0) 1) (hty : ty t = .int k) : TyOK P ty t
  | str (t) (hu : P.underlying t = some .string) (hi : Inf P t (.string ⟨#[]⟩) 1) (hty : ty t = .str) : TyOK P ty t
  | pt (t e) (hu : P.underlying t = some (.pointer e)) (hi : Inf P t (.pointer none) 1) (hty : ty t = .pt) : TyOK P ty t
  | sl (t e) (hu : P.underlying t = some (.slice e)) (hi : Inf P t (.slice none 0 0) 1) (he : TyOK P ty e) (hp : 0 < (ty e).size) (hty : ty t = .sl e) : TyOK P ty t
  | mp (t k e) (hu : P.underlying t = some (.map k e)) (hi : Inf P t (.map none) 1) (hk : TyOK P ty k) (he : TyOK P ty e) (hty : ty t = .mp k e) : TyOK P ty t
  | fu (t) (ps rs : Array TypeId) (v : Bool) (hu : P.underlying t = some (.func ps rs v)) (hi : Inf P t .nilFunc 1) (hty : ty t = .fu) : TyOK P ty t
  | arr (t n e) (hu : P.underlying t = some (.array n e)) (he : TyOK P ty e) (hp : 0 < (ty e).size) (hi : Inf P t (.agg (ty t).zc.toArray) (ty t).size) (hr : (ty t).rank < 9000) (hq : P.eqGuardType P.depth t = false) (hty : ty t = .agg true n (fun _ => ty e)) : TyOK P ty t
  | st (t) (fs : Array Field) (n f) (hu : P.underlying t = some (.struct fs)) (hn : fs.size = n)
      (hf : ∀ (i : Nat) (h : i < fs.size), TyOK P ty fs[i].type) (hg : ∀ (i : Nat) (h : i < fs.size), f i = ty fs[i].type ∧ fs[i].offset = sumN (fun j => (f j).size) i ∧ 0 < (f i).size)
      (hi : Inf P t (.agg (ty t).zc.toArray) (ty t).size) (hr : (ty t).rank < 9000) (hq : P.eqGuardType P.depth t = false) (hh : P.stoodInHeld t = false) (hnm : ∀ (i : Nat) (h : i < fs.size), fs[i].name ≠ "_") (hty : ty t = .agg false n f) : TyOK P ty t

section
variable {P : Program} {ty : TypeId → Ty} {t : TypeId} {c : Cx}
theorem TyOK.inf (h : TyOK P ty t) : ∃ z, Inf P t z (ty t).size ∧ z.cells.toList = (ty t).zc ∧ (z = valOf (ty t) (ty t).zc) := by
  cases h with
  | bo _ _ hi hty => rw [hty]; exact ⟨_, hi, rfl, rfl⟩
  | int _ k _ _ hi hty => rw [hty]; exact ⟨_, hi, rfl, rfl⟩
  | str _ _ hi hty => rw [hty]; exact ⟨_, hi, rfl, rfl⟩
  | pt _ _ _ hi hty => rw [hty]; exact ⟨_, hi, rfl, rfl⟩
  | sl _ _ _ hi _ _ hty => rw [hty]; exact ⟨_, hi, rfl, rfl⟩
  | mp _ _ _ _ hi _ _ hty => rw [hty]; exact ⟨_, hi, rfl, rfl⟩
  | fu _ _ _ _ _ hi hty => rw [hty]; exact ⟨_, hi, rfl, rfl⟩
  | arr _ _ _ _ _ _ hi _ _ hty => exact ⟨_, hi, by simp [Value.cells], by rw [hty]; rfl⟩
  | st _ _ _ _ _ _ _ _ hi _ _ _ _ hty => exact ⟨_, hi, by simp [Value.cells], by rw [hty]; rfl⟩
theorem TyOK.size (h : TyOK P ty t) : (P.info? t).map (·.size) = some (ty t).size := by
  obtain ⟨z, ⟨i, hi, _, hs, _⟩, _⟩ := h.inf
  rw [hi]; simp [hs]
theorem TyOK.desc (h : TyOK P ty t) : ∃ d, P.underlying t = some d ∧ d.isRow = (ty t).isA := by
  cases h with
  | bo _ hu _ hty => rw [hty]; exact ⟨_, hu, rfl⟩
  | int _ k _ hu _ hty => rw [hty]; exact ⟨_, hu, rfl⟩
  | str _ hu _ hty => rw [hty]; exact ⟨_, hu, rfl⟩
  | pt _ _ hu _ hty => rw [hty]; exact ⟨_, hu, rfl⟩
  | sl _ _ hu _ _ _ hty => rw [hty]; exact ⟨_, hu, rfl⟩
  | mp _ _ _ hu _ _ _ hty => rw [hty]; exact ⟨_, hu, rfl⟩
  | fu _ _ _ _ hu _ hty => rw [hty]; exact ⟨_, hu, rfl⟩
  | arr _ _ _ hu _ _ _ _ _ hty => rw [hty]; exact ⟨_, hu, rfl⟩
  | st _ _ _ _ hu _ _ _ _ _ _ _ _ hty => rw [hty]; exact ⟨_, hu, rfl⟩
theorem zero_ok (h : TyOK P ty t) : R c (ty t).zero (ty t).zc ∧ Sh (ty t) (ty t).zero := by
  induction h with
  | bo _ _ _ hty => rw [hty]; exact ⟨rfl, trivial⟩
  | int _ k hk _ _ hty => rw [hty]; cases k <;> first | exact ⟨rfl, trivial⟩ | exact absurd rfl hk.1 | exact absurd rfl hk.2
  | str _ _ _ hty => rw [hty]; exact ⟨rfl, trivial⟩
  | pt _ _ _ _ hty => rw [hty]; exact ⟨rfl, trivial⟩
  | sl _ _ _ _ _ _ hty => rw [hty]; exact ⟨rfl, trivial⟩
  | mp _ _ _ _ _ _ _ hty => rw [hty]; exact ⟨rfl, trivial⟩
  | fu _ _ _ _ _ _ hty => rw [hty]; exact ⟨rfl, trivial⟩
  | arr _ n e _ _ _ _ _ _ hty ih =>
    rw [hty]
    exact ⟨⟨_, fun i _ => ih.1, rfl⟩, rfl, rfl, fun i _ => ih.2⟩
  | st _ fs n f _ hn _ hg _ _ _ _ _ hty ih =>
    rw [hty]
    refine ⟨⟨_, fun i hi => ?_, rfl⟩, rfl, rfl, fun i hi => ?_⟩
    · have := ih i (by omega); rw [← (hg i (by omega)).1] at this; exact this.1
    · have := ih i (by omega); rw [← (hg i (by omega)).1] at this; exact this.2
theorem Sh_isA {τ : Ty} {u : Bool} {l : Nat} {g : Nat → AV} (h : Sh τ (.agg u l g)) : τ.isA = true := by
  obtain ⟨f, rfl, _⟩ := Sh_agg h; rfl
theorem rv_of_R {τ : Ty} {a : AV} {ds : List Value} (hs : Sh τ a) (h : R c a ds) : RV c a (valOf τ ds) := by
  have hl := R_len h hs
  cases τ with
  | agg u l f =>
    cases a with
    | agg u' l' g => exact ⟨ds, rfl, h⟩
    | _ => exact hs.elim
  | _ =>
    have h1 : ∃ v, ds = [v] := by
      match ds, hl with
      | [v], _ => exact ⟨v, rfl⟩
    obtain ⟨v, rfl⟩ := h1
    cases a with
    | agg u' l' g => have := Sh_isA hs; simp [Ty.isA] at this
    | junk => trivial
    | _ => exact h
theorem R_of_rv {τ : Ty} {a : AV} {v : Value} (hs : Sh τ a) (h : RV c a v) : R c a v.cells.toList ∧ v = valOf τ v.cells.toList := by
  cases τ with
  | agg u l f =>
    cases a with
    | agg u' l' g => obtain ⟨cs, rfl, hr⟩ := h; exact ⟨by simpa [Value.cells] using hr, by simp [Value.cells, valOf]⟩
    | _ => exact hs.elim
  | _ =>
    have h1 : R c a [v] := by
      cases a with
      | agg u' l' g => have := Sh_isA hs; simp [Ty.isA] at this
      | junk => trivial
      | _ => exact h
    have h2 := R_one h1 hs v (by simp)
    have h3 : v.cells = #[v] := by cases v <;> first | rfl | (simp [Value.oneCell'] at h2)
    rw [h3]; exact ⟨h1, rfl⟩
theorem run_isAgg' (h : TyOK P ty t) (w : World) : (isAgg t).run P w = .ok (ty t).isA w := by
  obtain ⟨d, hu, hd⟩ := h.desc
  unfold isAgg
  rw [Sem.run_bind, run_underlying hu w]
  rw [← hd]
  cases d <;> simp
theorem run_sizeOf' (h : TyOK P ty t) (w : World) : (sizeOf t).run P w = .ok (ty t).size w := by
  obtain ⟨z, ⟨i, hi, _, hs, _⟩, _⟩ := h.inf
  simp [sizeOf, typeInfo, hi, hs]
/-- A variable is read. -/
theorem run_loadVar' (h : TyOK P ty t) {w : World} {b o : Nat} {a : AV} {ds : List Value} (hr : w.rangeAt b o ds) (hR : R c a ds) (hs : Sh (ty t) a) :
    (loadVar t ⟨b, o, none⟩).run P w = .ok (valOf (ty t) ds) w := by
  obtain ⟨d, hu, hd⟩ := h.desc
  have hl := R_len hR hs
  cases hA : (ty t).isA with
  | true =>
    rw [hA] at hd
    rw [run_loadVar_mid w b o t ds d hr hu hd (by rw [h.size, hl])]
    cases hty : ty t <;> rw [hty] at hA <;> first | rfl | (simp [Ty.isA] at hA)
  | false =>
    have h1 : ∃ v, ds = [v] := by
      have : ds.length = 1 := by rw [hl]; cases hty : ty t <;> rw [hty] at hA <;> first | rfl | (simp [Ty.isA] at hA)
      match ds, this with
      | [v], _ => exact ⟨v, rfl⟩
    obtain ⟨v, rfl⟩ := h1
    have hc := hr 0 v rfl
    have e : valOf (ty t) [v] = v := by cases hty : ty t <;> rw [hty] at hA <;> first | rfl | (simp [Ty.isA] at hA)
    rw [e]
    simp only [Nat.add_zero] at hc
    simp [loadVar, run_isAgg' h, hA, hc]
/-- A variable is written. -/
theorem run_storeVar' (h : TyOK P ty t) {w : World} {b o : Nat} {a : AV} {v : Value} (hv : RV c a v) (hs : Sh (ty t) a) {cs : Array Value} {e : TypeId} (hb : w.heap[b]? = some (.cells cs e (0, 0))) (ho : o + (ty t).size ≤ cs.size) :
    (storeVar t ⟨b, o, none⟩ v).run P w = .ok () (w.setRow b (cs.toList.take o ++ v.cells.toList ++ cs.toList.drop (o + v.cells.toList.length)).toArray) := by
  obtain ⟨hR, _⟩ := R_of_rv hs hv
  have hl := R_len hR hs
  have hst := run_storeCells_at P b o e v.cells.toList 0 cs w hb (by omega) (R_one hR hs)
  have hsz : v.cells.size = (ty t).size := by simpa using hl
  simp only [Nat.add_zero] at hst
  simp [storeVar, run_sizeOf' h, hsz, hst]
end

/-- What a step may do: its rows are written, all that was told holds on, and below the call's own nothing turns. -/
structure Step (c : Cx) (wr : List (Nat × Row)) (c' : Cx) : Prop where
  stab : Stab c c'
  mem : MemOK c'
  m : c'.m = putW c.m wr
  base : c'.base = c.base
  fb : c'.fb = c.fb
  low : Below c.base c.w c'.w
  keep : ∀ b, b < c.w.heap.size → c.Mu b → c'.Mu b
theorem Ob.like.refl : ∀ {o : Ob}, o.like o
  | .mp _ _ _ _ _ => ⟨rfl, rfl, rfl, rfl⟩
  | .it _ _ => trivial
  | .put _ => trivial
  | .cnt _ => trivial
  | .vm _ _ _ => rfl
  | .mi _ _ _ _ _ _ _ _ => trivial
theorem Ob.like.trans : ∀ {a b c : Ob}, a.like b → b.like c → a.like c
  | .mp _ _ _ _ _, .mp _ _ _ _ _, .mp _ _ _ _ _, ⟨rfl, rfl, rfl, rfl⟩, ⟨rfl, rfl, rfl, rfl⟩ => ⟨rfl, rfl, rfl, rfl⟩
  | .it _ _, .it _ _, .it _ _, _, _ => trivial
  | .put _, .put _, .put _, _, _ => trivial
  | .cnt _, .cnt _, .cnt _, _, _ => trivial
  | .vm _ _ _, .vm _ _ _, .vm _ _ _, h, h' => Eq.trans h h'
  | .mi _ _ _ _ _ _ _ _, .mi _ _ _ _ _ _ _ _, .mi _ _ _ _ _ _ _ _, _, _ => trivial
theorem Stab.refl (c : Cx) : Stab c c :=
  ⟨rfl, Nat.le_refl _, rfl, fun k τ a h => ⟨⟨a, h⟩, rfl⟩, fun k e n f h => ⟨n, f, h, Nat.le_refl _, fun _ => ⟨rfl, rfl⟩⟩, fun k o h => ⟨⟨o, h, .refl⟩, rfl⟩, fun b _ h => ⟨h, same_old rfl⟩, Nat.le_refl _⟩
theorem Stab.trans {a b c : Cx} (h : Stab a b) (k : Stab b c) : Stab a c :=
  ⟨k.ty.trans h.ty, Nat.le_trans k.base h.base, k.fb.trans h.fb, fun x τ v hx => by
    obtain ⟨⟨v', h1⟩, h2⟩ := h.var x τ v hx
    obtain ⟨h3, h4⟩ := k.var x τ v' h1
    exact ⟨h3, h4.trans h2⟩, fun x e n f hx => by
    obtain ⟨n', f', h1, h2, h3⟩ := h.grow x e n f hx
    obtain ⟨n'', f'', h4, h5, h6⟩ := k.grow x e n' f' h1
    exact ⟨n'', f'', h4, Nat.le_trans h2 h5, fun e => by
      obtain ⟨h7, h8⟩ := h6 (by omega)
      obtain ⟨h9, h10⟩ := h3 (by omega)
      exact ⟨h7.trans h9, h8.trans h10⟩⟩, fun x o hx => by
    obtain ⟨⟨o', h1, l1⟩, h2⟩ := h.ob x o hx
    obtain ⟨⟨o'', h3, l2⟩, h4⟩ := k.ob x o' h1
    exact ⟨⟨o'', h3, l1.trans l2⟩, h4.trans h2⟩, fun x hx hm => by
    obtain ⟨h1, h2, h5⟩ := h.old x hx hm
    obtain ⟨h3, h4, h6⟩ := k.old x (Nat.lt_of_lt_of_le hx h.size) h1
    exact ⟨h3, fun o => (h4 o).trans (h2 o), fun hf => (h6 (hf.imp (fun q => h.fb ▸ q) fun ⟨es, cl, q⟩ => ⟨es, cl, (h5 hf).trans q⟩)).trans (h5 hf)⟩, Nat.le_trans h.size k.size⟩
theorem Step.refl {c : Cx} (h : MemOK c) : Step c [] c := ⟨Stab.refl c, h, rfl, rfl, rfl, Below.refl _ _, fun _ _ h => h⟩

/-- The operation makes r, whatever else lies in memory. -/
def Valid (P : Program) (ty : TypeId → Ty) (o : Oper) (x : Operand → AV) (key : Nat) (view : Nat → Option Row) (r : Res) : Prop :=
  ∀ (c : Cx) (a : Act) (K : Act → World → Prop) (Q : Exit → Act → World → Prop), c.ty = ty → MemOK c → c.fb ≤ c.w.heap.size → (∀ k, k ∈ r.rd → c.m k = view k) → (∀ j, key ≤ j → j < key + 8 → c.m j = none) →
    (∀ y, RV c (x y) (a.eval y)) → (∀ c' v, Step c r.wr c' → RV c' r.v v → K (a.put o.dst v) c'.w) → o.wp P a c.w K Q

section
variable {P : Program} {ty : TypeId → Ty} {o : Oper} {x : Operand → AV} {key : Nat} {view : Nat → Option Row} {r : Res}
/-- An operation that yields a value and leaves memory alone. -/
theorem valid_val (hw : r.wr = []) (h : ∀ (c : Cx) (a : Act), c.ty = ty → MemOK c → (∀ k, k ∈ r.rd → c.m k = view k) → (∀ y, RV c (x y) (a.eval y)) → ∃ v, (execOp a.eval o).run P c.w = .ok (.value v) c.w ∧ RV c r.v v) : Valid P ty o x key view r := by
  intro c a K Q hty hm hb hrd hf hx hK
  obtain ⟨v, hv, hr⟩ := h c a hty hm hrd hx
  unfold Oper.wp
  rw [hv]
  exact hK c v (by rw [hw]; exact Step.refl hm) hr
theorem valid_yld (hw : r.wr = []) (h : ∀ (c : Cx) (a : Act), c.ty = ty → MemOK c → (∀ k, k ∈ r.rd → c.m k = view k) → (∀ y, RV c (x y) (a.eval y)) → ∃ s : Sem Value, execOp a.eval o = (do pure (Next.value (← s))) ∧ Yld P c c.w s r.v) : Valid P ty o x key view r :=
  valid_val hw fun c a hty hm hrd hx => by
    obtain ⟨s, he, z, hz, hr⟩ := h c a hty hm hrd hx
    exact ⟨z, by rw [he]; simp [hz], hr⟩
end
end Go.Proofs.YtldlleoabbcpdaaDoor
/- Each operation that computes or reads: what it makes of plain values is what the model makes. -/
namespace Go.Proofs.YtldlleoabbcpdaaDoor
open Go.RowKit

/-- The types that are told are the program's. -/
def TysOK (P : Program) (ty : TypeId → Ty) : Prop := ∀ t, ty t ≠ .no → TyOK P ty t
theorem okT_of {τ : Ty} {K : Prop} (h : okT τ K) : τ ≠ .no ∧ K := by
  cases τ with
  | no => exact h.elim
  | _ => exact ⟨by simp, h⟩

section
variable {P : Program} {E : Pg} {o : Oper} {x : Operand → AV} {key : Nat} {m : Nat → Option Row} {K : Res → Prop} {t : TypeId}
theorem s_move {y : Operand} (ho : o.op = .move y) (h : K ⟨x y, [], []⟩) : ∃ r, K r ∧ Valid P E.ty o x key m r :=
  ⟨_, h, valid_val rfl fun c a _ _ _ hx => ⟨_, by unfold execOp; rw [ho]; rfl, hx y⟩⟩
theorem s_assign {y : Operand} (ho : o.op = .assign y) (h : K ⟨x y, [], []⟩) : ∃ r, K r ∧ Valid P E.ty o x key m r :=
  ⟨_, h, valid_val rfl fun c a _ _ _ hx => ⟨_, by unfold execOp; rw [ho]; rfl, hx y⟩⟩
theorem rv_bo {c : Cx} {b : Bool} {v : Value} (h : RV c (.bo b) v) : v = .bool b := by simpa [RV, R] using h
theorem rv_ptr {c : Cx} {τ : Ty} {k : Nat} {p : List Nat} {v : Value} (h : RV c (.ptr τ k p) v) : ∃ τ₀ a b, c.m k = some (.var τ₀ a) ∧ c.bl k = some b ∧ τ₀.inP p ∧ τ₀.at p = τ ∧ v = .pointer (some ⟨b, τ₀.off p, none⟩) := by
  obtain ⟨τ₀, a, b, h1, h2, h3, h4, h5⟩ := h
  exact ⟨τ₀, a, b, h1, h2, h3, h4, by simpa using h5⟩
theorem rv_ipt {c : Cx} {τ : Ty} {a : AV} {v : Value} (h : RV c (.ipt τ a) v) : ∃ b o ds, v = .pointer (some ⟨b, o, none⟩) ∧ b < c.w.heap.size ∧ ¬ c.Mu b ∧ R c a ds ∧ Sh τ a ∧ c.w.rangeAt b o ds := by
  obtain ⟨b, o, ds, h1, h2⟩ := h
  exact ⟨b, o, ds, by simpa using h1, h2⟩
theorem rv_gpt {c : Cx} {τ : Ty} {e k l i : Nat} {p : List Nat} {v : Value} (h : RV c (.gpt τ e k l i p) v) : ∃ n f ad, c.m k = some (.grow e n f) ∧ l ≤ n ∧ v = .pointer (some ad) ∧ (n = l → i < l ∧ (c.ty e).inP p ∧ (c.ty e).at p = τ ∧ ∃ b, c.bl k = some b ∧ ad = ⟨b, i * (c.ty e).size + (c.ty e).off p, none⟩) := by
  obtain ⟨n, f, A, h1, h2, h3, h4⟩ := h
  exact ⟨n, f, A, h1, h2, by simpa using h3, h4⟩
theorem rv_imm {c : Cx} {fr : Bool} {et : Ty} {l : Nat} {f : Nat → AV} {v : Value} (h : RV c (.imm fr et l f) v) : ∃ A q, v = .slice A l q ∧ l ≤ q ∧ q ≤ maxLen ∧
      (0 < l → ∃ b o, A = some ⟨b, o, none⟩ ∧ b < c.w.heap.size ∧ ¬ c.Mu b ∧ (fr = true → c.fb ≤ b) ∧ ∀ i, i < l → Sh et (f i) ∧ ∃ ds, R c (f i) ds ∧ c.w.rangeAt b (o + i * et.size) ds) := by
  obtain ⟨A, q, h1, h2⟩ := h
  exact ⟨A, q, by simpa using h1, h2⟩
theorem rv_blt {c : Cx} {l : Nat} {f : Nat → AV} {v : Value} (h : RV c (.blt l f) v) : RV c (.imm true (.int .u8) l f) v ∧ ∃ A, v = .slice A l l := by
  obtain ⟨A, h1, h2, h3⟩ := (show R c _ _ from h)
  have h1 : v = .slice A l l := by simpa using h1
  subst h1
  exact ⟨⟨A, l, rfl, Nat.le_refl _, h2, fun hl => by
    obtain ⟨b, o, a1, a2, a3, a4, a5⟩ := h3 hl
    exact ⟨b, o, a1, a2, a3, fun _ => a4, a5⟩⟩, A, rfl⟩
theorem blt_of {c : Cx} {l : Nat} {f : Nat → AV} {A : Option Addr} (h : RV c (.imm true (.int .u8) l f) (.slice A l l)) : RV c (.blt l f) (.slice A l l) := by
  obtain ⟨A', q, h1, _, h2, h3⟩ := (show R c _ _ from h)
  injection h1 with h1 _
  injection h1 with e1 _ e3
  subst e1; subst e3
  exact ⟨_, rfl, h2, fun hl => by
    obtain ⟨b, o, a1, a2, a3, a4, a5⟩ := h3 hl
    exact ⟨b, o, a1, a2, a3, a4 rfl, a5⟩⟩
theorem rv_gsl {c : Cx} {e k l : Nat} {v : Value} (h : RV c (.gsl e k l) v) : ∃ n f A q, c.m k = some (.grow e n f) ∧ l ≤ n ∧ v = .slice A l q ∧ l ≤ q ∧ q ≤ maxLen ∧ (0 < l → ∃ ad, A = some ad) ∧ (n = l → c.sv k = .slice A l q) := by
  obtain ⟨n, f, A, q, h1, h2, h3, h4⟩ := h
  exact ⟨n, f, A, q, h1, h2, by simpa using h3, h4⟩
theorem rv_gcap {c : Cx} {e k l : Nat} {v : Value} (h : RV c (.gcap e k l) v) : ∃ n f A q, c.m k = some (.grow e n f) ∧ v = .slice A l q ∧ l ≤ q ∧ q ≤ maxLen ∧ (n = 0 → c.sv k = .slice A 0 q) := by
  obtain ⟨n, f, A, q, h1, h3, h4⟩ := h
  exact ⟨n, f, A, q, h1, by simpa using h3, h4⟩
theorem rv_gsub {c : Cx} {e k al o l : Nat} {v : Value} (h : RV c (.gsub e k al o l) v) : ∃ n f A q, c.m k = some (.grow e n f) ∧ al ≤ n ∧ v = .slice A l q ∧ l ≤ q ∧ q ≤ maxLen ∧ o + l ≤ al ∧ (0 < l → ∃ ad, A = some ad ∧ (n = al → ∃ b, c.bl k = some b ∧ ad = ⟨b, o * (c.ty e).size, none⟩)) := by
  obtain ⟨n, f, A, q, h1, h2, h3, h4⟩ := h
  exact ⟨n, f, A, q, h1, h2, by simpa using h3, h4⟩
theorem rv_spt {c : Cx} {et : Ty} {k : Nat} {p : List Nat} {o l : Nat} {v : Value} (h : RV c (.spt et k p o l) v) : ∃ τ a b n g, c.m k = some (.var τ a) ∧ c.bl k = some b ∧ τ.inP p ∧ τ.at p = .agg true n g ∧ g 0 = et ∧ o + l ≤ n ∧ v = .pointer (some ⟨b, τ.off p + o * et.size, none⟩) := by
  obtain ⟨τ, a, b, n, g, h1, h2, h3, h4, h5, h6, h7⟩ := (show R c _ _ from h)
  exact ⟨τ, a, b, n, g, h1, h2, h3, h4, h5, h6, by simpa using h7⟩
theorem rv_gspt {c : Cx} {e k al o l : Nat} {v : Value} (h : RV c (.gspt e k al o l) v) : ∃ n f ad, c.m k = some (.grow e n f) ∧ al ≤ n ∧ v = .pointer (some ad) ∧ (n = al → 0 < l ∧ o + l ≤ al ∧ ∃ b, c.bl k = some b ∧ ad = ⟨b, o * (c.ty e).size, none⟩) := by
  obtain ⟨n, f, ad, h1, h2, h3, h4⟩ := (show R c _ _ from h)
  exact ⟨n, f, ad, h1, h2, by simpa using h3, h4⟩
theorem rv_sub {c : Cx} {et : Ty} {k : Nat} {p : List Nat} {o l : Nat} {v : Value} (h : RV c (.sub et k p o l) v) : ∃ τ a b n g A q, c.m k = some (.var τ a) ∧ c.bl k = some b ∧ τ.inP p ∧ τ.at p = .agg true n g ∧ g 0 = et ∧ o + l ≤ n ∧ v = .slice A l q ∧ l ≤ q ∧ (q ≤ maxLen ∧ q = n - o) ∧ (0 < l → A = some ⟨b, τ.off p + o * et.size, none⟩) := by
  obtain ⟨τ, a, b, n, g, A, q, h1, h2, h3, h4, h5, h6, h7, h8⟩ := h
  exact ⟨τ, a, b, n, g, A, q, h1, h2, h3, h4, h5, h6, by simpa using h7, h8⟩
theorem rv_str {c : Cx} {s : List UInt8} {v : Value} (h : RV c (.str s) v) : v = .string ⟨s.toArray⟩ := by simpa [RV, R] using h

theorem s_pick {y a b : Operand} (ho : o.op = .pick y a b) (h : match x y with
    | .bo v => (v = true → K ⟨x a, [], []⟩) ∧ (v = false → K ⟨x b, [], []⟩)
    | _ => False) : ∃ r, K r ∧ Valid P E.ty o x key m r := by
  split at h
  · rename_i v hv
    have hs : ∀ (c : Cx) (act : Act), (∀ y, RV c (x y) (act.eval y)) → act.eval y = .bool v := fun c act hx => rv_bo (c := c) (hv ▸ hx y)
    cases v with
    | true => exact ⟨_, h.1 rfl, valid_val rfl fun c act _ _ _ hx => ⟨_, by unfold execOp; simp only [ho, hs c act hx]; rfl, hx a⟩⟩
    | false => exact ⟨_, h.2 rfl, valid_val rfl fun c act _ _ _ hx => ⟨_, by unfold execOp; simp only [ho, hs c act hx]; rfl, hx b⟩⟩
  · exact h.elim

theorem una_sound {c : Cx} {w : World} {op : UnOp} {a : AV} {v : Value} {K : AV → Prop} (hx : RV c a v) (h : una op a K) : ∃ r, K r ∧ Yld P c w (Op.unary op v) r := by
  unfold una at h
  split at h
  · rw [show v = _ by simpa [RV, R] using hx]; exact ⟨_, h, yld_pure rfl⟩
  · rename_i x
    rw [show v = _ by simpa [RV, R] using hx]
    refine ⟨_, h, yld_pure (z := .int .u8 (IntKind.u8.wrap ((BitVec.ofInt 8 255 ^^^ BitVec.ofInt 8 (U8 x)).toNat : Nat))) ?_⟩
    rw [ofInt_U8, wrap_nat8, BitVec.ofNat_toNat, BitVec.setWidth_eq, show BitVec.ofInt 8 255 = BitVec.allOnes 8 from by decide, BitVec.allOnes_xor]; rfl
  · rename_i x
    rw [show v = _ by simpa [RV, R] using hx]
    refine ⟨_, h, yld_pure (z := .int .u16 (IntKind.u16.wrap ((BitVec.ofInt 16 65535 ^^^ BitVec.ofInt 16 (U16 x)).toNat : Nat))) ?_⟩
    rw [show BitVec.ofInt 16 (U16 x) = x from ofInt_toNat x, show BitVec.ofInt 16 65535 = BitVec.allOnes 16 from by decide, BitVec.allOnes_xor]
    show [_] = [_]
    rw [uwrapN (k := .u16) rfl]
    show [Value.int .u16 ((BitVec.ofNat 16 (~~~x).toNat).toNat : Int)] = _
    rw [BitVec.ofNat_toNat, BitVec.setWidth_eq]; rfl
  · rename_i x
    rw [show v = _ by simpa [RV, R] using hx]
    refine ⟨_, h, yld_pure (z := .int .u32 (IntKind.u32.wrap ((BitVec.ofInt 32 4294967295 ^^^ BitVec.ofInt 32 (U32 x)).toNat : Nat))) ?_⟩
    rw [ofInt_U32, wrap_nat32, BitVec.ofNat_toNat, BitVec.setWidth_eq, show BitVec.ofInt 32 4294967295 = BitVec.allOnes 32 from by decide, BitVec.allOnes_xor]; rfl
  · rename_i x
    rw [show v = _ by simpa [RV, R] using hx]
    refine ⟨_, h, yld_pure (z := .int .u64 (IntKind.u64.wrap ((BitVec.ofInt 64 18446744073709551615 ^^^ BitVec.ofInt 64 (U64 x)).toNat : Nat))) ?_⟩
    rw [ofInt_U64, wrap_nat64, BitVec.ofNat_toNat, BitVec.setWidth_eq, show BitVec.ofInt 64 18446744073709551615 = BitVec.allOnes 64 from by decide, BitVec.allOnes_xor]; rfl
  · rename_i x
    rw [show v = _ by simpa [RV, R] using hx]
    refine ⟨_, h.2, yld_pure (z := .int .i64 (IntKind.i64.wrap (0 - (x : Int)))) ?_⟩
    rw [iwrap (by have := h.1; unfold N63 at this; unfold I64; omega), Int.zero_sub]; rfl
  · rename_i x
    rw [show v = _ by simpa [RV, R] using hx]
    refine ⟨_, h.2, yld_pure (z := .int .i64 (IntKind.i64.wrap (0 - x))) ?_⟩
    rw [Int.zero_sub, iwrap h.1]; rfl
  · exact h.elim
theorem s_unOp {op : UnOp} {y : Operand} (ho : o.op = .unOp op t y) (h : una op (x y) fun v => K ⟨v, [], []⟩) : ∃ r, K r ∧ Valid P E.ty o x key m r := by
  obtain ⟨r, h1, h2⟩ := una_det h
  refine ⟨_, h1, valid_yld rfl fun c a _ _ _ hx => ⟨_, by unfold execOp; rw [ho], ?_⟩⟩
  obtain ⟨r', rfl, h3⟩ := una_sound (P := P) (c := c) (w := c.w) (hx y) (h2 (· = r) rfl)
  exact h3
theorem eqGuard_ok {op : BinOp} {y z : Operand} {v u : Value} {w : World} (hv : (∃ k n, v = .int k n) ∨ (∃ b, v = .bool b) ∨ (∃ s, v = .string s)) : (eqGuard op t y z v u).run P w = .ok () w := by
  rcases hv with ⟨k, n, rfl⟩ | ⟨b, rfl⟩ | ⟨s, rfl⟩ <;> cases op <;> first | rfl | (cases u <;> rfl)
theorem si8 (x : BitVec 8) : -128 ≤ x.toInt ∧ x.toInt < 128 := by have h1 := BitVec.two_mul_toInt_lt (x := x); have h2 := BitVec.le_two_mul_toInt (x := x); simp at h1 h2; omega
theorem si16 (x : BitVec 16) : -32768 ≤ x.toInt ∧ x.toInt < 32768 := by have h1 := BitVec.two_mul_toInt_lt (x := x); have h2 := BitVec.le_two_mul_toInt (x := x); simp at h1 h2; omega
theorem si32 (x : BitVec 32) : -2147483648 ≤ x.toInt ∧ x.toInt < 2147483648 := by have h1 := BitVec.two_mul_toInt_lt (x := x); have h2 := BitVec.le_two_mul_toInt (x := x); simp at h1 h2; omega
theorem i32_wrap (z : Int) : IntKind.i32.wrap z = z.bmod 4294967296 := by
  rw [IntKind.wrap_i32]
  show _ = if z % ((4294967296 : Nat) : Int) < (((4294967296 : Nat) : Int) + 1) / 2 then z % ((4294967296 : Nat) : Int) else z % ((4294967296 : Nat) : Int) - ((4294967296 : Nat) : Int)
  split <;> omega
theorem i8_wrap (z : Int) : IntKind.i8.wrap z = z.bmod 256 := by
  simp only [IntKind.wrap, IntKind.bits, IntKind.signed]
  show _ = if z % ((256 : Nat) : Int) < (((256 : Nat) : Int) + 1) / 2 then z % ((256 : Nat) : Int) else z % ((256 : Nat) : Int) - ((256 : Nat) : Int)
  simp
  split <;> split <;> omega
theorem i16_wrap (z : Int) : IntKind.i16.wrap z = z.bmod 65536 := by
  simp only [IntKind.wrap, IntKind.bits, IntKind.signed]
  show _ = if z % ((65536 : Nat) : Int) < (((65536 : Nat) : Int) + 1) / 2 then z % ((65536 : Nat) : Int) else z % ((65536 : Nat) : Int) - ((65536 : Nat) : Int)
  simp
  split <;> split <;> omega
theorem conv_sound (hT : TysOK P E.ty) {c : Cx} {w : World} {s d : TypeId} {a : AV} {v : Value} {K : AV → Prop} (hs : TyOK P E.ty s) (hx : RV c a v) (h : conv (E.ty d) a K) : ∃ r, K r ∧ Yld P c w (convert s d v) r := by
  obtain ⟨ds, hus, _⟩ := hs.desc
  have key : ∀ {k k' : IntKind} {n : Int}, E.ty d = .int k' → (convert s d (.int k n)).run P w = .ok (.int k' (k'.wrap n)) w := fun {k k' n} hd => by
    have htd := hT d (by rw [hd]; simp)
    have hu : P.underlying d = some (.int k') := by
      cases htd with
      | int _ k'' _ hu _ hty => rw [hd] at hty; injection hty with e; rw [e]; exact hu
      | _ => simp_all
    simp [convert, run_underlying hus, run_underlying hu, Conv.intToInt]
  have word : ∀ {q : IntKind} {n : Nat} {x : BitVec n} {K : AV → Prop}, toW (E.ty d) x K → ∃ r, K r ∧ Yld P c w (convert s d (.int q (x.toNat : Int))) r := fun {q n x K} h => by
    unfold toW at h
    split at h
    · rename_i hd; exact ⟨_, h, _, key hd, by rw [uwrapN rfl]; show [_] = [_]; congr 3; exact congrArg _ (BitVec.eq_of_toNat_eq (by simp [IntKind.bits]))⟩
    · rename_i hd; exact ⟨_, h, _, key hd, by rw [uwrapN rfl]; show [_] = [_]; congr 3; exact congrArg _ (BitVec.eq_of_toNat_eq (by simp [IntKind.bits]))⟩
    · rename_i hd; exact ⟨_, h, _, key hd, by rw [uwrapN rfl]; show [_] = [_]; congr 3; exact congrArg _ (BitVec.eq_of_toNat_eq (by simp [IntKind.bits]))⟩
    · rename_i hd; exact ⟨_, h, _, key hd, by rw [uwrapN rfl]; show [_] = [_]; congr 3; exact congrArg _ (BitVec.eq_of_toNat_eq (by simp [IntKind.bits]))⟩
    · rename_i hd
      refine ⟨_, h, _, key hd, ?_⟩
      show [Value.int .i32 (IntKind.i32.wrap (x.toNat : Int))] = [Value.int .i32 (x.setWidth 32).toInt]
      have e : x.setWidth 32 = BitVec.ofInt 32 (x.toNat : Int) := BitVec.eq_of_toNat_eq (by simp)
      rw [e, BitVec.toInt_ofInt, i32_wrap]
    · rename_i hd
      refine ⟨_, h, _, key hd, ?_⟩
      show [Value.int .i8 (IntKind.i8.wrap (x.toNat : Int))] = [Value.int .i8 (x.setWidth 8).toInt]
      have e : x.setWidth 8 = BitVec.ofInt 8 (x.toNat : Int) := BitVec.eq_of_toNat_eq (by simp)
      rw [e, BitVec.toInt_ofInt, i8_wrap]
    · rename_i hd
      refine ⟨_, h, _, key hd, ?_⟩
      show [Value.int .i16 (IntKind.i16.wrap (x.toNat : Int))] = [Value.int .i16 (x.setWidth 16).toInt]
      have e : x.setWidth 16 = BitVec.ofInt 16 (x.toNat : Int) := BitVec.eq_of_toNat_eq (by simp)
      rw [e, BitVec.toInt_ofInt, i16_wrap]
    · rename_i hd; exact ⟨_, h.2, _, key hd, by rw [iwrap (by have := h.1; unfold N63 at this; unfold I64; omega)]; rfl⟩
    · exact h.elim
  unfold conv at h
  split at h
  · rw [show v = _ by simpa [RV, R] using hx]; exact word h
  · rw [show v = _ by simpa [RV, R] using hx]; exact word h
  · rw [show v = _ by simpa [RV, R] using hx]; exact word h
  · rw [show v = _ by simpa [RV, R] using hx]; exact word h
  · rename_i x
    rw [show v = _ by simpa [RV, R] using hx]
    split at h
    · rename_i hd; exact ⟨_, h, _, key hd, by rw [uwrapN rfl]; rfl⟩
    · rename_i hd; exact ⟨_, h, _, key hd, by rw [uwrapN rfl]; rfl⟩
    · rename_i hd; exact ⟨_, h, _, key hd, by rw [uwrapN rfl]; rfl⟩
    · rename_i hd; exact ⟨_, h, _, key hd, by rw [uwrapN rfl]; rfl⟩
    · rename_i hd; exact ⟨_, h.2, _, key hd, by rw [iwrap (by have := h.1; unfold N63 at this; unfold I64; omega)]; rfl⟩
    · exact h.elim
  · rename_i x
    rw [show v = _ by simpa [RV, R] using hx]
    split at h
    · rename_i hd; exact ⟨_, h, _, key hd, by rw [uwrapI rfl]; rfl⟩
    · rename_i hd; exact ⟨_, h, _, key hd, by rw [uwrapI rfl]; rfl⟩
    · rename_i hd; exact ⟨_, h, _, key hd, by rw [uwrapI rfl]; rfl⟩
    · rename_i hd; exact ⟨_, h, _, key hd, by rw [uwrapI rfl]; rfl⟩
    · rename_i hd; exact ⟨_, h.2, _, key hd, by rw [iwrap h.1]; rfl⟩
    · exact h.elim
  · rename_i x
    rw [show v = .int .i8 x.toInt by simpa [RV, R] using hx]
    have hb := si8 x
    split at h
    · rename_i hd; exact ⟨_, h, _, key hd, by rw [iwrap (by unfold I64; omega)]; rfl⟩
    · rename_i hd; exact ⟨_, h, _, key hd, by rw [uwrapI rfl]; show [_] = [_]; unfold U8; rw [show BitVec.ofInt IntKind.u8.bits x.toInt = x from BitVec.ofInt_toInt]; rfl⟩
    · rename_i hd; exact ⟨_, h, _, key hd, by rw [uwrapI rfl]; show [_] = [_]; unfold U32; rw [show BitVec.ofInt IntKind.u32.bits x.toInt = x.signExtend 32 from rfl]; rfl⟩
    · exact h.elim
  · rename_i x
    rw [show v = .int .i16 x.toInt by simpa [RV, R] using hx]
    have hb := si16 x
    split at h
    · rename_i hd; exact ⟨_, h, _, key hd, by rw [iwrap (by unfold I64; omega)]; rfl⟩
    · rename_i hd; exact ⟨_, h, _, key hd, by rw [uwrapI rfl]; show [_] = [_]; unfold U16; rw [show BitVec.ofInt IntKind.u16.bits x.toInt = x from BitVec.ofInt_toInt]; rfl⟩
    · rename_i hd; exact ⟨_, h, _, key hd, by rw [uwrapI rfl]; show [_] = [_]; unfold U32; rw [show BitVec.ofInt IntKind.u32.bits x.toInt = x.signExtend 32 from rfl]; rfl⟩
    · exact h.elim
  · rename_i x
    rw [show v = .int .i32 x.toInt by simpa [RV, R] using hx]
    have hb := si32 x
    split at h
    · rename_i hd; exact ⟨_, h, _, key hd, by rw [iwrap (by unfold I64; omega)]; rfl⟩
    · rename_i hd; exact ⟨_, h, _, key hd, by rw [uwrapI rfl]; show [_] = [_]; unfold U32; rw [show BitVec.ofInt IntKind.u32.bits x.toInt = x from BitVec.ofInt_toInt]; rfl⟩
    · rename_i hd; exact ⟨_, h, _, key hd, by rw [uwrapI rfl]; show [_] = [_]; unfold U64; rw [show BitVec.ofInt IntKind.u64.bits x.toInt = x.signExtend 64 from rfl]; rfl⟩
    · exact h.elim
  · exact h.elim
theorem run_strOp {c : Cx} {w : World} {a b : List UInt8} {op : BinOp} {K : AV → Prop} (h : semStr (.str a) (.str b) op K) : ∃ r, K r ∧ (∀ K', K' r → semStr (.str a) (.str b) op K') ∧ Yld P c w (binOp op t (.string ⟨a.toArray⟩) (.string ⟨b.toArray⟩)) r := by
  have hl : ∀ l : List UInt8, (⟨l.toArray⟩ : ByteArray).size = l.length := fun l => by simp [ByteArray.size]
  have ht : ∀ l : List UInt8, (⟨l.toArray⟩ : ByteArray).toList = l := fun l => by rw [ByteArray.toList_eq]
  unfold semStr at h
  cases op <;> simp only [] at h <;> try exact h.elim
  case add =>
    refine ⟨_, h.2, fun K' hk => ⟨h.1, hk⟩, .string ⟨(a ++ b).toArray⟩, ?_, rfl⟩
    have hb := h.1
    unfold bnd at hb
    have : ¬ (((⟨a.toArray⟩ : ByteArray).size + (⟨b.toArray⟩ : ByteArray).size : Nat) : Int) > IntKind.i64.max := by
      have : IntKind.i64.max = 9223372036854775807 := by decide
      rw [this, hl, hl]; omega
    simp only [binOp, Op.stringOp, this, if_false]
    show Result.ok _ w = _
    congr 2
  case eql =>
    refine ⟨_, h, fun K' hk => hk, .bool (a == b), ?_, ?_⟩
    · simp only [binOp, Op.stringOp, ht]; rfl
    · show [_] = [_]; congr 2; rw [Bool.eq_iff_iff]; simp
  case neq =>
    refine ⟨_, h, fun K' hk => hk, .bool (!(a == b)), ?_, ?_⟩
    · simp only [binOp, Op.stringOp, ht]; rfl
    · show [_] = [_]; congr 2; rw [Bool.eq_iff_iff]; simp
end
end Go.Proofs.YtldlleoabbcpdaaDoor
/- Values of arrays and structs held against each other; parts of them. -/
namespace Go.Proofs.YtldlleoabbcpdaaDoor
open Go.RowKit
section
variable {P : Program} {ty : TypeId → Ty} {t : TypeId} {c : Cx} {w : World}
/-- A part of a value. -/
theorem run_part' (h : TyOK P ty t) {cs : Array Value} {pre ds post : List Value} {a : AV} (hc : cs.toList = pre ++ ds ++ post) (hR : R c a ds) (hs : Sh (ty t) a) :
    (part t cs pre.length).run P w = .ok (valOf (ty t) ds) w := by
  have hl := R_len hR hs
  cases hA : (ty t).isA with
  | true =>
    have e : cs.extract pre.length (pre.length + (ty t).size) = ds.toArray := by
      apply Array.ext'
      rw [Array.toList_extract, hc, List.extract_eq_take_drop, List.append_assoc, List.drop_left, Nat.add_sub_cancel_left, ← hl, List.take_left]
    have e2 : valOf (ty t) ds = .agg ds.toArray := by cases hty : ty t <;> rw [hty] at hA <;> first | rfl | (simp [Ty.isA] at hA)
    simp [part, run_isAgg' h, hA, run_sizeOf' h, e, e2]
  | false =>
    have h1 : ∃ v, ds = [v] := by
      have : ds.length = 1 := by rw [hl]; cases hty : ty t <;> rw [hty] at hA <;> first | rfl | (simp [Ty.isA] at hA)
      match ds, this with
      | [v], _ => exact ⟨v, rfl⟩
    obtain ⟨v, rfl⟩ := h1
    have e2 : valOf (ty t) [v] = v := by cases hty : ty t <;> rw [hty] at hA <;> first | rfl | (simp [Ty.isA] at hA)
    have e : cs[pre.length]? = some v := by
      rw [← Array.getElem?_toList, hc, List.append_assoc, List.getElem?_append_right (Nat.le_refl _)]; simp
    simp [part, run_isAgg' h, hA, e, e2]
theorem fm_at (g : Nat → List Value) {i n : Nat} (h : i < n) : ∃ post, (List.range n).flatMap g = (List.range i).flatMap g ++ g i ++ post := fm_split g i n h

theorem eqB_iff {a b : AV} : eqB a b = true ↔ AEq a b := by unfold eqB; simp
def zOf : AV → Int
  | .u8 x => U8 x
  | .u16 x => U16 x
  | .u32 x => U32 x
  | .u64 x => U64 x
  | .i32 x => x.toInt
  | .i8 x => x.toInt
  | .i16 x => x.toInt
  | .nat k => k
  | .int z => z
  | _ => 0
theorem int_of {k : IntKind} {a : AV} {ds : List Value} (hs : Sh (.int k) a) (h : R c a ds) : ds = [.int k (zOf a)] := by
  cases k <;> cases a <;> first | exact hs.elim | exact h
theorem zOf_eq {k : IntKind} {a b : AV} (ha : Sh (.int k) a) (hb : Sh (.int k) b) : (zOf a = zOf b) ↔ AEq a b := by
  cases k <;> cases a <;> first | exact ha.elim | (cases b <;> first | exact hb.elim | (simp only [zOf, AEq, U8, U16, U32, U64]; done) | (simp only [zOf, AEq, U8, U16, U32, U64]; first | omega | (rw [Int.ofNat_inj, BitVec.toNat_inj]) | (rw [BitVec.toInt_inj])))
theorem eqItems_ok {e : TypeId} {d : Nat} {s n : Nat} {f g : Nat → AV} {τ : Ty} (xs ys : Array Value)
    (hx : ∀ i, i < n → ∃ v, (part e xs (i * s)).run P w = .ok v w ∧ ∃ u, (part e ys (i * s)).run P w = .ok u w ∧ (Op.equalIn d e v u).run P w = .ok (eqB (f i) (g i)) w) :
    ∀ (is : List Nat), (∀ i ∈ is, i < n) → ∃ r, (Op.eqItems d e s xs ys is).run P w = .ok r w ∧ (r = true ↔ ∀ i ∈ is, AEq (f i) (g i))
  | [], _ => ⟨true, by simp [Op.eqItems], by simp⟩
  | i :: is, h => by
    obtain ⟨v, h1, u, h2, h3⟩ := hx i (h i (by simp))
    obtain ⟨r, h4, h5⟩ := eqItems_ok xs ys hx (τ := τ) is (fun j hj => h j (by simp [hj]))
    simp only [Op.eqItems, Sem.run_bind, h1, h2, h3, Result.andThen_ok]
    cases hb : eqB (f i) (g i)
    · refine ⟨false, by simp, ?_⟩
      have : ¬ AEq (f i) (g i) := fun hh => by rw [eqB_iff.2 hh] at hb; cases hb
      simp [this]
    · refine ⟨r, by simpa using h4, ?_⟩
      rw [h5]; simp [eqB_iff.1 hb]
theorem eqFields_ok {d : Nat} {f g : Nat → AV} {xs ys : Array Value} : ∀ (fs : List Field) (k : Nat),
    (∀ i (h : i < fs.length), fs[i].name ≠ "_" ∧ ∃ v, (part fs[i].type xs fs[i].offset).run P w = .ok v w ∧ ∃ u, (part fs[i].type ys fs[i].offset).run P w = .ok u w ∧ (Op.equalIn d fs[i].type v u).run P w = .ok (eqB (f (k + i)) (g (k + i))) w) →
    ∃ r, (Op.eqFields d xs ys fs).run P w = .ok r w ∧ (r = true ↔ ∀ i, i < fs.length → AEq (f (k + i)) (g (k + i)))
  | [], k, _ => ⟨true, by simp [Op.eqFields], by simp⟩
  | fl :: fs, k, h => by
    obtain ⟨h0, v, h1, u, h2, h3⟩ := h 0 (by simp)
    obtain ⟨r, h4, h5⟩ := eqFields_ok (f := f) (g := g) fs (k + 1) (fun i hi => by
      have := h (i + 1) (by simp; omega)
      simpa [Nat.add_assoc, Nat.add_comm 1 i] using this)
    simp only [List.getElem_cons_zero, Nat.add_zero] at h0 h1 h2 h3
    simp only [Op.eqFields, Sem.run_bind, h0, ne_eq, not_false_eq_true, if_true, h1, h2, h3, Result.andThen_ok]
    have hsplit : (∀ i, i < (fl :: fs).length → AEq (f (k + i)) (g (k + i))) ↔ AEq (f k) (g k) ∧ ∀ i, i < fs.length → AEq (f (k + 1 + i)) (g (k + 1 + i)) := by
      constructor
      · intro hh
        exact ⟨hh 0 (by simp), fun i hi => by have := hh (i + 1) (by simp; omega); rwa [show k + (i + 1) = k + 1 + i by omega] at this⟩
      · rintro ⟨h1, h2⟩ i hi
        match i with
        | 0 => exact h1
        | i + 1 => have := h2 i (by simpa using hi); rwa [show k + 1 + i = k + (i + 1) by omega] at this
    cases hb : eqB (f k) (g k)
    · refine ⟨false, by simp, ?_⟩
      have : ¬ AEq (f k) (g k) := fun hh => by rw [eqB_iff.2 hh] at hb; cases hb
      rw [hsplit]; simp [this]
    · refine ⟨r, by simpa using h4, ?_⟩
      rw [h5, hsplit]; simp [eqB_iff.1 hb]
theorem equal_ok (h : TyOK P ty t) : ∀ {a b : AV} {ds es : List Value} {d : Nat}, R c a ds → R c b es → Sh (ty t) a → Sh (ty t) b → Cmp a → (ty t).rank ≤ d →
    (Op.equalIn (d + 1) t (valOf (ty t) ds) (valOf (ty t) es)).run P w = .ok (eqB a b) w := by
  induction h with
  | bo t hu _ hty =>
    intro a b ds es d ha hb sa sb _ _
    rw [hty] at *
    cases a with
    | bo x =>
      cases b with
      | bo y =>
        rw [show ds = _ from ha, show es = _ from hb]
        rw [show valOf .bo [Value.bool x] = .bool x from rfl, show valOf .bo [Value.bool y] = .bool y from rfl, run_equalIn_bool' w d t x y hu]
        congr 1
        rw [Bool.eq_iff_iff, eqB_iff]; simp [AEq]
      | _ => exact sb.elim
    | _ => exact sa.elim
  | int t k _ hu _ hty =>
    intro a b ds es d ha hb sa sb _ _
    rw [hty] at *
    rw [int_of sa ha, int_of sb hb]
    rw [show valOf (.int k) [Value.int k (zOf a)] = .int k (zOf a) from rfl, show valOf (.int k) [Value.int k (zOf b)] = .int k (zOf b) from rfl, run_equalIn_int w d t k k _ _ hu]
    congr 1
    rw [Bool.eq_iff_iff, eqB_iff, ← zOf_eq sa sb]; simp
  | str t hu _ hty =>
    intro a b ds es d ha hb sa sb _ _
    rw [hty] at *
    cases a with
    | str x =>
      cases b with
      | str y =>
        rw [show ds = _ from ha, show es = _ from hb]
        rw [show valOf .str [Value.string ⟨x.toArray⟩] = .string ⟨x.toArray⟩ from rfl, show valOf .str [Value.string ⟨y.toArray⟩] = .string ⟨y.toArray⟩ from rfl, run_equalIn_string w d t _ _ hu]
        congr 1
        rw [Bool.eq_iff_iff, eqB_iff, ByteArray.toList_eq, ByteArray.toList_eq]; simp [AEq]
      | _ => exact sb.elim
    | _ => exact sa.elim
  | pt t e _ _ hty =>
    intro a b ds es d ha hb sa sb hc _
    rw [hty] at *
    cases a <;> first | exact sa.elim | exact hc.elim
  | sl t e _ _ _ _ hty =>
    intro a b ds es d ha hb sa sb hc _
    rw [hty] at *
    cases a <;> first | exact sa.elim | exact hc.elim
  | mp t k e _ _ _ _ hty =>
    intro a b ds es d ha hb sa sb hc _
    rw [hty] at *
    cases a <;> first | exact sa.elim | exact hc.elim
  | fu t _ _ _ _ _ hty =>
    intro a b ds es d ha hb sa sb hc _
    rw [hty] at *
    cases a <;> first | exact sa.elim | exact hc.elim
  | arr t n e hu he _ _ _ _ hty ih =>
    intro a b ds es d ha hb sa sb hc hd
    rw [hty] at *
    cases a with
    | agg ua la f =>
      cases b with
      | agg ub lb g =>
        obtain ⟨rfl, rfl, sa⟩ := sa
        obtain ⟨rfl, rfl, sb⟩ := sb
        obtain ⟨gx, hgx, rfl⟩ := ha
        obtain ⟨gy, hgy, rfl⟩ := hb
        obtain ⟨d, rfl⟩ : ∃ d', d = d' + 1 := ⟨d - 1, by simp only [Ty.rank] at hd; omega⟩
        obtain ⟨z, ⟨i, hi, _, hsz, _⟩, _⟩ := he.inf
        have hce : P.cellsOf e = (ty e).size := by unfold Program.cellsOf; rw [hi]; simp [hsz]
        show (Op.equalIn (d + 1 + 1) t (.agg _) (.agg _)).run P w = _
        rw [run_equalIn_array w (d + 1) _ _ hu hi, hce]
        have key : ∀ (gz : Nat → List Value) (fz : Nat → AV), (∀ i, i < n → R c (fz i) (gz i)) → (∀ i, i < n → Sh (ty e) (fz i)) → ∀ i, i < n → (part e ((List.range n).flatMap gz).toArray (i * (ty e).size)).run P w = .ok (valOf (ty e) (gz i)) w := fun gz fz h1 h2 i hi => by
          obtain ⟨post, hp⟩ := fm_at gz hi
          have hlen : ((List.range i).flatMap gz).length = i * (ty e).size := by
            rw [fm_len, ← sumN_const]; exact sumN_congr i (fun j hj => R_len (h1 j (by omega)) (h2 j (by omega)))
          rw [← hlen]
          exact run_part' he (by simpa using hp) (h1 i hi) (h2 i hi)
        obtain ⟨r, h1, h2⟩ := eqItems_ok (P := P) (w := w) (e := e) (d := d + 1) (s := (ty e).size) (n := n) (f := f) (g := g) (τ := ty e) _ _ (fun i hi =>
          ⟨_, key gx f hgx sa i hi, _, key gy g hgy sb i hi, ih (hgx i hi) (hgy i hi) (sa i hi) (sb i hi) (hc i hi) (by simp only [Ty.rank] at hd; omega)⟩) (List.range n) (fun i hi => by simpa using hi)
        rw [h1]; congr 1
        rw [Bool.eq_iff_iff, h2, eqB_iff]; simp [AEq]
      | _ => exact sb.elim
    | _ => exact sa.elim
  | st t fs n f hu hn hf hg _ _ _ hh hnm hty ih =>
    intro a b ds es d ha hb sa sb hc hd
    rw [hty] at *
    cases a with
    | agg ua la fa =>
      cases b with
      | agg ub lb ga =>
        obtain ⟨rfl, rfl, sa⟩ := sa
        obtain ⟨rfl, rfl, sb⟩ := sb
        obtain ⟨gx, hgx, rfl⟩ := ha
        obtain ⟨gy, hgy, rfl⟩ := hb
        obtain ⟨d, rfl⟩ : ∃ d', d = d' + 1 := ⟨d - 1, by simp only [Ty.rank] at hd; omega⟩
        have hfo : P.fieldsOf t = fs := by unfold Program.fieldsOf; rw [hu]
        show (Op.equalIn (d + 1 + 1) t (.agg _) (.agg _)).run P w = _
        rw [run_equalIn_struct w (d + 1) t _ _ (by rw [hfo]; exact hu) hh, hfo]
        have key : ∀ (gz : Nat → List Value) (fz : Nat → AV), (∀ i, i < n → R c (fz i) (gz i)) → (∀ i, i < n → Sh (f i) (fz i)) → ∀ i (h : i < fs.size), (part fs[i].type ((List.range n).flatMap gz).toArray fs[i].offset).run P w = .ok (valOf (ty fs[i].type) (gz i)) w := fun gz fz h1 h2 i hi => by
          obtain ⟨post, hp⟩ := fm_at gz (show i < n by omega)
          obtain ⟨e1, e2, _⟩ := hg i hi
          have hlen : ((List.range i).flatMap gz).length = fs[i].offset := by
            rw [fm_len, e2]; exact sumN_congr i (fun j hj => R_len (h1 j (by omega)) (h2 j (by omega)))
          rw [← hlen]
          exact run_part' (hf i hi) (by simpa using hp) (h1 i (by omega)) (by rw [← e1]; exact h2 i (by omega))
        obtain ⟨r, h1, h2⟩ := eqFields_ok (P := P) (w := w) (d := d + 1) (f := fa) (g := ga) (xs := ((List.range n).flatMap gx).toArray) (ys := ((List.range n).flatMap gy).toArray) fs.toList 0 (fun i hi => by
          have hi' : i < fs.size := by simpa using hi
          have hin : i < n := by omega
          obtain ⟨e1, e2, _⟩ := hg i hi'
          rw [Array.getElem_toList, Nat.zero_add]
          refine ⟨hnm i hi', _, key gx fa hgx sa i hi', _, key gy ga hgy sb i hi', ?_⟩
          have sa' := sa i hin
          have sb' := sb i hin
          rw [show el false f i = f i from rfl, e1] at sa' sb'
          refine ih i hi' (hgx i hin) (hgy i hin) sa' sb' (hc i hin) ?_
          have := le_maxN (f := fun i => (f i).rank) hin
          rw [← e1]
          simp only [Ty.rank] at hd; omega)
        rw [h1]; congr 1
        rw [Bool.eq_iff_iff, h2, eqB_iff]
        simp only [Array.length_toList, Nat.zero_add, hn]
        exact Iff.rfl
      | _ => exact sb.elim
    | _ => exact sa.elim
end
end Go.Proofs.YtldlleoabbcpdaaDoor
/- Each operation that computes or reads, second half: addresses, parts, slices, loads. -/
namespace Go.Proofs.YtldlleoabbcpdaaDoor
open Go.RowKit
theorem at_append : ∀ (p : List Nat) (τ : Ty) (q : List Nat), τ.inP p → τ.at (p ++ q) = (τ.at p).at q
  | [], τ, q, _ => by rw [at_nil]; rfl
  | i :: p, τ, q, h => by
    cases τ with
    | agg u l f =>
      rw [inP_agg] at h
      rw [List.cons_append, at_agg, at_agg]
      exact at_append p _ q h.2
    | _ => exact h.elim
theorem off_append : ∀ (p : List Nat) (τ : Ty) (q : List Nat), τ.inP p → τ.off (p ++ q) = τ.off p + (τ.at p).off q
  | [], τ, q, _ => by rw [at_nil, off_nil, Nat.zero_add]; rfl
  | i :: p, τ, q, h => by
    cases τ with
    | agg u l f =>
      rw [inP_agg] at h
      rw [List.cons_append, off_agg, off_agg, at_agg, off_append p _ q h.2, Nat.add_assoc]
    | _ => exact h.elim
theorem inP_append : ∀ (p : List Nat) (τ : Ty) (q : List Nat), τ.inP p → (τ.at p).inP q → τ.inP (p ++ q)
  | [], τ, q, _, hq => by rw [at_nil] at hq; exact hq
  | i :: p, τ, q, h, hq => by
    cases τ with
    | agg u l f =>
      rw [inP_agg] at h
      rw [at_agg] at hq
      rw [List.cons_append, inP_agg]
      exact ⟨h.1, inP_append p _ q h.2 hq⟩
    | _ => exact h.elim
theorem avat_append : ∀ (p : List Nat) (a : AV) (q : List Nat), (a.at (p ++ q)) = (a.at p).at q ∨ True
  | _, _, _ => .inr trivial
theorem off_one (u : Bool) (l : Nat) (f : Nat → Ty) (i : Nat) : (Ty.agg u l f).off [i] = sumN (fun j => (el u f j).size) i := by
  rw [off_agg, off_nil, Nat.add_zero]
theorem at_one (u : Bool) (l : Nat) (f : Nat → Ty) (i : Nat) : (Ty.agg u l f).at [i] = el u f i := by
  rw [at_agg, at_nil]

section
variable {P : Program} {ty : TypeId → Ty} {t : TypeId}
theorem TyOK.st_of {n : Nat} {f : Nat → Ty} (h : TyOK P ty t) (he : ty t = .agg false n f) : ∃ fs : Array Field, P.underlying t = some (.struct fs) ∧ fs.size = n ∧
    ∀ (i : Nat) (h : i < fs.size), TyOK P ty fs[i].type ∧ f i = ty fs[i].type ∧ fs[i].offset = sumN (fun j => (f j).size) i ∧ 0 < (f i).size := by
  cases h with
  | st _ fs n' f' hu hn hf hg _ _ _ _ _ hty =>
    rw [hty] at he
    injection he with h1 h2 h3
    subst h2; subst h3
    exact ⟨fs, hu, hn, fun i hi => ⟨hf i hi, hg i hi⟩⟩
  | _ => simp_all
theorem TyOK.arr_of {n : Nat} {f : Nat → Ty} (h : TyOK P ty t) (he : ty t = .agg true n f) : ∃ e, P.underlying t = some (.array n e) ∧ TyOK P ty e ∧ 0 < (ty e).size ∧ f = fun _ => ty e := by
  cases h with
  | arr _ n' e hu hte hp _ _ _ hty =>
    rw [hty] at he
    injection he with h1 h2 h3
    subst h2; subst h3
    exact ⟨e, hu, hte, hp, rfl⟩
  | _ => simp_all
theorem TyOK.sl_of {e : TypeId} (h : TyOK P ty t) (he : ty t = .sl e) : P.underlying t = some (.slice e) ∧ TyOK P ty e ∧ 0 < (ty e).size := by
  cases h with
  | sl _ e' hu _ hte hp hty => rw [hty] at he; injection he with h1; subst h1; exact ⟨hu, hte, hp⟩
  | _ => simp_all
theorem TyOK.int_und {k : IntKind} (h : TyOK P ty t) (he : ty t = .int k) : P.underlying t = some (.int k) := by
  cases h with
  | int k' _ _ hu _ hty => rw [he] at hty; injection hty with hty; rw [hty]; exact hu
  | _ => simp_all
theorem TyOK.str_of (h : TyOK P ty t) (he : ty t = .str) : P.underlying t = some .string := by
  cases h with
  | str _ hu _ _ => exact hu
  | _ => simp_all
theorem TyOK.bo_of (h : TyOK P ty t) (he : ty t = .bo) : P.underlying t = some .bool := by
  cases h with
  | bo _ hu _ _ => exact hu
  | _ => simp_all
end

section
variable {P : Program} {E : Pg} {o : Oper} {x : Operand → AV} {key : Nat} {m : Nat → Option Row} {K : Res → Prop} {t : TypeId}
theorem bool_eq {c : Cx} {w : World} {t : TypeId} {x y : Bool} (hu : P.underlying t = some .bool) : (Op.equal t (.bool x) (.bool y)).run P w = .ok (x == y) w := by
  have h1 : ∀ d, (Op.equalIn (d + 1) t (.bool x) (.bool y)).run P w = .ok (x == y) w := fun d => by simp [Op.equalIn, run_underlying hu]
  exact h1 9999
theorem binOp_agg {w : World} {op : BinOp} {xs ys : Array Value} {r : Bool} (h : (Op.equalIn 10000 t (.agg xs) (.agg ys)).run P w = .ok r w) :
    (op = .eql → (binOp op t (.agg xs) (.agg ys)).run P w = .ok (.bool r) w) ∧ (op = .neq → (binOp op t (.agg xs) (.agg ys)).run P w = .ok (.bool (!r)) w) := by
  constructor
  · rintro rfl; rw [run_eql_struct, h]; rfl
  · rintro rfl; rw [run_neq_struct, h]; rfl
theorem TyOK.aggs (h : TyOK P E.ty t) (hA : (E.ty t).isA = true) : (E.ty t).rank < 9000 ∧ P.eqGuardType P.depth t = false := by
  cases h with
  | arr _ _ _ _ _ _ _ hr hq _ => exact ⟨hr, hq⟩
  | st _ _ _ _ _ _ _ _ _ hr hq _ _ _ => exact ⟨hr, hq⟩
  | _ => simp_all [Ty.isA]
theorem s_binAgg (hT : TysOK P E.ty) {op : BinOp} {y z : Operand} {ty' : TypeId} (ho : o.op = .binOp op t y z ty') {u u' : Bool} {l l' : Nat} {f g : Nat → AV} (hy : x y = .agg u l f) (hz : x z = .agg u' l' g)
    (h : okT (E.ty t) (Cmp (.agg u l f) ∧ Sh (E.ty t) (.agg u l f) ∧ Sh (E.ty t) (.agg u' l' g) ∧ eqOp op (eqB (.agg u l f) (.agg u' l' g)) K)) : ∃ r, K r ∧ Valid P E.ty o x key m r := by
  obtain ⟨ht, hc, s1, s2, h⟩ := okT_of h
  have htt := hT t ht
  obtain ⟨hrk, hq⟩ := htt.aggs (Sh_isA s1)
  have run : ∀ (c : Cx) (a : Act), (∀ y, RV c (x y) (a.eval y)) → (op = .eql ∨ op = .neq) → ∃ xs ys : Array Value, a.eval y = .agg xs ∧ a.eval z = .agg ys ∧ (Op.equalIn 10000 t (.agg xs) (.agg ys)).run P c.w = .ok (eqB (.agg u l f) (.agg u' l' g)) c.w := fun c a hx _ => by
    obtain ⟨cs, e1, r1⟩ := (show RV c (.agg u l f) _ from hy ▸ hx y)
    obtain ⟨ds, e2, r2⟩ := (show RV c (.agg u' l' g) _ from hz ▸ hx z)
    have := equal_ok (P := P) (w := c.w) (d := 9999) htt r1 r2 s1 s2 hc (by omega)
    have hv : ∀ q, valOf (E.ty t) q = .agg q.toArray := fun q => by
      have := Sh_isA s1
      cases hh : E.ty t <;> rw [hh] at this <;> first | rfl | (simp [Ty.isA] at this)
    rw [hv, hv] at this
    exact ⟨_, _, e1, e2, this⟩
  cases op <;> simp only [eqOp] at h <;> try exact h.elim
  case eql =>
    refine ⟨_, h, valid_val rfl fun c a _ _ _ hx => ?_⟩
    obtain ⟨xs, ys, e1, e2, hr⟩ := run c a hx (.inl rfl)
    refine ⟨.bool (eqB (.agg u l f) (.agg u' l' g)), ?_, rfl⟩
    unfold execOp
    simp only [ho, e1, e2, Sem.run_bind, run_eqGuard_agg c.w _ t _ _ _ _ hq, Result.andThen_ok, (binOp_agg (op := .eql) hr).1 rfl, Sem.run_pure]
  case neq =>
    refine ⟨_, h, valid_val rfl fun c a _ _ _ hx => ?_⟩
    obtain ⟨xs, ys, e1, e2, hr⟩ := run c a hx (.inr rfl)
    refine ⟨.bool (!eqB (.agg u l f) (.agg u' l' g)), ?_, rfl⟩
    unfold execOp
    simp only [ho, e1, e2, Sem.run_bind, run_eqGuard_agg c.w _ t _ _ _ _ hq, Result.andThen_ok, (binOp_agg (op := .neq) hr).2 rfl, Sem.run_pure]
theorem scal_of_bin {op : BinOp} {a b : AV} {K : AV → Prop} (h : bin op a b K) : ∀ (c : Cx) (v : Value), RV c a v → ∃ k n, v = .int k n := by
  intro c v hv
  have key : ∀ {a : AV}, (∃ K b, bin0 op a b K) ∨ (∃ K n, shf0 op a K n) → RV c a v → ∃ k n, v = .int k n := by
    rintro a (⟨K, b, h⟩ | ⟨K, n, h⟩) hv
    · unfold bin0 at h
      split at h <;> first | exact h.elim | exact ⟨_, _, by simpa [RV, R] using hv⟩
    · unfold shf0 at h
      split at h <;> first | exact h.elim | exact ⟨_, _, by simpa [RV, R] using hv⟩
  by_cases hs : op = .shl ∨ op = .shr
  · have h' : cnt b (shf0 op a K) := by rcases hs with rfl | rfl <;> exact h
    obtain ⟨n, hn, _⟩ := cnt_det h'
    exact key (.inr ⟨_, _, hn⟩) hv
  · have h' : bin0 op a b K := by cases op <;> first | exact h | (simp at hs)
    exact key (.inl ⟨_, _, h'⟩) hv
theorem eqGuard_sl {op : BinOp} {y z : Operand} {A : Option Addr} {l q : Nat} {u : Value} {w : World} : (eqGuard op t y z (.slice A l q) u).run P w = .ok () w := by
  cases op <;> first | rfl | (cases u <;> rfl)
theorem eqGuard_pt {op : BinOp} {y z : Operand} {A : Option Addr} {u : Value} {w : World} : (eqGuard op t y z (.pointer A) u).run P w = .ok () w := by
  cases op <;> first | rfl | (cases u <;> rfl)
theorem nil_sl {w : World} {e : TypeId} {A : Option Addr} {l q : Nat} (hu : P.underlying t = some (.slice e)) : (Op.equal t (.slice A l q) (.slice none 0 0)).run P w = .ok A.isNone w := by
  have h1 : ∀ d, (Op.equalIn (d + 1) t (.slice A l q) (.slice none 0 0)).run P w = .ok A.isNone w := fun d => by cases A <;> simp [Op.equalIn, run_underlying hu]
  exact h1 9999
theorem nil_pt {w : World} {e : TypeId} {A : Option Addr} (hu : P.underlying t = some (.pointer e)) : (Op.equal t (.pointer A) (.pointer none)).run P w = .ok A.isNone w := by
  have h1 : ∀ d, (Op.equalIn (d + 1) t (.pointer A) (.pointer none)).run P w = .ok A.isNone w := fun d => by cases A <;> simp [Op.equalIn, run_underlying hu]
  exact h1 9999
theorem nilS_of {c : Cx} {a : AV} {v : Value} {K : Bool → Prop} (hv : RV c a v) (h : nilS a K) : ∃ A l q, v = .slice A l q ∧ K A.isNone := by
  cases a <;> simp only [nilS] at h <;> try exact h.elim
  case nils => exact ⟨none, 0, 0, by simpa [RV, R] using hv, h⟩
  case imm fr et l f =>
    obtain ⟨A, q, e, _, _, h2⟩ := (show R c _ _ from hv)
    obtain ⟨b, o, rfl, _⟩ := h2 h.1
    refine ⟨_, _, _, by simpa using e, ?_⟩
    exact h.2
  case gsl e k l =>
    obtain ⟨n, f, A, q, _, _, e, _, _, h2, _⟩ := (show R c _ _ from hv)
    obtain ⟨ad, rfl⟩ := h2 h.1
    refine ⟨_, _, _, by simpa using e, ?_⟩
    exact h.2
  case gsub e k al o l =>
    obtain ⟨n, f, A, q, _, _, e, _, _, _, h2⟩ := (show R c _ _ from hv)
    obtain ⟨ad, rfl, _⟩ := h2 h.1
    refine ⟨_, _, _, by simpa using e, ?_⟩
    exact h.2
  case sub et k p o l =>
    obtain ⟨τ, a, b, n, g, A, q, _, _, _, _, _, _, e, _, _, h2⟩ := (show R c _ _ from hv)
    have := h2 h.1
    subst this
    refine ⟨_, _, _, by simpa using e, ?_⟩
    exact h.2
theorem nilP_of {c : Cx} {a : AV} {v : Value} {K : Bool → Prop} (hv : RV c a v) (h : nilP a K) : ∃ A, v = .pointer A ∧ K A.isNone := by
  cases a <;> simp only [nilP] at h <;> try exact h.elim
  case nilp => exact ⟨none, by simpa [RV, R] using hv, h⟩
  case ptr τ k p =>
    obtain ⟨_, _, b, _, _, _, _, e⟩ := (show R c _ _ from hv)
    refine ⟨_, by simpa using e, ?_⟩
    exact h
  case ipt τ a =>
    obtain ⟨b, o, ds, e, _⟩ := (show R c _ _ from hv)
    refine ⟨_, by simpa using e, ?_⟩
    exact h
  case gpt τ e k l i p =>
    obtain ⟨n, f, ad, _, _, e, _⟩ := (show R c _ _ from hv)
    refine ⟨_, by simpa using e, ?_⟩
    exact h
theorem nilS_det {a : AV} {K : Bool → Prop} (h : nilS a K) : ∃ b, K b ∧ ∀ K' : Bool → Prop, K' b → nilS a K' := by
  cases a <;> simp only [nilS] at h <;> first | exact h.elim | exact ⟨_, h.2, fun K' hk => ⟨h.1, hk⟩⟩ | exact ⟨_, h, fun K' hk => hk⟩
theorem nilP_det {a : AV} {K : Bool → Prop} (h : nilP a K) : ∃ b, K b ∧ ∀ K' : Bool → Prop, K' b → nilP a K' := by
  cases a <;> simp only [nilP] at h <;> first | exact h.elim | exact ⟨_, h, fun K' hk => hk⟩
theorem s_nil {op : BinOp} {y z : Operand} {ty' : TypeId} (ho : o.op = .binOp op t y z ty') {b : Bool} (h : eqOp op b K)
    (run : ∀ (c : Cx) (a : Act), (∀ y, RV c (x y) (a.eval y)) → (eqGuard op t y z (a.eval y) (a.eval z)).run P c.w = .ok () c.w ∧ (binOp op t (a.eval y) (a.eval z) = (do pure (.bool (← Op.equal t (a.eval y) (a.eval z)))) ∨ op ≠ .eql) ∧ (binOp op t (a.eval y) (a.eval z) = (do pure (.bool (!(← Op.equal t (a.eval y) (a.eval z))))) ∨ op ≠ .neq) ∧ (Op.equal t (a.eval y) (a.eval z)).run P c.w = .ok b c.w) :
    ∃ r, K r ∧ Valid P E.ty o x key m r := by
  cases op <;> simp only [eqOp] at h <;> try exact h.elim
  case eql =>
    refine ⟨_, h, valid_val rfl fun c a _ _ _ hx => ⟨.bool b, ?_, rfl⟩⟩
    obtain ⟨h1, h2, _, h4⟩ := run c a hx
    unfold execOp
    simp only [ho, Sem.run_bind, h1, Result.andThen_ok]
    rw [h2.resolve_right (by simp)]
    simp only [Sem.run_bind, h4, Result.andThen_ok, Sem.run_pure]
  case neq =>
    refine ⟨_, h, valid_val rfl fun c a _ _ _ hx => ⟨.bool (!b), ?_, rfl⟩⟩
    obtain ⟨h1, _, h3, h4⟩ := run c a hx
    unfold execOp
    simp only [ho, Sem.run_bind, h1, Result.andThen_ok]
    rw [h3.resolve_right (by simp)]
    simp only [Sem.run_bind, h4, Result.andThen_ok, Sem.run_pure]
theorem s_nilAny {op : BinOp} {y z : Operand} {ty' : TypeId} (ho : o.op = .binOp op t y z ty') (h : anyOp op K)
    (run : ∀ (c : Cx) (a : Act), (∀ y, RV c (x y) (a.eval y)) → ∃ b, (eqGuard op t y z (a.eval y) (a.eval z)).run P c.w = .ok () c.w ∧ (binOp op t (a.eval y) (a.eval z) = (do pure (.bool (← Op.equal t (a.eval y) (a.eval z)))) ∨ op ≠ .eql) ∧ (binOp op t (a.eval y) (a.eval z) = (do pure (.bool (!(← Op.equal t (a.eval y) (a.eval z))))) ∨ op ≠ .neq) ∧ (Op.equal t (a.eval y) (a.eval z)).run P c.w = .ok b c.w) :
    ∃ r, K r ∧ Valid P E.ty o x key m r := by
  cases op <;> simp only [anyOp] at h <;> try exact h.elim
  case eql =>
    refine ⟨_, h, valid_val rfl fun c a _ _ _ hx => ?_⟩
    obtain ⟨b, h1, h2, _, h4⟩ := run c a hx
    refine ⟨.bool b, ?_, b, rfl⟩
    unfold execOp
    simp only [ho, Sem.run_bind, h1, Result.andThen_ok]
    rw [h2.resolve_right (by simp)]
    simp only [Sem.run_bind, h4, Result.andThen_ok, Sem.run_pure]
  case neq =>
    refine ⟨_, h, valid_val rfl fun c a _ _ _ hx => ?_⟩
    obtain ⟨b, h1, _, h3, h4⟩ := run c a hx
    refine ⟨.bool (!b), ?_, !b, rfl⟩
    unfold execOp
    simp only [ho, Sem.run_bind, h1, Result.andThen_ok]
    rw [h3.resolve_right (by simp)]
    simp only [Sem.run_bind, h4, Result.andThen_ok, Sem.run_pure]
theorem TyOK.sl_is {e : TypeId} (h : TyOK P E.ty t) (he : E.ty t = .sl e) : ∃ e, P.underlying t = some (.slice e) := by
  cases h with
  | sl _ e hu _ _ _ _ => exact ⟨e, hu⟩
  | _ => simp_all
theorem TyOK.pt_of (h : TyOK P E.ty t) (he : E.ty t = .pt) : ∃ e, P.underlying t = some (.pointer e) := by
  cases h with
  | pt _ e hu _ _ => exact ⟨e, hu⟩
  | _ => simp_all
theorem s_binOp (hT : TysOK P E.ty) {op : BinOp} {y z : Operand} {ty' : TypeId} (ho : o.op = .binOp op t y z ty') (h : sem E m key x (.binOp op t y z ty') K) : ∃ r, K r ∧ Valid P E.ty o x key m r := by
  have plain : bin op (x y) (x z) (fun v => K ⟨v, [], []⟩) → ∃ r, K r ∧ Valid P E.ty o x key m r := fun h => by
    obtain ⟨r, h1, h2⟩ := bin_all (P := P) h
    refine ⟨_, h1, valid_val rfl fun c a _ _ _ hx => ?_⟩
    obtain ⟨v, hv, hr⟩ := h2 c c.w t _ _ (hx y) (hx z)
    refine ⟨v, ?_, hr⟩
    obtain ⟨k, n, hkn⟩ := scal_of_bin h c _ (hx y)
    unfold execOp
    simp only [ho, Sem.run_bind, eqGuard_ok (P := P) (t := t) (u := a.eval z) (w := c.w) (.inl ⟨k, n, hkn⟩), Result.andThen_ok, hv, Sem.run_pure]
  simp only [sem, semG] at h
  split at h
  · rename_i s hs
    cases hz : x z <;> rw [hz] at h <;> try exact h.elim
    rename_i b
    obtain ⟨r, h1, h2, _⟩ := run_strOp (P := P) (t := t) (c := ⟨fun _ => False, 0, 0, E.ty, fun _ => none, fun _ => none, fun _ => undef, default, False⟩) (w := default) h
    refine ⟨_, h1, valid_val rfl fun c a _ _ _ hx => ?_⟩
    obtain ⟨r', rfl, _, v, hv, hr⟩ := run_strOp (P := P) (t := t) (c := c) (w := c.w) (h2 (· = r) rfl)
    refine ⟨v, ?_, hr⟩
    have e1 := rv_str (c := c) (hs ▸ hx y)
    have e2 := rv_str (c := c) (hz ▸ hx z)
    unfold execOp
    simp only [ho, Sem.run_bind, eqGuard_ok (P := P) (t := t) (u := a.eval z) (w := c.w) (.inr (.inr ⟨_, e1⟩)), Result.andThen_ok]
    rw [e1, e2, hv]; rfl
  · rename_i u l f hy
    split at h
    · rename_i u' l' g hz
      exact s_binAgg hT ho hy hz h
    · exact h.elim
  · rename_i b hy
    split at h
    · rename_i b' hz hty
      have hu := (hT t (by rw [hty]; simp)).bo_of hty
      cases op <;> simp only [eqOp] at h <;> try exact h.elim
      case eql =>
        refine ⟨_, h, valid_val rfl fun c a _ _ _ hx => ⟨.bool (b == b'), ?_, rfl⟩⟩
        have e1 := rv_bo (c := c) (hy ▸ hx y)
        have e2 := rv_bo (c := c) (hz ▸ hx z)
        unfold execOp
        simp only [ho, Sem.run_bind, eqGuard_ok (P := P) (t := t) (u := a.eval z) (w := c.w) (.inr (.inl ⟨_, e1⟩)), Result.andThen_ok]
        rw [e1, e2]
        simp only [binOp, Sem.run_bind, bool_eq (c := c) hu, Result.andThen_ok, Sem.run_pure]
      case neq =>
        refine ⟨_, h, valid_val rfl fun c a _ _ _ hx => ⟨.bool (!(b == b')), ?_, rfl⟩⟩
        have e1 := rv_bo (c := c) (hy ▸ hx y)
        have e2 := rv_bo (c := c) (hz ▸ hx z)
        unfold execOp
        simp only [ho, Sem.run_bind, eqGuard_ok (P := P) (t := t) (u := a.eval z) (w := c.w) (.inr (.inl ⟨_, e1⟩)), Result.andThen_ok]
        rw [e1, e2]
        simp only [binOp, Sem.run_bind, bool_eq (c := c) hu, Result.andThen_ok, Sem.run_pure]
    · exact h.elim
  · split at h
    · rename_i e hz hty
      obtain ⟨e', hu⟩ := (hT t (by rw [hty]; simp)).sl_is hty
      unfold nilE at h
      split at h
      · rename_i fr et l f hxy
        cases h with
        | none hl h =>
          refine s_nilAny ho h fun c a hx => ?_
          obtain ⟨A, q, e1, _⟩ := rv_imm (c := c) (hxy ▸ hx y)
          have e2 : a.eval z = .slice none 0 0 := by have := hx z; rw [hz] at this; simpa [RV, R] using this
          refine ⟨A.isNone, ?_⟩
          rw [e1, e2]
          refine ⟨eqGuard_sl, ?_, ?_, nil_sl hu⟩
          · cases op <;> first | exact .inl rfl | exact .inr (by simp)
          · cases op <;> first | exact .inl rfl | exact .inr (by simp)
        | some hl h =>
          refine s_nil ho h fun c a hx => ?_
          obtain ⟨A, l', q, e1, hA⟩ := nilS_of (K := (· = false)) (hx y) (by rw [hxy]; exact ⟨hl, rfl⟩)
          have e2 : a.eval z = .slice none 0 0 := by have := hx z; rw [hz] at this; simpa [RV, R] using this
          rw [e1, e2, ← hA]
          refine ⟨eqGuard_sl, ?_, ?_, nil_sl hu⟩
          · cases op <;> first | exact .inl rfl | exact .inr (by simp)
          · cases op <;> first | exact .inl rfl | exact .inr (by simp)
      obtain ⟨b, hb, hall⟩ := nilS_det h
      refine s_nil ho hb fun c a hx => ?_
      obtain ⟨A, l, q, e1, hA⟩ := nilS_of (hx y) (hall (· = b) rfl)
      have e2 : a.eval z = .slice none 0 0 := by have := hx z; rw [hz] at this; simpa [RV, R] using this
      rw [e1, e2, ← hA]
      refine ⟨eqGuard_sl, ?_, ?_, nil_sl hu⟩
      · cases op <;> first | exact .inl rfl | exact .inr (by simp)
      · cases op <;> first | exact .inl rfl | exact .inr (by simp)
    · rename_i hz hty
      obtain ⟨e', hu⟩ := (hT t (by rw [hty]; simp)).pt_of hty
      obtain ⟨b, hb, hall⟩ := nilP_det h
      refine s_nil ho hb fun c a hx => ?_
      obtain ⟨A, e1, hA⟩ := nilP_of (hx y) (hall (· = b) rfl)
      have e2 : a.eval z = .pointer none := by have := hx z; rw [hz] at this; simpa [RV, R] using this
      rw [e1, e2, ← hA]
      refine ⟨eqGuard_pt, ?_, ?_, nil_pt hu⟩
      · cases op <;> first | exact .inl rfl | exact .inr (by simp)
      · cases op <;> first | exact .inl rfl | exact .inr (by simp)
    · exact plain h
end
end Go.Proofs.YtldlleoabbcpdaaDoor
/- Each operation that computes or reads, third part: addresses, parts, loads, slices. -/
namespace Go.Proofs.YtldlleoabbcpdaaDoor
open Go.RowKit
section
variable {P : Program} {E : Pg} {o : Oper} {x : Operand → AV} {key : Nat} {m : Nat → Option Row} {K : Res → Prop} {t : TypeId}

theorem s_nilCheck {y : Operand} (ho : o.op = .nilCheck y) (h : sem E m key x (.nilCheck y) K) : ∃ r, K r ∧ Valid P E.ty o x key m r := by
  have go : ∀ {a : AV}, x y = a → (∀ (c : Cx) (v : Value), RV c a v → ∃ A, v = .pointer A ∧ ∃ ad, A = some ad) → K ⟨a, [], []⟩ → ∃ r, K r ∧ Valid P E.ty o x key m r := fun {a} hy hp hk =>
    ⟨_, hk, valid_val rfl fun c act _ _ _ hx => by
      have h1 := hx y
      rw [hy] at h1
      obtain ⟨A, e, ad, rfl⟩ := hp c _ h1
      exact ⟨act.eval y, by unfold execOp; simp only [ho, e]; rfl, h1⟩⟩
  simp only [sem, semG] at h
  split at h
  · rename_i τ k p hy
    exact go hy (fun c v hv => by obtain ⟨_, _, b, _, _, _, _, rfl⟩ := rv_ptr hv; exact ⟨_, rfl, _, rfl⟩) h
  · rename_i τ e k l i p hy
    exact go hy (fun c v hv => by obtain ⟨_, _, ad, _, _, rfl, _⟩ := rv_gpt hv; exact ⟨_, rfl, _, rfl⟩) h
  · rename_i τ a hy
    exact go hy (fun c v hv => by obtain ⟨b, o, ds, rfl, _⟩ := rv_ipt hv; exact ⟨_, rfl, _, rfl⟩) h
  · exact h.elim
theorem run_fieldAt' {fs : Array Field} {i : Nat} (h : i < fs.size) (hu : P.underlying t = some (.struct fs)) {ty : TypeId → Ty} (hf : TyOK P ty fs[i].type) (h0 : 0 < (ty fs[i].type).size) (w : World) (ad : Addr) :
    (Instr.fieldAt t (.pointer (some ad)) i).run P w = .ok (.pointer (some (ad.add fs[i].offset))) w := by
  have e : fs[i]? = some fs[i] := Array.getElem?_eq_getElem h
  have h1 : ¬ (ty fs[i].type).size = 0 := by omega
  simp [Instr.fieldAt, run_underlying hu, e, Instr.sureAddr, fieldPlace, run_sizeOf' hf, h1]
theorem run_indexAt_arr {n : Nat} {e : TypeId} {ty : TypeId → Ty} (hu : P.underlying t = some (.array n e)) (he : TyOK P ty e) {k : IntKind} {j : Nat} (hj : j < n) (w : World) (ad : Addr) :
    (Instr.indexAt t (.pointer (some ad)) (.int k (j : Int))).run P w = .ok (.pointer (some (ad.add (j * (ty e).size)))) w := by
  have hc : (0 : Int) ≤ (j : Int) ∧ (j : Int) < (n : Int) := by omega
  simp [Instr.indexAt, asIntOf, run_underlying hu, Instr.sureAddr, hc, run_sizeOf' he]
  omega
theorem run_indexAt_sl {l q : Nat} {e : TypeId} {ty : TypeId → Ty} (hu : P.underlying t = some (.slice e)) (he : TyOK P ty e) {k : IntKind} {j : Nat} (hj : j < l) (w : World) (ad : Addr) :
    (Instr.indexAt t (.slice (some ad) l q) (.int k (j : Int))).run P w = .ok (.pointer (some (ad.add (j * (ty e).size)))) w := by
  have hc : (0 : Int) ≤ (j : Int) ∧ (j : Int) < (l : Int) := by omega
  simp [Instr.indexAt, asIntOf, run_underlying hu, hc, run_sizeOf' he]
  omega
theorem s_fieldAddr (hT : TysOK P E.ty) {y : Operand} {i : Nat} (ho : o.op = .fieldAddr t y i) (h : sem E m key x (.fieldAddr t y i) K) : ∃ r, K r ∧ Valid P E.ty o x key m r := by
  simp only [sem, semG] at h
  split at h
  · rename_i n f hty
    obtain ⟨hi, h⟩ := h
    obtain ⟨fs, hu, hn, hfs⟩ := (hT t (by rw [hty]; simp)).st_of hty
    have hi' : i < fs.size := by omega
    obtain ⟨hf, e1, e2, e3⟩ := hfs i hi'
    have e4 : 0 < (E.ty fs[i].type).size := by rw [← e1]; exact e3
    split at h
    · rename_i τ' k p hy
      obtain ⟨rfl, h⟩ := h
      refine ⟨_, h, valid_val rfl fun c a _ _ _ hx => ?_⟩
      have h1 := hx y
      rw [hy] at h1
      obtain ⟨τ₀, av, b, hm, hb, hp, hat, ev⟩ := rv_ptr h1
      refine ⟨.pointer (some ⟨b, τ₀.off p + fs[i].offset, none⟩), ?_, ?_⟩
      · unfold execOp
        simp only [ho, ev, Sem.run_bind, run_fieldAt' hi' hu hf e4, Result.andThen_ok, Sem.run_pure, Addr.add_mid]
      · refine ⟨τ₀, av, b, hm, hb, inP_append p τ₀ [i] hp ?_, ?_, ?_⟩
        · rw [hat, inP_agg]; exact ⟨hi, inP_nil _⟩
        · rw [at_append p τ₀ [i] hp, hat, at_one]; rfl
        · rw [off_append p τ₀ [i] hp, hat, off_one, e2]; rfl
    · rename_i τ' e k l j p hy
      obtain ⟨rfl, h⟩ := h
      refine ⟨_, h, valid_val rfl fun c a hty' _ _ hx => ?_⟩
      have h1 := hx y
      rw [hy] at h1
      obtain ⟨n', f', ad, hm, hl, ev, hcur⟩ := rv_gpt h1
      refine ⟨.pointer (some (ad.add fs[i].offset)), ?_, ?_⟩
      · unfold execOp
        simp only [ho, ev, Sem.run_bind, run_fieldAt' hi' hu hf e4, Result.andThen_ok, Sem.run_pure]
      · refine ⟨n', f', _, hm, hl, rfl, fun h => ?_⟩
        obtain ⟨hj, hp, hat, b, hb, rfl⟩ := hcur h
        refine ⟨hj, inP_append p _ [i] hp (by rw [hat, inP_agg]; exact ⟨hi, inP_nil _⟩), ?_, b, hb, ?_⟩
        · rw [at_append p _ [i] hp, hat, at_one]; rfl
        · rw [Addr.add_mid, off_append p _ [i] hp, hat, off_one, e2, Nat.add_assoc]; rfl
    · rename_i τ' u l g hy
      obtain ⟨rfl, h⟩ := h
      refine ⟨_, h, valid_val rfl fun c a _ _ _ hx => ?_⟩
      have h1 := hx y
      rw [hy] at h1
      obtain ⟨b, ofs, ds, ev, hlt, hmu, hr, hs, hrg⟩ := rv_ipt h1
      refine ⟨.pointer (some ⟨b, ofs + fs[i].offset, none⟩), ?_, ?_⟩
      · unfold execOp
        simp only [ho, ev, Sem.run_bind, run_fieldAt' hi' hu hf e4, Result.andThen_ok, Sem.run_pure, Addr.add_mid]
      · obtain ⟨hs2, pre, post, es, hcut, hpl, hre⟩ := R_at [i] hr hs (by rw [inP_agg]; exact ⟨hi, inP_nil _⟩)
        rw [at_one] at hs2
        rw [off_one] at hpl
        have hav : (AV.agg u l g).at [i] = g i := by show (g i).at [] = g i; exact avat_nil _
        rw [hav] at hre hs2
        refine ⟨b, ofs + fs[i].offset, es, rfl, hlt, hmu, hre, hs2, fun j v hj => ?_⟩
        have := hrg (pre.length + j) v (by rw [hcut, List.append_assoc, List.getElem?_append_right (by omega), Nat.add_sub_cancel_left, List.getElem?_append_left (List.getElem?_eq_some_iff.1 hj).1]; exact hj)
        rw [e2, Nat.add_assoc]
        rw [hpl] at this
        exact this
    · exact h.elim
  · exact h.elim
theorem s_indexAddr (hT : TysOK P E.ty) {y z : Operand} (ho : o.op = .indexAddr t y z) (h : sem E m key x (.indexAddr t y z) K) : ∃ r, K r ∧ Valid P E.ty o x key m r := by
  simp only [sem, semG] at h
  obtain ⟨j, h, hidx⟩ := idx_all h
  split at h
  · rename_i n f hty
    obtain ⟨hj, h⟩ := h
    obtain ⟨e, hu, he, h0, rfl⟩ := (hT t (by rw [hty]; simp)).arr_of hty
    have hone : (Ty.agg true n fun _ => E.ty e).off [j] = j * (E.ty e).size := by
      rw [off_one]; exact sumN_const (E.ty e).size j
    split at h
    · rename_i τ' k p hy
      obtain ⟨rfl, h⟩ := h
      refine ⟨_, h, valid_val rfl fun c a _ _ _ hx => ?_⟩
      have h1 := hx y
      rw [hy] at h1
      obtain ⟨q, ez⟩ := hidx c _ (hx z)
      obtain ⟨τ₀, av, b, hm, hb, hp, hat, ev⟩ := rv_ptr h1
      refine ⟨.pointer (some ⟨b, τ₀.off p + j * (E.ty e).size, none⟩), ?_, ?_⟩
      · unfold execOp
        simp only [ho, ev, ez, Sem.run_bind, run_indexAt_arr hu he hj, Result.andThen_ok, Sem.run_pure, Addr.add_mid]
      · refine ⟨τ₀, av, b, hm, hb, inP_append p τ₀ [j] hp ?_, ?_, ?_⟩
        · rw [hat, inP_agg]; exact ⟨hj, inP_nil _⟩
        · rw [at_append p τ₀ [j] hp, hat, at_one]; rfl
        · rw [off_append p τ₀ [j] hp, hat, hone]
    · rename_i τ' e' k l q' p hy
      obtain ⟨rfl, h⟩ := h
      refine ⟨_, h, valid_val rfl fun c a _ _ _ hx => ?_⟩
      have h1 := hx y
      rw [hy] at h1
      obtain ⟨q, ez⟩ := hidx c _ (hx z)
      obtain ⟨n', f', ad, hm, hl, ev, hcur⟩ := rv_gpt h1
      refine ⟨.pointer (some (ad.add (j * (E.ty e).size))), ?_, ?_⟩
      · unfold execOp
        simp only [ho, ev, ez, Sem.run_bind, run_indexAt_arr hu he hj, Result.andThen_ok, Sem.run_pure]
      · refine ⟨n', f', _, hm, hl, rfl, fun h => ?_⟩
        obtain ⟨hj', hp, hat, b, hb, rfl⟩ := hcur h
        refine ⟨hj', inP_append p _ [j] hp (by rw [hat, inP_agg]; exact ⟨hj, inP_nil _⟩), ?_, b, hb, ?_⟩
        · rw [at_append p _ [j] hp, hat, at_one]; rfl
        · rw [Addr.add_mid, off_append p _ [j] hp, hat, hone, Nat.add_assoc]
    · rename_i τ' u l g hy
      obtain ⟨rfl, h⟩ := h
      refine ⟨_, h, valid_val rfl fun c a _ _ _ hx => ?_⟩
      have h1 := hx y
      rw [hy] at h1
      obtain ⟨q, ez⟩ := hidx c _ (hx z)
      obtain ⟨b, ofs, ds, ev, hlt, hmu, hr, hs, hrg⟩ := rv_ipt h1
      refine ⟨.pointer (some ⟨b, ofs + j * (E.ty e).size, none⟩), ?_, ?_⟩
      · unfold execOp
        simp only [ho, ev, ez, Sem.run_bind, run_indexAt_arr hu he hj, Result.andThen_ok, Sem.run_pure, Addr.add_mid]
      · obtain ⟨hs2, pre, post, es, hcut, hpl, hre⟩ := R_at [j] hr hs (by rw [inP_agg]; exact ⟨hj, inP_nil _⟩)
        rw [at_one] at hs2
        rw [hone] at hpl
        have hav : (AV.agg u l g).at [j] = g j := by show (g j).at [] = g j; exact avat_nil _
        rw [hav] at hre hs2
        refine ⟨b, ofs + j * (E.ty e).size, es, rfl, hlt, hmu, hre, hs2, fun i v hi => ?_⟩
        have := hrg (pre.length + i) v (by rw [hcut, List.append_assoc, List.getElem?_append_right (by omega), Nat.add_sub_cancel_left, List.getElem?_append_left (List.getElem?_eq_some_iff.1 hi).1]; exact hi)
        rw [Nat.add_assoc]
        rw [hpl] at this
        exact this
    · exact h.elim
  · rename_i e hty
    obtain ⟨hu, he, h0⟩ := (hT t (by rw [hty]; simp)).sl_of hty
    split at h
    · rename_i fr et l f hy
      obtain ⟨rfl, hj, h⟩ := h
      refine ⟨_, h, valid_val rfl fun c a _ _ _ hx => ?_⟩
      have h1 := hx y
      rw [hy] at h1
      obtain ⟨q, ez⟩ := hidx c _ (hx z)
      obtain ⟨A, cap, ev, hle, hmx, hA⟩ := rv_imm h1
      obtain ⟨b, ofs, rfl, hlt, hmu, hfr, hi⟩ := hA (by omega)
      obtain ⟨hs, ds, hr, hrg⟩ := hi j hj
      refine ⟨.pointer (some ⟨b, ofs + j * (E.ty e).size, none⟩), ?_, b, _, ds, rfl, hlt, hmu, hr, hs, hrg⟩
      unfold execOp
      simp only [ho, ev, ez, Sem.run_bind, run_indexAt_sl hu he hj, Result.andThen_ok, Sem.run_pure, Addr.add_mid]
    · rename_i e' k l hy
      obtain ⟨rfl, hj, h⟩ := h
      refine ⟨_, h, valid_val rfl fun c a hty' hmem _ hx => ?_⟩
      have h1 := hx y
      rw [hy] at h1
      obtain ⟨q, ez⟩ := hidx c _ (hx z)
      obtain ⟨n, f, A, cap, hm, hl, ev, _, _, hA, hcur⟩ := rv_gsl h1
      obtain ⟨ad, rfl⟩ := hA (by omega)
      refine ⟨.pointer (some (ad.add (j * (E.ty e').size))), ?_, n, f, _, hm, hl, rfl, fun hn => ?_⟩
      · unfold execOp
        simp only [ho, ev, ez, Sem.run_bind, run_indexAt_sl hu he hj, Result.andThen_ok, Sem.run_pure]
      · have hrow := hmem.rows k _ hm
        obtain ⟨g, hown, hbl, _⟩ := hrow
        rw [hcur hn] at hown hbl
        obtain ⟨_, hno | ⟨gb, cp, cur, hv, hbase, hheap, _⟩⟩ := hown
        · simp at hno
        · injection hv with e1 e2 e3
          injection e1 with e1
          subst e1
          rw [hty']
          refine ⟨hj, inP_nil _, at_nil _, gb, hbl.symm, ?_⟩
          rw [Addr.add_mid, off_nil]; simp
    · rename_i e' k al ofs l hy
      obtain ⟨rfl, hj, h⟩ := h
      refine ⟨_, h, valid_val rfl fun c a hty' hmem _ hx => ?_⟩
      have h1 := hx y
      rw [hy] at h1
      obtain ⟨q, ez⟩ := hidx c _ (hx z)
      obtain ⟨n, f, A, cap, hm, hl, ev, hle, hmx, hol, hA⟩ := rv_gsub h1
      obtain ⟨ad, rfl, hcur⟩ := hA (by omega)
      refine ⟨.pointer (some (ad.add (j * (E.ty e').size))), ?_, n, f, _, hm, hl, rfl, fun hn => ?_⟩
      · unfold execOp
        simp only [ho, ev, ez, Sem.run_bind, run_indexAt_sl hu he hj, Result.andThen_ok, Sem.run_pure]
      · obtain ⟨b, hb, rfl⟩ := hcur hn
        rw [hty'] at *
        refine ⟨by omega, inP_nil _, at_nil _, b, hb, ?_⟩
        rw [Addr.add_mid, off_nil, Nat.add_zero, Nat.add_mul]
    · rename_i et k p ofs l hy
      obtain ⟨rfl, hj, h⟩ := h
      refine ⟨_, h, valid_val rfl fun c a hty' hmem _ hx => ?_⟩
      have h1 := hx y
      rw [hy] at h1
      obtain ⟨q, ez⟩ := hidx c _ (hx z)
      obtain ⟨τ, av, b, n, g, A, cap, hm, hb, hp, hat, hg, hol, ev, hle, hmx, hA⟩ := rv_sub h1
      have hA := hA (by omega)
      subst hA
      refine ⟨.pointer (some ⟨b, τ.off p + ofs * (E.ty e).size + j * (E.ty e).size, none⟩), ?_, ?_⟩
      · unfold execOp
        simp only [ho, ev, ez, Sem.run_bind, run_indexAt_sl hu he hj, Result.andThen_ok, Sem.run_pure, Addr.add_mid]
      · refine ⟨τ, av, b, hm, hb, inP_append p τ [ofs + j] hp ?_, ?_, ?_⟩
        · rw [hat, inP_agg]; exact ⟨by omega, inP_nil _⟩
        · rw [at_append p τ [ofs + j] hp, hat, at_one]; exact hg
        · rw [off_append p τ [ofs + j] hp, hat, off_one]
          have : sumN (fun i => (el true g i).size) (ofs + j) = (ofs + j) * (E.ty e).size := by
            rw [← hg]; exact sumN_const (g 0).size _
          rw [this, Nat.add_mul, Nat.add_assoc]
    · exact h.elim
  · exact h.elim
end
end Go.Proofs.YtldlleoabbcpdaaDoor
/- Each operation that computes or reads, last part: parts of values, loads, slices, lengths. -/
namespace Go.Proofs.YtldlleoabbcpdaaDoor
open Go.RowKit
section
variable {P : Program} {E : Pg} {o : Oper} {x : Operand → AV} {key : Nat} {m : Nat → Option Row} {K : Res → Prop} {t : TypeId}
theorem s_field (hT : TysOK P E.ty) {y : Operand} {i : Nat} (ho : o.op = .field t y i) (h : sem E m key x (.field t y i) K) : ∃ r, K r ∧ Valid P E.ty o x key m r := by
  simp only [sem, semG] at h
  split at h
  · rename_i n f hty
    obtain ⟨fs, hu, hn, hfs⟩ := (hT t (by rw [hty]; simp)).st_of hty
    split at h
    · rename_i u l g hy
      obtain ⟨⟨hu', hl', hs⟩, hi, h⟩ := h
      subst hu'; subst hl'
      have hi' : i < fs.size := by omega
      obtain ⟨hf, e1, e2, e3⟩ := hfs i hi'
      refine ⟨_, h, valid_val rfl fun c a _ _ _ hx => ?_⟩
      have h1 := hx y
      rw [hy] at h1
      obtain ⟨cs, ev, gg, hgg, rfl⟩ := h1
      obtain ⟨post, hp⟩ := fm_at gg hi
      have hlen : ((List.range i).flatMap gg).length = fs[i].offset := by
        rw [fm_len, e2]; exact sumN_congr i (fun j hj => R_len (hgg j (by omega)) (hs j (by omega)))
      have hsi : Sh (E.ty fs[i].type) (g i) := by rw [← e1]; exact hs i hi
      have e : fs[i]? = some fs[i] := Array.getElem?_eq_getElem hi'
      refine ⟨valOf (E.ty fs[i].type) (gg i), ?_, rv_of_R hsi (hgg i hi)⟩
      unfold execOp
      have hpart := run_part' (P := P) (w := c.w) hf (cs := ((List.range n).flatMap gg).toArray) (by simpa using hp) (hgg i hi) hsi
      rw [hlen] at hpart
      simp [ho, ev, Instr.field, run_underlying hu, e, asAgg, hpart]
    · exact h.elim
  · exact h.elim
theorem run_index_arr {n : Nat} {e : TypeId} {ty : TypeId → Ty} (hu : P.underlying t = some (.array n e)) (he : TyOK P ty e) {k : IntKind} {j : Nat} (hj : j < n) (w : World) (cs : Array Value) :
    (Instr.index t (.agg cs) (.int k (j : Int))).run P w = (part e cs (j * (ty e).size)).run P w := by
  have hc : (0 : Int) ≤ (j : Int) ∧ (j : Int) < (n : Int) := by omega
  simp [Instr.index, asIntOf, run_underlying hu, hc, run_sizeOf' he]
  intro hh; omega
theorem s_index (hT : TysOK P E.ty) {y z : Operand} (ho : o.op = .index t y z) (h : sem E m key x (.index t y z) K) : ∃ r, K r ∧ Valid P E.ty o x key m r := by
  simp only [sem, semG] at h
  obtain ⟨j, h, hidx⟩ := idx_all h
  split at h
  · rename_i n f hty
    obtain ⟨e, hu, he, h0, rfl⟩ := (hT t (by rw [hty]; simp)).arr_of hty
    split at h
    · rename_i u l g hy
      obtain ⟨⟨hu', hl', hs⟩, hj, h⟩ := h
      subst hu'; subst hl'
      refine ⟨_, h, valid_val rfl fun c a _ _ _ hx => ?_⟩
      have h1 := hx y
      rw [hy] at h1
      obtain ⟨q, ez⟩ := hidx c _ (hx z)
      obtain ⟨cs, ev, gg, hgg, rfl⟩ := h1
      obtain ⟨post, hp⟩ := fm_at gg hj
      have hlen : ((List.range j).flatMap gg).length = j * (E.ty e).size := by
        rw [fm_len, ← sumN_const]; exact sumN_congr j (fun i hi => R_len (hgg i (by omega)) (hs i (by omega)))
      have hpart := run_part' (P := P) (w := c.w) he (cs := ((List.range n).flatMap gg).toArray) (by simpa using hp) (hgg j hj) (hs j hj)
      rw [hlen] at hpart
      refine ⟨valOf (E.ty e) (gg j), ?_, rv_of_R (hs j hj) (hgg j hj)⟩
      unfold execOp
      simp only [ho, ev, ez, Sem.run_bind, run_index_arr hu he hj, hpart, Result.andThen_ok, Sem.run_pure]
    · exact h.elim
  · rename_i hty
    have hu := (hT t (by rw [hty]; simp)).str_of hty
    split at h
    · rename_i s hy
      obtain ⟨hj, h⟩ := h
      refine ⟨_, h, valid_val rfl fun c a _ _ _ hx => ?_⟩
      have h1 := hx y
      rw [hy] at h1
      obtain ⟨q, ez⟩ := hidx c _ (hx z)
      have ev := rv_str h1
      refine ⟨.int .u8 ((s.getD j 0).toNat : Int), ?_, ?_⟩
      · unfold execOp
        have hget : (⟨s.toArray⟩ : ByteArray)[j]? = some (s.getD j 0) := by
          have hsz : j < (⟨s.toArray⟩ : ByteArray).size := by simpa [ByteArray.size] using hj
          rw [getElem?_pos (⟨s.toArray⟩ : ByteArray) j hsz]
          show some (s.toArray[j]) = _
          simp [hj]
        have hc : (0 : Int) ≤ (j : Int) := by omega
        simp [ho, ev, ez, Instr.index, asIntOf, run_underlying hu, hc, hget]
      · show [_] = [_]
        congr 2
        unfold U8; rw [BitVec.toNat_ofNat]
        have := (s.getD j 0).toNat_lt
        omega
    · exact h.elim
  · exact h.elim
theorem s_extract {y : Operand} {i : Nat} (ho : o.op = .extract y i) (h : sem E m key x (.extract y i) K) : ∃ r, K r ∧ Valid P E.ty o x key m r := by
  simp only [sem, semG] at h
  split at h
  · rename_i l f hy
    obtain ⟨hi, h⟩ := h
    refine ⟨_, h, valid_val rfl fun c a _ _ _ hx => ?_⟩
    have h1 := hx y
    rw [hy] at h1
    obtain ⟨vs, g, ev, hsz, hg⟩ := h1
    obtain ⟨hr, v, hv, hm⟩ := hg i hi
    have ev : a.eval y = .tuple vs := by simpa using ev
    refine ⟨v, ?_, ?_⟩
    · unfold execOp
      simp [ho, ev, Instr.extract, hv]
    · show RV c (f i) v
      cases hf : f i with
      | agg u n q =>
        rw [hf] at hm hr
        simp only [] at hm
        exact ⟨g i, hm, hr⟩
      | junk => trivial
      | _ => rw [hf] at hm hr; simp only [] at hm; rw [hm] at hr; exact hr
  · exact h.elim
theorem range_of_block {w : World} {b : Nat} {cs : Array Value} {t : TypeId} {fr : Nat × Nat} {pre ds post : List Value} (h : w.heap[b]? = some (.cells cs t fr)) (hc : cs.toList = pre ++ ds ++ post) : w.rangeAt b pre.length ds := fun j v hj => by
  rw [cell_of_row w b _ cs t fr h, ← Array.getElem?_toList, hc, List.append_assoc, List.getElem?_append_right (by omega), Nat.add_sub_cancel_left, List.getElem?_append_left (List.getElem?_eq_some_iff.1 hj).1]
  exact hj
/-- What a row of a slice holds. -/
theorem grow_parts {c : Cx} {k e n : Nat} {f : Nat → AV} (h : RowOK c k (.grow e n f)) (hn : 0 < n) : ∃ b cap cur, c.bl k = some b ∧ c.sv k = .slice (some ⟨b, 0, none⟩) n cap ∧ c.base ≤ b ∧ n ≤ cap ∧ cap ≤ maxLen ∧ c.w.heap[b]? = some (.cells cur e (0, 0)) ∧
    cur.size = cap * (c.ty e).size ∧ ∀ i, i < n → Sh (c.ty e) (f i) ∧ ∃ pre ds post, cur.toList = pre ++ ds ++ post ∧ pre.length = i * (c.ty e).size ∧ R c (f i) ds := by
  obtain ⟨g, ⟨hlen, hno | ⟨b, cap, cur, hv, hb, hh, h1, h2, h3, h4⟩⟩, hbl, hg⟩ := h
  · exact absurd hno.2 (by omega)
  · refine ⟨b, cap, cur, by rw [← hbl, hv]; rfl, hv, hb, h1, h2, hh, h3, fun i hi => ?_⟩
    obtain ⟨post, hp⟩ := fm_at g hi
    refine ⟨(hg i hi).2, (List.range i).flatMap g, g i, post ++ cur.toList.drop (n * (c.ty e).size), ?_, ?_, (hg i hi).1⟩
    · rw [← List.append_assoc, ← hp, ← h4, List.take_append_drop]
    · rw [fm_len, ← sumN_const]; exact sumN_congr i (fun j hj => R_len (hg j (by omega)).1 (hg j (by omega)).2)
theorem range_fm {w : World} {b o s : Nat} {g : Nat → List Value} : ∀ (n : Nat), (∀ i, i < n → w.rangeAt b (o + i * s) (g i) ∧ (g i).length = s) → w.rangeAt b o ((List.range n).flatMap g)
  | 0, _ => fun j v hj => by simp at hj
  | n + 1, h => by
    have ih := range_fm n (fun i hi => h i (by omega))
    have hl : ((List.range n).flatMap g).length = n * s := by
      rw [fm_len, ← sumN_const]; exact sumN_congr n (fun i hi => (h i (by omega)).2)
    intro j v hj
    rw [fm_succ] at hj
    rcases Nat.lt_or_ge j (n * s) with hlt | hge
    · rw [List.getElem?_append_left (by omega)] at hj
      exact ih j v hj
    · rw [List.getElem?_append_right (by omega), hl] at hj
      have := (h n (by omega)).1 _ v hj
      rw [show o + j = o + n * s + (j - n * s) by omega]
      exact this
theorem s_load (hT : TysOK P E.ty) {y : Operand} (ho : o.op = .load t y) (h : sem E m key x (.load t y) K) : ∃ r, K r ∧ Valid P E.ty o x key m r := by
  simp only [sem, semG] at h
  obtain ⟨ht, h⟩ := okT_of h
  have htt := hT t ht
  split at h
  · rename_i τ' k p hy
    split at h
    · rename_i τ a hmk
      obtain ⟨rfl, h⟩ := h
      refine ⟨_, h, valid_val rfl fun c act _ hmem hrd hx => ?_⟩
      have h1 := hx y
      rw [hy] at h1
      obtain ⟨τ₀, av, b, hm, hb, hp, hat, ev⟩ := rv_ptr h1
      rw [hrd k (by simp), hmk] at hm
      injection hm with hm
      injection hm with e1 e2
      subst e1; subst e2
      obtain ⟨b', cs, t', hb', hh, hr, hs⟩ := hmem.rows k _ ((hrd k (by simp)).trans hmk)
      rw [hb] at hb'; injection hb' with hb'; subst hb'
      obtain ⟨hs2, pre, post, ds, hcut, hpl, hr2⟩ := R_at p hr hs hp
      rw [hat] at hs2
      have hrg := range_of_block hh hcut
      rw [hpl] at hrg
      refine ⟨valOf (E.ty t) ds, ?_, rv_of_R hs2 hr2⟩
      unfold execOp
      simp only [ho, ev, Instr.loadAt, Instr.sureAddr, Sem.run_bind, Sem.run_pure, Result.andThen_ok, run_loadVar' htt hrg hr2 hs2]
    · exact h.elim
  · rename_i τ' e k l i p hy
    split at h
    · rename_i e' l' f hmk
      obtain ⟨rfl, rfl, h⟩ := h
      refine ⟨_, h, valid_val rfl fun c act hty' hmem hrd hx => ?_⟩
      have h1 := hx y
      rw [hy] at h1
      obtain ⟨n', f', ad, hm, hl, ev, hcur⟩ := rv_gpt h1
      rw [hrd k (by simp), hmk] at hm
      injection hm with hm
      injection hm with e1 e2 e3
      subst e1; subst e2; subst e3
      obtain ⟨hi, hp, hat, b, hb, rfl⟩ := hcur rfl
      obtain ⟨b', cap, cur, hb', _, _, _, _, hh, _, hrow⟩ := grow_parts (hmem.rows k _ ((hrd k (by simp)).trans hmk)) (by omega)
      rw [hb] at hb'; injection hb' with hb'; subst hb'
      obtain ⟨hs, pre, ds, post, hcut, hpl, hr⟩ := hrow i hi
      obtain ⟨hs2, pre2, post2, es, hcut2, hpl2, hr2⟩ := R_at p hr hs hp
      rw [hat] at hs2
      have hrg := range_of_block (pre := pre ++ pre2) (ds := es) (post := post2 ++ post) hh (by rw [hcut, hcut2]; simp)
      rw [List.length_append, hpl, hpl2] at hrg
      refine ⟨valOf (E.ty t) es, ?_, rv_of_R hs2 hr2⟩
      unfold execOp
      simp only [ho, ev, Instr.loadAt, Instr.sureAddr, Sem.run_bind, Sem.run_pure, Result.andThen_ok, run_loadVar' htt hrg hr2 hs2]
    · exact h.elim
  · rename_i τ a hy
    obtain ⟨rfl, h⟩ := h
    refine ⟨_, h, valid_val rfl fun c act _ hmem hrd hx => ?_⟩
    have h1 := hx y
    rw [hy] at h1
    obtain ⟨b, ofs, ds, ev, hlt, hmu, hr, hs, hrg⟩ := rv_ipt h1
    refine ⟨valOf (E.ty t) ds, ?_, rv_of_R hs hr⟩
    unfold execOp
    simp only [ho, ev, Instr.loadAt, Instr.sureAddr, Sem.run_bind, Sem.run_pure, Result.andThen_ok, run_loadVar' htt hrg hr hs]
  · rename_i et k p ofs n hy
    split at h
    · rename_i τ a hmk
      split at h
      · rename_i n' g hty
        obtain ⟨rfl, hg, h⟩ := h
        refine ⟨_, h, valid_val rfl fun c act _ hmem hrd hx => ?_⟩
        have h1 := hx y
        rw [hy] at h1
        obtain ⟨τ₀, av, b, N, g', hm, hb, hp, hat, hg', hol, ev⟩ := rv_spt h1
        rw [hrd k (by simp), hmk] at hm
        injection hm with hm
        injection hm with e1 e2
        subst e1; subst e2
        obtain ⟨b', cs, t', hb', hh, hr, hs⟩ := hmem.rows k _ ((hrd k (by simp)).trans hmk)
        rw [hb] at hb'; injection hb' with hb'; subst hb'
        have this : ∀ i, ∃ ds, i < n' → Sh et (a.at (p ++ [ofs + i])) ∧ R c (a.at (p ++ [ofs + i])) ds ∧ c.w.rangeAt b (τ.off p + ofs * et.size + i * et.size) ds := fun i => by
          by_cases hi : i < n'
          · have hpath : τ.inP (p ++ [ofs + i]) := inP_append p τ _ hp (by rw [hat, inP_agg]; exact ⟨by omega, inP_nil _⟩)
            obtain ⟨hs2, pre, post, ds, hcut, hpl, hr2⟩ := R_at _ hr hs hpath
            rw [at_append p τ _ hp, hat, at_one] at hs2
            refine ⟨ds, fun _ => ⟨by rw [← hg']; exact hs2, hr2, ?_⟩⟩
            have hoff : τ.off (p ++ [ofs + i]) = τ.off p + ofs * et.size + i * et.size := by
              rw [off_append p τ _ hp, hat, off_one, Nat.add_assoc, ← Nat.add_mul, ← hg']
              congr 1; exact sumN_const (g' 0).size _
            rw [← hoff, ← hpl]; exact range_of_block hh hcut
          · exact ⟨[], fun h => absurd h hi⟩
        have hrg : c.w.rangeAt b (τ.off p + ofs * et.size) ((List.range n').flatMap fun i => (this i).choose) := range_fm n' fun i hi => ⟨((this i).choose_spec hi).2.2, R_len ((this i).choose_spec hi).2.1 ((this i).choose_spec hi).1⟩
        have hs3 : Sh (E.ty t) (.agg true n' fun i => a.at (p ++ [ofs + i])) := by
          rw [hty]
          exact ⟨rfl, rfl, fun i hi => by show Sh (g 0) _; rw [hg]; exact ((this i).choose_spec hi).1⟩
        have hr3 : R c (.agg true n' fun i => a.at (p ++ [ofs + i])) ((List.range n').flatMap fun i => (this i).choose) := ⟨_, fun i hi => ((this i).choose_spec hi).2.1, rfl⟩
        refine ⟨valOf (E.ty t) _, ?_, rv_of_R hs3 hr3⟩
        unfold execOp
        simp only [ho, ev, Instr.loadAt, Instr.sureAddr, Sem.run_bind, Sem.run_pure, Result.andThen_ok, run_loadVar' htt hrg hr3 hs3]
      · exact h.elim
    · exact h.elim
  · rename_i e k l ofs n hy
    split at h
    · rename_i e' l' f hmk
      split at h
      · rename_i n' g hty
        obtain ⟨rfl, rfl, hg, h⟩ := h
        refine ⟨_, h, valid_val rfl fun c act hty' hmem hrd hx => ?_⟩
        have h1 := hx y
        rw [hy] at h1
        obtain ⟨n0, f', ad, hm, hl, ev, hcur⟩ := rv_gspt h1
        rw [hrd k (by simp), hmk] at hm
        injection hm with hm
        injection hm with e1 e2 e3
        subst e1; subst e2; subst e3
        obtain ⟨h0, hol, b, hb, rfl⟩ := hcur rfl
        obtain ⟨b', cap, cur, hb', _, _, _, _, hh, _, hrow⟩ := grow_parts (hmem.rows k _ ((hrd k (by simp)).trans hmk)) (by omega)
        rw [hb] at hb'; injection hb' with hb'; subst hb'
        have hE : c.ty e' = E.ty e' := by rw [hty']
        have this : ∀ i, ∃ ds, i < n' → Sh (E.ty e') (f (ofs + i)) ∧ R c (f (ofs + i)) ds ∧ c.w.rangeAt b (ofs * (E.ty e').size + i * (E.ty e').size) ds := fun i => by
          by_cases hi : i < n'
          · obtain ⟨hs, pre, ds, post, hcut, hpl, hr⟩ := hrow (ofs + i) (by omega)
            rw [hE] at hs hpl
            refine ⟨ds, fun _ => ⟨hs, hr, ?_⟩⟩
            rw [← Nat.add_mul, ← hpl]
            exact range_of_block hh hcut
          · exact ⟨[], fun h => absurd h hi⟩
        have hrg : c.w.rangeAt b (ofs * (E.ty e').size) ((List.range n').flatMap fun i => (this i).choose) := range_fm n' fun i hi => ⟨((this i).choose_spec hi).2.2, R_len ((this i).choose_spec hi).2.1 ((this i).choose_spec hi).1⟩
        have hs3 : Sh (E.ty t) (.agg true n' fun i => f (ofs + i)) := by
          rw [hty]
          exact ⟨rfl, rfl, fun i hi => by show Sh (g 0) _; rw [hg]; exact ((this i).choose_spec hi).1⟩
        have hr3 : R c (.agg true n' fun i => f (ofs + i)) ((List.range n').flatMap fun i => (this i).choose) := ⟨_, fun i hi => ((this i).choose_spec hi).2.1, rfl⟩
        refine ⟨valOf (E.ty t) _, ?_, rv_of_R hs3 hr3⟩
        rw [hE] at ev
        unfold execOp
        simp only [ho, ev, Instr.loadAt, Instr.sureAddr, Sem.run_bind, Sem.run_pure, Result.andThen_ok, run_loadVar' htt hrg hr3 hs3]
      · exact h.elim
    · exact h.elim
  · exact h.elim
end
end Go.Proofs.YtldlleoabbcpdaaDoor
/- Slices of slices, of arrays and of texts; lengths; the lesser and the greater. -/
namespace Go.Proofs.YtldlleoabbcpdaaDoor
open Go.RowKit
section
variable {P : Program} {E : Pg} {o : Oper} {x : Operand → AV} {key : Nat} {m : Nat → Option Row} {K : Res → Prop} {t : TypeId}
theorem bounds_all {lo hi : Option Operand} {B : Nat} {Q : Nat → Nat → Prop} (h : idxO (lo.map x) 0 fun l => idxO (hi.map x) B fun h => Q l h) :
    ∃ l h, Q l h ∧ ∀ (c : Cx) (a : Act) (w : World) (s : Bool) (cap : Nat), (∀ y, RV c (x y) (a.eval y)) → l ≤ h → h ≤ B → B ≤ cap → (Instr.sliceBounds s B cap (lo.map a.eval) (hi.map a.eval) none).run P w = .ok (l, h, cap) w := by
  have one : ∀ {q : Option Operand} {d : Nat} {F : Nat → Prop}, idxO (q.map x) d F → ∃ n, F n ∧ ((q = none ∧ n = d) ∨ ∃ y, q = some y ∧ ∀ (c : Cx) (a : Act), (∀ y, RV c (x y) (a.eval y)) → ∃ k, a.eval y = .int k (n : Int)) := fun {q d F} h => by
    cases q with
    | none => exact ⟨d, h, .inl ⟨rfl, rfl⟩⟩
    | some y =>
      obtain ⟨n, hn, hh⟩ := idx_all (show idx (x y) F from h)
      exact ⟨n, hn, .inr ⟨y, rfl, fun c a hx => hh c _ (hx y)⟩⟩
  obtain ⟨l, hl, h1⟩ := one h
  obtain ⟨hh, hq, h2⟩ := one hl
  refine ⟨l, hh, hq, fun c a w s cap hx hle hB hcap => ?_⟩
  have b2 : (match (hi.map a.eval) with
      | some v => Instr.sliceBound v cap (if s then .sliceAcap else .sliceAlen)
      | none => pure B).run P w = .ok hh w := by
    rcases h2 with ⟨rfl, rfl⟩ | ⟨y, rfl, he⟩
    · rfl
    · obtain ⟨k, e⟩ := he c a hx
      have hc : (0 : Int) ≤ (hh : Int) ∧ (hh : Int) ≤ (cap : Int) := by omega
      simp [e, Instr.sliceBound, asIntOf, hc]
  have b1 : (match (lo.map a.eval) with
      | some v => Instr.sliceBound v hh .sliceB
      | none => pure 0).run P w = .ok l w := by
    rcases h1 with ⟨rfl, rfl⟩ | ⟨y, rfl, he⟩
    · rfl
    · obtain ⟨k, e⟩ := he c a hx
      have hc : (0 : Int) ≤ (l : Int) ∧ (l : Int) ≤ (hh : Int) := by omega
      simp [e, Instr.sliceBound, asIntOf, hc]
  unfold Instr.sliceBounds
  cases hi with
  | none =>
    cases lo with
    | none => simp only [Option.map_none, Sem.run_bind, Sem.run_pure, Result.andThen_ok, Option.isSome_none] at b1 b2 ⊢; simp_all
    | some y => simp only [Option.map_none, Option.map_some, Sem.run_bind, Sem.run_pure, Result.andThen_ok, Option.isSome_none] at b1 b2 ⊢; simp_all
  | some z =>
    cases lo with
    | none => simp only [Option.map_none, Option.map_some, Sem.run_bind, Sem.run_pure, Result.andThen_ok, Option.isSome_none] at b1 b2 ⊢; simp_all
    | some y => simp only [Option.map_none, Option.map_some, Sem.run_bind, Sem.run_pure, Result.andThen_ok, Option.isSome_none] at b1 b2 ⊢; simp_all
theorem run_sliceAt_sl {e : TypeId} (hu : P.underlying t = some (.slice e)) {ty : TypeId → Ty} (he : TyOK P ty e) {A : Option Addr} {n cap l h : Nat} {lo hi : Option Value} {w : World}
    (hb : (Instr.sliceBounds true n cap lo hi none).run P w = .ok (l, h, cap) w) : (Instr.sliceAt t (.slice A n cap) lo hi none).run P w = .ok (.slice (if cap = l then A else A.map (·.add (l * (ty e).size))) (h - l) (cap - l)) w := by
  simp [Instr.sliceAt, run_underlying hu, Instr.slice, hb, run_sizeOf' he]
theorem add_none (A : Option Addr) (q l s : Nat) (h : 0 < q - l) : (if q = l then A else A.map (·.add (l * s))) = A.map (·.add (l * s)) := by
  rw [if_neg (by omega)]
theorem run_sliceAt_arr {e n : Nat} (hu : P.underlying t = some (.array n e)) {ty : TypeId → Ty} (he : TyOK P ty e) {ad : Addr} {l h : Nat} {lo hi : Option Value} {w : World}
    (hb : (Instr.sliceBounds false n n lo hi none).run P w = .ok (l, h, n) w) : (Instr.sliceAt t (.pointer (some ad)) lo hi none).run P w = .ok (.slice (some (if n = l then ad else ad.add (l * (ty e).size))) (h - l) (n - l)) w := by
  simp [Instr.sliceAt, run_underlying hu, Instr.sureAddr, hb, run_sizeOf' he]
theorem run_sliceAt_str (hu : P.underlying t = some .string) {s : ByteArray} {l h : Nat} {lo hi : Option Value} {w : World}
    (hb : (Instr.sliceBounds false s.size s.size lo hi none).run P w = .ok (l, h, s.size) w) : (Instr.sliceAt t (.string s) lo hi none).run P w = .ok (.string (s.extract l h)) w := by
  simp [Instr.sliceAt, run_underlying hu, Instr.slice, hb]
theorem bound_one {y : Operand} {F : Nat → Prop} (h : idx (x y) F) : ∃ n, F n ∧ ∀ (c : Cx) (a : Act) (w : World) (cap : Nat) (b : BoundsCode), (∀ y, RV c (x y) (a.eval y)) → n ≤ cap → (Instr.sliceBound (a.eval y) cap b).run P w = .ok n w := by
  obtain ⟨n, hn, hh⟩ := idx_all h
  refine ⟨n, hn, fun c a w cap b hx hle => ?_⟩
  obtain ⟨k, e⟩ := hh c _ (hx y)
  have hc : (0 : Int) ≤ (n : Int) ∧ (n : Int) ≤ (cap : Int) := by omega
  simp [e, Instr.sliceBound, asIntOf, hc]
theorem s_slice3 (hT : TysOK P E.ty) {y hi mx : Operand} {lo : Option Operand} (ho : o.op = .slice t y lo (some hi) (some mx)) (h : sem E m key x (.slice t y lo (some hi) (some mx)) K) : ∃ r, K r ∧ Valid P E.ty o x key m r := by
  simp only [sem, semG, semSlice3] at h
  split at h
  · rename_i e hty
    obtain ⟨hu, he, h0⟩ := (hT t (by rw [hty]; simp)).sl_of hty
    split at h
    · rename_i g et n f hy
      have hlo : ∃ l, (idx (x hi) fun h => idx (x mx) fun q => et = E.ty e ∧ l ≤ h ∧ h ≤ q ∧ q ≤ n ∧ K ⟨.imm g et (h - l) (fun i => f (l + i)), [], []⟩) ∧ ∀ (c : Cx) (a : Act) (w : World) (cap : Nat) (b : BoundsCode), (∀ y, RV c (x y) (a.eval y)) → l ≤ cap → (match (lo.map a.eval) with
          | some v => Instr.sliceBound v cap b
          | none => pure 0).run P w = .ok l w := by
        cases lo with
        | none => exact ⟨0, h, fun c a w cap b hx hle => rfl⟩
        | some q =>
          obtain ⟨l, hl, hb⟩ := bound_one (P := P) (show idx (x q) _ from h)
          exact ⟨l, hl, fun c a w cap b hx hle => hb c a w cap b hx hle⟩
      obtain ⟨l, hl, b1⟩ := hlo
      obtain ⟨hh, hq, b2⟩ := bound_one (P := P) hl
      obtain ⟨q, ⟨rfl, h1, h2, h3, h⟩, b3⟩ := bound_one (P := P) hq
      refine ⟨_, h, valid_val rfl fun c a _ _ _ hx => ?_⟩
      have hv := hx y
      rw [hy] at hv
      obtain ⟨A, cp, ev, hle, hmx, hA⟩ := rv_imm hv
      have hsb : (Instr.sliceBounds true n cp (lo.map a.eval) (some (a.eval hi)) (some (a.eval mx))).run P c.w = .ok (l, hh, q) c.w := by
        unfold Instr.sliceBounds
        have c1 := b1 c a c.w hh .slice3C hx h1
        have c2 := b2 c a c.w q .slice3B hx h2
        have c3 := b3 c a c.w cp .slice3Acap hx (by omega)
        cases lo with
        | none => simp [Sem.run_bind, Sem.run_pure, Result.andThen_ok, c2, c3] at c1 ⊢; exact c1
        | some z => simp only [Option.map_some] at c1; simp [Sem.run_bind, Sem.run_pure, Result.andThen_ok, c1, c2, c3]
      refine ⟨.slice (if q = l then A else A.map (·.add (l * (E.ty e).size))) (hh - l) (q - l), ?_, _, _, rfl, by omega, by omega, fun hp => ?_⟩
      · unfold execOp
        simp only [ho, ev, Sem.run_bind, Option.map_some]
        simp [Instr.sliceAt, run_underlying hu, Instr.slice, hsb, run_sizeOf' he]
      · obtain ⟨b, ofs, rfl, hlt, hmu, hfr, hi⟩ := hA (by omega)
        rw [if_neg (by omega)]
        refine ⟨b, ofs + l * (E.ty e).size, by simp only [Option.map_some, Addr.add_mid], hlt, hmu, hfr, fun i hi' => ?_⟩
        obtain ⟨hs, ds, hr, hrg⟩ := hi (l + i) (by omega)
        refine ⟨hs, ds, hr, ?_⟩
        rw [Nat.add_mul, ← Nat.add_assoc] at hrg
        exact hrg
    · rename_i e' k n hy
      have hlo : ∃ l, (idx (x hi) fun h => idx (x mx) fun q => e' = e ∧ l ≤ h ∧ h ≤ q ∧ q ≤ n ∧ K ⟨.gsub e k n l (h - l), [], []⟩) ∧ ∀ (c : Cx) (a : Act) (w : World) (cap : Nat) (b : BoundsCode), (∀ y, RV c (x y) (a.eval y)) → l ≤ cap → (match (lo.map a.eval) with
          | some v => Instr.sliceBound v cap b
          | none => pure 0).run P w = .ok l w := by
        cases lo with
        | none => exact ⟨0, h, fun c a w cap b hx hle => rfl⟩
        | some q =>
          obtain ⟨l, hl, hb⟩ := bound_one (P := P) (show idx (x q) _ from h)
          exact ⟨l, hl, fun c a w cap b hx hle => hb c a w cap b hx hle⟩
      obtain ⟨l, hl, b1⟩ := hlo
      obtain ⟨hh, hq, b2⟩ := bound_one (P := P) hl
      obtain ⟨q, ⟨rfl, h1, h2, h3, h⟩, b3⟩ := bound_one (P := P) hq
      refine ⟨_, h, valid_val rfl fun c a hty' hmem _ hx => ?_⟩
      have hv := hx y
      rw [hy] at hv
      obtain ⟨n', f, A, cp, hm, hl, ev, hle, hmx, hA, hcur⟩ := rv_gsl hv
      have hsb : (Instr.sliceBounds true n cp (lo.map a.eval) (some (a.eval hi)) (some (a.eval mx))).run P c.w = .ok (l, hh, q) c.w := by
        unfold Instr.sliceBounds
        have c1 := b1 c a c.w hh .slice3C hx h1
        have c2 := b2 c a c.w q .slice3B hx h2
        have c3 := b3 c a c.w cp .slice3Acap hx (by omega)
        cases lo with
        | none => simp [Sem.run_bind, Sem.run_pure, Result.andThen_ok, c2, c3] at c1 ⊢; exact c1
        | some z => simp only [Option.map_some] at c1; simp [Sem.run_bind, Sem.run_pure, Result.andThen_ok, c1, c2, c3]
      refine ⟨.slice (if q = l then A else A.map (·.add (l * (E.ty e').size))) (hh - l) (q - l), ?_, n', f, _, _, hm, hl, rfl, by omega, by omega, by omega, fun hp => ?_⟩
      · unfold execOp
        simp only [ho, ev, Sem.run_bind, Option.map_some]
        simp [Instr.sliceAt, run_underlying hu, Instr.slice, hsb, run_sizeOf' he]
      · obtain ⟨ad, rfl⟩ := hA (by omega)
        rw [if_neg (by omega)]
        refine ⟨ad.add (l * (E.ty e').size), rfl, fun hn => ?_⟩
        subst hn
        obtain ⟨b, cap, cur, hbl, hsv, _⟩ := grow_parts (hmem.rows k _ hm) (by omega)
        rw [hcur rfl] at hsv
        injection hsv with e1 e2 e3
        injection e1 with e1
        subst e1
        rw [hty']
        exact ⟨b, hbl, by rw [Addr.add_mid, Nat.zero_add]⟩
    · exact h.elim
  · exact h.elim
theorem s_slice (hT : TysOK P E.ty) (hmax : ∀ t n f, E.ty t = .agg true n f → n ≤ maxLen) {y : Operand} {lo hi : Option Operand} (ho : o.op = .slice t y lo hi none) (h : sem E m key x (.slice t y lo hi none) K) : ∃ r, K r ∧ Valid P E.ty o x key m r := by
  simp only [sem, semG, semSlice] at h
  split at h
  · rename_i e hty
    obtain ⟨hu, he, h0⟩ := (hT t (by rw [hty]; simp)).sl_of hty
    split at h
    · rename_i hy
      obtain ⟨l, hh, ⟨h1, h2, h⟩, hb⟩ := bounds_all (P := P) h
      refine ⟨_, h, valid_val rfl fun c a _ _ _ hx => ?_⟩
      have hv := hx y
      rw [hy] at hv
      have ev : a.eval y = .slice none 0 0 := by simpa [RV, R] using hv
      refine ⟨.slice none 0 0, ?_, rfl⟩
      unfold execOp
      simp only [ho, ev, Sem.run_bind, Option.map_none, run_sliceAt_sl hu he (hb c a c.w true 0 hx h1 h2 (Nat.le_refl _)), Result.andThen_ok, Sem.run_pure]
      have e1 : l = 0 := by omega
      have e2 : hh = 0 := by omega
      subst e1; subst e2; rfl
    · rename_i g et n f hy
      obtain ⟨l, hh, ⟨rfl, h1, h2, h⟩, hb⟩ := bounds_all (P := P) h
      refine ⟨_, h, valid_val rfl fun c a _ _ _ hx => ?_⟩
      have hv := hx y
      rw [hy] at hv
      obtain ⟨A, q, ev, hle, hmx, hA⟩ := rv_imm hv
      refine ⟨.slice (if q = l then A else A.map (·.add (l * (E.ty e).size))) (hh - l) (q - l), ?_, _, _, rfl, by omega, by omega, fun hp => ?_⟩
      · unfold execOp
        simp only [ho, ev, Sem.run_bind, Option.map_none, run_sliceAt_sl hu he (hb c a c.w true q hx h1 h2 hle), Result.andThen_ok, Sem.run_pure]
      · obtain ⟨b, ofs, rfl, hlt, hmu, hfr, hi⟩ := hA (by omega)
        rw [if_neg (by omega)]
        refine ⟨b, ofs + l * (E.ty e).size, by simp only [Option.map_some, Addr.add_mid], hlt, hmu, hfr, fun i hi' => ?_⟩
        obtain ⟨hs, ds, hr, hrg⟩ := hi (l + i) (by omega)
        refine ⟨hs, ds, hr, ?_⟩
        rw [Nat.add_mul, ← Nat.add_assoc] at hrg
        exact hrg
    · rename_i e' k n hy
      obtain ⟨l, hh, ⟨rfl, h1, h2, h⟩, hb⟩ := bounds_all (P := P) h
      refine ⟨_, h, valid_val rfl fun c a hty' hmem _ hx => ?_⟩
      have hv := hx y
      rw [hy] at hv
      obtain ⟨n', f, A, q, hm, hl, ev, hle, hmx, hA, hcur⟩ := rv_gsl hv
      refine ⟨.slice (if q = l then A else A.map (·.add (l * (E.ty e').size))) (hh - l) (q - l), ?_, n', f, _, _, hm, hl, rfl, by omega, by omega, by omega, fun hp => ?_⟩
      · unfold execOp
        simp only [ho, ev, Sem.run_bind, Option.map_none, run_sliceAt_sl hu he (hb c a c.w true q hx h1 h2 hle), Result.andThen_ok, Sem.run_pure]
      · obtain ⟨ad, rfl⟩ := hA (by omega)
        rw [if_neg (by omega)]
        refine ⟨ad.add (l * (E.ty e').size), rfl, fun hn => ?_⟩
        subst hn
        obtain ⟨b, cap, cur, hbl, hsv, _⟩ := grow_parts (hmem.rows k _ hm) (by omega)
        rw [hcur rfl] at hsv
        injection hsv with e1 e2 e3
        injection e1 with e1
        subst e1
        rw [hty']
        exact ⟨b, hbl, by rw [Addr.add_mid, Nat.zero_add]⟩
    · rename_i e' k al ofs n hy
      obtain ⟨l, hh, ⟨rfl, h1, h2, h⟩, hb⟩ := bounds_all (P := P) h
      refine ⟨_, h, valid_val rfl fun c a hty' hmem _ hx => ?_⟩
      have hv := hx y
      rw [hy] at hv
      obtain ⟨n', f, A, q, hm, hl, ev, hle, hmx, hol, hA⟩ := rv_gsub hv
      refine ⟨.slice (if q = l then A else A.map (·.add (l * (E.ty e').size))) (hh - l) (q - l), ?_, n', f, _, _, hm, hl, rfl, by omega, by omega, by omega, fun hp => ?_⟩
      · unfold execOp
        simp only [ho, ev, Sem.run_bind, Option.map_none, run_sliceAt_sl hu he (hb c a c.w true q hx h1 h2 hle), Result.andThen_ok, Sem.run_pure]
      · obtain ⟨ad, rfl, hcur⟩ := hA (by omega)
        rw [if_neg (by omega)]
        refine ⟨ad.add (l * (E.ty e').size), rfl, fun hn => ?_⟩
        obtain ⟨b, hbl, rfl⟩ := hcur hn
        rw [hty'] at *
        exact ⟨b, hbl, by rw [Addr.add_mid, Nat.add_mul]⟩
    · rename_i et k p ofs n hy
      obtain ⟨l, hh, ⟨rfl, h1, h2, h⟩, hb⟩ := bounds_all (P := P) h
      refine ⟨_, h, valid_val rfl fun c a hty' hmem _ hx => ?_⟩
      have hv := hx y
      rw [hy] at hv
      obtain ⟨τ, av, b, n', g, A, q, hm, hbl, hp, hat, hg, hol, ev, hle, hmx, hA⟩ := rv_sub hv
      refine ⟨.slice (if q = l then A else A.map (·.add (l * (E.ty e).size))) (hh - l) (q - l), ?_, τ, av, b, n', g, _, _, hm, hbl, hp, hat, hg, by omega, rfl, by omega, ⟨by omega, by omega⟩, fun hp => ?_⟩
      · unfold execOp
        simp only [ho, ev, Sem.run_bind, Option.map_none, run_sliceAt_sl hu he (hb c a c.w true q hx h1 h2 hle), Result.andThen_ok, Sem.run_pure]
      · rw [if_neg (by omega), hA (by omega)]
        simp only [Option.map_some, Addr.add_mid]
        rw [Nat.add_mul, Nat.add_assoc]
    · rename_i e' k n hy
      obtain ⟨l, hh, ⟨rfl, rfl, rfl, hn0, h⟩, hb⟩ := bounds_all (P := P) h
      refine ⟨_, h, valid_val rfl fun c a hty' hmem _ hx => ?_⟩
      have hv := hx y
      rw [hy] at hv
      obtain ⟨n', f, A, q, hm, ev, hle, hmx, hcur⟩ := rv_gcap hv
      refine ⟨.slice A 0 q, ?_, n', f, A, q, hm, Nat.zero_le _, rfl, Nat.zero_le _, hmx, fun hp => absurd hp (by omega), hcur⟩
      unfold execOp
      simp only [ho, ev, Sem.run_bind, Option.map_none, run_sliceAt_sl hu he (hb c a c.w true q hx (Nat.le_refl _) (Nat.zero_le _) hle), Result.andThen_ok, Sem.run_pure]
      rw [if_neg (by omega), Nat.zero_mul]
      cases A <;> rfl
    · exact h.elim
  · rename_i n f hty
    obtain ⟨e, hu, he, h0, rfl⟩ := (hT t (by rw [hty]; simp)).arr_of hty
    split at h
    · rename_i τ' k p hy
      obtain ⟨l, hh, ⟨rfl, h1, h2, h⟩, hb⟩ := bounds_all (P := P) h
      refine ⟨_, h, valid_val rfl fun c a hty' hmem _ hx => ?_⟩
      have hv := hx y
      rw [hy] at hv
      obtain ⟨τ₀, av, b, hm, hbl, hp, hat, ev⟩ := rv_ptr hv
      refine ⟨.slice (some (if n = l then ⟨b, τ₀.off p, none⟩ else (⟨b, τ₀.off p, none⟩ : Addr).add (l * (E.ty e).size))) (hh - l) (n - l), ?_, τ₀, av, b, n, _, _, _, hm, hbl, hp, hat, rfl, by omega, rfl, by omega, ⟨by have := hmax t n _ hty; omega, rfl⟩, fun hp => ?_⟩
      · unfold execOp
        simp only [ho, ev, Sem.run_bind, Option.map_none, run_sliceAt_arr hu he (hb c a c.w false n hx h1 h2 (Nat.le_refl _)), Result.andThen_ok, Sem.run_pure]
      · rw [if_neg (by omega), Addr.add_mid]
    · rename_i τ' u' n' g hy
      obtain ⟨l, hh, ⟨rfl, h1, h2, h⟩, hb⟩ := bounds_all (P := P) h
      refine ⟨_, h, valid_val rfl fun c a hty' hmem _ hx => ?_⟩
      have hv := hx y
      rw [hy] at hv
      obtain ⟨b, ofs, ds, ev, hlt, hmu, hr, hs, hrg⟩ := rv_ipt hv
      obtain ⟨rfl, rfl, hs⟩ := hs
      obtain ⟨G, hG, rfl⟩ := hr
      refine ⟨.slice (some (if n = l then ⟨b, ofs, none⟩ else (⟨b, ofs, none⟩ : Addr).add (l * (E.ty e).size))) (hh - l) (n - l), ?_, _, _, rfl, by omega, by have := hmax t n _ hty; omega, fun hp => ?_⟩
      · unfold execOp
        simp only [ho, ev, Sem.run_bind, Option.map_none, run_sliceAt_arr hu he (hb c a c.w false n hx h1 h2 (Nat.le_refl _)), Result.andThen_ok, Sem.run_pure]
      · rw [if_neg (by omega)]
        refine ⟨b, ofs + l * (E.ty e).size, by rw [Addr.add_mid], hlt, hmu, fun h => (by cases h), fun i hi' => ⟨hs (l + i) (by omega), G (l + i), hG (l + i) (by omega), ?_⟩⟩
        have hlen : ∀ j, j < n → (G j).length = (E.ty e).size := fun j hj => R_len (hG j hj) (hs j hj)
        obtain ⟨post, hpost⟩ := fm_split G (l + i) n (by omega)
        have hpre : ((List.range (l + i)).flatMap G).length = (l + i) * (E.ty e).size := by rw [fm_len, ← sumN_const]; exact sumN_congr _ (fun j hj => hlen j (by omega))
        intro j v hj
        have hjl : j < (G (l + i)).length := (List.getElem?_eq_some_iff.1 hj).1
        have hat : ((List.range n).flatMap G)[(l + i) * (E.ty e).size + j]? = some v := by
          rw [hpost, List.append_assoc, List.getElem?_append_right (by omega), hpre, Nat.add_sub_cancel_left, List.getElem?_append_left (by omega)]; exact hj
        have := hrg _ v hat
        rw [show ofs + l * (E.ty e).size + i * (E.ty e).size + j = ofs + ((l + i) * (E.ty e).size + j) by rw [Nat.add_mul]; omega]
        exact this
    · exact h.elim
  · rename_i hty
    have hu := (hT t (by rw [hty]; simp)).str_of hty
    split at h
    · rename_i s hy
      obtain ⟨l, hh, ⟨h1, h2, h⟩, hb⟩ := bounds_all (P := P) h
      refine ⟨_, h, valid_val rfl fun c a hty' hmem _ hx => ?_⟩
      have hv := hx y
      rw [hy] at hv
      have ev := rv_str hv
      have hsz : (⟨s.toArray⟩ : ByteArray).size = s.length := by simp [ByteArray.size]
      refine ⟨.string ((⟨s.toArray⟩ : ByteArray).extract l hh), ?_, ?_⟩
      · unfold execOp
        simp only [ho, ev, Sem.run_bind, Option.map_none, run_sliceAt_str hu (hsz ▸ hb c a c.w false s.length hx h1 h2 (Nat.le_refl _)), Result.andThen_ok, Sem.run_pure]
      · show [_] = [_]
        congr 2
        apply ByteArray.ext
        rw [ByteArray.data_extract]
        apply Array.ext'
        simp [List.extract_eq_take_drop, List.drop_take]
    · exact h.elim
  · exact h.elim
end
end Go.Proofs.YtldlleoabbcpdaaDoor
/- Lengths, the lesser and the greater, an array behind a slice. -/
namespace Go.Proofs.YtldlleoabbcpdaaDoor
open Go.RowKit
section
variable {P : Program} {E : Pg} {o : Oper} {x : Operand → AV} {key : Nat} {m : Nat → Option Row} {K : Res → Prop} {t : TypeId}
theorem call_of {c : Call} {ca : Callee} {ags : List Operand} (h1 : c.callee = ca) (h2 : c.args.toList = ags) : c = ⟨ca, ags.toArray, c.argTypes⟩ := by
  cases c with
  | mk callee args argTypes =>
    simp only at h1 h2 ⊢
    subst h1; subst h2; simp
theorem exec_builtin {b : Builtin} {ags : List Operand} {ts : Array TypeId} {ρ : Operand → Value} (ho : o.op = .call ⟨.builtin b, ags.toArray, ts⟩) :
    ∃ cs, execOp ρ o = builtin b ts o.type cs (ags.map ρ).toArray := by
  rw [← List.map_toArray]
  exact ⟨_, by unfold execOp; simp only [ho]; rfl⟩
theorem run_len' {e : TypeId} (hu : P.underlying t = some (.slice e)) {A : Option Addr} {n c : Nat} {tt : TypeId} {w : World} : (Builtin.len_ #[t] tt #[.slice A n c]).run P w = .ok (goInt n) w := by
  simp [Builtin.len_, run_underlying hu]
theorem run_cap' {e : TypeId} (hu : P.underlying t = some (.slice e)) {A : Option Addr} {n c : Nat} {tt : TypeId} {w : World} : (Builtin.cap_ #[t] tt #[.slice A n c]).run P w = .ok (goInt c) w := by
  simp [Builtin.cap_, run_underlying hu]
theorem s_cap (hT : TysOK P E.ty) {c : Call} (ho : o.op = .call c) (hc : c.callee = .builtin .cap) (h : sem E m key x (.call c) K) : ∃ r, K r ∧ Valid P E.ty o x key m r := by
  simp only [sem, semG, hc] at h
  split at h
  · rename_i y t hy ht
    have hcall := call_of hc hy
    have ht' : c.argTypes = #[t] := by rw [← Array.toArray_toList (xs := c.argTypes), ht]
    rw [ht'] at hcall
    rw [hcall] at ho
    split at h
    · rename_i e hty hxy
      obtain ⟨hu, he, h0⟩ := (hT t (by rw [hty]; simp)).sl_of hty
      refine ⟨_, h, valid_val rfl fun c act _ _ _ hx => ?_⟩
      have e1 : act.eval y = .slice none 0 0 := by have := hx y; rw [hxy] at this; simpa [RV, R] using this
      obtain ⟨cs, hex⟩ := exec_builtin (ρ := act.eval) ho
      refine ⟨goInt (0 : Nat), ?_, rfl⟩
      rw [hex]
      show Sem.run P (do pure (Next.value (← Builtin.cap_ #[t] o.type #[act.eval y]))) c.w = _
      simp only [e1, Sem.run_bind, run_cap' hu, Result.andThen_ok, Sem.run_pure]
    · exact h.elim
  · exact h.elim
theorem TyOK.mp_of' {ty : TypeId → Ty} {t k e : TypeId} (h : TyOK P ty t) (he : ty t = .mp k e) : P.underlying t = some (.map k e) ∧ TyOK P ty k ∧ TyOK P ty e := by
  cases h with
  | mp _ k' e' hu _ hk' he' hty => rw [hty] at he; injection he with h1 h2; subst h1; subst h2; exact ⟨hu, hk', he'⟩
  | _ => simp_all
theorem s_len (hT : TysOK P E.ty) {c : Call} (ho : o.op = .call c) (hc : c.callee = .builtin .len) (h : sem E m key x (.call c) K) : ∃ r, K r ∧ Valid P E.ty o x key m r := by
  simp only [sem, semG, hc] at h
  split at h
  · rename_i y t hy ht
    have hcall := call_of hc hy
    have ht' : c.argTypes = #[t] := by rw [← Array.toArray_toList (xs := c.argTypes), ht]
    rw [ht'] at hcall
    rw [hcall] at ho
    split at h
    · rename_i e hty
      obtain ⟨hu, he, h0⟩ := (hT t (by rw [hty]; simp)).sl_of hty
      have fin : ∀ {a : AV} {l : Nat}, x y = a → (∀ (c : Cx) (v : Value), RV c a v → ∃ A q, v = .slice A l q) → K ⟨.nat l, [], []⟩ → ∃ r, K r ∧ Valid P E.ty o x key m r := fun {a l} hy hp hk =>
        ⟨_, hk, valid_val rfl fun c act _ _ _ hx => by
          have h1 := hx y
          rw [hy] at h1
          obtain ⟨A, q, e⟩ := hp c _ h1
          obtain ⟨cs, hex⟩ := exec_builtin (ρ := act.eval) ho
          refine ⟨goInt l, ?_, rfl⟩
          rw [hex]
          show Sem.run P (do pure (Next.value (← Builtin.len_ #[t] o.type #[act.eval y]))) c.w = _
          simp only [e, Sem.run_bind, run_len' hu, Result.andThen_ok, Sem.run_pure]⟩
      cases hxy : x y <;> rw [hxy] at h <;> simp only [lenOf] at h <;> try exact h.elim
      case nils => exact fin hxy (fun c v hv => ⟨none, 0, by simpa [RV, R] using hv⟩) h
      case imm => exact fin hxy (fun c v hv => by obtain ⟨A, q, e, _⟩ := rv_imm hv; exact ⟨A, q, e⟩) h
      case gsl => exact fin hxy (fun c v hv => by obtain ⟨_, _, A, q, _, _, e, _⟩ := rv_gsl hv; exact ⟨A, q, e⟩) h
      case gsub => exact fin hxy (fun c v hv => by obtain ⟨_, _, A, q, _, _, e, _⟩ := rv_gsub hv; exact ⟨A, q, e⟩) h
      case sub => exact fin hxy (fun c v hv => by obtain ⟨_, _, _, _, _, A, q, _, _, _, _, _, _, e, _⟩ := rv_sub hv; exact ⟨A, q, e⟩) h
    · rename_i hty
      have hu := (hT t (by rw [hty]; simp)).str_of hty
      split at h
      · rename_i s hxy
        refine ⟨_, h, valid_val rfl fun c act _ _ _ hx => ?_⟩
        have h1 := hx y
        rw [hxy] at h1
        have e := rv_str h1
        obtain ⟨cs, hex⟩ := exec_builtin (ρ := act.eval) ho
        refine ⟨goInt s.length, ?_, rfl⟩
        rw [hex]
        show Sem.run P (do pure (Next.value (← Builtin.len_ #[t] o.type #[act.eval y]))) c.w = _
        have hsz : (⟨s.toArray⟩ : ByteArray).size = s.length := by simp [ByteArray.size]
        simp [e, Builtin.len_, run_underlying hu, hsz]
      · exact h.elim
    · rename_i k e hty
      obtain ⟨hu, _, _⟩ := (hT t (by rw [hty]; simp)).mp_of' hty
      split at h
      · rename_i q hxy
        split at h
        · rename_i n hmq
          refine ⟨_, h, valid_val rfl fun c act _ hm hrd hx => ?_⟩
          have hcq := (hrd q (by simp)).trans hmq
          have h1 := hx y
          rw [hxy] at h1
          obtain ⟨n', b, hcq', hbl, ev⟩ := (show R c _ _ from h1)
          injection ev with ev
          obtain ⟨b', ob, hb', hheap, es, clock, rfl, hsz, _⟩ := hm.rows q _ hcq
          rw [hbl] at hb'; injection hb' with hb'; subst hb'
          obtain ⟨cs, hex⟩ := exec_builtin (ρ := act.eval) ho
          refine ⟨goInt n, ?_, rfl⟩
          rw [hex]
          show Sem.run P (do pure (Next.value (← Builtin.len_ #[t] o.type #[act.eval y]))) c.w = _
          have hrun : (Builtin.len_ #[t] o.type #[.map (some b)]).run P c.w = .ok (goInt n) c.w := by
            unfold Builtin.len_
            simp [Sem.run_bind, run_underlying hu, Result.andThen_ok, MapKept.run_getObj_map hheap, Sem.run_pure, hsz]
          simp only [ev, Sem.run_bind, hrun, Result.andThen_ok, Sem.run_pure]
        · exact h.elim
      · rename_i q hxy
        split at h
        · rename_i et n f hmq
          refine ⟨_, h, valid_val rfl fun c act _ hm hrd hx => ?_⟩
          have hcq := (hrd q (by simp)).trans hmq
          have h1 := hx y
          rw [hxy] at h1
          obtain ⟨et', n', f', b, hcq', hbl, ev⟩ := (show R c _ _ from h1)
          injection ev with ev
          obtain ⟨b', ob, hb', hheap, es, clock, rfl, hsz, _⟩ := hm.rows q _ hcq
          rw [hbl] at hb'; injection hb' with hb'; subst hb'
          obtain ⟨cs, hex⟩ := exec_builtin (ρ := act.eval) ho
          refine ⟨goInt n, ?_, rfl⟩
          rw [hex]
          show Sem.run P (do pure (Next.value (← Builtin.len_ #[t] o.type #[act.eval y]))) c.w = _
          have hrun : (Builtin.len_ #[t] o.type #[.map (some b)]).run P c.w = .ok (goInt n) c.w := by
            unfold Builtin.len_
            simp [Sem.run_bind, run_underlying hu, Result.andThen_ok, MapKept.run_getObj_map hheap, Sem.run_pure, hsz]
          simp only [ev, Sem.run_bind, hrun, Result.andThen_ok, Sem.run_pure]
        · exact h.elim
      · exact h.elim
    · exact h.elim
  · exact h.elim
theorem rv_int {c : Cx} {n : Int} {v : Value} (h : RV c (.int n) v) : v = .int .i64 n := by simpa [RV, R] using h
theorem rv_nat {c : Cx} {n : Nat} {v : Value} (h : RV c (.nat n) v) : v = .int .i64 (n : Int) := by simpa [RV, R] using h
theorem s_min {c : Call} (ho : o.op = .call c) (hc : c.callee = .builtin .min) (h : sem E m key x (.call c) K) : ∃ r, K r ∧ Valid P E.ty o x key m r := by
  simp only [sem, semG, hc] at h
  split at h
  · rename_i y z hy
    have hcall := call_of hc hy
    rw [hcall] at ho
    split at h
    · rename_i a b ha hb
      refine ⟨_, h, valid_val rfl fun c act _ _ _ hx => ⟨.int .i64 ((min a b : Nat) : Int), ?_, rfl⟩⟩
      have e1 := rv_nat (c := c) (ha ▸ hx y)
      have e2 := rv_nat (c := c) (hb ▸ hx z)
      obtain ⟨cs, hex⟩ := exec_builtin (ρ := act.eval) ho
      rw [hex]
      show Sem.run P (do pure (Next.value (← Builtin.min_ _ o.type #[act.eval y, act.eval z]))) c.w = _
      have : (if (b : Int) < (a : Int) then (b : Int) else (a : Int)) = ((min a b : Nat) : Int) := by split <;> omega
      simp [e1, e2, Builtin.min_, Builtin.min2]
      split <;> omega
    · rename_i a b ha hb
      refine ⟨_, h, valid_val rfl fun c act _ _ _ hx => ⟨.int .i64 (min (a : Int) b), ?_, rfl⟩⟩
      have e1 := rv_nat (c := c) (ha ▸ hx y)
      have e2 := rv_int (c := c) (hb ▸ hx z)
      obtain ⟨cs, hex⟩ := exec_builtin (ρ := act.eval) ho
      rw [hex]
      show Sem.run P (do pure (Next.value (← Builtin.min_ _ o.type #[act.eval y, act.eval z]))) c.w = _
      simp [e1, e2, Builtin.min_, Builtin.min2]
      split <;> omega
    · rename_i a b ha hb
      refine ⟨_, h, valid_val rfl fun c act _ _ _ hx => ⟨.int .i64 (min a (b : Int)), ?_, rfl⟩⟩
      have e1 := rv_int (c := c) (ha ▸ hx y)
      have e2 := rv_nat (c := c) (hb ▸ hx z)
      obtain ⟨cs, hex⟩ := exec_builtin (ρ := act.eval) ho
      rw [hex]
      show Sem.run P (do pure (Next.value (← Builtin.min_ _ o.type #[act.eval y, act.eval z]))) c.w = _
      simp [e1, e2, Builtin.min_, Builtin.min2]
      split <;> omega
    · rename_i a b ha hb
      refine ⟨_, h, valid_val rfl fun c act _ _ _ hx => ⟨.int .i64 (min a b), ?_, rfl⟩⟩
      have e1 := rv_int (c := c) (ha ▸ hx y)
      have e2 := rv_int (c := c) (hb ▸ hx z)
      obtain ⟨cs, hex⟩ := exec_builtin (ρ := act.eval) ho
      rw [hex]
      show Sem.run P (do pure (Next.value (← Builtin.min_ _ o.type #[act.eval y, act.eval z]))) c.w = _
      simp [e1, e2, Builtin.min_, Builtin.min2]
      split <;> omega
    · exact h.elim
  · rename_i y z w hy
    have hcall := call_of hc hy
    rw [hcall] at ho
    split at h
    · rename_i a b d ha hb hd
      refine ⟨_, h, valid_val rfl fun c act _ _ _ hx => ⟨.int .i64 ((min (min a b) d : Nat) : Int), ?_, rfl⟩⟩
      have e1 := rv_nat (c := c) (ha ▸ hx y)
      have e2 := rv_nat (c := c) (hb ▸ hx z)
      have e3 := rv_nat (c := c) (hd ▸ hx w)
      obtain ⟨cs, hex⟩ := exec_builtin (ρ := act.eval) ho
      rw [hex]
      show Sem.run P (do pure (Next.value (← Builtin.min_ _ o.type #[act.eval y, act.eval z, act.eval w]))) c.w = _
      simp [e1, e2, e3, Builtin.min_, Builtin.min2]
      split <;> split <;> omega
    · exact h.elim
  · exact h.elim
theorem s_max {c : Call} (ho : o.op = .call c) (hc : c.callee = .builtin .max) (h : sem E m key x (.call c) K) : ∃ r, K r ∧ Valid P E.ty o x key m r := by
  simp only [sem, semG, hc] at h
  split at h
  · rename_i y z hy
    have hcall := call_of hc hy
    rw [hcall] at ho
    split at h
    · rename_i a b ha hb
      refine ⟨_, h, valid_val rfl fun c act _ _ _ hx => ⟨.int .i64 ((max a b : Nat) : Int), ?_, rfl⟩⟩
      have e1 := rv_nat (c := c) (ha ▸ hx y)
      have e2 := rv_nat (c := c) (hb ▸ hx z)
      obtain ⟨cs, hex⟩ := exec_builtin (ρ := act.eval) ho
      rw [hex]
      show Sem.run P (do pure (Next.value (← Builtin.max_ _ o.type #[act.eval y, act.eval z]))) c.w = _
      have h1 : (if (a : Int) < (b : Int) then (b : Int) else (a : Int)) = ((max a b : Nat) : Int) := by split <;> omega
      have h2 : (if (b : Int) > (a : Int) then (b : Int) else (a : Int)) = ((max a b : Nat) : Int) := by split <;> omega
      simp [e1, e2, Builtin.max_, Builtin.max2]
      split <;> omega
    · rename_i a b ha hb
      refine ⟨_, h, valid_val rfl fun c act _ _ _ hx => ⟨.int .i64 (max (a : Int) b), ?_, rfl⟩⟩
      have e1 := rv_nat (c := c) (ha ▸ hx y)
      have e2 := rv_int (c := c) (hb ▸ hx z)
      obtain ⟨cs, hex⟩ := exec_builtin (ρ := act.eval) ho
      rw [hex]
      show Sem.run P (do pure (Next.value (← Builtin.max_ _ o.type #[act.eval y, act.eval z]))) c.w = _
      simp [e1, e2, Builtin.max_, Builtin.max2]
      split <;> omega
    · rename_i a b ha hb
      refine ⟨_, h, valid_val rfl fun c act _ _ _ hx => ⟨.int .i64 (max a (b : Int)), ?_, rfl⟩⟩
      have e1 := rv_int (c := c) (ha ▸ hx y)
      have e2 := rv_nat (c := c) (hb ▸ hx z)
      obtain ⟨cs, hex⟩ := exec_builtin (ρ := act.eval) ho
      rw [hex]
      show Sem.run P (do pure (Next.value (← Builtin.max_ _ o.type #[act.eval y, act.eval z]))) c.w = _
      simp [e1, e2, Builtin.max_, Builtin.max2]
      split <;> omega
    · rename_i a b ha hb
      refine ⟨_, h, valid_val rfl fun c act _ _ _ hx => ⟨.int .i64 (max a b), ?_, rfl⟩⟩
      have e1 := rv_int (c := c) (ha ▸ hx y)
      have e2 := rv_int (c := c) (hb ▸ hx z)
      obtain ⟨cs, hex⟩ := exec_builtin (ρ := act.eval) ho
      rw [hex]
      show Sem.run P (do pure (Next.value (← Builtin.max_ _ o.type #[act.eval y, act.eval z]))) c.w = _
      simp [e1, e2, Builtin.max_, Builtin.max2]
      split <;> omega
    · exact h.elim
  · exact h.elim
theorem s_toArr (hT : TysOK P E.ty) {y : Operand} (ho : o.op = .sliceToArrayPointer t y) (h : sem E m key x (.sliceToArrayPointer t y) K) : ∃ r, K r ∧ Valid P E.ty o x key m r := by
  simp only [sem, semG] at h
  split at h
  · rename_i fr et l f hy
    split at h
    · rename_i n g hty
      obtain ⟨rfl, hnl, hn, h⟩ := h
      obtain ⟨e, hu, he, h0, rfl⟩ := (hT t (by rw [hty]; simp)).arr_of hty
      refine ⟨_, h, valid_val rfl fun c a _ _ _ hx => ?_⟩
      have h1 := hx y
      rw [hy] at h1
      obtain ⟨A, q, ev, hle, hmx, hA⟩ := rv_imm h1
      obtain ⟨b, ofs, rfl, hlt, hmu, hfr, hi⟩ := hA (by omega)
      have hch : ∃ gg : Nat → List Value, ∀ i, i < n → Sh (E.ty e) (f i) ∧ R c (f i) (gg i) ∧ c.w.rangeAt b (ofs + i * (E.ty e).size) (gg i) := by
        refine ⟨fun i => if h : i < l then (hi i h).2.choose else [], fun i hin => ?_⟩
        have hil : i < l := by omega
        simp only [dif_pos hil]
        exact ⟨(hi i hil).1, (hi i hil).2.choose_spec⟩
      obtain ⟨gg, hgg⟩ := hch
      refine ⟨.pointer (some ⟨b, ofs, none⟩), ?_, b, ofs, (List.range n).flatMap gg, rfl, hlt, hmu, ⟨gg, fun i hin => (hgg i hin).2.1, rfl⟩, ⟨rfl, rfl, fun i hin => (hgg i hin).1⟩, ?_⟩
      · unfold execOp
        have hnot : ¬ l < n := by omega
        simp [ho, ev, Instr.arrayAt, run_underlying hu, hnot]
      · exact range_fm n (fun i hin => ⟨(hgg i hin).2.2, R_len (hgg i hin).2.1 (hgg i hin).1⟩)
    · exact h.elim
  · rename_i et k p ofs l hy
    split at h
    · rename_i n g hty
      obtain ⟨rfl, hnl, hn, h⟩ := h
      obtain ⟨e, hu, he, h0, rfl⟩ := (hT t (by rw [hty]; simp)).arr_of hty
      refine ⟨_, h, valid_val rfl fun c a _ _ _ hx => ?_⟩
      have h1 := hx y
      rw [hy] at h1
      obtain ⟨τ, av, b, N, g', A, q, hm, hbl, hp, hat, hg, hol, ev, hle, hmx, hA⟩ := rv_sub h1
      refine ⟨.pointer (some ⟨b, τ.off p + ofs * (E.ty e).size, none⟩), ?_, τ, av, b, N, g', hm, hbl, hp, hat, hg, by omega, rfl⟩
      unfold execOp
      have hnot : ¬ l < n := by omega
      have hA' := hA (by omega)
      simp [ho, ev, hA', Instr.arrayAt, run_underlying hu, hnot]
    · exact h.elim
  · rename_i e' k al ofs l hy
    split at h
    · rename_i n g hty
      obtain ⟨hg, hnl, hn, h⟩ := h
      obtain ⟨e, hu, he, h0, _⟩ := (hT t (by rw [hty]; simp)).arr_of hty
      refine ⟨_, h, valid_val rfl fun c a _ _ _ hx => ?_⟩
      have h1 := hx y
      rw [hy] at h1
      obtain ⟨n', f, A, q, hm, hl, ev, hle, hmx, hol, hA⟩ := rv_gsub h1
      obtain ⟨ad, rfl, hcur⟩ := hA (by omega)
      refine ⟨.pointer (some ad), ?_, n', f, ad, hm, hl, rfl, fun hh => ⟨hn, by omega, hcur hh⟩⟩
      unfold execOp
      have hnot : ¬ l < n := by omega
      simp [ho, ev, Instr.arrayAt, run_underlying hu, hnot]
    · exact h.elim
  · exact h.elim
end
end Go.Proofs.YtldlleoabbcpdaaDoor
/- Operations that make or write rows. -/
namespace Go.Proofs.YtldlleoabbcpdaaDoor
open Go.RowKit
abbrev Cx.nil : Cx := Cx.bare
def updN {α : Type} (f : Nat → α) (k : Nat) (v : α) : Nat → α := fun i => if i = k then v else f i
theorem put1_abs {o : Option Row} {r : Row} (h : r.abs = true) : put1 o r = some r := by
  cases r with
  | ob x => cases x <;> first | rfl | cases h
  | _ => rfl
theorem putM_same (m : Nat → Option Row) (k : Nat) (r : Row) (h : r.abs = true := by rfl) : putM m k r k = some r := by simp [putM, put1_abs h]
theorem putM_at (m : Nat → Option Row) (k : Nat) (r : Row) : putM m k r k = put1 (m k) r := by simp [putM]
theorem putM_ne (m : Nat → Option Row) {k i : Nat} (r : Row) (h : i ≠ k) : putM m k r i = m i := by
  have : Nat.beq i k = false := by rw [← Bool.not_eq_true, Nat.beq_eq]; exact h
  simp [putM, this]
/-- Data that names no row stands wherever memory, and what is fresh, are the same. -/
theorem R_imd {c c' : Cx} (hw : c'.w = c.w) (hmu : ∀ b, c'.Mu b → c.Mu b) (hfb : c'.fb = c.fb) : ∀ {a : AV} {cs : List Value}, Imd a → R c a cs → R c' a cs := by
  intro a
  induction a with
  | imm fr et l f ih =>
    rintro cs hn ⟨A, q, rfl, h1, h2, h3⟩
    refine ⟨A, q, rfl, h1, h2, fun hl => ?_⟩
    obtain ⟨b, o, rfl, hlt, hm, hfr, hi⟩ := h3 hl
    refine ⟨b, o, rfl, by rw [hw]; exact hlt, fun h => hm (hmu b h), fun h => by rw [hfb]; exact hfr h, fun i h => ?_⟩
    obtain ⟨hsh, ds, hr, hrg⟩ := hi i h
    exact ⟨hsh, ds, ih i (hn i h) hr, by rw [hw]; exact hrg⟩
  | agg u l f ih =>
    rintro cs hn ⟨g, hg, rfl⟩
    exact ⟨g, fun i hi => ih i (forI_at hn i hi) (hg i hi), rfl⟩
  | _ => intro cs hn h; first | exact hn.elim | exact h
theorem ObOK_stab {c c' : Cx} (hs : Stab c c') : ∀ {o : Ob} {x : Obj}, ObOK c o x → ObOK c' o x
  | .mp _ _ _ _ _, _, h => h
  | .it _ _, _, h => h
  | .cnt _, _, h => h
  | .put _, _, h => h.elim
  | .vm _ _ _, _, h => by
    obtain ⟨es, clock, rfl, hsz, hup, hdn⟩ := h
    exact ⟨es, clock, rfl, hsz, fun e he => by
      obtain ⟨i, hi, hk, hr, hv⟩ := hup e he
      exact ⟨i, hi, hk, R_stab hs hr, hv⟩, hdn⟩
  | .mi _ _ _ _ _ _ _ _, _, h => by
    rcases h with h | ⟨mb, es, clock, sa, rfl, hlt, hmu, hh, hok⟩
    · exact .inl h
    obtain ⟨hmu', _, h3⟩ := hs.old mb hlt hmu
    exact .inr ⟨mb, es, clock, sa, rfl, Nat.lt_of_lt_of_le hlt hs.size, hmu', (h3 (.inr ⟨es, clock, hh⟩)).trans hh, hok⟩
theorem ObOK_mono {c c' : Cx} (hw : c'.w = c.w) (hmu : ∀ b, c'.Mu b → c.Mu b) (hfb : c'.fb = c.fb) : ∀ {o : Ob} {x : Obj}, ObOK c o x → ObOK c' o x
  | .mp _ _ _ _ _, _, h => h
  | .it _ _, _, h => h
  | .cnt _, _, h => h
  | .put _, _, h => h.elim
  | .vm _ _ _, _, h => by
    obtain ⟨es, clock, rfl, hsz, hup, hdn⟩ := h
    exact ⟨es, clock, rfl, hsz, fun e he => by
      obtain ⟨i, hi, hk, hr, hv⟩ := hup e he
      exact ⟨i, hi, hk, R_imd hw hmu hfb (hdn i hi).1.2 hr, hv⟩, hdn⟩
  | .mi _ _ _ _ _ _ _ _, _, h => by
    rcases h with h | ⟨mb, es, clock, sa, rfl, hlt, hm, hh, hok⟩
    · exact .inl h
    exact .inr ⟨mb, es, clock, sa, rfl, by rw [hw]; exact hlt, fun q => hm (hmu mb q), by rw [hw]; exact hh, hok⟩
theorem ObOK_own {c c' : Cx} : ∀ {o : Ob} {x : Obj}, o.own = true → (∀ et n f, o = .vm et n f → ∀ i, i < n → ∀ cs, Imd (f i) → R c (f i) cs → R c' (f i) cs) → ObOK c o x → ObOK c' o x
  | .mp _ _ _ _ _, _, _, _, h => h
  | .it _ _, _, _, _, h => h
  | .cnt _, _, _, _, h => h
  | .put _, _, _, _, h => h.elim
  | .mi _ _ _ _ _ _ _ _, _, ho, _, _ => by cases ho
  | .vm et n f, _, _, hv, h => by
    obtain ⟨es, clock, rfl, hsz, hup, hdn⟩ := h
    exact ⟨es, clock, rfl, hsz, fun e he => by
      obtain ⟨i, hi, hk, hr, hq⟩ := hup e he
      exact ⟨i, hi, hk, hv et n f rfl i hi _ (hdn i hi).1.2 hr, hq⟩, hdn⟩
theorem own_abs' {o : Ob} (h : o.own = true) : o.abs = true := by cases o <;> first | rfl | cases h
theorem RowOK_stab {c c' : Cx} (hs : Stab c c') {k : Nat} {r : Row} (hbl : c'.bl k = c.bl k) (hsv : c'.sv k = c.sv k) (hbase : c'.base = c.base) (hh : ∀ b, c.bl k = some b → c'.w.heap[b]? = c.w.heap[b]?) (h : RowOK c k r) : RowOK c' k r := by
  cases r with
  | var τ a =>
    obtain ⟨b, cs, t, h1, h2, h3, h4⟩ := h
    exact ⟨b, cs, t, hbl.trans h1, (hh b h1).trans h2, R_stab hs h3, h4⟩
  | grow e n f =>
    obtain ⟨g, ⟨hl, ho⟩, hb, hg⟩ := h
    rw [← hs.ty] at hl ho hg
    refine ⟨g, ⟨hl, ?_⟩, by rw [hsv, hbl]; exact hb, fun i hi => ⟨R_stab hs (hg i hi).1, (hg i hi).2⟩⟩
    rw [hsv, hbase]
    rcases ho with ho | ⟨gb, cap, cur, hv, hbb, hgg, rest⟩
    · exact .inl ho
    · refine .inr ⟨gb, cap, cur, hv, hbb, ?_, rest⟩
      rw [hh gb (by rw [← hb, hv]; rfl)]; exact hgg
  | ob o =>
    obtain ⟨b, x, h1, h2, h3⟩ := h
    exact ⟨b, x, hbl.trans h1, (hh b h1).trans h2, ObOK_stab hs h3⟩
theorem RowOK_abs {c : Cx} {k : Nat} {r : Row} (h : RowOK c k r) : r.abs = true := by
  cases r with
  | ob o =>
    obtain ⟨b, x, h1, h2, h3⟩ := h
    cases o <;> first | rfl | exact h3.elim
  | _ => rfl
theorem row_lt {c : Cx} {k : Nat} {r : Row} {b : Nat} (h : RowOK c k r) (hb : c.bl k = some b) : b < c.w.heap.size := by
  cases r with
  | var τ a =>
    obtain ⟨b', cs, t, h1, h2, _⟩ := h
    rw [hb] at h1; injection h1 with h1; subst h1
    exact (Array.getElem?_eq_some_iff.1 h2).1
  | grow e n f =>
    obtain ⟨g, ⟨hl, ho⟩, hbb, _⟩ := h
    rw [hb] at hbb
    rcases ho with ⟨hv, _⟩ | ⟨gb, cap, cur, hv, _, hgg, _⟩
    · rw [hv] at hbb; cases hbb
    · rw [hv] at hbb; injection hbb with hbb; subst hbb
      exact (Array.getElem?_eq_some_iff.1 hgg).1
  | ob o =>
    obtain ⟨b', x, h1, h2, _⟩ := h
    rw [hb] at h1; injection h1 with h1; subst h1
    exact (Array.getElem?_eq_some_iff.1 h2).1
/-- The world behind a new row. -/
def Cx.addRow (c : Cx) (key : Nat) (r : Row) (bl : Option Nat) (sv : Value) (w : World) : Cx :=
  { c with Mu := fun b => c.Mu b ∨ c.w.heap.size ≤ b, m := putM c.m key r, bl := updN c.bl key bl, sv := updN c.sv key sv, w := w }
theorem stab_add {c : Cx} {key : Nat} {r : Row} {bl : Option Nat} {sv : Value} {w : World} (hf : c.m key = none) (hsz : c.w.heap.size ≤ w.heap.size) (hh : ∀ b, b < c.w.heap.size → w.heap[b]? = c.w.heap[b]?) :
    Stab c (c.addRow key r bl sv w) := by
  have hne : ∀ {k : Nat} {r' : Row}, c.m k = some r' → k ≠ key := fun hk e => by rw [e, hf] at hk; cases hk
  refine ⟨rfl, Nat.le_refl _, rfl, fun k τ a hk => ?_, fun k e n f hk => ?_, fun k o hk => ?_, fun b hb hm => ⟨fun hq => ?_, same_old (hh b hb)⟩, hsz⟩
  · exact ⟨⟨a, (putM_ne _ _ (hne hk)).trans hk⟩, if_neg (hne hk)⟩
  · exact ⟨n, f, (putM_ne _ _ (hne hk)).trans hk, Nat.le_refl _, fun _ => ⟨if_neg (hne hk), if_neg (hne hk)⟩⟩
  · exact ⟨⟨o, (putM_ne _ _ (hne hk)).trans hk, .refl⟩, if_neg (hne hk)⟩
  · rcases hq with hq | hq
    · exact hm hq
    · omega
theorem step_add {c : Cx} (hm : MemOK c) (hb : c.fb ≤ c.w.heap.size) {key : Nat} {r : Row} {bl : Option Nat} {sv : Value} {w : World} (hf : c.m key = none) (hlow : Below c.w.heap.size c.w w) (hbl : ∀ b, bl = some b → c.w.heap.size ≤ b)
    (hrow : RowOK (c.addRow key r bl sv w) key r) : Step c [(key, r)] (c.addRow key r bl sv w) := by
  have hst := stab_add (c := c) (key := key) (r := r) (bl := bl) (sv := sv) (w := w) hf hlow.size hlow.block
  have hne : ∀ {k : Nat} {r' : Row}, c.m k = some r' → k ≠ key := fun hk e => by rw [e, hf] at hk; cases hk
  have hold : ∀ {k : Nat} {r' : Row}, k ≠ key → putM c.m key r k = some r' → c.m k = some r' := fun hk h => by rw [putM_ne _ _ hk] at h; exact h
  have hblk : ∀ {k : Nat}, k ≠ key → updN c.bl key bl k = c.bl k := fun hk => if_neg hk
  refine ⟨hst, ⟨fun k r' hk => ?_, fun k k' r1 r2 b h1 h2 h3 h4 => ?_, fun k r' b h1 h2 => ?_, hm.bf⟩, rfl, rfl, rfl, hlow.mono (Nat.le_trans hm.bf hb), fun _ _ h => .inl h⟩
  · by_cases h : k = key
    · subst h
      have : r' = r := by have := hk; simp only [Cx.addRow, putM_same _ _ _ (RowOK_abs hrow)] at this; injection this with this; exact this.symm
      rw [this]; exact hrow
    · exact RowOK_stab hst (hblk h) (if_neg h) rfl (fun b hb' => hlow.block b (row_lt (hm.rows k r' (hold h hk)) hb')) (hm.rows k r' (hold h hk))
  · by_cases h : k = key
    · by_cases h' : k' = key
      · rw [h, h']
      · subst h
        have e1 : bl = some b := by have := h3; simp only [Cx.addRow, updN, if_true] at this; exact this
        have e2 : c.bl k' = some b := by have := h4; simp only [Cx.addRow] at this; rw [hblk h'] at this; exact this
        have := hbl b e1
        have := row_lt (hm.rows k' r2 (hold h' h2)) e2
        omega
    · by_cases h' : k' = key
      · subst h'
        have e1 : bl = some b := by have := h4; simp only [Cx.addRow, updN, if_true] at this; exact this
        have e2 : c.bl k = some b := by have := h3; simp only [Cx.addRow] at this; rw [hblk h] at this; exact this
        have := hbl b e1
        have := row_lt (hm.rows k r1 (hold h h1)) e2
        omega
      · exact hm.inj k k' r1 r2 b (hold h h1) (hold h' h2) (by have := h3; simp only [Cx.addRow] at this; rw [hblk h] at this; exact this) (by have := h4; simp only [Cx.addRow] at this; rw [hblk h'] at this; exact this)
  · by_cases h : k = key
    · subst h
      have e1 : bl = some b := by have := h2; simp only [Cx.addRow, updN, if_true] at this; exact this
      have := hbl b e1
      exact ⟨.inr this, by show c.base ≤ b; have := hm.bf; omega, fun _ => by show c.fb ≤ b; omega⟩
    · have := hm.mu k r' b (hold h h1) (by have := h2; simp only [Cx.addRow] at this; rw [hblk h] at this; exact this)
      exact ⟨.inl this.1, this.2⟩

section
variable {P : Program} {E : Pg} {o : Oper} {x : Operand → AV} {key : Nat} {m : Nat → Option Row} {K : Res → Prop} {t : TypeId}
/-- A new variable holds a value. -/
theorem valid_var (hT : TysOK P E.ty) {τ : Ty} {a : AV} (hs : Sh τ a) (h : ∀ (c : Cx) (act : Act), (∀ y, RV c (x y) (act.eval y)) → ∃ cs : Array Value, R c a cs.toList ∧ ∃ e, (execOp act.eval o).run P c.w = .ok (.value (.pointer (some ⟨c.w.heap.size, 0, none⟩))) (c.w.alloc (.cells cs e))) :
    Valid P E.ty o x key m ⟨.ptr τ key [], [(key, .var τ a)], []⟩ := by
  intro c act K Q hty hm hb hrd hf hx hK
  obtain ⟨cs, hr, e, hrun⟩ := h c act hx
  unfold Oper.wp
  rw [hrun]
  have hlow : Below c.w.heap.size c.w (c.w.alloc (.cells cs e)) := (Below.refl _ _).alloc (Nat.le_refl _) _
  have hst := stab_add (c := c) (key := key) (r := .var τ a) (bl := some c.w.heap.size) (sv := undef) (w := c.w.alloc (.cells cs e)) (hf key (Nat.le_refl _) (by omega)) hlow.size hlow.block
  have hstep := step_add hm hb (key := key) (r := .var τ a) (bl := some c.w.heap.size) (sv := undef) (w := c.w.alloc (.cells cs e)) (hf key (Nat.le_refl _) (by omega)) hlow (fun b hb => by injection hb with hb; omega)
    ⟨c.w.heap.size, cs, e, if_pos rfl, heap_alloc_new _ _, R_stab hst hr, hs⟩
  refine hK _ _ hstep ⟨τ, a, c.w.heap.size, putM_same _ _ _, if_pos rfl, inP_nil _, at_nil _, ?_⟩
  rw [off_nil]
theorem s_alloc (hT : TysOK P E.ty) (ho : o.op = .alloc t) (h : sem E m key x (.alloc t) K) : ∃ r, K r ∧ Valid P E.ty o x key m r := by
  simp only [sem, semG] at h
  obtain ⟨ht, h⟩ := okT_of h
  have htt := hT t ht
  refine ⟨_, h, valid_var hT (zero_ok (c := Cx.nil) htt).2 fun c act hx => ?_⟩
  obtain ⟨z, ⟨i, hi, hz, hsz, _⟩, hzc, _⟩ := htt.inf
  refine ⟨z.cells, by rw [hzc]; exact (zero_ok htt).1, t, ?_⟩
  unfold execOp
  simp [ho, Instr.alloc, zeroValue, typeInfo, hi, hz, newVar, newRow, go_sem]
theorem s_box (hT : TysOK P E.ty) {y : Operand} (ho : o.op = .box t y) (h : sem E m key x (.box t y) K) : ∃ r, K r ∧ Valid P E.ty o x key m r := by
  simp only [sem, semG] at h
  obtain ⟨ht, hs, h⟩ := okT_of h
  refine ⟨_, h, valid_var hT hs fun c act hx => ?_⟩
  refine ⟨(act.eval y).cells, (R_of_rv hs (hx y)).1, t, ?_⟩
  unfold execOp
  simp [ho, Instr.box, newVar, newRow, go_sem]
end
end Go.Proofs.YtldlleoabbcpdaaDoor
/- A store into a row that is there. -/
namespace Go.Proofs.YtldlleoabbcpdaaDoor
open Go.RowKit
/-- The world behind a row that is written. -/
def Cx.setRow (c : Cx) (key : Nat) (r : Row) (w : World) : Cx := { c with m := putM c.m key r, w := w }
theorem stab_set {c : Cx} {key : Nat} {r r0 : Row} {w : World} {b : Nat} (h0 : c.m key = some r0) (hr : (∃ τ a a', r0 = .var τ a ∧ r = .var τ a') ∨ (∃ e n f f', r0 = .grow e n f ∧ r = .grow e n f'))
    (hmu : c.Mu b) (hsz : c.w.heap.size ≤ w.heap.size) (hh : ∀ b', b' < c.w.heap.size → b' ≠ b → w.heap[b']? = c.w.heap[b']?) : Stab c (c.setRow key r w) := by
  refine ⟨rfl, Nat.le_refl _, rfl, fun k τ a hk => ?_, fun k e n f hk => ?_, fun k o hk => ?_, fun b' hb hm => ⟨hm, same_old (hh b' hb (fun e => hm (e ▸ hmu)))⟩, hsz⟩
  · by_cases h : k = key
    · subst h
      rw [h0] at hk; injection hk with hk; subst hk
      rcases hr with ⟨τ', a1, a2, e1, rfl⟩ | ⟨_, _, _, _, e1, _⟩
      · injection e1 with e1 e2; subst e1
        exact ⟨⟨a2, putM_same _ _ _⟩, rfl⟩
      · cases e1
    · exact ⟨⟨a, (putM_ne _ _ h).trans hk⟩, rfl⟩
  · by_cases h : k = key
    · subst h
      rw [h0] at hk; injection hk with hk; subst hk
      rcases hr with ⟨_, _, _, e1, _⟩ | ⟨e', n', f1, f2, e1, rfl⟩
      · cases e1
      · injection e1 with e1 e2 e3; subst e1; subst e2
        exact ⟨n, f2, putM_same _ _ _, Nat.le_refl _, fun _ => ⟨rfl, rfl⟩⟩
    · exact ⟨n, f, (putM_ne _ _ h).trans hk, Nat.le_refl _, fun _ => ⟨rfl, rfl⟩⟩
  · by_cases h : k = key
    · subst h
      rw [h0] at hk; injection hk with hk; subst hk
      rcases hr with ⟨_, _, _, e1, _⟩ | ⟨_, _, _, _, e1, _⟩ <;> cases e1
    · exact ⟨⟨o, (putM_ne _ _ h).trans hk, .refl⟩, rfl⟩
theorem step_set {c : Cx} (hm : MemOK c) {key : Nat} {r r0 : Row} {w : World} {b : Nat} (h0 : c.m key = some r0) (hr : (∃ τ a a', r0 = .var τ a ∧ r = .var τ a') ∨ (∃ e n f f', r0 = .grow e n f ∧ r = .grow e n f'))
    (hb : c.bl key = some b) (hlow : Below c.base c.w w) (hh : ∀ b', b' < c.w.heap.size → b' ≠ b → w.heap[b']? = c.w.heap[b']?) (hrow : RowOK (c.setRow key r w) key r) : Step c [(key, r)] (c.setRow key r w) := by
  have hst := stab_set (w := w) h0 hr (hm.mu key r0 b h0 hb).1 hlow.size hh
  have hold : ∀ {k : Nat} {r' : Row}, (c.setRow key r w).m k = some r' → ∃ r'', c.m k = some r'' := fun {k r'} h => by
    by_cases e : k = key
    · subst e; exact ⟨_, h0⟩
    · have h' : putM c.m key r k = some r' := h
      rw [putM_ne _ _ e] at h'; exact ⟨_, h'⟩
  refine ⟨hst, ⟨fun k r' hk => ?_, fun k k' r1 r2 b' h1 h2 h3 h4 => ?_, fun k r' b' h1 h2 => ?_, hm.bf⟩, rfl, rfl, rfl, hlow, fun _ _ h => h⟩
  · by_cases e : k = key
    · subst e
      have hk' : putM c.m k r k = some r' := hk
      rw [putM_same _ _ _ (RowOK_abs hrow)] at hk'; injection hk' with hk'; subst hk'; exact hrow
    · have hk' : putM c.m key r k = some r' := hk
      rw [putM_ne _ _ e] at hk'
      refine RowOK_stab hst rfl rfl rfl (fun b' hb' => hh b' (row_lt (hm.rows k r' hk') hb') (fun e' => e ?_)) (hm.rows k r' hk')
      subst e'
      exact hm.inj k key r' r0 b' hk' h0 hb' hb
  · obtain ⟨q1, hq1⟩ := hold h1
    obtain ⟨q2, hq2⟩ := hold h2
    exact hm.inj k k' q1 q2 b' hq1 hq2 h3 h4
  · obtain ⟨q1, hq1⟩ := hold h1
    exact hm.mu k q1 b' hq1 h2
theorem stab_ob {c : Cx} {key : Nat} {r : Row} {o0 o1 : Ob} {w : World} {b : Nat} (h0 : c.m key = some (.ob o0)) (hr : putM c.m key r key = some (.ob o1)) (hl : o0.like o1)
    (hmu : c.Mu b) (hsz : c.w.heap.size ≤ w.heap.size) (hh : ∀ b', b' < c.w.heap.size → b' ≠ b → w.heap[b']? = c.w.heap[b']?) : Stab c (c.setRow key r w) := by
  refine ⟨rfl, Nat.le_refl _, rfl, fun k τ a hk => ?_, fun k e n f hk => ?_, fun k o hk => ?_, fun b' hb hm => ⟨hm, same_old (hh b' hb (fun e => hm (e ▸ hmu)))⟩, hsz⟩
  · by_cases h : k = key
    · subst h
      rw [h0] at hk; cases hk
    · exact ⟨⟨a, (putM_ne _ _ h).trans hk⟩, rfl⟩
  · by_cases h : k = key
    · subst h
      rw [h0] at hk; cases hk
    · exact ⟨n, f, (putM_ne _ _ h).trans hk, Nat.le_refl _, fun _ => ⟨rfl, rfl⟩⟩
  · by_cases h : k = key
    · subst h
      rw [h0] at hk; injection hk with hk; injection hk with hk; subst hk
      exact ⟨⟨o1, hr, hl⟩, rfl⟩
    · exact ⟨⟨o, (putM_ne _ _ h).trans hk, .refl⟩, rfl⟩
theorem step_ob {c : Cx} (hm : MemOK c) {key : Nat} {r : Row} {o0 o1 : Ob} {w : World} {b : Nat} (h0 : c.m key = some (.ob o0)) (hr : putM c.m key r key = some (.ob o1)) (hl : o0.like o1)
    (hb : c.bl key = some b) (hlow : Below c.base c.w w) (hh : ∀ b', b' < c.w.heap.size → b' ≠ b → w.heap[b']? = c.w.heap[b']?) (hrow : RowOK (c.setRow key r w) key (.ob o1)) : Step c [(key, r)] (c.setRow key r w) := by
  have hst := stab_ob (w := w) h0 hr hl (hm.mu key _ b h0 hb).1 hlow.size hh
  have hold : ∀ {k : Nat} {r' : Row}, (c.setRow key r w).m k = some r' → ∃ r'', c.m k = some r'' := fun {k r'} h => by
    by_cases e : k = key
    · subst e; exact ⟨_, h0⟩
    · have h' : putM c.m key r k = some r' := h
      rw [putM_ne _ _ e] at h'; exact ⟨_, h'⟩
  refine ⟨hst, ⟨fun k r' hk => ?_, fun k k' r1 r2 b' h1 h2 h3 h4 => ?_, fun k r' b' h1 h2 => ?_, hm.bf⟩, rfl, rfl, rfl, hlow, fun _ _ h => h⟩
  · by_cases e : k = key
    · subst e
      have hk' : putM c.m k r k = some r' := hk
      rw [hr] at hk'; injection hk' with hk'; subst hk'; exact hrow
    · have hk' : putM c.m key r k = some r' := hk
      rw [putM_ne _ _ e] at hk'
      refine RowOK_stab hst rfl rfl rfl (fun b' hb' => hh b' (row_lt (hm.rows k r' hk') hb') (fun e' => e ?_)) (hm.rows k r' hk')
      subst e'
      exact hm.inj k key r' _ b' hk' h0 hb' hb
  · obtain ⟨q1, hq1⟩ := hold h1
    obtain ⟨q2, hq2⟩ := hold h2
    exact hm.inj k k' q1 q2 b' hq1 hq2 h3 h4
  · obtain ⟨q1, hq1⟩ := hold h1
    exact hm.mu k q1 b' hq1 h2
theorem setRow_low {c : Cx} {b : Nat} {cs : Array Value} (hb : c.base ≤ b) : Below c.base c.w (c.w.setRow b cs) :=
  ⟨rfl, rfl, rfl, by simp, fun k hk => setRow_other c.w b k cs (by omega)⟩

theorem grow_R {c : Cx} {k e n : Nat} {f : Nat → AV} (h : RowOK c k (.grow e n f)) : ∃ xs, R c (.agg true n f) xs ∧ Sh (.agg true n fun _ => c.ty e) (.agg true n f) ∧ c.w.ownsRow c.base e (c.ty e).size (c.sv k) n xs ∧ (c.sv k).ownBlock = c.bl k := by
  obtain ⟨g, hown, hbl, hg⟩ := h
  exact ⟨_, ⟨g, fun i hi => (hg i hi).1, rfl⟩, ⟨rfl, rfl, fun i hi => (hg i hi).2⟩, hown, hbl⟩
theorem R_grow {c : Cx} {k e n : Nat} {f : Nat → AV} {xs : List Value} (hr : R c (.agg true n f) xs) (hs : Sh (.agg true n fun _ => c.ty e) (.agg true n f)) (hown : c.w.ownsRow c.base e (c.ty e).size (c.sv k) n xs) (hbl : (c.sv k).ownBlock = c.bl k) : RowOK c k (.grow e n f) := by
  obtain ⟨g, hg, rfl⟩ := hr
  exact ⟨g, hown, hbl, fun i hi => ⟨hg i hi, hs.2.2 i hi⟩⟩
theorem own_parts {w : World} {base e s n b : Nat} {v : Value} {xs : List Value} (h : w.ownsRow base e s v n xs) (hn : 0 < n) (hb : v.ownBlock = some b) : ∃ cap cur, v = .slice (some ⟨b, 0, none⟩) n cap ∧ base ≤ b ∧ w.heap[b]? = some (.cells cur e (0, 0)) ∧ n ≤ cap ∧ cap ≤ maxLen ∧ cur.size = cap * s ∧ cur.toList.take (n * s) = xs := by
  obtain ⟨_, ⟨_, h0⟩ | ⟨g, cap, cur, rfl, r⟩⟩ := h
  · omega
  · injection hb with hb; subst hb
    exact ⟨cap, cur, rfl, r⟩

section
variable {P : Program} {E : Pg} {o : Oper} {x : Operand → AV} {key : Nat} {m : Nat → Option Row} {K : Res → Prop} {t : TypeId}
theorem unit_wp {s : Sem Unit} {c : Cx} {act : Act} {K : Act → World → Prop} {Q : Exit → Act → World → Prop} {w' : World} (hex : execOp act.eval o = (do s; pure .skip)) (hs : s.run P c.w = .ok () w') (h : K (act.put o.dst undef) w') : o.wp P act c.w K Q := by
  unfold Oper.wp
  rw [hex]
  simp only [Sem.run_bind, hs, Result.andThen_ok, Sem.run_pure]
  exact h
theorem s_store (hT : TysOK P E.ty) {y z : Operand} (ho : o.op = .store t y z) (h : sem E m key x (.store t y z) K) : ∃ r, K r ∧ Valid P E.ty o x key m r := by
  simp only [sem, semG] at h
  obtain ⟨ht, h⟩ := okT_of h
  have htt := hT t ht
  have hex : ∀ a : Act, execOp a.eval o = (do Instr.storeAt t (a.eval y) (a.eval z); pure .skip) := fun a => by unfold execOp; simp only [ho]
  split at h
  · rename_i τ' k p hy
    split at h
    · rename_i τ a hmk
      obtain ⟨rfl, hsz, h⟩ := h
      refine ⟨_, h, fun c act K Q hty hm hb hrd hf hx hK => ?_⟩
      have hck := (hrd k (by simp)).trans hmk
      have h1 := hx y
      rw [hy] at h1
      obtain ⟨τ₀, av, b, hm1, hbl, hp, hat, ev⟩ := rv_ptr h1
      rw [hck] at hm1; injection hm1 with hm1; injection hm1 with e1 e2
      subst e1; subst e2
      obtain ⟨b', cs, t', hb', hh, hr, hs⟩ := hm.rows k _ hck
      rw [hbl] at hb'; injection hb' with hb'; subst hb'
      obtain ⟨hrz, _⟩ := R_of_rv hsz (hx z)
      rw [← hat] at hsz
      obtain ⟨hs2, hr2⟩ := R_upd p hr hs hp hrz hsz
      rw [hat] at hsz
      have hfit : τ.off p + (E.ty t).size ≤ cs.size := by
        obtain ⟨hs3, pre, post, ds, hcut, hpl, hr3⟩ := R_at p hr hs hp
        rw [hat] at hs3
        have := R_len hr3 hs3
        have hl : cs.toList.length = cs.size := by simp
        rw [hcut] at hl; simp at hl; omega
      have hst := run_storeVar' htt (hx z) hsz hh hfit
      have hbase := (hm.mu k _ b hck hbl).2.1
      generalize (cs.toList.take (τ.off p) ++ (act.eval z).cells.toList ++ cs.toList.drop (τ.off p + (act.eval z).cells.toList.length)) = L at *
      obtain ⟨w', hw'⟩ : ∃ w', w' = c.w.setRow b L.toArray := ⟨_, rfl⟩
      have hstab := stab_set (c := c) (key := k) (r := .var τ (a.upd p (x z))) (b := b) (w := w') hck (.inl ⟨_, _, _, rfl, rfl⟩) (hm.mu k _ b hck hbl).1 (by rw [hw']; simp) (fun b' _ hne => by rw [hw']; exact setRow_other c.w b b' _ hne)
      refine unit_wp (hex act) (w' := w') ?_ (hK (c.setRow k (.var τ (a.upd p (x z))) w') undef (step_set hm hck (.inl ⟨_, _, _, rfl, rfl⟩) hbl (by rw [hw']; exact setRow_low hbase) (fun b' _ hne => by rw [hw']; exact setRow_other c.w b b' _ hne) ?_) trivial)
      · simp only [ev, Instr.storeAt, Instr.sureAddr, Sem.run_bind, Sem.run_pure, Result.andThen_ok, hst, hw']
      · exact ⟨b, L.toArray, t', hbl, by rw [← setRow_heap c.w b cs L.toArray t' (0, 0) hh, ← hw']; rfl, R_stab hstab hr2, hs2⟩
    · exact h.elim
  · rename_i τ' e k l i p hy
    split at h
    · rename_i e' l' f hmk
      obtain ⟨rfl, rfl, hsz, h⟩ := h
      refine ⟨_, h, fun c act K Q hty hm hb hrd hf hx hK => ?_⟩
      have hck := (hrd k (by simp)).trans hmk
      have h1 := hx y
      rw [hy] at h1
      obtain ⟨n', f', ad, hm1, hl, ev, hcur⟩ := rv_gpt h1
      rw [hck] at hm1; injection hm1 with hm1; injection hm1 with e1 e2 e3
      subst e1; subst e2; subst e3
      obtain ⟨hi, hp, hat, b, hbl, rfl⟩ := hcur rfl
      rw [hty] at hp hat ev
      obtain ⟨xs, hr, hs, hown, hbl2⟩ := grow_R (hm.rows k _ hck)
      rw [hty] at hs hown
      obtain ⟨cap, cur, hsv, hbb, hheap, hnc, hcm, hcsz, htk⟩ := own_parts hown (by omega : 0 < l') (hbl2.trans hbl)
      have hpath : (Ty.agg true l' fun _ => E.ty e').inP (i :: p) := by rw [inP_agg]; exact ⟨hi, hp⟩
      have hoff : (Ty.agg true l' fun _ => E.ty e').off (i :: p) = i * (E.ty e').size + (E.ty e').off p := by
        rw [off_agg]; congr 1; exact sumN_const (E.ty e').size i
      have hat2 : (Ty.agg true l' fun _ => E.ty e').at (i :: p) = E.ty t := by rw [at_agg]; exact hat
      obtain ⟨hrz, _⟩ := R_of_rv hsz (hx z)
      obtain ⟨hs2, hr2⟩ := R_upd (i :: p) hr hs hpath hrz (by rw [hat2]; exact hsz)
      rw [hoff] at hr2
      have hxl := R_len hr hs
      rw [size_agg, sumN_const (E.ty e').size l' |> fun h => (show sumN (fun i => (el true (fun _ => E.ty e') i).size) l' = _ from h)] at hxl
      have hzl := R_len hrz hsz
      have hfit : i * (E.ty e').size + (E.ty e').off p + (E.ty t).size ≤ xs.length := by
        obtain ⟨hs3, pre, post, ds, hcut, hpl, hr3⟩ := R_at (i :: p) hr hs hpath
        rw [hat2] at hs3
        have := R_len hr3 hs3
        rw [hcut, ← hoff]; simp; omega
      have hcl : xs.length ≤ cur.size := by rw [hxl, hcsz]; exact Nat.mul_le_mul_right _ hnc
      have hst := run_storeVar' htt (hx z) hsz hheap (o := i * (E.ty e').size + (E.ty e').off p) (by omega)
      have hcut2 : cur.toList = xs ++ cur.toList.drop (l' * (E.ty e').size) := by rw [← htk, List.take_append_drop]
      generalize hD : (act.eval z).cells.toList = D at *
      generalize hO : i * (E.ty e').size + (E.ty e').off p = O at *
      generalize cur.toList.drop (l' * (E.ty e').size) = rest at *
      have hL : cur.toList.take O ++ D ++ cur.toList.drop (O + D.length) = (xs.take O ++ D ++ xs.drop (O + D.length)) ++ rest := by
        rw [hcut2, List.take_append_of_le_length (by omega), List.drop_append_of_le_length (by omega)]; simp
      rw [hL] at hst
      obtain ⟨w', hw'⟩ : ∃ w', w' = c.w.setRow b ((xs.take O ++ D ++ xs.drop (O + D.length)) ++ rest).toArray := ⟨_, rfl⟩
      have hbase := (hm.mu k _ b hck hbl).2.1
      have hstab := stab_set (c := c) (key := k) (r := .grow e' l' (updA f i ((f i).upd p (x z)))) (b := b) (w := w') hck (.inr ⟨_, _, _, _, rfl, rfl⟩) (hm.mu k _ b hck hbl).1 (by rw [hw']; simp) (fun b' _ hne => by rw [hw']; exact setRow_other c.w b b' _ hne)
      refine unit_wp (hex act) (w' := w') ?_ (hK (c.setRow k (.grow e' l' (updA f i ((f i).upd p (x z)))) w') undef (step_set hm hck (.inr ⟨_, _, _, _, rfl, rfl⟩) hbl (by rw [hw']; exact setRow_low hbase) (fun b' _ hne => by rw [hw']; exact setRow_other c.w b b' _ hne) ?_) trivial)
      · simp only [ev, Instr.storeAt, Instr.sureAddr, Sem.run_bind, Sem.run_pure, Result.andThen_ok, hst, hw']
      · refine R_grow (c := c.setRow k _ w') (xs := xs.take O ++ D ++ xs.drop (O + D.length)) (R_stab hstab hr2) (by rw [show (c.setRow k _ w').ty = E.ty from hty]; exact hs2) ?_ (by exact hbl2)
        rw [show (c.setRow k _ w').ty = E.ty from hty]
        refine ⟨by simp; omega, .inr ⟨b, cap, _, hsv, hbb, by rw [← setRow_heap c.w b cur _ e' (0, 0) hheap, ← hw']; rfl, hnc, hcm, by simp; rw [← hcsz, ← Array.length_toList, hcut2]; simp; omega, ?_⟩⟩
        have : (xs.take O ++ D ++ xs.drop (O + D.length)).length = xs.length := by simp; omega
        rw [← hxl, ← this]
        exact List.take_left
    · exact h.elim
  · exact h.elim
end
end Go.Proofs.YtldlleoabbcpdaaDoor
