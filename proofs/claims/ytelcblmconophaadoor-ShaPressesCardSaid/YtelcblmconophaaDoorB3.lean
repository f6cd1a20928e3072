/- A region that draws its order, walked by a plan: what only reads is taken as soon as it may come up, what acts comes up alone. -/
import Derived.Test.YtelcblmconophaaDoorB2
import Derived.OrdersHeld
namespace Go.Proofs.YtelcblmconophaaDoor
open Go.RowKit
section
variable {P : Program} {ops : Array Oper} {Q : Exit → Act → World → Prop} {md : Region.Mode} {S : World → Prop}
/-- The walk along a plan: (i, true): number i only reads; (i, false): it acts. -/
def wpPlan (P : Program) (ops : Array Oper) (Q : Exit → Act → World → Prop) (S : World → Prop) : List (Nat × Bool) → Act → World → Prop
  | [], a, w => Q .normal a w
  | (i, true) :: rest, a, w => ∃ o v, ops[i]? = some o ∧ YieldsIf P ops S o v a ∧ wpPlan P ops Q S rest (a.put o.dst v) w
  | (i, false) :: rest, a, w => wpOp P ops Q i (fun a' w' => S w' ∧ wpPlan P ops Q S rest a' w') a w
/-- Does the plan fit whatever order is drawn? -/
def planOk (md : Region.Mode) (ops : Array Oper) : List (Nat × Bool) → Array Bool → Bool
  | [], listed => (Region.ready md ops listed).isEmpty
  | (i, true) :: rest, listed => Region.free md ops listed i && (Region.ready md ops listed).contains i && planOk md ops rest (listed.setIfInBounds i true)
  | (i, false) :: rest, listed => (Region.ready md ops listed == [i]) && planOk md ops rest (listed.setIfInBounds i true)
theorem plan_sound (hs : Region.noSelect ops = true) (hQ : ∀ (d : Option Tmp) (v : Value) c a w, Q (.panic c) (a.put d v) w → Q (.panic c) a w) :
    ∀ (pl : List (Nat × Bool)) (fuel : Nat) (listed : Array Bool) (a : Act) (w : World), pl.length ≤ fuel → planOk md ops pl listed = true → S w → wpPlan P ops Q S pl a w → wpAnyH P md ops Q S fuel listed a w := by
  intro pl
  induction pl with
  | nil =>
    intro fuel listed a w _ hok _ h
    exact wpAnyH_done (by simpa [planOk] using hok) h fuel
  | cons p pl ih =>
    intro fuel listed a w hl hok hS h
    obtain ⟨f, rfl⟩ : ∃ f, fuel = f + 1 := ⟨fuel - 1, by simp at hl; omega⟩
    obtain ⟨i, b⟩ := p
    cases b with
    | true =>
      simp only [planOk, Bool.and_eq_true] at hok
      obtain ⟨o, v, ho, hy, h⟩ := h
      exact wpAnyH_take ho hs hok.1.1 hok.1.2 (fun c a w => hQ o.dst v c a w) hy hS (ih f _ _ _ (by simp at hl; omega) hok.2 hS h)
    | false =>
      simp only [planOk, Bool.and_eq_true, beq_iff_eq] at hok
      refine wpAnyH_all hok.1 (by simp) (fun j hj => ?_)
      simp only [List.mem_singleton] at hj
      subst hj
      simp only [wpPlan, wpOp] at h ⊢
      split at h
      · exact ⟨h.1, ih f _ _ _ (by simp at hl; omega) hok.2 h.1 h.2⟩
      · split at h
        · rename_i hw
          rw [if_pos hw]
          exact h.imp (fun h => Oper.wp_mono (fun a w h => ⟨h.1, ih f _ _ _ (by simp at hl; omega) hok.2 h.1 h.2⟩) h) id
        · rename_i hw
          rw [if_neg hw]
          exact ⟨h.1, ih f _ _ _ (by simp at hl; omega) hok.2 h.1 h.2⟩
theorem wp_region_plan (S : World → Prop) (pl : List (Nat × Bool)) {id : Nat} {l : List Oper} {a : Act} {w : World} (hm : P.follows .mixedOrders = true) (hs : Region.noSelect l.toArray = true) (hl : pl.length ≤ l.toArray.size)
    (hok : planOk .any l.toArray pl (Array.replicate l.toArray.size false) = true) (hQ : ∀ (d : Option Tmp) (v : Value) c a w, Q (.panic c) (a.put d v) w → Q (.panic c) a w)
    (hS : S w.drew) (h : S w.drew → wpPlan P l.toArray Q S pl a w.drew) : (Code.region id l.toArray true).wp P Q a w :=
  wp_region_held_drew (S := S) hm hS fun hS => plan_sound hs hQ pl _ _ _ _ hl hok hS (h hS)
/-- The i-th of the operations. -/
def nthOp : List Oper → Nat → Option Oper
  | [], _ => none
  | o :: _, 0 => some o
  | _ :: l, i + 1 => nthOp l i
theorem nthOp_spec : ∀ (l : List Oper) (i : Nat), l.toArray[i]? = nthOp l i
  | [], _ => by simp [nthOp]
  | _ :: _, 0 => by simp [nthOp]
  | _ :: l, i + 1 => by rw [nthOp, ← nthOp_spec l i]; simp
theorem wpPlan_nil {a : Act} {w : World} (h : Q .normal a w) : wpPlan P ops Q S [] a w := h
theorem wpPlan_read {l : List Oper} {i : Nat} {rest : List (Nat × Bool)} {o : Oper} {v : Value} {a : Act} {w : World} (ho : nthOp l i = some o) (hw : Region.wanted o (yielded l.toArray a.tmps) = true)
    (hy : ∀ w', S w' → (execOp a.eval o).run P w' = .ok (.value v) w') (h : wpPlan P l.toArray Q S rest (a.put o.dst v) w) : wpPlan P l.toArray Q S ((i, true) :: rest) a w :=
  ⟨o, v, (nthOp_spec l i).trans ho, .inl ⟨hw, hy⟩, h⟩
theorem wpPlan_pass {l : List Oper} {i : Nat} {rest : List (Nat × Bool)} {o : Oper} {a : Act} {w : World} (ho : nthOp l i = some o) (hw : Region.wanted o (yielded l.toArray a.tmps) = false)
    (h : wpPlan P l.toArray Q S rest (a.put o.dst undef) w) : wpPlan P l.toArray Q S ((i, true) :: rest) a w :=
  ⟨o, undef, (nthOp_spec l i).trans ho, .inr ⟨hw, rfl⟩, h⟩
theorem wpPlan_act {l : List Oper} {i : Nat} {rest : List (Nat × Bool)} {o : Oper} {a : Act} {w : World} (ho : nthOp l i = some o) (hw : Region.wanted o (yielded l.toArray a.tmps) = true)
    (h : ∀ K : Act → World → Prop, (∀ a w, S w ∧ wpPlan P l.toArray Q S rest a w → K a w) → o.wp P a w K Q) : wpPlan P l.toArray Q S ((i, false) :: rest) a w := by
  simp only [wpPlan, wpOp, (nthOp_spec l i).trans ho, hw, if_true]
  exact .inl (h _ (fun _ _ h => h))
theorem wpPlan_skip {l : List Oper} {i : Nat} {rest : List (Nat × Bool)} {o : Oper} {a : Act} {w : World} (ho : nthOp l i = some o) (hw : Region.wanted o (yielded l.toArray a.tmps) = false) (hS : S w)
    (h : wpPlan P l.toArray Q S rest (a.put o.dst undef) w) : wpPlan P l.toArray Q S ((i, false) :: rest) a w := by
  simp only [wpPlan, wpOp, (nthOp_spec l i).trans ho, hw]
  exact ⟨hS, h⟩
/-- A load of a whole row, in every world that has the row. -/
theorem yield_row {a : Act} {o : Oper} {w : World} {b : Nat} {t : TypeId} {cs : Array Value} (hB : Blk w b t cs) (ty : TypeId) (x : Operand) (ho : o.op = .load ty x)
    (off n : Nat) (hx : a.eval x = .pointer (some ⟨b, off, none⟩)) (d : TypeDesc)
    (hu : P.underlying ty = some d) (hd : d.isRow = true) (hi : (P.info? ty).map (·.size) = some n) (hn : off + n ≤ cs.size) :
    (execOp a.eval o).run P w = .ok (.value (.agg (cs.extract off (off + n)))) w := by
  have hr := run_loadVar_mid (P := P) w b off ty (cs.extract off (off + n)).toList d (World.rangeAt_of_block hB off n) hu hd (by rw [hi]; simp; omega)
  unfold execOp
  simp only [ho, hx, Instr.loadAt, Instr.sureAddr, Sem.run_bind, Sem.run_pure, Result.andThen_ok, hr, Array.toArray_toList]
theorem yield_all {a : Act} {o : Oper} {w : World} {b : Nat} {t : TypeId} {cs : Array Value} (hB : Blk w b t cs) (ty : TypeId) (x : Operand) (ho : o.op = .load ty x)
    (hx : a.eval x = .pointer (some ⟨b, 0, none⟩)) (d : TypeDesc)
    (hu : P.underlying ty = some d) (hd : d.isRow = true) (hi : (P.info? ty).map (·.size) = some cs.size) :
    (execOp a.eval o).run P w = .ok (.value (.agg cs)) w := by
  have := yield_row hB ty x ho 0 cs.size hx d hu hd hi (by omega)
  rw [this]; simp
theorem run_field_agg {w : World} (T : TypeId) (fs : Array Field) (hT : P.underlying T = some (.struct fs)) (k : Nat) (f : Field) (hf : fs[k]? = some f) (n e : Nat) (hF : P.underlying f.type = some (.array n e))
    (sz : Nat) (hs : (P.info? f.type).map (·.size) = some sz) (cs : Array Value) : (Instr.field T (.agg cs) k).run P w = .ok (.agg (cs.extract f.offset (f.offset + sz))) w := by
  cases hq : P.info? f.type with
  | none => simp [hq] at hs
  | some j =>
    have hj : j.size = sz := by simpa [hq] using hs
    simp [Instr.field, run_underlying hT, hf, asAgg, part, isAgg, run_underlying hF, sizeOf, typeInfo, hq, hj]
/-- A plan for a region: first what reads and may come up, then what acts. -/
def readsOnly (o : Oper) : Bool := match o.op with
  | .load .. | .move .. | .assign .. | .pick .. | .binOp .. | .unOp .. | .convert .. | .fieldAddr .. | .field .. | .indexAddr .. | .index .. | .slice .. | .extract .. | .nilCheck .. => true
  | .call { callee := .builtin .len, .. } | .call { callee := .builtin .cap, .. } | .call { callee := .builtin .min, .. } | .call { callee := .builtin .max, .. } => true
  | _ => false
def planOf (md : Region.Mode) (ops : Array Oper) : Nat → Array Bool → List (Nat × Bool)
  | 0, _ => []
  | f + 1, listed =>
    match (Region.ready md ops listed).find? (fun i => ((ops[i]?).map readsOnly).getD false && Region.free md ops listed i) with
    | some i => (i, true) :: planOf md ops f (listed.setIfInBounds i true)
    | none => match Region.ready md ops listed with
      | i :: _ => (i, false) :: planOf md ops f (listed.setIfInBounds i true)
      | [] => []
def planFor (ops : Array Oper) : List (Nat × Bool) := planOf .any ops ops.size (Array.replicate ops.size false)
end
end Go.Proofs.YtelcblmconophaaDoor
