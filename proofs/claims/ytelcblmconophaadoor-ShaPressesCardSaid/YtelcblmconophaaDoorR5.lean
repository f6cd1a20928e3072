/- Two rows of numbers are held against each other. -/
import Derived.Test.YtelcblmconophaaDoorR4
import Derived.ChangeKeysEq
namespace Go.Proofs.YtelcblmconophaaDoor
open Go.RowKit
section
variable {P : Program} {w : World}
theorem run_eqItems_int (d : Nat) {E : TypeId} {k k' : IntKind} (hE : P.underlying E = some (.int k')) (hs : (P.info? E).map (·.size) = some 1) (xs ys : Array Value) (f g : Nat → Int) :
    ∀ (is : List Nat), (∀ i, i ∈ is → xs[i]? = some (.int k (f i))) → (∀ i, i ∈ is → ys[i]? = some (.int k (g i))) → (Op.eqItems (d + 1) E 1 xs ys is).run P w = .ok (is.all fun i => f i == g i) w
  | [], _, _ => by simp [Op.eqItems]
  | i :: is, hx, hy => by
    have ih := run_eqItems_int d hE hs xs ys f g is (fun j hj => hx j (by simp [hj])) (fun j hj => hy j (by simp [hj]))
    cases hq : P.info? E with
    | none => simp [hq] at hs
    | some j =>
      have hx0 := hx i (by simp)
      have hy0 := hy i (by simp)
      have p1 : (part E xs (i * 1)).run P w = .ok (.int k (f i)) w := by simp [part, isAgg, run_underlying hE, hx0]
      have p2 : (part E ys (i * 1)).run P w = .ok (.int k (g i)) w := by simp [part, isAgg, run_underlying hE, hy0]
      have p3 : (Op.equalIn (d + 1) E (.int k (f i)) (.int k (g i))).run P w = .ok (f i == g i) w := by simp [Op.equalIn, run_underlying hE]
      simp only [Op.eqItems, Sem.run_bind, p1, p2, p3, Result.andThen_ok]
      cases hc : f i == g i
      · simp [hc]
      · simp [hc, ih]
theorem run_equalIn_row (d : Nat) {T E : TypeId} {n : Nat} {k k' : IntKind} (hT : P.underlying T = some (.array n E)) (hE : P.underlying E = some (.int k')) (hs : (P.info? E).map (·.size) = some 1) (xs ys : Array Value) (f g : Nat → Int)
    (hx : ∀ i, i < n → xs[i]? = some (.int k (f i))) (hy : ∀ i, i < n → ys[i]? = some (.int k (g i))) : (Op.equalIn (d + 2) T (.agg xs) (.agg ys)).run P w = .ok ((List.range n).all fun i => f i == g i) w := by
  cases hq : P.info? E with
  | none => simp [hq] at hs
  | some j =>
    have hj : P.cellsOf E = 1 := by unfold Program.cellsOf; rw [hs]; rfl
    rw [run_equalIn_array w (d + 1) xs ys hT hq, hj]
    exact run_eqItems_int d hE hs xs ys f g _ (fun i hi => hx i (by simpa using hi)) (fun i hi => hy i (by simpa using hi))
theorem yield_eqrow {a : Act} {o : Oper} {T T' E : TypeId} {n : Nat} {k k' : IntKind} (hT : P.underlying T = some (.array n E)) (hE : P.underlying E = some (.int k')) (hs : (P.info? E).map (·.size) = some 1) (hg : P.eqGuardType P.depth T = false)
    (xs ys : Array Value) (f g : Nat → Int) (hx : ∀ i, i < n → xs[i]? = some (.int k (f i))) (hy : ∀ i, i < n → ys[i]? = some (.int k (g i)))
    (x y : Operand) (ho : o.op = .binOp .eql T x y T') (ex : a.eval x = .agg xs) (ey : a.eval y = .agg ys) :
    (execOp a.eval o).run P w = .ok (.value (.bool ((List.range n).all fun i => f i == g i))) w := by
  have h1 := run_equalIn_row (P := P) (w := w) 9998 hT hE hs xs ys f g hx hy
  unfold execOp
  simp [ho, ex, ey, eqGuard, hg, binOp, Op.equal, Op.maxDepth, h1]
end
theorem all_e8 (a b : Msg) (n : Nat) (ha : a.length = n) (hb : b.length = n) : ((List.range n).all fun i => U8 (at8 a i) == U8 (at8 b i)) = decide (a = b) := by
  rw [Bool.eq_iff_iff, List.all_eq_true, decide_eq_true_eq]
  constructor
  · intro h
    apply List.ext_getElem (by omega)
    intro i h1 h2
    have := h i (by simp; omega)
    have e := U8_inj (by simpa using this)
    simpa [at8, h1, h2] using e
  · rintro rfl i _
    simp
theorem all_e32 (a b : List (BitVec 32)) (n : Nat) (ha : a.length = n) (hb : b.length = n) : ((List.range n).all fun i => U32 (at32 a i) == U32 (at32 b i)) = decide (a = b) := by
  rw [Bool.eq_iff_iff, List.all_eq_true, decide_eq_true_eq]
  constructor
  · intro h
    apply List.ext_getElem (by omega)
    intro i h1 h2
    have := h i (by simp; omega)
    have e := U32_inj (by simpa using this)
    simpa [at32, h1, h2] using e
  · rintro rfl i _
    simp
theorem g31 : Tryd.prog.eqGuardType Tryd.prog.depth 31 = false := by kernel_rfl
theorem g27 : Tryd.prog.eqGuardType Tryd.prog.depth 27 = false := by kernel_rfl
theorem i5' : (Tryd.prog.info? 5).map (·.size) = some 1 := i5
theorem yield_eq31 {w : World} {a : Act} {o : Oper} (l m : List (BitVec 32)) (hl : l.length = 8) (hm : m.length = 8) (T' : TypeId) (x y : Operand) (ho : o.op = .binOp .eql 31 x y T') (ex : a.eval x = .agg (e32 l)) (ey : a.eval y = .agg (e32 m)) :
    (execOp a.eval o).run Tryd.prog w = .ok (.value (.bool (decide (l = m)))) w := by
  rw [← all_e32 l m 8 hl hm]
  exact yield_eqrow Tryd.underlying31 Tryd.underlying30 i30 g31 _ _ _ _ (fun i hi => e32_at l i (by omega)) (fun i hi => e32_at m i (by omega)) x y ho ex ey
theorem yield_eq27 {w : World} {a : Act} {o : Oper} (l m : Msg) (hl : l.length = 32) (hm : m.length = 32) (T' : TypeId) (x y : Operand) (ho : o.op = .binOp .eql 27 x y T') (ex : a.eval x = .agg (e8 l)) (ey : a.eval y = .agg (e8 m)) :
    (execOp a.eval o).run Tryd.prog w = .ok (.value (.bool (decide (l = m)))) w := by
  rw [← all_e8 l m 32 hl hm]
  exact yield_eqrow Tryd.underlying27 Tryd.underlying5 i5 g27 _ _ _ _ (fun i hi => e8_at l i (by omega)) (fun i hi => e8_at m i (by omega)) x y ho ex ey
end Go.Proofs.YtelcblmconophaaDoor
