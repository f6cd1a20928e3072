/- Rows of words in blocks of memory. -/
import Derived.Test.YtelcblmconophaaDoorB0
import Derived.Below
import Derived.Laws.OwnMore
import Derived.Deep.Draws
import Derived.Laws.Rows
import Derived.Deep.MidRow
import Derived.Deep.WholeRow
import Derived.Laws.CopyOwn
import Derived.Deep.AppendLies
import Derived.StillTailTactics
import Derived.Deep.RegionHeld3
namespace Go.Proofs.YtelcblmconophaaDoor
open Go.RowKit
def v8 (x : BitVec 8) : Value := .int .u8 (U8 x)
def v32 (x : BitVec 32) : Value := .int .u32 (U32 x)
def v64 (x : BitVec 64) : Value := .int .u64 (U64 x)
def e8 (l : List (BitVec 8)) : Array Value := (l.map v8).toArray
def e32 (l : List (BitVec 32)) : Array Value := (l.map v32).toArray
@[simp] theorem e8_size (l : List (BitVec 8)) : (e8 l).size = l.length := by simp [e8]
@[simp] theorem e32_size (l : List (BitVec 32)) : (e32 l).size = l.length := by simp [e32]
def at8 (l : List (BitVec 8)) (i : Nat) : BitVec 8 := l.getD i 0
def at32 (l : List (BitVec 32)) (i : Nat) : BitVec 32 := l.getD i 0
theorem e8_at (l : List (BitVec 8)) (i : Nat) (h : i < l.length) : (e8 l)[i]? = some (.int .u8 (U8 (at8 l i))) := by
  simp [e8, v8, h, at8]
theorem e32_at (l : List (BitVec 32)) (i : Nat) (h : i < l.length) : (e32 l)[i]? = some (.int .u32 (U32 (at32 l i))) := by
  simp [e32, v32, h, at32]
theorem Blk.at8 {w : World} {g : Nat} {t : TypeId} {l : List (BitVec 8)} (h : w.heap[g]? = some (.cells (e8 l) t (0, 0))) (i : Nat) (hi : i < l.length) : w.cell? ⟨g, i, none⟩ = some (.int .u8 (U8 (Go.Proofs.YtelcblmconophaaDoor.at8 l i))) := by
  rw [cell_of_row w g i (e8 l) t (0, 0) h, e8_at l i hi]
theorem Blk.at32 {w : World} {g : Nat} {t : TypeId} {l : List (BitVec 32)} (h : w.heap[g]? = some (.cells (e32 l) t (0, 0))) (i : Nat) (hi : i < l.length) : w.cell? ⟨g, i, none⟩ = some (.int .u32 (U32 (Go.Proofs.YtelcblmconophaaDoor.at32 l i))) := by
  rw [cell_of_row w g i (e32 l) t (0, 0) h, e32_at l i hi]
theorem e32_eta8 (h : List (BitVec 32)) (hh : h.length = 8) : #[Value.int .u32 (U32 (at32 h 0)), .int .u32 (U32 (at32 h 1)), .int .u32 (U32 (at32 h 2)), .int .u32 (U32 (at32 h 3)), .int .u32 (U32 (at32 h 4)), .int .u32 (U32 (at32 h 5)), .int .u32 (U32 (at32 h 6)), .int .u32 (U32 (at32 h 7))] = e32 h := by
  match h, hh with
  | [_, _, _, _, _, _, _, _], _ => rfl
theorem e8_set (l : List (BitVec 8)) (i : Nat) (x : BitVec 8) : (e8 l).setIfInBounds i (.int .u8 (U8 x)) = e8 (l.set i x) := by
  simp [e8, v8, List.map_set]
theorem e32_set (l : List (BitVec 32)) (i : Nat) (x : BitVec 32) : (e32 l).setIfInBounds i (.int .u32 (U32 x)) = e32 (l.set i x) := by
  simp [e32, v32, List.map_set]
theorem e32_one (l : List (BitVec 32)) : (e32 l).all (·.oneCell') = true := by
  simp [e32, v32, Value.oneCell']
theorem e8_one (l : List (BitVec 8)) : (e8 l).all (·.oneCell') = true := by
  simp [e8, v8, Value.oneCell']

def Blk (w : World) (g : Nat) (t : TypeId) (cs : Array Value) : Prop := w.heap[g]? = some (.cells cs t (0, 0))

section
variable {w w' : World} {g : Nat} {t : TypeId} {cs : Array Value}
theorem Blk.lt (h : Blk w g t cs) : g < w.heap.size := by
  rcases Nat.lt_or_ge g w.heap.size with hlt | hge
  · exact hlt
  · unfold Blk at h; rw [Array.getElem?_eq_none hge] at h; cases h
theorem Blk.cell (h : Blk w g t cs) (i : Nat) : w.cell? ⟨g, i, none⟩ = cs[i]? := cell_of_row w g i cs t (0, 0) h
theorem Blk.frozen (h : Blk w g t cs) (i : Nat) : w.frozen? ⟨g, i, none⟩ = false := by
  unfold Blk at h
  simp [World.frozen?, h]
theorem Blk.new (w : World) (t : TypeId) (cs : Array Value) : Blk (w.alloc (.cells cs t)) w.heap.size t cs := heap_alloc_new w _
theorem Blk.new' {w : World} {g : Nat} (t : TypeId) (cs : Array Value) (h : w.heap.size = g) : Blk (w.alloc (.cells cs t)) g t cs := by subst h; exact heap_alloc_new w _
theorem Blk.drew (h : Blk w g t cs) : Blk w.drew g t cs := h
theorem Blk.drewN (h : Blk w g t cs) (n : Nat) : Blk (w.drewN n) g t cs := h
theorem Blk.alloc (h : Blk w g t cs) (o : Obj) : Blk (w.alloc o) g t cs := (Below.heap_alloc w o g h.lt).trans h
theorem Blk.set_ (h : Blk w g t cs) (i : Nat) (u : Value) : Blk (w.setCell ⟨g, i, none⟩ u) g t (cs.setIfInBounds i u) := by
  unfold Blk at h ⊢
  simp [World.setCell, Array.getElem?_modify, h]
theorem Blk.far (h : Blk w g t cs) {p : Addr} (hp : g ≠ p.block) (u : Value) : Blk (w.setCell p u) g t cs := (Below.heap_setCell w p u g hp).trans h
theorem Blk.below {B : Nat} (h : Blk w g t cs) (hb : Below B w w') (hg : g < B) : Blk w' g t cs := (hb.block g hg).trans h
theorem Blk.grown {row : Option Nat} (h : Blk w g t cs) (hb : w.grownBy w' row) (hg : some g ≠ row) : Blk w' g t cs := (hb.block g h.lt hg).trans h
end
theorem below_drewN {B : Nat} {a w : World} (h : Below B a w) (n : Nat) : Below B a (w.drewN n) := h.trans ⟨rfl, rfl, rfl, Nat.le_refl _, fun _ _ => rfl⟩
theorem facts1 {w w1 : World} {c0 : Array Value} {t0 : TypeId} (h : w.alloc (.cells c0 t0) = w1) :
    Blk w1 w.heap.size t0 c0 ∧ Below w.heap.size w w1 ∧ w1.heap.size = w.heap.size + 1 := by
  subst h; exact ⟨Blk.new _ _ _, (Below.refl _ _).alloc (Nat.le_refl _) _, by simp⟩
theorem facts2 {w w1 : World} {c0 c1 : Array Value} {t0 t1 : TypeId} (h : (w.alloc (.cells c0 t0)).alloc (.cells c1 t1) = w1) :
    Blk w1 w.heap.size t0 c0 ∧ Blk w1 (w.heap.size + 1) t1 c1 ∧ Below w.heap.size w w1 ∧ w1.heap.size = w.heap.size + 1 + 1 := by
  subst h; exact ⟨(Blk.new _ _ _).alloc _, Blk.new' _ _ (by simp), ((Below.refl _ _).alloc (Nat.le_refl _) _).alloc (by simp) _, by simp⟩
theorem facts3 {w w1 : World} {c0 c1 c2 : Array Value} {t0 t1 t2 : TypeId} (h : ((w.alloc (.cells c0 t0)).alloc (.cells c1 t1)).alloc (.cells c2 t2) = w1) :
    Blk w1 w.heap.size t0 c0 ∧ Blk w1 (w.heap.size + 1) t1 c1 ∧ Blk w1 (w.heap.size + 1 + 1) t2 c2 ∧ Below w.heap.size w w1 ∧ w1.heap.size = w.heap.size + 1 + 1 + 1 := by
  subst h; exact ⟨((Blk.new _ _ _).alloc _).alloc _, (Blk.new' _ _ (by simp)).alloc _, Blk.new' _ _ (by simp), (((Below.refl _ _).alloc (Nat.le_refl _) _).alloc (by simp) _).alloc (by simp; omega) _, by simp⟩
/-- An element of an array that is a value. -/
theorem run_index_agg {P : Program} (w : World) (T E : TypeId) (n : Nat) (kE : IntKind) (hT : P.underlying T = some (.array n E)) (hE : P.underlying E = some (.int kE)) (hs : (P.info? E).map (·.size) = some 1)
    (cs : Array Value) (k : IntKind) (i : Nat) (v : Value) (hi : i < n) (hv : cs[i]? = some v) : (Instr.index T (.agg cs) (.int k (i : Int))).run P w = .ok v w := by
  cases hq : P.info? E with
  | none => simp [hq] at hs
  | some j =>
    have hj : j.size = 1 := by simpa [hq] using hs
    have hc : (0 : Int) ≤ (i : Int) ∧ (i : Int) < (n : Int) := by omega
    simp [Instr.index, asIntOf, run_underlying hT, hc, part, isAgg, run_underlying hE, sizeOf, typeInfo, hq, hj, hv]
    intro h; omega
theorem range_below {w w' : World} {b o B : Nat} {cs : List Value} (h : w.rangeAt b o cs) (hb : Below B w w') (hlt : b < B) : w'.rangeAt b o cs :=
  fun j v hj => (hb.cell (p := ⟨b, o + j, none⟩) hlt).trans (h j v hj)
theorem there_below {w w' : World} {b o n B : Nat} (h : w.there b o n) (hb : Below B w w') (hlt : b < B) : w'.there b o n :=
  fun j hj => ⟨by rw [hb.cell (p := ⟨b, o + j, none⟩) hlt]; exact (h j hj).1, by rw [hb.frozen (p := ⟨b, o + j, none⟩) hlt]; exact (h j hj).2⟩
theorem Blk.range {w : World} {g : Nat} {t : TypeId} {cs : Array Value} (h : Blk w g t cs) : w.rangeAt g 0 cs.toList := fun j v hj => by
  rw [Nat.zero_add, h.cell j]; simpa using hj
theorem Blk.there {w : World} {g : Nat} {t : TypeId} {cs : Array Value} (h : Blk w g t cs) : w.there g 0 cs.size := fun j hj => by
  rw [Nat.zero_add]; exact ⟨by rw [h.cell j]; simp [hj], h.frozen j⟩
theorem blk_drew {w : World} {g : Nat} {t : TypeId} {cs : Array Value} : Blk w.drew g t cs ↔ Blk w g t cs := Iff.rfl
theorem blk_drewN {w : World} {g n : Nat} {t : TypeId} {cs : Array Value} : Blk (w.drewN n) g t cs ↔ Blk w g t cs := Iff.rfl
theorem below_drew_l {B : Nat} {w w' : World} : Below B w.drew w' ↔ Below B w w' := ⟨fun h => ⟨h.os, h.tape, h.output, h.size, h.block⟩, fun h => ⟨h.os, h.tape, h.output, h.size, h.block⟩⟩
theorem below_drew_r {B : Nat} {w w' : World} : Below B w w'.drew ↔ Below B w w' := ⟨fun h => ⟨h.os, h.tape, h.output, h.size, h.block⟩, fun h => ⟨h.os, h.tape, h.output, h.size, h.block⟩⟩
theorem below_drewN_l {B n : Nat} {w w' : World} : Below B (w.drewN n) w' ↔ Below B w w' := ⟨fun h => ⟨h.os, h.tape, h.output, h.size, h.block⟩, fun h => ⟨h.os, h.tape, h.output, h.size, h.block⟩⟩
theorem below_drewN_r {B n : Nat} {w w' : World} : Below B w (w'.drewN n) ↔ Below B w w' := ⟨fun h => ⟨h.os, h.tape, h.output, h.size, h.block⟩, fun h => ⟨h.os, h.tape, h.output, h.size, h.block⟩⟩
theorem cell_below {w w' : World} {b o B : Nat} {v : Value} (h : w.cell? ⟨b, o, none⟩ = some v) (hb : Below B w w') (hlt : b < B) : w'.cell? ⟨b, o, none⟩ = some v :=
  (hb.cell (p := ⟨b, o, none⟩) hlt).trans h
/-- What stands in a row when a part of it is written over. -/
def spl (cs : Array Value) (o : Nat) (vs : Array Value) : Array Value := (cs.toList.take o ++ vs.toList ++ cs.toList.drop (o + vs.size)).toArray
theorem spl_size (cs : Array Value) (o : Nat) (vs : Array Value) (h : o + vs.size ≤ cs.size) : (spl cs o vs).size = cs.size := by
  simp [spl]; omega
theorem spl_all (cs vs : Array Value) (h : vs.size = cs.size) : spl cs 0 vs = vs := by
  simp [spl, h, List.drop_of_length_le]
theorem grown_setRow {w : World} (b : Nat) (cs : Array Value) : w.grownBy (w.setRow b cs) (some b) :=
  ⟨rfl, rfl, rfl, by simp, fun k _ hne => setRow_other w b k cs (fun e => hne (by rw [e]))⟩

section
variable {P : Program} {w : World} {ops : Array Oper} {rest : List Oper} {op : Oper} {a : Act} {Q : Exit → Act → World → Prop}
/-- A load of a whole array or struct out of a row that is known. -/
theorem wpL_load {b : Nat} {t : TypeId} {cs : Array Value} (hB : Blk w b t cs) (hgd : op.guard = none) (ty : TypeId) (x : Operand) (ho : op.op = .load ty x)
    (o n : Nat) (hx : a.eval x = .pointer (some ⟨b, o, none⟩)) (d : TypeDesc)
    (hu : P.underlying ty = some d) (hd : d.isRow = true) (hi : (P.info? ty).map (·.size) = some n) (hn : o + n ≤ cs.size)
    (h : wpList P ops Q rest (a.put op.dst (.agg (cs.extract o (o + n)))) w) : wpList P ops Q (op :: rest) a w := by
  refine wpList_load_mid hgd ty x ho b o hx (cs.extract o (o + n)).toList d (World.rangeAt_of_block hB o n) hu hd (by rw [hi]; simp; omega) ?_
  rw [Array.toArray_toList]; exact h
/-- A store of a whole array or struct into a row that is known. -/
theorem wpL_store {b : Nat} {t : TypeId} {cs : Array Value} (hB : Blk w b t cs) (hgd : op.guard = none) (ty : TypeId) (x y : Operand) (ho : op.op = .store ty x y)
    (o : Nat) (vs : Array Value) (hx : a.eval x = .pointer (some ⟨b, o, none⟩)) (hy : a.eval y = .agg vs)
    (hi : (P.info? ty).map (·.size) = some vs.size) (hn : o + vs.size ≤ cs.size) (h1 : vs.all (·.oneCell') = true)
    (h : ∀ w', Blk w' b t (spl cs o vs) → w'.heap.size = w.heap.size → w.grownBy w' (some b) → wpList P ops Q rest (a.put op.dst undef) w') : wpList P ops Q (op :: rest) a w := by
  refine wpList_plain hgd fun K hK => ?_
  have hst := run_storeCells_at P b o t vs.toList 0 cs w hB (by simpa using hn) (fun v hv => (Array.all_eq_true_iff_forall_mem.1 h1) v (by simpa using hv))
  have hsv : (storeVar ty ⟨b, o, none⟩ (.agg vs)).run P w = .ok () (w.setRow b (spl cs o vs)) := by
    cases hq : P.info? ty with
    | none => simp [hq] at hi
    | some i =>
      have hs : vs.size = i.size := by simp [hq] at hi; omega
      simp only [Nat.add_zero, Array.length_toList] at hst
      simp [storeVar, sizeOf, typeInfo, hq, Value.cells, hs, hst, spl]
  unfold Oper.wp execOp
  simp only [ho, hx, hy, Instr.storeAt, Instr.sureAddr, Sem.run_bind, Sem.run_pure, Result.andThen_ok, hsv]
  exact hK _ _ (h _ (setRow_heap w b _ _ t _ hB) (by simp) (grown_setRow b _))
theorem wp_storeB {K : Act → World → Prop} {b : Nat} {t : TypeId} {cs : Array Value} (hB : Blk w b t cs) (ty : TypeId) (x y : Operand) (ho : op.op = .store ty x y)
    (o : Nat) (vs : Array Value) (hx : a.eval x = .pointer (some ⟨b, o, none⟩)) (hy : a.eval y = .agg vs)
    (hi : (P.info? ty).map (·.size) = some vs.size) (hn : o + vs.size ≤ cs.size) (h1 : vs.all (·.oneCell') = true)
    (h : ∀ w', Blk w' b t (spl cs o vs) → w'.heap.size = w.heap.size → w.grownBy w' (some b) → K (a.put op.dst undef) w') : op.wp P a w K Q := by
  have hst := run_storeCells_at P b o t vs.toList 0 cs w hB (by simpa using hn) (fun v hv => (Array.all_eq_true_iff_forall_mem.1 h1) v (by simpa using hv))
  have hsv : (storeVar ty ⟨b, o, none⟩ (.agg vs)).run P w = .ok () (w.setRow b (spl cs o vs)) := by
    cases hq : P.info? ty with
    | none => simp [hq] at hi
    | some i =>
      have hs : vs.size = i.size := by simp [hq] at hi; omega
      simp only [Nat.add_zero, Array.length_toList] at hst
      simp [storeVar, sizeOf, typeInfo, hq, Value.cells, hs, hst, spl]
  unfold Oper.wp execOp
  simp only [ho, hx, hy, Instr.storeAt, Instr.sureAddr, Sem.run_bind, Sem.run_pure, Result.andThen_ok, hsv]
  exact h _ (setRow_heap w b _ _ t _ hB) (by simp) (grown_setRow b _)
/-- The same as a step of a region that draws its order. -/
theorem step_store {K : Act → World → Prop} {E : Prop} {b : Nat} {t : TypeId} {cs : Array Value} (hB : Blk w b t cs) (hgd : op.guard = none) (ty : TypeId) (x y : Operand) (ho : op.op = .store ty x y)
    (o : Nat) (vs : Array Value) (hx : a.eval x = .pointer (some ⟨b, o, none⟩)) (hy : a.eval y = .agg vs)
    (hi : (P.info? ty).map (·.size) = some vs.size) (hn : o + vs.size ≤ cs.size) (h1 : vs.all (·.oneCell') = true)
    (h : ∀ w', Blk w' b t (spl cs o vs) → w'.heap.size = w.heap.size → w.grownBy w' (some b) → K (a.put op.dst undef) w') :
    if Region.wanted op (yielded ops a.tmps) = true then Oper.wp P op a w K Q else E := by
  have hw : Region.wanted op (yielded ops a.tmps) = true := by simp [Region.wanted, hgd]
  rw [if_pos hw]
  exact wp_storeB hB ty x y ho o vs hx hy hi hn h1 h
/-- A row of which just the length is known. -/
def BlkN (w : World) (g : Nat) (t : TypeId) (n : Nat) : Prop := ∃ cs : Array Value, cs.size = n ∧ Blk w g t cs
theorem Blk.toN {w : World} {g n : Nat} {t : TypeId} {cs : Array Value} (h : Blk w g t cs) (hn : cs.size = n) : BlkN w g t n := ⟨cs, hn, h⟩
theorem blkN_drew {w : World} {g n : Nat} {t : TypeId} : BlkN w.drew g t n ↔ BlkN w g t n := Iff.rfl
theorem BlkN.below {w w' : World} {g n B : Nat} {t : TypeId} (h : BlkN w g t n) (hb : Below B w w') (hg : g < B) : BlkN w' g t n := let ⟨cs, hn, hB⟩ := h; ⟨cs, hn, hB.below hb hg⟩
theorem BlkN.setRow_same {w : World} {g n : Nat} {t : TypeId} (h : BlkN w g t n) (vs : Array Value) (hv : vs.size = n) : BlkN (w.setRow g vs) g t n := let ⟨_, _, hB⟩ := h; ⟨vs, hv, setRow_heap w g _ vs t _ hB⟩
theorem BlkN.setRow_far {w : World} {g g' n : Nat} {t : TypeId} (h : BlkN w g t n) (vs : Array Value) (hne : g ≠ g') : BlkN (w.setRow g' vs) g t n := let ⟨cs, hn, hB⟩ := h; ⟨cs, hn, (setRow_other w g' g vs hne).trans hB⟩
theorem Blk.setRow_far {w : World} {g g' : Nat} {t : TypeId} {cs : Array Value} (h : Blk w g t cs) (vs : Array Value) (hne : g ≠ g') : Blk (w.setRow g' vs) g t cs := (setRow_other w g' g vs hne).trans h
theorem BlkN.setRow_blk {w : World} {g n : Nat} {t : TypeId} (h : BlkN w g t n) (vs : Array Value) : Blk (w.setRow g vs) g t vs := let ⟨_, _, hB⟩ := h; setRow_heap w g _ vs t _ hB
theorem cell_setRow {w : World} {b o g : Nat} {v : Value} (h : w.cell? ⟨b, o, none⟩ = some v) (vs : Array Value) (hne : b ≠ g) : (w.setRow g vs).cell? ⟨b, o, none⟩ = some v :=
  (cell_setRow_other w g vs ⟨b, o, none⟩ hne).trans h
theorem range_setRow {w : World} {b o g : Nat} {cs : List Value} (h : w.rangeAt b o cs) (vs : Array Value) (hne : b ≠ g) : (w.setRow g vs).rangeAt b o cs :=
  fun j v hj => (cell_setRow_other w g vs ⟨b, o + j, none⟩ hne).trans (h j v hj)
theorem run_storeB_all {P : Program} {w : World} {g : Nat} {t : TypeId} {vs : Array Value} (hB : BlkN w g t vs.size) (h1 : vs.all (·.oneCell') = true) :
    (storeCells ⟨g, 0, none⟩ vs.toList).run P w = .ok () (w.setRow g vs) := by
  obtain ⟨cs, hn, hB⟩ := hB
  have hst := run_storeCells_at P g 0 t vs.toList 0 cs w hB (by simp; omega) (fun v hv => (Array.all_eq_true_iff_forall_mem.1 h1) v (by simpa using hv))
  rw [hst]
  have e : (List.take (0 + 0) cs.toList ++ vs.toList ++ List.drop (0 + 0 + vs.toList.length) cs.toList).toArray = vs := by
    rw [List.drop_of_length_le (by simp; omega)]; simp
  rw [e]
/-- A store of one cell into a row that is known. -/
theorem Blk.set1 {b : Nat} {t : TypeId} {cs : Array Value} (hB : Blk w b t cs) (o : Nat) (v : Value) : Blk (w.setCell ⟨b, o, none⟩ v) b t (cs.setIfInBounds o v) := hB.set_ o v
/-- The builtin copy into a row that is known. -/
theorem wpL_copy {g : Nat} {t : TypeId} {cs : Array Value} (hB : Blk w g t cs) (hgd : op.guard = none) (d s : Operand) (dT sT : TypeId)
    (ho : op.op = .call { callee := .builtin .copy, args := #[d, s], argTypes := #[dT, sT] }) (elem : TypeId) (hu : P.underlying dT = some (.slice elem)) (hsz : (P.info? elem).map (·.size) = some 1)
    (dp sp : Option Addr) (dLen dCap sLen sCap : Nat) (hd : a.eval d = .slice dp dLen dCap) (hs : a.eval s = .slice sp sLen sCap)
    (off : Nat) (vs : List Value) (hn : vs.length = Nat.min sLen dLen)
    (hpos : 0 < vs.length → dp = some ⟨g, off, none⟩ ∧ ∃ ad, sp = some ad ∧ ∀ j v, vs[j]? = some v → w.cell? (ad.add j) = some v)
    (hfit : off + vs.length ≤ cs.size) (h1 : ∀ v ∈ vs, v.oneCell' = true)
    (h : ∀ w', Blk w' g t (spl cs off vs.toArray) → w'.heap.size = w.heap.size → w.grownBy w' (some g) → wpList P ops Q rest (a.put op.dst (goInt vs.length)) w') :
    wpList P ops Q (op :: rest) a w := by
  by_cases h0 : vs.length = 0
  · obtain rfl : vs = [] := List.eq_nil_of_length_eq_zero h0
    refine wpList_copy_nothing hgd d s dT sT ho elem hu hsz dp sp dLen dCap sLen sCap hd hs (by simpa using hn.symm) ?_
    exact h w (by simpa [spl] using hB) rfl (World.grownBy.refl w _)
  · obtain ⟨rfl, ad, rfl, hsrc⟩ := hpos (by omega)
    refine wpList_copy_own hgd d s dT sT ho elem hu hsz g off dLen dCap ad sLen sCap hd hs cs t hB vs hn hsrc hfit h1 ?_
    refine h _ ?_ (by simp) (grown_setRow g _)
    have := setRow_heap w g _ (spl cs off vs.toArray) t _ hB
    unfold Blk
    simpa [spl] using this
/-- The end of a function whose result lies in a row. -/
theorem ret_row {fn : Func} {R : Ending → World → Prop} {p : Tmp} {ty : TypeId} (hres : fn.results = #[.cell p ty]) {g : Nat} {t : TypeId} {cs : Array Value} (hB : Blk w g t cs)
    (hp : a.tmps.getD p undef = .pointer (some ⟨g, 0, none⟩)) {d : TypeDesc} (hu : P.underlying ty = some d) (hdr : d.isRow = true) (hi : (P.info? ty).map (·.size) = some cs.size)
    (hd : a.defers = []) (hR : R (.returned (.agg cs)) w) : bodyPost P fn R .ret a w :=
  bodyPost_ret (results_cell_row hres _ w g t cs (0, 0) d hp hB hu (by cases d <;> first | rfl | exact hdr) hi) hd hR
end
end Go.Proofs.YtelcblmconophaaDoor
