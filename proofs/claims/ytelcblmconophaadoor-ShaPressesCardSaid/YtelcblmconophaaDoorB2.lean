/- Slices of bytes that are read; a state's cells. -/
import Derived.Test.YtelcblmconophaaDoorM1
namespace Go.Proofs.YtelcblmconophaaDoor
open Go.RowKit
/-- The slice at A reads as these bytes. -/
def RdB (w : World) (A : Option Addr) (xs : Msg) : Prop :=
  0 < xs.length → ∃ b o, A = some ⟨b, o, none⟩ ∧ b < w.heap.size ∧ ∀ j, j < xs.length → w.cell? ⟨b, o + j, none⟩ = some (.int .u8 (U8 (at8 xs j)))
theorem RdB.nil (w : World) (A : Option Addr) : RdB w A [] := fun h => absurd h (by simp)
theorem RdB.below {w w' : World} {A : Option Addr} {xs : Msg} (h : RdB w A xs) (hb : Below w.heap.size w w') : RdB w' A xs := fun hx => by
  obtain ⟨b, o, hA, hlt, hc⟩ := h hx
  exact ⟨b, o, hA, Nat.lt_of_lt_of_le hlt hb.size, fun j hj => cell_below (hc j hj) hb hlt⟩
theorem at8_drop (xs : Msg) (k j : Nat) : at8 (xs.drop k) j = at8 xs (k + j) := by simp [at8]
theorem at8_take (xs : Msg) (k j : Nat) (h : j < k) : at8 (xs.take k) j = at8 xs j := by simp [at8, h]
theorem RdB.cut {w : World} {A : Option Addr} {xs : Msg} (h : RdB w A xs) {k cap : Nat} (hc : xs.length ≤ cap) :
    RdB w (if cap = k then A else A.map (·.add (k * 1))) (xs.drop k) := fun hx => by
  rw [List.length_drop] at hx
  obtain ⟨b, o, rfl, hlt, hcell⟩ := h (by omega)
  rw [if_neg (by omega), Nat.mul_one]
  refine ⟨b, o + k, by simp only [Option.map_some, Addr.add_mid], hlt, fun j hj => ?_⟩
  rw [at8_drop, Nat.add_assoc]
  exact hcell _ (by rw [List.length_drop] at hj; omega)
theorem v8_getElem? (xs : Msg) (j : Nat) (v : Value) (h : (xs.map v8)[j]? = some v) : j < xs.length ∧ v = .int .u8 (U8 (at8 xs j)) := by
  rw [List.getElem?_map] at h
  cases hq : xs[j]? with
  | none => simp [hq] at h
  | some y =>
    obtain ⟨hj, rfl⟩ := List.getElem?_eq_some_iff.1 hq
    rw [hq] at h
    simp only [Option.map_some, Option.some.injEq] at h
    exact ⟨hj, by rw [← h]; simp [v8, at8, hj]⟩
/-- As the builtin copy wants its source. -/
theorem RdB.src {w : World} {A : Option Addr} {xs : Msg} (h : RdB w A xs) (k : Nat) (hk : 0 < ((xs.take k).map v8).length) :
    ∃ ad, A = some ad ∧ ∀ j v, ((xs.take k).map v8)[j]? = some v → w.cell? (ad.add j) = some v := by
  simp only [List.length_map, List.length_take] at hk
  obtain ⟨b, o, rfl, _, hc⟩ := h (by omega)
  refine ⟨_, rfl, fun j v hv => ?_⟩
  obtain ⟨hj, rfl⟩ := v8_getElem? _ _ _ hv
  simp only [List.length_take] at hj
  rw [Addr.add_mid, at8_take _ _ _ (by omega)]
  exact hc j (by omega)
theorem one_v8 (xs : Msg) : ∀ v ∈ xs.map v8, v.oneCell' = true := by
  intro v hv
  simp only [List.mem_map] at hv
  obtain ⟨x, _, rfl⟩ := hv
  rfl
/-- A state's cells. -/
def stc (h : List (BitVec 32)) (r : Msg) (F : BitVec 64) : Array Value := e32 h ++ e8 r ++ #[v64 F]
section
variable (h h' : List (BitVec 32)) (r r' : Msg) (F F' : BitVec 64) (hh : h.length = 8) (hr : r.length = 64)
theorem stc_list : (stc h r F).toList = h.map v32 ++ (r.map v8 ++ [v64 F]) := by simp [stc, e32, e8]
include hh hr
theorem stc_size : (stc h r F).size = 73 := by simp [stc, hh, hr]
omit hr in
theorem stc_hash : (stc h r F).extract 0 (0 + 8) = e32 h := by
  apply Array.ext'
  rw [Array.toList_extract, stc_list, List.extract_eq_take_drop]
  simp [e32, hh]
theorem stc_rest : (stc h r F).extract 8 (8 + 64) = e8 r := by
  apply Array.ext'
  rw [Array.toList_extract, stc_list, List.extract_eq_take_drop]
  simp [e8, hh, hr]
theorem stc_fed : (stc h r F)[72]? = some (.int .u64 (U64 F)) := by
  rw [← Array.getElem?_toList, stc_list, List.getElem?_append_right (by simp [hh]), List.getElem?_append_right (by simp [hh, hr])]
  simp [hh, hr, v64]
theorem stc_setFed : (stc h r F).setIfInBounds 72 (.int .u64 (U64 F')) = stc h r F' := by
  apply Array.ext'
  rw [Array.toList_setIfInBounds, stc_list, stc_list, List.set_append, if_neg (by simp [hh]), List.set_append, if_neg (by simp [hh, hr])]
  simp [hh, hr, v64]
omit hr in
theorem stc_putHash (hh' : h'.length = 8) : spl (stc h r F) 0 (e32 h') = stc h' r F := by
  apply Array.ext'
  rw [spl, stc_list, stc_list]
  simp [e32, hh, hh']
theorem stc_putPart (o : Nat) (ho : o + r'.length ≤ 64) : spl (stc h r F) (8 + o) (e8 r') = stc h (r.take o ++ r' ++ r.drop (o + r'.length)) F := by
  apply Array.ext'
  rw [spl, stc_list, stc_list]
  have e1 : List.take (8 + o) (h.map v32 ++ (r.map v8 ++ [v64 F])) = h.map v32 ++ (r.take o).map v8 := by
    rw [List.take_append, List.take_of_length_le (by simp; omega), List.take_append_of_le_length (by simp; omega)]
    simp [hh, List.map_take]
  have e2 : List.drop (8 + o + (e8 r').size) (h.map v32 ++ (r.map v8 ++ [v64 F])) = (r.drop (o + r'.length)).map v8 ++ [v64 F] := by
    rw [List.drop_append, List.drop_of_length_le (by simp; omega), List.nil_append, List.drop_append_of_le_length (by simp; omega)]
    simp [hh, List.map_drop]
    congr 1; omega
  simp only [e1, e2]
  simp [e8]
theorem stc_putRest (hr' : r'.length = 64) : spl (stc h r F) 8 (e8 r') = stc h r' F := by
  have := stc_putPart h r r' F hh hr 0 (by omega)
  rw [this, Nat.zero_add, hr', List.drop_of_length_le (by omega)]
  simp
end
section
variable {P : Program} {w : World} {ops : Array Oper} {rest : List Oper} {op : Oper} {a : Act} {Q : Exit → Act → World → Prop}
/-- A new variable of a type whose zero value is known. -/
theorem wpL_alloc (hgd : op.guard = none) (ty : TypeId) (ho : op.op = .alloc ty) (z : Array Value) (hz : (P.info? ty).map (·.zero) = some (some (.agg z)))
    (h : wpList P ops Q rest (a.put op.dst (.pointer (some ⟨w.heap.size, 0, none⟩))) (w.alloc (.cells z ty))) : wpList P ops Q (op :: rest) a w := by
  refine wpList_plain hgd fun K hK => ?_
  have hrun : (Instr.alloc ty true (.tuple #[])).run P w = .ok (.pointer (some ⟨w.heap.size, 0, none⟩)) (w.alloc (.cells z ty)) := by
    cases hq : P.info? ty with
    | none => simp [hq] at hz
    | some i =>
      have hi : i.zero = some (.agg z) := by simpa [hq] using hz
      simp [Instr.alloc, zeroValue, typeInfo, hq, hi, newVar, newRow, Value.cells, go_sem]
  unfold Oper.wp execOp
  simp only [ho, Sem.run_bind, hrun, Result.andThen_ok, Sem.run_pure]
  exact hK _ _ h
end
theorem u64_mod64 (n : Nat) : (U64 (BitVec.ofNat 64 n)).tmod 64 = ((n % 64 : Nat) : Int) := by
  unfold U64
  rw [BitVec.toNat_ofNat, Int.tmod_eq_emod_of_nonneg (by omega)]
  omega
theorem wrap64_nat (n : Nat) (h : n < 1000000000) : wrap64 (n : Int) = n := IntWalk.wrap64_in _ (by omega)
theorem zeros32 : #[Value.int .u8 0, .int .u8 0, .int .u8 0, .int .u8 0, .int .u8 0, .int .u8 0, .int .u8 0, .int .u8 0, .int .u8 0, .int .u8 0, .int .u8 0, .int .u8 0, .int .u8 0, .int .u8 0, .int .u8 0, .int .u8 0, .int .u8 0, .int .u8 0, .int .u8 0, .int .u8 0, .int .u8 0, .int .u8 0, .int .u8 0, .int .u8 0, .int .u8 0, .int .u8 0, .int .u8 0, .int .u8 0, .int .u8 0, .int .u8 0, .int .u8 0, .int .u8 0, .int .u8 0, .int .u8 0, .int .u8 0, .int .u8 0, .int .u8 0, .int .u8 0, .int .u8 0, .int .u8 0, .int .u8 0, .int .u8 0, .int .u8 0, .int .u8 0, .int .u8 0, .int .u8 0, .int .u8 0, .int .u8 0, .int .u8 0, .int .u8 0, .int .u8 0, .int .u8 0, .int .u8 0, .int .u8 0, .int .u8 0, .int .u8 0, .int .u8 0, .int .u8 0, .int .u8 0, .int .u8 0, .int .u8 0, .int .u8 0, .int .u8 0, .int .u8 0] = e8 (zpad []) := by rfl
def est (m : Msg) : Array Value := stc (hsh m) (rst m) (BitVec.ofNat 64 m.length)
end Go.Proofs.YtelcblmconophaaDoor
