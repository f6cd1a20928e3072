/- Rows of numbers that come in by value are opened. -/
import Derived.Test.YtelcblmconophaaDoorL0
namespace Go.Proofs.YtelcblmconophaaDoor
open Go.ChangeShapes Go.WideShapes Go.ChangeAt Go.RowKit
/-- An array of numbers that came in by value. -/
theorem open_row {H : Type} {enc : TypeId × Value → H} {W : World} {v : Value} {d : DataW H} {p : List MemPlace} {r : Reach} {b0 : Nat} {t e n : Nat} {k : IntKind} (ht : Tryd.prog.underlying t = some (.array n e)) (he : Tryd.prog.underlying e = some (.int k))
    (hce : Tryd.prog.cellsOf e = 1) (hct : Tryd.prog.cellsOf t = n) (hval : Value.okWide Tryd.prog W r b0 t v)
    (h : DataW.Trod enc Tryd.prog W 0 (fun _ => true) true t v d p) : ∃ cs : Array Value, v = .agg cs ∧ cs.size = n ∧ ∀ i, i < n → ∃ z, cs[i]? = some (.int k z) ∧ (Lit.int k z).wf = true := by
  unfold Value.okWide at hval
  rw [ht] at hval
  obtain ⟨cs, rfl, hsz, _⟩ := hval
  obtain ⟨fuel, hf⟩ := h
  obtain ⟨xs, m, rfl, hx, hl, hxs, hel⟩ := DataW.trod_array ht hf
  refine ⟨cs, rfl, hsz.trans hct, fun i hi => ?_⟩
  have h1 := hel i hi
  rw [hce, Nat.mul_one, List.getElem?_eq_getElem (by omega)] at h1
  obtain ⟨z, hz, _, hw⟩ := DataW.trod_int he h1
  refine ⟨z, ?_, hw⟩
  have := congrArg (fun l => l[0]?) hz
  simpa [Value.cells] using this
theorem open_row8 {H : Type} {enc : TypeId × Value → H} {W : World} {v : Value} {d : DataW H} {p : List MemPlace} {r : Reach} {b0 : Nat} {t e n : Nat} (ht : Tryd.prog.underlying t = some (.array n e)) (he : Tryd.prog.underlying e = some (.int .u8))
    (hce : Tryd.prog.cellsOf e = 1) (hct : Tryd.prog.cellsOf t = n) (hval : Value.okWide Tryd.prog W r b0 t v)
    (h : DataW.Trod enc Tryd.prog W 0 (fun _ => true) true t v d p) : ∃ xs : Msg, v = .agg (e8 xs) ∧ xs.length = n := by
  obtain ⟨cs, rfl, hn, hi⟩ := open_row ht he hce hct hval h
  refine ⟨cs.toList.map fun v => BitVec.ofInt 8 (intOf v), ?_, by simpa using hn⟩
  congr 1
  apply Array.ext (by simp)
  intro i h1 h2
  obtain ⟨z, hz, hw⟩ := hi i (by omega)
  obtain ⟨x, rfl⟩ := u8_of z hw
  have e1 : cs[i] = .int .u8 (U8 x) := by simpa [Array.getElem?_eq_getElem h1] using hz
  simp [e8, e1, intOf]
  simp [U8, v8]
theorem open_row32 {H : Type} {enc : TypeId × Value → H} {W : World} {v : Value} {d : DataW H} {p : List MemPlace} {r : Reach} {b0 : Nat} {t e n : Nat} (ht : Tryd.prog.underlying t = some (.array n e)) (he : Tryd.prog.underlying e = some (.int .u32))
    (hce : Tryd.prog.cellsOf e = 1) (hct : Tryd.prog.cellsOf t = n) (hval : Value.okWide Tryd.prog W r b0 t v)
    (h : DataW.Trod enc Tryd.prog W 0 (fun _ => true) true t v d p) : ∃ xs : List (BitVec 32), v = .agg (e32 xs) ∧ xs.length = n := by
  obtain ⟨cs, rfl, hn, hi⟩ := open_row ht he hce hct hval h
  refine ⟨cs.toList.map fun v => BitVec.ofInt 32 (intOf v), ?_, by simpa using hn⟩
  congr 1
  apply Array.ext (by simp)
  intro i h1 h2
  obtain ⟨z, hz, hw⟩ := hi i (by omega)
  have hb : 0 ≤ z ∧ z < 4294967296 := by
    simp [Lit.wf, IntKind.min, IntKind.max, IntKind.signed, IntKind.bits] at hw; omega
  obtain ⟨x, rfl⟩ : ∃ x : BitVec 32, z = U32 x := ⟨BitVec.ofInt 32 z, by unfold U32; rw [BitVec.toNat_ofInt]; omega⟩
  have e1 : cs[i] = .int .u32 (U32 x) := by simpa [Array.getElem?_eq_getElem h1] using hz
  simp [e32, e1, intOf]
  simp [U32, v32]
end Go.Proofs.YtelcblmconophaaDoor
