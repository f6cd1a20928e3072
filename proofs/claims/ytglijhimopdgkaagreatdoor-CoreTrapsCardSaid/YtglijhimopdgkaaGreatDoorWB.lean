/- Tables with numbers of 16 bits. -/
import Derived.Test.YtglijhimopdgkaaGreatDoorP0
namespace Go.Proofs.YtglijhimopdgkaaGreatDoor
open Go.RowKit
set_option maxRecDepth 100000
def avE {H : Type} (τ : Ty) (d : DataW H) : AV :=
  match τ with
  | .agg true l f => match d with
    | .agg ds => .agg true l (fun i => avE (f 0) (ds.getD i .nil))
    | _ => .junk
  | .agg false l f => match d with
    | .agg ds => .agg false l (fun i => avE (f i) (ds.getD i .nil))
    | _ => .junk
  | .int .i64 => match d with
    | .lit (.int _ z) => bif decide (0 ≤ z) then .nat z.toNat else .int z
    | _ => .junk
  | .int .u8 => match d with
    | .lit (.int _ z) => .u8 (BitVec.ofInt 8 z)
    | _ => .junk
  | .int .u16 => match d with
    | .lit (.int _ z) => .u16 (BitVec.ofInt 16 z)
    | _ => .junk
  | .int .u32 => match d with
    | .lit (.int _ z) => .u32 (BitVec.ofInt 32 z)
    | _ => .junk
  | .str => match d with
    | .lit (.string b) => .str b
    | _ => .junk
  | _ => .junk
def rawU : Ty → Bool
  | .int .i64 => true
  | .int .u8 => true
  | .int .u16 => true
  | .int .u32 => true
  | .str => true
  | .agg true _ f => rawU (f 0)
  | .agg false l f => (List.range l).all fun i => rawU (f i)
  | _ => false
section
variable {H : Type} {enc : TypeId × Value → H} {P : Program} {ty : TypeId → Ty} {w : World} {base : Nat} {sp : Nat → Bool} {held : Bool} {c : Cx}
theorem in_rawU {t : TypeId} (h : TyOK P ty t) : rawU (ty t) = true → ∀ (fuel : Nat) (cs : List Value) (x : DataW H × List MemPlace), DataW.trod enc P w base sp held fuel t cs = some x →
    R c (avE (ty t) x.1) cs ∧ Sh (ty t) (avE (ty t) x.1) := by
  induction h with
  | int t k hk hu hi hty =>
    intro hf fuel cs x hx
    obtain ⟨z, rfl, rfl, hw⟩ := DataW.trod_int hu hx
    rw [hty] at hf ⊢
    cases k <;> first | cases hf | skip
    · have hb := bounds_i64 hw
      show R c (bif decide (0 ≤ z) then .nat z.toNat else .int z) _ ∧ Sh _ (bif decide (0 ≤ z) then .nat z.toNat else .int z)
      by_cases h0 : 0 ≤ z
      · rw [decide_eq_true h0]
        refine ⟨?_, trivial⟩
        show [_] = [_]
        rw [Int.toNat_of_nonneg h0]
      · rw [decide_eq_false h0]
        exact ⟨rfl, trivial⟩
    · have hb := bounds_u8 hw
      refine ⟨?_, trivial⟩
      show [_] = [_]
      congr 2
      show z = U8 (BitVec.ofInt 8 z)
      unfold U8; rw [BitVec.toNat_ofInt]; omega
    · have hb : 0 ≤ z ∧ z < 65536 := by
        simp [Lit.wf, IntKind.min, IntKind.max, IntKind.signed, IntKind.bits] at hw; omega
      refine ⟨?_, trivial⟩
      show [_] = [_]
      congr 2
      show z = U16 (BitVec.ofInt 16 z)
      unfold U16; rw [BitVec.toNat_ofInt]; omega
    · have hb := bounds_u32 hw
      refine ⟨?_, trivial⟩
      show [_] = [_]
      congr 2
      show z = U32 (BitVec.ofInt 32 z)
      unfold U32; rw [BitVec.toNat_ofInt]; omega
  | arr t k e hu he hp hi hr hq hty ih =>
    intro hf fuel cs x hx
    have hct : P.cellsOf t = (ty t).size := by
      obtain ⟨i, h1, _, h3, _⟩ := hi
      unfold Program.cellsOf; rw [h1]; exact h3
    rw [hty] at hf
    have hf : rawU (ty e) = true := hf
    obtain ⟨xs, m, _, rfl, hl, hxs, hel⟩ := DataW.trod_array hu hx
    rw [hct, hty] at hl
    rw [hty]
    have hl : cs.length = k * (ty e).size := hl
    rw [he.cells] at hel
    have each : ∀ i, i < k → R c (avE (ty e) ((xs.map (·.1)).getD i .nil)) ((cs.drop (i * (ty e).size)).take (ty e).size) ∧ Sh (ty e) (avE (ty e) ((xs.map (·.1)).getD i .nil)) := fun i hi => by
      have h1 := hel i hi
      rw [List.getElem?_eq_getElem (by omega)] at h1
      have := ih hf _ _ _ h1
      rw [show (xs.map (·.1)).getD i .nil = (xs[i]'(by omega)).1 by simp [List.getD, show i < xs.length by omega]]
      exact this
    refine ⟨⟨fun i => (cs.drop (i * (ty e).size)).take (ty e).size, fun i hi => (each i hi).1, ?_⟩, rfl, rfl, fun i hi => (each i hi).2⟩
    have := cut_all (fun _ => (ty e).size) k cs (by rw [sumN_const]; exact hl)
    simp only [sumN_const] at this
    exact this
  | st t fs n' f hu hn hft hg hi hr hq hh hnm hty ih =>
    intro hf fuel cs x hx
    have hct : P.cellsOf t = (ty t).size := by
      obtain ⟨i, h1, _, h3, _⟩ := hi
      unfold Program.cellsOf; rw [h1]; exact h3
    rw [hty] at hf
    obtain ⟨xs, m, _, rfl, hl, hxs, hel⟩ := DataW.trod_struct hu hx
    rw [hct, hty] at hl
    rw [hty]
    have hl : cs.length = sumN (fun i => (f i).size) n' := hl
    have each : ∀ i, i < n' → R c (avE (f i) ((xs.map (·.1)).getD i .nil)) ((cs.drop (sumN (fun i => (f i).size) i)).take (f i).size) ∧ Sh (f i) (avE (f i) ((xs.map (·.1)).getD i .nil)) := fun i hi => by
      have hif : i < fs.size := by omega
      have h1 := hel i fs[i] (Array.getElem?_eq_getElem hif)
      obtain ⟨g1, g2, _⟩ := hg i hif
      rw [List.getElem?_eq_getElem (by omega), (hft i hif).cells, g2, ← g1] at h1
      have hfr : rawU (ty fs[i].type) = true := by
        rw [← g1]
        exact List.all_eq_true.1 hf i (by simpa using hi)
      have := ih i hif hfr _ _ _ h1
      rw [← g1] at this
      rw [show (xs.map (·.1)).getD i .nil = (xs[i]'(by omega)).1 by simp [List.getD, show i < xs.length by omega]]
      exact this
    exact ⟨⟨fun i => (cs.drop (sumN (fun i => (f i).size) i)).take (f i).size, fun i hi => (each i hi).1, cut_all _ n' cs hl⟩, rfl, rfl, fun i hi => (each i hi).2⟩
  | bo t hu hi hty => intro hf; rw [hty] at hf; cases hf
  | str t hu hi hty =>
    intro hf fuel cs x hx
    obtain ⟨s, rfl, rfl, _⟩ := DataW.trod_string hu hx
    rw [hty]
    exact ⟨rfl, trivial⟩
  | mp _ _ _ _ _ _ _ hty => intro hf; rw [hty] at hf; cases hf
  | fu _ _ _ _ _ _ hty => intro hf; rw [hty] at hf; cases hf
  | pt t e hu hi hty => intro hf; rw [hty] at hf; cases hf
  | sl t e hu hi he hp hty ih => intro hf; rw [hty] at hf; cases hf
end
end Go.Proofs.YtglijhimopdgkaaGreatDoor
