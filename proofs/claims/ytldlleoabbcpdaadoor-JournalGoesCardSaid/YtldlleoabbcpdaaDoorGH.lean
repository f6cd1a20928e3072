/- What comes in, of any type of data: its plain value, in the form that its type says. -/
import Derived.Test.YtldlleoabbcpdaaDoorGE
import Derived.OpenShut
namespace Go.Proofs.YtldlleoabbcpdaaDoor
open Go.RowKit
def intV : AV → Int | .int z => z | .nat k => k | _ => 0
def asBo : AV → Bool | .bo b => b | _ => false
def asStr : AV → List UInt8 | .str s => s | _ => []
def asI8 : AV → BitVec 8 | .i8 x => x | _ => 0
def asI16 : AV → BitVec 16 | .i16 x => x | _ => 0
def asI32 : AV → BitVec 32 | .i32 x => x | _ => 0
def lenI : AV → Nat | .imm _ _ l _ => l | _ => 0
def elI : AV → Nat → AV | .imm _ _ _ f => f | .agg _ _ f => f | _ => fun _ => .junk
def canonT (ty : TypeId → Ty) (g : TypeId → AV → AV) : Ty → AV → AV
  | .bo, a => .bo (asBo a)
  | .int .u8, a => .u8 (asU8 a)
  | .int .u16, a => .u16 (asU16 a)
  | .int .u32, a => .u32 (asU32 a)
  | .int .u64, a => .u64 (asU64 a)
  | .int .i8, a => .i8 (asI8 a)
  | .int .i16, a => .i16 (asI16 a)
  | .int .i32, a => .i32 (asI32 a)
  | .int .i64, a => .int (BitVec.ofInt 64 (intV a)).toInt
  | .str, a => .str ((asStr a).take maxLen)
  | .sl e, a => .imm false (ty e) (lenI a) (fun i => g e (elI a i))
  | .agg true l f, a => .agg true l (fun i => canonT ty g (f 0) (elI a i))
  | .agg false l f, a => .agg false l (fun i => canonT ty g (f i) (elI a i))
  | _, a => a
def freeT (g : TypeId → Bool) : Ty → Bool
  | .no => false
  | .pt => false
  | .mp _ _ => false
  | .fu => false
  | .sl e => g e
  | .agg true _ f => freeT g (f 0)
  | .agg false l f => (List.range l).all fun i => freeT g (f i)
  | _ => true
def canonN (ty : TypeId → Ty) : Nat → TypeId → AV → AV
  | 0, _, a => a
  | n + 1, t, a => canonT ty (canonN ty n) (ty t) a
def freeN (ty : TypeId → Ty) : Nat → TypeId → Bool
  | 0, _ => false
  | n + 1, t => freeT (freeN ty n) (ty t)
theorem sumN_leF (sz : Nat → Nat) {i : Nat} : ∀ {n : Nat}, i < n → sumN sz i + sz i ≤ sumN sz n
  | n + 1, h => by
    by_cases e : i = n
    · subst e; exact Nat.le_refl _
    · have := sumN_leF sz (show i < n by omega)
      show _ ≤ sumN sz n + sz n
      omega
theorem cut_all (sz : Nat → Nat) : ∀ (n : Nat) (cs : List Value), cs.length = sumN sz n → cs = (List.range n).flatMap fun i => (cs.drop (sumN sz i)).take (sz i)
  | 0, cs, h => by simpa using List.eq_nil_of_length_eq_zero h
  | n + 1, cs, h => by
    have hl : cs.length = sumN sz n + sz n := h
    have ih := cut_all sz n (cs.take (sumN sz n)) (by rw [List.length_take]; omega)
    rw [List.range_succ, List.flatMap_append]
    have e : ((List.range n).flatMap fun i => (cs.drop (sumN sz i)).take (sz i)) = cs.take (sumN sz n) := by
      refine Eq.trans (fm_congr n fun i hi => ?_) ih.symm
      have := sumN_leF sz hi
      rw [List.drop_take, List.take_take, Nat.min_eq_left (by omega)]
    rw [e]
    simp only [List.flatMap_cons, List.flatMap_nil, List.append_nil]
    rw [List.take_of_length_le (i := sz n) (by rw [List.length_drop]; omega), List.take_append_drop]
section
variable {H : Type} {enc : TypeId × Value → H} {P : Program} {ty : TypeId → Ty} {w : World} {base : Nat} {sp : Nat → Bool} {c : Cx}
theorem TyOK.cells {t : TypeId} (h : TyOK P ty t) : P.cellsOf t = (ty t).size := by
  unfold Program.cellsOf; rw [h.size]; rfl
theorem in_dat (hcw : c.w = w) (hmu : ∀ b, ¬ c.Mu b) {t : TypeId} (h : TyOK P ty t) : ∀ (n : Nat), freeN ty (n + 1) t = true → ∀ (fuel : Nat) (cs : List Value) (x : DataW H × List MemPlace), DataW.trod enc P w base sp true fuel t cs = some x →
    ∃ a, R c (canonT ty (canonN ty n) (ty t) a) cs ∧ Sh (ty t) (canonT ty (canonN ty n) (ty t) a) := by
  induction h with
  | bo t hu hi hty =>
    intro n hf fuel cs x hx
    obtain ⟨b, rfl, _⟩ := DataW.trod_bool hu hx
    rw [hty]
    exact ⟨.bo b, rfl, trivial⟩
  | int t k hk hu hi hty =>
    intro n hf fuel cs x hx
    obtain ⟨z, rfl, _, hw⟩ := DataW.trod_int hu hx
    rw [hty]
    cases k
    · have hb := bounds_i8 hw
      refine ⟨.i8 (BitVec.ofInt 8 z), ?_, trivial⟩
      show [_] = [_]
      congr 2
      show z = (BitVec.ofInt 8 z).toInt
      rw [BitVec.toInt_ofInt_eq_self (by decide) (by simp; omega) (by simp; omega)]
    · have hb := bounds_i16 hw
      refine ⟨.i16 (BitVec.ofInt 16 z), ?_, trivial⟩
      show [_] = [_]
      congr 2
      show z = (BitVec.ofInt 16 z).toInt
      rw [BitVec.toInt_ofInt_eq_self (by decide) (by simp; omega) (by simp; omega)]
    · have hb := bounds_i32 hw
      refine ⟨.i32 (BitVec.ofInt 32 z), ?_, trivial⟩
      show [_] = [_]
      congr 2
      show z = (BitVec.ofInt 32 z).toInt
      rw [BitVec.toInt_ofInt_eq_self (by decide) (by simp; omega) (by simp; omega)]
    · have hb := bounds_i64 hw
      refine ⟨.int z, ?_, trivial⟩
      show [_] = [_]
      congr 2
      show z = (BitVec.ofInt 64 z).toInt
      rw [BitVec.toInt_ofInt_eq_self (by decide) (by simp; omega) (by simp; omega)]
    · have hb := bounds_u8 hw
      refine ⟨.u8 (BitVec.ofInt 8 z), ?_, trivial⟩
      show [_] = [_]
      congr 2
      show z = U8 (BitVec.ofInt 8 z)
      unfold U8; rw [BitVec.toNat_ofInt]; omega
    · have hb := bounds_u16 hw
      refine ⟨.u16 (BitVec.ofInt 16 z), ?_, trivial⟩
      show [_] = [_]
      congr 2
      show z = U16 (BitVec.ofInt 16 z)
      unfold U16; rw [BitVec.toNat_ofInt]; omega
    · have hb := bounds_u32 hw
      refine ⟨.u32 (BitVec.ofInt 32 z), ?_, trivial⟩
      show [_] = [_]
      congr 2
      show z = U32 (BitVec.ofInt 32 z)
      unfold U32; rw [BitVec.toNat_ofInt]; omega
    · have hb := bounds_u64 hw
      refine ⟨.u64 (BitVec.ofInt 64 z), ?_, trivial⟩
      show [_] = [_]
      congr 2
      show z = U64 (BitVec.ofInt 64 z)
      unfold U64; rw [BitVec.toNat_ofInt]; omega
  | str t hu hi hty =>
    intro n hf fuel cs x hx
    obtain ⟨s, rfl, _, hw⟩ := DataW.trod_string hu hx
    rw [hty]
    refine ⟨.str s.data.toList, ?_, trivial⟩
    have hs : s.data.toList.length ≤ maxLen := by rw [Array.length_toList]; exact hw
    show R c (.str (s.data.toList.take maxLen)) _
    rw [List.take_of_length_le hs]
    exact rfl
  | pt t e hu hi hty =>
    intro n hf fuel cs x hx
    rw [freeN, hty] at hf
    cases hf
  | mp _ _ _ _ _ _ _ hty =>
    intro n hf fuel cs x hx
    rw [freeN, hty] at hf
    cases hf
  | fu _ _ _ _ _ _ hty =>
    intro n hf fuel cs x hx
    rw [freeN, hty] at hf
    cases hf
  | sl t e hu hi he hp hty ih =>
    intro n hf fuel cs x hx
    rw [freeN, hty] at hf
    rw [hty]
    cases n with
    | zero => cases hf
    | succ n =>
      have hf : freeN ty (n + 1) e = true := hf
      rcases DataW.trod_slice hu hx with ⟨rfl, _⟩ | ⟨a, len, cap, elems, rest, m, _, rfl, _, hb, hl, hm, hlen, hel, _⟩
      · exact ⟨.imm false (ty e) 0 fun _ => .junk, ⟨none, 0, rfl, Nat.le_refl _, Nat.zero_le _, fun h => absurd h (Nat.lt_irrefl _)⟩, trivial⟩
      · have each : ∀ i, ∃ b, i < len → ∃ ds, w.cells? base (a.add (i * P.cellsOf e)) (P.cellsOf e) = some ds ∧ R c (canonT ty (canonN ty n) (ty e) b) ds ∧ Sh (ty e) (canonT ty (canonN ty n) (ty e) b) := fun i => by
          by_cases hi : i < len
          · have h1 := hel i hi
            rw [List.getElem?_eq_getElem (by omega), Option.bind_eq_some_iff] at h1
            obtain ⟨ds, h2, h3⟩ := h1
            obtain ⟨b, h4, h5⟩ := ih n hf _ _ _ h3
            exact ⟨b, fun _ => ⟨ds, h2, h4, h5⟩⟩
          · exact ⟨.junk, fun h => absurd h hi⟩
        obtain ⟨F, hF⟩ : ∃ F : Nat → AV, ∀ i, i < len → ∃ ds, w.cells? base (a.add (i * P.cellsOf e)) (P.cellsOf e) = some ds ∧ R c (canonT ty (canonN ty n) (ty e) (F i)) ds ∧ Sh (ty e) (canonT ty (canonN ty n) (ty e) (F i)) := ⟨fun i => (each i).choose, fun i hi => (each i).choose_spec hi⟩
        refine ⟨.imm false (ty e) len F, ⟨some a, cap, rfl, hl, hm, fun h0 => ?_⟩, trivial⟩
        have h0 : 0 < len := h0
        rw [he.cells] at hF
        have hcell : ∀ i, i < len → ∀ ds, w.cells? base (a.add (i * (ty e).size)) (ty e).size = some ds → ∀ j v, ds[j]? = some v → w.cell? ((a.add (i * (ty e).size)).add j) = some v := fun i hi ds hds j v hj => by
          obtain ⟨_, hln, hat⟩ := World.cells?_some hds
          have hjl : j < (ty e).size := by have := (List.getElem?_eq_some_iff.1 hj).1; omega
          rw [hat j hjl]; exact hj
        obtain ⟨ds0, hd0, hr0, hs0⟩ := hF 0 h0
        have hl0 := R_len hr0 hs0
        have hc0 := hcell 0 h0 ds0 hd0 0 (ds0[0]'(by omega)) (List.getElem?_eq_getElem (by omega))
        have hadd0 : (a.add (0 * (ty e).size)).add 0 = a := by simp [Addr.add]
        rw [hadd0] at hc0
        have hspot : a.spot = none := by
          unfold World.cell? at hc0
          cases hs : a.spot with
          | none => rfl
          | some s => rw [hs] at hc0; split at hc0 <;> simp at hc0
        obtain ⟨ab, ao, asp⟩ := a
        simp only at hspot
        subst hspot
        refine ⟨ab, ao, rfl, ?_, hmu ab, fun h => (by cases h), fun i hi => ?_⟩
        · rw [hcw]; exact World.block_lt_of_cell? w _ hc0
        · obtain ⟨ds, h1, h2, h3⟩ := hF i hi
          refine ⟨h3, ds, h2, fun j v hj => ?_⟩
          have := hcell i hi ds h1 j v hj
          rw [Addr.add_mid, Addr.add_mid] at this
          rw [hcw]; exact this
  | arr t k e hu he hp hi hr hq hty ih =>
    intro n hf fuel cs x hx
    have hct : P.cellsOf t = (ty t).size := by
      obtain ⟨i, h1, _, h3, _⟩ := hi
      unfold Program.cellsOf; rw [h1]; exact h3
    rw [freeN, hty] at hf
    have hf : freeN ty (n + 1) e = true := hf
    obtain ⟨xs, m, _, _, hl, hxs, hel⟩ := DataW.trod_array hu hx
    rw [hct, hty] at hl
    rw [hty]
    have hl : cs.length = k * (ty e).size := hl
    rw [he.cells] at hel
    have each : ∀ i, ∃ b, i < k → R c (canonT ty (canonN ty n) (ty e) b) ((cs.drop (i * (ty e).size)).take (ty e).size) ∧ Sh (ty e) (canonT ty (canonN ty n) (ty e) b) := fun i => by
      by_cases hi : i < k
      · have h1 := hel i hi
        rw [List.getElem?_eq_getElem (by omega)] at h1
        obtain ⟨b, h4⟩ := ih n hf _ _ _ h1
        exact ⟨b, fun _ => h4⟩
      · exact ⟨.junk, fun h => absurd h hi⟩
    refine ⟨.agg true k fun i => (each i).choose, ⟨fun i => (cs.drop (i * (ty e).size)).take (ty e).size, fun i hi => ((each i).choose_spec hi).1, ?_⟩, rfl, rfl, fun i hi => ((each i).choose_spec hi).2⟩
    have := cut_all (fun _ => (ty e).size) k cs (by rw [sumN_const]; exact hl)
    simp only [sumN_const] at this
    exact this
  | st t fs n' f hu hn hft hg hi hr hq hh hnm hty ih =>
    intro n hf fuel cs x hx
    have hct : P.cellsOf t = (ty t).size := by
      obtain ⟨i, h1, _, h3, _⟩ := hi
      unfold Program.cellsOf; rw [h1]; exact h3
    rw [freeN, hty] at hf
    obtain ⟨xs, m, _, _, hl, hxs, hel⟩ := DataW.trod_struct hu hx
    rw [hct, hty] at hl
    rw [hty]
    have hl : cs.length = sumN (fun i => (f i).size) n' := hl
    have each : ∀ i, ∃ b, i < n' → R c (canonT ty (canonN ty n) (f i) b) ((cs.drop (sumN (fun i => (f i).size) i)).take (f i).size) ∧ Sh (f i) (canonT ty (canonN ty n) (f i) b) := fun i => by
      by_cases hi : i < n'
      · have hif : i < fs.size := by omega
        have h1 := hel i fs[i] (Array.getElem?_eq_getElem hif)
        obtain ⟨g1, g2, _⟩ := hg i hif
        rw [List.getElem?_eq_getElem (by omega), (hft i hif).cells, g2, ← g1] at h1
        have hfr : freeN ty (n + 1) fs[i].type = true := by
          rw [freeN, ← g1]
          exact List.all_eq_true.1 hf i (by simpa using hi)
        obtain ⟨b, h4⟩ := ih i hif n hfr _ _ _ h1
        rw [← g1] at h4
        exact ⟨b, fun _ => h4⟩
      · exact ⟨.junk, fun h => absurd h hi⟩
    exact ⟨.agg false n' fun i => (each i).choose, ⟨fun i => (cs.drop (sumN (fun i => (f i).size) i)).take (f i).size, fun i hi => ((each i).choose_spec hi).1, cut_all _ n' cs hl⟩, rfl, rfl, fun i hi => ((each i).choose_spec hi).2⟩
/-- An argument of data. -/
theorem in_val (hcw : c.w = w) (hmu : ∀ b, ¬ c.Mu b) {t : TypeId} (h : TyOK P ty t) (n : Nat) (hf : freeN ty (n + 1) t = true) {r : Reach} {b0 : Nat} {v : Value} {d : DataW H} {ps : List MemPlace} (hval : Value.okWide P w r b0 t v)
    (hd : DataW.Trod enc P w base sp true t v d ps) : ∃ a, RV c (canonN ty (n + 1) t a) v := by
  obtain ⟨fuel, hx⟩ := hd
  obtain ⟨a, h1, h2⟩ := in_dat hcw hmu h n hf _ _ _ hx
  refine ⟨a, ?_⟩
  have h3 := rv_of_R h2 h1
  have e : v = valOf (ty t) v.cells.toList := by
    cases h with
    | st t fs n' f hu hn hft hg hi hr hq hh hnm hty =>
      unfold Value.okWide at hval
      rw [hu] at hval
      obtain ⟨cs, rfl, _⟩ := hval
      rw [hty]; rfl
    | arr t k e hu he hp hi hr hq hty =>
      unfold Value.okWide at hval
      rw [hu] at hval
      obtain ⟨cs, rfl, _⟩ := hval
      rw [hty]; rfl
    | bo _ hu _ hty => obtain ⟨b, rfl⟩ := WideShapes.okWide_bool hu hval; rw [hty]; rfl
    | int _ k _ hu _ hty => obtain ⟨b, rfl⟩ := WideShapes.okWide_int hu hval; rw [hty]; rfl
    | str _ hu _ hty => obtain ⟨b, rfl⟩ := WideShapes.okWide_string hu hval; rw [hty]; rfl
    | pt _ _ hu _ hty => rw [freeN, hty] at hf; cases hf
    | mp _ _ _ _ _ _ _ hty => rw [freeN, hty] at hf; cases hf
    | fu _ _ _ _ _ _ hty => rw [freeN, hty] at hf; cases hf
    | sl _ e hu _ he _ hty => obtain ⟨_, _, _, rfl⟩ := WideShapes.okWide_slice hu hval; rw [hty]; rfl
  rw [e]; exact h3
end
/-! ### A datum's plain value -/
def avD {H : Type} (τ : Ty) (d : DataW H) : AV :=
  match τ with
  | .agg true l f => match d with
    | .agg ds => .agg true l (fun i => avD (f 0) (ds.getD i .nil))
    | _ => .junk
  | .agg false l f => match d with
    | .agg ds => .agg false l (fun i => avD (f i) (ds.getD i .nil))
    | _ => .junk
  | .int .i64 => match d with
    | .lit (.int _ z) => bif decide (0 ≤ z) then .nat z.toNat else .int z
    | _ => .junk
  | .int .u8 => match d with
    | .lit (.int _ z) => .u8 (BitVec.ofInt 8 z)
    | _ => .junk
  | .int .u32 => match d with
    | .lit (.int _ z) => .u32 (BitVec.ofInt 32 z)
    | _ => .junk
  | .str => match d with
    | .lit (.string b) => .str b
    | _ => .junk
  | _ => .junk
theorem avD_flat {H : Type} {d : DataW H} : ∀ {τ : Ty}, NoRow (avD τ d) := by
  intro τ
  induction τ generalizing d with
  | agg u l f ih =>
    cases u with
    | true =>
      unfold avD
      cases d <;> first | exact trivial | exact fun i _ => ih 0
    | false =>
      unfold avD
      cases d <;> first | exact trivial | exact fun i _ => ih i
  | int k =>
    cases k
    case i64 =>
      unfold avD
      split
      · rename_i z
        cases h : decide (0 ≤ z) <;> exact trivial
      · exact trivial
    all_goals
      unfold avD
      first
        | exact trivial
        | (split <;> exact trivial)
  | str =>
    unfold avD
    split <;> exact trivial
  | _ => exact trivial
def rawT : Ty → Bool
  | .int .i64 => true
  | .int .u8 => true
  | .int .u32 => true
  | .str => true
  | .agg true _ f => rawT (f 0)
  | .agg false l f => (List.range l).all fun i => rawT (f i)
  | _ => false
section
variable {H : Type} {enc : TypeId × Value → H} {P : Program} {ty : TypeId → Ty} {w : World} {base : Nat} {sp : Nat → Bool} {held : Bool} {c : Cx}
theorem in_raw {t : TypeId} (h : TyOK P ty t) : rawT (ty t) = true → ∀ (fuel : Nat) (cs : List Value) (x : DataW H × List MemPlace), DataW.trod enc P w base sp held fuel t cs = some x →
    R c (avD (ty t) x.1) cs ∧ Sh (ty t) (avD (ty t) x.1) := by
  induction h with
  | int t k hk hu hi hty =>
    intro hf fuel cs x hx
    obtain ⟨z, rfl, rfl, hw⟩ := DataW.trod_int hu hx
    rw [hty] at hf ⊢
    cases k <;> first | cases hf | skip
    · have hb := bounds_i64 hw
      show R c (bif decide (0 ≤ z) then .nat z.toNat else .int z) _ ∧ Sh _ (bif decide (0 ≤ z) then .nat z.toNat else .int z)
      by_cases h0 : 0 ≤ z
      · rw [decide_eq_true h0]
        refine ⟨?_, trivial⟩
        show [_] = [_]
        rw [Int.toNat_of_nonneg h0]
      · rw [decide_eq_false h0]
        exact ⟨rfl, trivial⟩
    · have hb := bounds_u8 hw
      refine ⟨?_, trivial⟩
      show [_] = [_]
      congr 2
      show z = U8 (BitVec.ofInt 8 z)
      unfold U8; rw [BitVec.toNat_ofInt]; omega
    · have hb := bounds_u32 hw
      refine ⟨?_, trivial⟩
      show [_] = [_]
      congr 2
      show z = U32 (BitVec.ofInt 32 z)
      unfold U32; rw [BitVec.toNat_ofInt]; omega
  | arr t k e hu he hp hi hr hq hty ih =>
    intro hf fuel cs x hx
    have hct : P.cellsOf t = (ty t).size := by
      obtain ⟨i, h1, _, h3, _⟩ := hi
      unfold Program.cellsOf; rw [h1]; exact h3
    rw [hty] at hf
    have hf : rawT (ty e) = true := hf
    obtain ⟨xs, m, _, rfl, hl, hxs, hel⟩ := DataW.trod_array hu hx
    rw [hct, hty] at hl
    rw [hty]
    have hl : cs.length = k * (ty e).size := hl
    rw [he.cells] at hel
    have each : ∀ i, i < k → R c (avD (ty e) ((xs.map (·.1)).getD i .nil)) ((cs.drop (i * (ty e).size)).take (ty e).size) ∧ Sh (ty e) (avD (ty e) ((xs.map (·.1)).getD i .nil)) := fun i hi => by
      have h1 := hel i hi
      rw [List.getElem?_eq_getElem (by omega)] at h1
      have := ih hf _ _ _ h1
      rw [show (xs.map (·.1)).getD i .nil = (xs[i]'(by omega)).1 by simp [List.getD, show i < xs.length by omega]]
      exact this
    refine ⟨⟨fun i => (cs.drop (i * (ty e).size)).take (ty e).size, fun i hi => (each i hi).1, ?_⟩, rfl, rfl, fun i hi => (each i hi).2⟩
    have := cut_all (fun _ => (ty e).size) k cs (by rw [sumN_const]; exact hl)
    simp only [sumN_const] at this
    exact this
  | st t fs n' f hu hn hft hg hi hr hq hh hnm hty ih =>
    intro hf fuel cs x hx
    have hct : P.cellsOf t = (ty t).size := by
      obtain ⟨i, h1, _, h3, _⟩ := hi
      unfold Program.cellsOf; rw [h1]; exact h3
    rw [hty] at hf
    obtain ⟨xs, m, _, rfl, hl, hxs, hel⟩ := DataW.trod_struct hu hx
    rw [hct, hty] at hl
    rw [hty]
    have hl : cs.length = sumN (fun i => (f i).size) n' := hl
    have each : ∀ i, i < n' → R c (avD (f i) ((xs.map (·.1)).getD i .nil)) ((cs.drop (sumN (fun i => (f i).size) i)).take (f i).size) ∧ Sh (f i) (avD (f i) ((xs.map (·.1)).getD i .nil)) := fun i hi => by
      have hif : i < fs.size := by omega
      have h1 := hel i fs[i] (Array.getElem?_eq_getElem hif)
      obtain ⟨g1, g2, _⟩ := hg i hif
      rw [List.getElem?_eq_getElem (by omega), (hft i hif).cells, g2, ← g1] at h1
      have hfr : rawT (ty fs[i].type) = true := by
        rw [← g1]
        exact List.all_eq_true.1 hf i (by simpa using hi)
      have := ih i hif hfr _ _ _ h1
      rw [← g1] at this
      rw [show (xs.map (·.1)).getD i .nil = (xs[i]'(by omega)).1 by simp [List.getD, show i < xs.length by omega]]
      exact this
    exact ⟨⟨fun i => (cs.drop (sumN (fun i => (f i).size) i)).take (f i).size, fun i hi => (each i hi).1, cut_all _ n' cs hl⟩, rfl, rfl, fun i hi => (each i hi).2⟩
  | bo t hu hi hty => intro hf; rw [hty] at hf; cases hf
  | str t hu hi hty =>
    intro hf fuel cs x hx
    obtain ⟨s, rfl, rfl, _⟩ := DataW.trod_string hu hx
    rw [hty]
    exact ⟨rfl, trivial⟩
  | mp _ _ _ _ _ _ _ hty => intro hf; rw [hty] at hf; cases hf
  | fu _ _ _ _ _ _ hty => intro hf; rw [hty] at hf; cases hf
  | pt t e hu hi hty => intro hf; rw [hty] at hf; cases hf
  | sl t e hu hi he hp hty ih => intro hf; rw [hty] at hf; cases hf
end
end Go.Proofs.YtldlleoabbcpdaaDoor
/- Calls that hand back parts of what they were handed. -/
namespace Go.Proofs.YtldlleoabbcpdaaDoor
open Go.RowKit
def noM (_ : Nat) : Option Row := none
theorem noKey {k' k : Nat} {p : Prop} (h : keyIs [] noK k' k = true) : p := nomatch (show false = true from h)
/-- What is told of a value without a row holds where the value holds. -/
theorem Le_same {c : Cx} {ty : TypeId → Ty} : ∀ {b a : AV} {cs : List Value}, Le noM ty [] noK a b → R c a cs → R c b cs := by
  intro b
  induction b with
  | junk => intro a cs _ _; trivial
  | und => intro a cs hle h; cases a <;> first | exact hle.elim | exact h
  | nilp => intro a cs hle h; cases a <;> first | exact hle.elim | exact h
  | nils => intro a cs hle h; cases a <;> first | exact hle.elim | exact h
  | bo y => intro a cs hle h; cases a <;> first | exact hle.elim | (have hle : _ = y := hle; subst hle; exact h)
  | u8 y => intro a cs hle h; cases a <;> first | exact hle.elim | (have hle : _ = y := hle; subst hle; exact h)
  | u16 y => intro a cs hle h; cases a <;> first | exact hle.elim | (have hle : _ = y := hle; subst hle; exact h)
  | u32 y => intro a cs hle h; cases a <;> first | exact hle.elim | (have hle : _ = y := hle; subst hle; exact h)
  | u64 y => intro a cs hle h; cases a <;> first | exact hle.elim | (have hle : _ = y := hle; subst hle; exact h)
  | i32 y => intro a cs hle h; cases a <;> first | exact hle.elim | (have hle : _ = y := hle; subst hle; exact h)
  | i8 y => intro a cs hle h; cases a <;> first | exact hle.elim | (have hle : _ = y := hle; subst hle; exact h)
  | i16 y => intro a cs hle h; cases a <;> first | exact hle.elim | (have hle : _ = y := hle; subst hle; exact h)
  | fn y => intro a cs hle h; cases a <;> first | exact hle.elim | (have hle : _ = y := hle; subst hle; exact h)
  | str y => intro a cs hle h; cases a <;> first | exact hle.elim | (have hle : _ = y := hle; subst hle; exact h)
  | clo f' nf' n' g' ih =>
    intro a cs hle h
    cases a with
    | clo f nf n g =>
      obtain ⟨rfl, rfl, rfl, hi⟩ := hle
      obtain ⟨u, rfl, hnn, hg⟩ := h
      exact ⟨u, rfl, hnn, fun i h => ⟨ih i (hi i h) (hg i h).1, noAgg_le (hi i h) (hg i h).2⟩⟩
    | _ => exact hle.elim
  | gcap _ _ _ => intro a cs hle h; cases a <;> exact hle.elim
  | nilm => intro a cs hle h; cases a <;> first | exact hle.elim | exact h
  | nilf => intro a cs hle h; cases a <;> first | exact hle.elim | exact h
  | mpt kt' et' n' f' j' k' =>
    intro a cs hle h
    cases a <;> first | exact hle.elim | exact noKey hle.1
  | itp k' =>
    intro a cs hle h
    cases a <;> first | exact hle.elim | exact noKey hle
  | cmt k' =>
    intro a cs hle h
    cases a <;> first | exact hle.elim | exact noKey hle
  | mit k' =>
    intro a cs hle h
    cases a <;> first | exact hle.elim | exact noKey hle
  | vmt k' =>
    intro a cs hle h
    cases a <;> first | exact hle.elim | exact noKey hle
  | fvm g' et' n' f' ih =>
    intro a cs hle h
    cases a with
    | fvm g et n f =>
      obtain ⟨hfr, rfl, rfl, hi⟩ := hle
      obtain ⟨b, es, clock, rfl, hlt, hmu, hbb, hh, hsz, hup, hdn⟩ := h
      exact ⟨b, es, clock, rfl, hlt, hmu, fun h => hbb (by subst h; simpa using hfr), hh, hsz, fun e he => by
        obtain ⟨i, hin, hk, hr2, hv⟩ := hup e he
        exact ⟨i, hin, hk, ih i (hi i hin).2 hr2, hv⟩, fun i hin => ⟨(hi i hin).1, (hdn i hin).2⟩⟩
    | vmt _ => exact hle.2.2.elim
    | _ => exact hle.elim
  | fmp g' kt' et' n' f' d' =>
    intro a cs hle h
    cases a with
    | fmp g kt et n f d =>
      obtain ⟨hfr, rfl, rfl, rfl, rfl, rfl⟩ := hle
      obtain ⟨b, es, clock, rfl, hlt, hmu, hbb, hh, hok⟩ := h
      exact ⟨b, es, clock, rfl, hlt, hmu, fun h => hbb (by subst h; simpa using hfr), hh, hok⟩
    | mpt _ _ _ _ _ _ => exact hle.2.2.2.2.2.2.elim
    | cmt _ => exact hle.2.2.2.2.elim
    | _ => exact hle.elim
  | anyb => intro a cs hle h; cases a <;> exact hle.elim
  | anym =>
    intro a cs hle h
    cases a with
    | nilm => exact ⟨_, h⟩
    | anym => exact h
    | mpt kt et n f j k =>
      obtain ⟨d, b, _, _, rfl⟩ := h
      exact ⟨_, rfl⟩
    | cmt k =>
      obtain ⟨d, b, _, _, rfl⟩ := h
      exact ⟨_, rfl⟩
    | fmp _ _ _ _ _ _ =>
      obtain ⟨b, _, _, rfl, _⟩ := h
      exact ⟨_, rfl⟩
    | fvm _ _ _ _ =>
      obtain ⟨b, _, _, rfl, _⟩ := h
      exact ⟨_, rfl⟩
    | vmt k =>
      obtain ⟨_, _, _, b, _, _, rfl⟩ := h
      exact ⟨_, rfl⟩
    | _ => exact hle.elim
  | nat y =>
    intro a cs hle h
    cases a with
    | nat x => have hle : x = y := hle; subst hle; exact h
    | int x => have hle : x = (y : Int) := hle; subst hle; exact h
    | _ => exact hle.elim
  | int y =>
    intro a cs hle h
    cases a with
    | nat x => have hle : (x : Int) = y := hle; subst hle; exact h
    | int x => have hle : x = y := hle; subst hle; exact h
    | _ => exact hle.elim
  | ptr τ' k' p' => intro a cs hle h; cases a <;> first | exact hle.elim | exact noKey hle.1
  | gsub e' k' al' o' l' => intro a cs hle h; cases a <;> first | exact hle.elim | exact noKey hle.1
  | sub et' k' p' o' l' => intro a cs hle h; cases a <;> first | exact hle.elim | exact noKey hle.1
  | spt et' k' p' o' l' => intro a cs hle h; cases a <;> exact hle.elim
  | gspt e' k' al' o' l' => intro a cs hle h; cases a <;> exact hle.elim
  | blt l' f' => intro a cs hle h; cases a <;> exact hle.elim
  | gpt τ' e' k' l' i' p' => intro a cs hle h; cases a <;> first | exact hle.elim | exact noKey hle.1
  | gsl e' k' l' => intro a cs hle h; cases a <;> first | exact hle.elim | exact noKey hle.1 | exact hle.2.2.elim
  | ipt τ' a' ih =>
    intro a cs hle h
    cases a with
    | ipt τ a =>
      obtain ⟨rfl, hs, hl⟩ := hle
      obtain ⟨b, o, ds, rfl, hlt, hmu, hra, hsa, hrg⟩ := h
      exact ⟨b, o, ds, rfl, hlt, hmu, ih hl hra, hs, hrg⟩
    | ptr τ k p => exact hle.2.2.2.elim
    | _ => exact hle.elim
  | imm fr' et' l' f' ih =>
    intro a cs hle h
    cases a with
    | nils =>
      have hle : l' = 0 := hle
      subst hle
      have h : cs = [.slice none 0 0] := h
      exact ⟨none, 0, h, Nat.le_refl _, Nat.zero_le _, fun h => absurd h (by omega)⟩
    | imm fr et l f =>
      obtain ⟨hfr, rfl, rfl, hi⟩ := hle
      obtain ⟨A, q, rfl, h1, h2, h3⟩ := h
      refine ⟨A, q, rfl, h1, h2, fun hl => ?_⟩
      obtain ⟨b, o, rfl, hlt, hmu, hbb, hj⟩ := h3 hl
      refine ⟨b, o, rfl, hlt, hmu, fun h => hbb (by subst h; simpa using hfr), fun i h => ?_⟩
      obtain ⟨_, ds, hd, hrg⟩ := hj i h
      exact ⟨(hi i h).1, ds, ih i (hi i h).2 hd, hrg⟩
    | gsl e k l => exact hle.2.2.2.elim
    | gsub e k al o l => exact hle.2.2.2.elim
    | sub et k p o l => exact hle.2.2.2.2.elim
    | _ => exact hle.elim
  | agg u' l' f' ih =>
    intro a cs hle h
    cases a with
    | agg u l f =>
      obtain ⟨rfl, rfl, hi⟩ := hle
      obtain ⟨g, hg, rfl⟩ := h
      exact ⟨g, fun i h => ih i (hi i h) (hg i h), rfl⟩
    | _ => exact hle.elim
  | tup l' f' ih =>
    intro a cs hle h
    cases a with
    | tup l f =>
      obtain ⟨rfl, hi⟩ := hle
      obtain ⟨vs, g, rfl, hsz, hg⟩ := h
      refine ⟨vs, g, rfl, hsz, fun i h => ?_⟩
      obtain ⟨h1, v, hv, hmt⟩ := hg i h
      refine ⟨ih i (hi i h) h1, v, hv, ?_⟩
      have hle := hi i h
      revert hle hmt
      generalize f i = x
      generalize f' i = y
      intro hmt hle
      cases y with
      | junk => trivial
      | agg _ _ _ => cases x <;> first | exact hle.elim | exact hmt
      | _ => cases x <;> first | exact hle.elim | exact hmt
    | _ => exact hle.elim
theorem Le_same_rv {c : Cx} {ty : TypeId → Ty} {a b : AV} {v : Value} (hle : Le noM ty [] noK a b) (h : RV c a v) : RV c b v := by
  cases b with
  | junk => trivial
  | agg u' l' f' =>
    cases a with
    | agg u l f =>
      obtain ⟨cs, rfl, hc⟩ := h
      exact ⟨cs, rfl, Le_same (b := .agg u' l' f') hle hc⟩
    | _ => exact hle.elim
  | _ =>
    cases a with
    | agg u l f => exact hle.elim
    | junk => exact hle.elim
    | _ => exact Le_same hle h
def NoRowL : List AV → Prop
  | [] => True
  | a :: l => NoRow a ∧ NoRowL l
theorem alias_vals {c c' : Cx} {ty : TypeId → Ty} (hw : c'.w = c.w) (hmu : ∀ b, c'.Mu b → c.Mu b) : ∀ {args vs : List AV} {zs : List Value}, LeL noM ty [] noK args vs → NoRowL vs → RVs c args zs → RVs c' vs zs
  | [], [], _, _, _, .nil => .nil
  | _ :: _, _ :: _, _, h, hn, .cons h1 h2 => .cons (RV_norow hw hmu hn.1 (Le_same_rv h.1 h1)) (alias_vals hw hmu h.2 hn.2 h2)
def aliasP (ty : TypeId → Ty) (C : SpecP) : Ctr := fun args _ _ K =>
  C (fun vs => LeLW noM ty [] noK args vs ∧ NoRowL vs) (fun b => K ⟨b, [], []⟩)
def KeepsA (E : Pg) (fn : Func) (C : SpecP) : Prop := ∀ A K, C A K → ∃ vs b, A vs ∧ K b ∧ Nat.ble vs.length fn.ntmps = true ∧ NoRow b ∧
  W E fn.ntmps (fun _ => none) (fn.body.getD .skip) ⟨argT vs, fun _ => none, 8⟩ (fun s => wRes E s fn.results.toList fun a => LeW noM E.ty [] noK a b) (fin fun s => wRes E s fn.results.toList fun a => LeW noM E.ty [] noK a b)
theorem goodA {P : Program} {E : Pg} (hP : PgOK P E) (hmix : P.follows .mixedOrders = true) {f : FuncId} {fn : Func} (hf : P.funcs[f]? = some fn) (hnm : (fn.name == "runtime.NumGoroutine") = false) (hb : fn.body.isSome = true) {C : SpecP} (h : KeepsA E fn C) :
    Good P E.ty E.gl f (aliasP E.ty C) := by
  intro args m key K hc
  obtain ⟨code, hcode⟩ := Option.isSome_iff_exists.1 hb
  obtain ⟨vs, b, hA, hK, hlen, hnb, hW⟩ := h _ _ hc
  rw [hcode] at hW
  refine ⟨_, hK, .inl ⟨⟨fn, hf, hnm, by rw [hcode]; rfl⟩, fun c vals hty hm hbs hrd hfr hgl hvals => ?_⟩⟩
  obtain ⟨c0, hc0⟩ : ∃ c0 : Cx, c0 = { c with m := fun _ => none, base := c.w.heap.size, fb := c.w.heap.size, kp := True } := ⟨_, rfl⟩
  have e1 : c0.w = c.w := by rw [hc0]
  have e2 : ∀ b, c0.Mu b → c.Mu b := fun b h => by rw [hc0] at h; exact h
  have e3 : ∀ b, c.Mu b → c0.Mu b := fun b h => by rw [hc0]; exact h
  have e4 : c0.base = c.w.heap.size := by rw [hc0]
  have hm0 : MemOK c0 := by subst hc0; exact ⟨fun k r h => (by cases h), fun k k' r r' b h => (by cases h), fun k r b h => (by cases h), Nat.le_refl _⟩
  have hv0 : RVs c0 vs vals := alias_vals e1 e2 (LeLW_of hA.1) hA.2 hvals
  have hsz : (vals.toArray ++ Array.replicate (fn.ntmps - vals.toArray.size) undef).size = fn.ntmps := by
    have := RVs_len hv0
    simp at hlen ⊢; omega
  have habs : Abs P E fn.ntmps c0 ⟨argT vs, fun _ => none, 8⟩ c0 { tmps := vals.toArray ++ Array.replicate (fn.ntmps - vals.toArray.size) undef, defers := [] } :=
    ⟨by rw [hc0]; exact hty, hm0, by rw [hc0]; exact Nat.le_refl _, rfl, rfl, Below.refl _ _, Stab.refl _, by rw [hc0], fun i => argT_ok hv0 _ i, hsz, rfl, fun g => RV_norow (c := c) (c' := c0) e1 e2 (hP.flat g) (hgl g), fun _ _ _ h => h⟩
  rw [← e1]
  refine calls_of_wp hf hcode ?_
  have key : ∀ s' c1 a', (wRes E s' fn.results.toList fun a => LeW noM E.ty [] noK a b) → Abs P E fn.ntmps c0 s' c1 a' → a'.defers = [] ∧ ∃ v, (results fn a'.tmps).run P c1.w = .ok v c1.w ∧ (∃ c' v', Ending.returned v = .returned v' ∧ c'.w = c1.w ∧ Step c [] c' ∧ RV c' b v') := by
    intro s' c1 a' hres ha'
    obtain ⟨v, z, hov, hz, hrun⟩ := wRes_ok hP.tys ha' hres
    have hz' := Le_same_rv (LeW_of hov) hz
    have hl := ha'.low
    rw [e4, e1] at hl
    have hst : Step c [] (c.withBlock c1.w) := step_block hm (hl.mono (Nat.le_trans hm.bf hbs)) (fun b hb _ => same_old (hl.block b hb)) (fun k r b hk hb => hl.block b (row_lt (hm.rows k r hk) hb))
    refine ⟨ha'.dfr, z, hrun, c.withBlock c1.w, z, rfl, rfl, hst, RV_norow (c := c1) (c' := c.withBlock c1.w) rfl (fun b hb => ha'.keep (by rw [hc0]; trivial) b (by rw [e1]; exact hb.2) (e3 b hb.1)) hnb hz'⟩
  refine W_sound hP (fun k _ => by rw [hc0]) hmix (fun _ _ => rfl) code _ c0 _ _ _ _ hW habs (fun k _ => rfl) (fun s' c1 a' hq ha' _ => key s' c1 a' hq ha') fun e s' c1 a' hq hne ha' _ => ?_
  cases e with
  | ret => exact key s' c1 a' hq ha'
  | _ => exact hq.elim
end Go.Proofs.YtldlleoabbcpdaaDoor
/- Calls that may write what stands behind what they are handed, however deep. -/
namespace Go.Proofs.YtldlleoabbcpdaaDoor
open Go.RowKit
def ddN : List Nat → List Nat
  | [] => []
  | k :: l => k :: (ddN l).filter fun j => !Nat.beq k j
/-- The rows that may be written: those that are handed in, and those behind them. -/
def keysD (ty : TypeId → Ty) (m : Nat → Option Row) : List Bool → List AV → List Nat
  | true :: ms, a :: l => rdM ty m 3 a ++ keysD ty m ms l
  | false :: ms, _ :: l => keysD ty m ms l
  | _, _ => []
def mutD0 (ty : TypeId → Ty) (mask : List Bool) (C : SpecM) : Ctr := fun args m key K =>
  C (fun vs rw0 => In ty (restr (rdA ty m args) m) args vs rw0 (rho (ddN (keysD ty m mask args)))) (fun b rw1 => K ⟨b.ren (sig (rho (ddN (keysD ty m mask args))) key), outW (sig (rho (ddN (keysD ty m mask args))) key) rw1, rdA ty m args⟩)
def mutD (ty : TypeId → Ty) (mask : List Bool) (C : SpecM) : Ctr := fun args m key K => frcN (rdA ty m args) fun rd => frcN (ddN (keysD ty m mask args)) fun ks =>
  C (fun vs rw0 => In ty (restr rd m) args vs rw0 (rho ks)) (fun b rw1 => K ⟨b.ren (sig (rho ks) key), outW (sig (rho ks) key) rw1, rd⟩)
theorem mutD_eq (ty : TypeId → Ty) (mask : List Bool) (C : SpecM) : mutD ty mask C = mutD0 ty mask C := by
  funext args m key K
  unfold mutD mutD0
  rw [frcN_eq, frcN_eq]
instance {ty : TypeId → Ty} {mask : List Bool} {C : SpecM} : Told (mutD ty mask C) (mutD0 ty mask C) := ⟨mutD_eq ty mask C⟩
theorem goodD {P : Program} {E : Pg} (hP : PgOK P E) (hmix : P.follows .mixedOrders = true) {f : FuncId} {fn : Func} {mask : List Bool} (hf : P.funcs[f]? = some fn) (hnm : (fn.name == "runtime.NumGoroutine") = false) (hb : fn.body.isSome = true) {C : SpecM} (h : KeepsM E fn C) :
    Good P E.ty E.gl f (mutD E.ty mask C) := by
  rw [mutD_eq]
  intro args m key K hc
  obtain ⟨code, hcode⟩ := Option.isSome_iff_exists.1 hb
  obtain ⟨vs, rw0, b, rw1, inv, hA, hK, hlen, hou, hle, hor, hob, hW⟩ := h _ _ hc
  rw [hcode] at hW
  exact ⟨_, hK, fn_valid hP hmix hf hnm hcode (by simpa using hlen) hA (outs_of hou hle hor) hob (fun s a h => h) hW⟩
theorem goodG {P : Program} {E : Pg} (hP : PgOK P E) (hmix : P.follows .mixedOrders = true) {f : FuncId} {fn : Func} {mask : List Bool} (hf : P.funcs[f]? = some fn) (hnm : (fn.name == "runtime.NumGoroutine") = false) (hb : fn.body.isSome = true) {C : SpecM} (h : KeepsG E fn C) :
    Good P E.ty E.gl f (mutD E.ty mask C) := by
  rw [mutD_eq]
  intro args m key K hc
  obtain ⟨code, hcode⟩ := Option.isSome_iff_exists.1 hb
  obtain ⟨vs, rw0, b, rw1, g, inv, hA, hK, hlen, hou, hle, hor, hob, hW⟩ := h _ _ hc
  rw [hcode] at hW
  exact ⟨_, hK, fn_valid hP hmix hf hnm hcode (by simpa using hlen) hA (outs_ofG hou hle hor) hob (fun s a h => h) hW⟩
/-! ### Names found by what is handed back -/
def nmK : List (Nat × Nat) → Nat → Option Nat
  | [], _ => none
  | (a, b) :: l, k => bif Nat.beq k a then some b else nmK l k
def fnd (m m' : Nat → Option Row) : Nat → AV → AV → List (Nat × Nat)
  | 0, _, _ => []
  | n + 1, a, b => match b with
    | .ptr _ k' _ => match a with
      | .ptr _ k _ => (k', k) :: (match m' k' with
        | some (.var _ b) => (match m k with
          | some (.var _ a) => fnd m m' n a b
          | _ => [])
        | _ => [])
      | _ => []
    | .gsl _ k' _ => match a with
      | .gsl _ k _ => [(k', k)]
      | _ => []
    | .cmt k' => match a with
      | .cmt k => [(k', k)]
      | _ => []
    | .vmt k' => match a with
      | .vmt k => [(k', k)]
      | _ => []
    | .gsub _ k' _ _ _ => match a with
      | .gsub _ k _ _ _ => [(k', k)]
      | .gsl _ k _ => [(k', k)]
      | _ => []
    | .agg false l f' => match a with
      | .agg _ _ f => (List.range l).flatMap fun i => fnd m m' n (f i) (f' i)
      | _ => []
    | .tup l f' => match a with
      | .tup _ f => (List.range l).flatMap fun i => fnd m m' n (f i) (f' i)
      | _ => []
    | _ => []
def nmO (m : Nat → Option Row) (rw1 : List (Nat × Row)) (a b : AV) (k : Nat) : Option Nat :=
  bif Nat.blt k 8 then some k else nmK (fnd m (rowOf rw1) 8 a b) k
theorem out_fnd {m m0 : Nat → Option Row} {ty : TypeId → Ty} {rw1 : List (Nat × Row)} {a b : AV} (h : namesB m0 rw1 (nmO m rw1 a b) = true ∧ LeRwW m ty rw1 (nmO m rw1 a b) rw1 ∧ LeW m ty rw1 (nmO m rw1 a b) a b) :
    ∃ ρ, namesB m0 rw1 ρ = true ∧ LeRwW m ty rw1 ρ rw1 ∧ LeW m ty rw1 ρ a b := ⟨_, h⟩
/-! ### Branches whose way is known -/
theorem brT {b : Bool} {A B : Prop} (hb : b = true) (a : A) : (b = true → A) ∧ (b = false → B) := ⟨fun _ => a, fun h => nomatch (hb.symm.trans h : true = false)⟩
theorem brF {b : Bool} {A B : Prop} (hb : b = false) (a : B) : (b = true → A) ∧ (b = false → B) := ⟨fun h => (nomatch (hb.symm.trans h : false = true)), fun _ => a⟩
theorem notT {b : Bool} (h : b = false) : (!b) = true := by rw [h]; rfl
theorem notF {b : Bool} (h : b = true) : (!b) = false := by rw [h]; rfl
/-! ### What the context tells -/
theorem goT {b : Bool} {A B : Prop} (a : A) (hb : b = true := by first | assumption | exact decide_eq_true (by first | assumption | omega | (simp only [Int.reduceToNat]; omega) | (with_reducible exact Eq.refl _)) | exact notT (decide_eq_false (by first | assumption | omega | exact fun q => q (by assumption) | (simp only [Int.reduceToNat]; omega))) | exact notT (by assumption)) : (b = true → A) ∧ (b = false → B) := brT hb a
theorem goF {b : Bool} {A B : Prop} (a : B) (hb : b = false := by first | assumption | exact decide_eq_false (by first | assumption | omega | exact fun q => q (by assumption) | (simp only [Int.reduceToNat]; omega)) | exact notF (decide_eq_true (by first | assumption | omega | (simp only [Int.reduceToNat]; omega))) | exact notF (by assumption)) : (b = true → A) ∧ (b = false → B) := brF hb a
theorem goL {p A B : Prop} (a : A) (h : p := by first | assumption | omega | decide | (dsimp only; omega)) : (p ∧ A) ∨ B := .inl ⟨h, a⟩
theorem goR {p A B : Prop} (a : A) (h : p := by first | assumption | omega | decide | (dsimp only; omega)) : B ∨ (p ∧ A) := .inr ⟨h, a⟩
theorem goRL {p A B C : Prop} (a : A) (h : p := by first | assumption | omega | decide | (dsimp only; omega)) : B ∨ ((p ∧ A) ∨ C) := .inr (.inl ⟨h, a⟩)
theorem goRR {p A B C : Prop} (a : A) (h : p := by first | assumption | omega | decide | (dsimp only; omega)) : B ∨ (C ∨ (p ∧ A)) := .inr (.inr ⟨h, a⟩)
end Go.Proofs.YtldlleoabbcpdaaDoor
