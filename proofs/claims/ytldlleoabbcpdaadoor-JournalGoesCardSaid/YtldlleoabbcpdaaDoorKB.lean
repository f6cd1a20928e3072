/- Bytes: texts of bytes held against each other, numbers written and read. -/
import Derived.Test.YtldlleoabbcpdaaDoorR1
namespace Go.Proofs.YtldlleoabbcpdaaDoor
open Go.RowKit
set_option maxRecDepth 100000
set_option maxHeartbeats 20000000
attribute [local irreducible] hsh rst sha256 press dig
def put4 (f : Nat → BitVec 8) (o : Nat) (v : BitVec 32) (j : Nat) : BitVec 8 := if j = o + 3 then v.setWidth 8 else if j = o + 2 then (v >>> 8).setWidth 8 else if j = o + 1 then (v >>> 16).setWidth 8 else if j = o + 0 then (v >>> 24).setWidth 8 else f j
theorem byt_q (q : BitVec 32) (k : Nat) : byt (q.setWidth 64) k = (q >>> (8 * k)).setWidth 8 := by
  apply BitVec.eq_of_toNat_eq
  have := q.isLt
  rw [byt_nat, BitVec.toNat_setWidth, BitVec.toNat_setWidth, BitVec.toNat_ushiftRight, Nat.shiftRight_eq_div_pow, Nat.mod_eq_of_lt (show q.toNat < 2 ^ 64 by omega)]
theorem nbng {b : Bool} {p : Prop} (h2 : (!b) = true) (h1 : b = true) : p := by rw [h1] at h2; cases h2
theorem unbng {b : Bool} (h : (!b) = false) : b = true := by cases b <;> first | rfl | cases h
theorem strOf_eq (n : Nat) (f : Nat → BitVec 8) : strOf n (bys f) = (lw n f).map fun b => UInt8.ofNat b.toNat := by
  simp [strOf, lw, asU8]
theorem u8_inj {a b : BitVec 8} (h : UInt8.ofNat a.toNat = UInt8.ofNat b.toNat) : a = b := by
  have h1 := congrArg UInt8.toNat h
  have ha := a.isLt
  have hb := b.isLt
  rw [UInt8.toNat_ofNat', UInt8.toNat_ofNat', Nat.mod_eq_of_lt ha, Nat.mod_eq_of_lt hb] at h1
  exact BitVec.eq_of_toNat_eq h1
theorem strOf_inj {n m : Nat} {f g : Nat → BitVec 8} : strOf n (bys f) = strOf m (bys g) ↔ lw n f = lw m g := by
  rw [strOf_eq, strOf_eq]
  constructor
  · intro h
    exact (List.map_inj_right fun a b h => u8_inj h).1 h
  · intro h; rw [h]
def C_bytes_Equal : SpecP := fun A K => ∃ l b m c, A [bsl l b, bsl m c] ∧ K (.bo (decide (lw l b = lw m c)))
theorem g_bytes_Equal : Gd 32 (pureP ty C_bytes_Equal) := by
  refine goodP (E := PG []) (pgOK trivial) mixes Tryd.func32 (by kernel_rfl) (by kernel_rfl) ?_
  rintro A K ⟨l, b, m, c, hA, hK⟩
  refine ⟨_, _, fun _ => none, hA, hK, by kernel_rfl, trivial, ?_⟩
  repeat ((conv => whnf); first | refine sdO ?_ | refine nlO ?_ | refine goA ?_ | refine goB ?_ | (apply Exists.intro; (repeat apply Exists.intro); refine caO ?_) | (refine Or.inl ?_; (conv => whnf); (repeat apply Exists.intro); refine caO ?_) | (refine Or.inr ?_; (conv => whnf); first | ((repeat apply Exists.intro); refine caO ?_) | (refine Or.inl ?_; (conv => whnf); (repeat apply Exists.intro); refine caO ?_) | (refine Or.inr ?_; (conv => whnf); (repeat apply Exists.intro); refine caO ?_)))
  all_goals try (conv => whnf)
  exact decide_eq_decide.2 strOf_inj
def C_HasPrefix : SpecP := fun A K => ∃ l b m c, A [bsl l b, bsl m c] ∧ K (.bo (decide (m ≤ l ∧ lw m b = lw m c)))
theorem tkI {k : Nat} (h : ¬ (1 ≤ k ∧ k ≤ 3)) : ¬ ((1 : Int) ≤ (k : Int) ∧ (k : Int) ≤ 3) := by omega
theorem tkJ {k : Nat} (h : 1 ≤ k ∧ k ≤ 3) : (1 : Int) ≤ (k : Int) ∧ (k : Int) ≤ 3 := by omega
def C_r1_Value4 : SpecP := fun A K => ∃ b, A [bsl 4 b] ∧ K (.u64 ((w4 (b 0) (b 1) (b 2) (b 3)).setWidth 64))
theorem g_r1_Value4 : Gd 33 (pureP ty C_r1_Value4) := good_imp g_r1_Value fun args m key K ⟨b, hA, hK⟩ => ⟨4, b, hA, (by unfold N63; decide), by
  rw [show valN b 4 = (w4 (b 0) (b 1) (b 2) (b 3)).setWidth 64 from (w4_val64 _ _ _ _).symm]
  exact hK⟩
theorem w64_le (x : BitVec 32) : (x.setWidth 64).toNat = x.toNat := by
  have := x.isLt
  rw [BitVec.toNat_setWidth, Nat.mod_eq_of_lt (show x.toNat < 2 ^ 64 by omega)]
theorem tk32 (x : BitVec 32) : (x.setWidth 64).setWidth 32 = x := by simp
theorem w64_b (x : BitVec 32) : (x.setWidth 64).toNat ≤ 9223372036854775807 := by
  have := x.isLt
  rw [w64_le]; omega
end Go.Proofs.YtldlleoabbcpdaaDoor
