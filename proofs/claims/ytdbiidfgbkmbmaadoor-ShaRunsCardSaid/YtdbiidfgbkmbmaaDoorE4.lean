/- Arithmetic on plain values is the model's. -/
import Derived.Test.YtdbiidfgbkmbmaaDoorE3
namespace Go.Proofs.YtdbiidfgbkmbmaaDoor
open Go.RowKit

theorem uwrap {k : IntKind} (hk : k.signed = false) (n : Int) : k.wrap n = n % (2 ^ k.bits : Int) := by
  unfold IntKind.wrap; simp [hk]
theorem uwrapN {k : IntKind} (hk : k.signed = false) (n : Nat) : k.wrap (n : Int) = ((BitVec.ofNat k.bits n).toNat : Int) := by
  rw [uwrap hk, BitVec.toNat_ofNat]
  push_cast; rfl
theorem uwrapI {k : IntKind} (hk : k.signed = false) (n : Int) : k.wrap n = ((BitVec.ofInt k.bits n).toNat : Int) := by
  rw [uwrap hk, BitVec.toNat_ofInt]
  have h : (0 : Int) < 2 ^ k.bits := Int.pow_pos (by decide)
  have h2 : ((2 ^ k.bits : Nat) : Int) = 2 ^ k.bits := by push_cast; rfl
  rw [h2, Int.toNat_of_nonneg (Int.emod_nonneg _ (by omega))]
theorem iwrap {n : Int} (h : I64 n) : IntKind.i64.wrap n = n := IntWalk.i64_in n h

section
variable {P : Program} {c : Cx} {w : World} {t : TypeId}
/-- The operation yields a value that is told by a plain one. -/
def Yld (P : Program) (c : Cx) (w : World) (s : Sem Value) (r : AV) : Prop := ∃ z, s.run P w = .ok z w ∧ RV c r z
theorem yld_pure {r : AV} {z : Value} (h : RV c r z) : Yld P c w (pure z) r := ⟨z, rfl, h⟩

theorem ofInt_toNat {n : Nat} (x : BitVec n) : BitVec.ofInt n (x.toNat : Int) = x := by simp
theorem word_bin {k : IntKind} (hk : k.signed = false) {Rk : BitVec k.bits → AV} (hR : ∀ z, RV c (Rk z) (.int k (z.toNat : Int))) {op : BinOp} {x y : BitVec k.bits} {K : AV → Prop}
    (h : cmpB op x y Rk K) : ∃ r, K r ∧ Yld P c w (binOp op t (.int k (x.toNat : Int)) (.int k (y.toNat : Int))) r := by
  have e0 : ∀ z : BitVec k.bits, ((z.toNat : Nat) : Int) % (2 ^ k.bits : Int) = (z.toNat : Int) := fun z => by
    have h2 : ((2 ^ k.bits : Nat) : Int) = 2 ^ k.bits := by push_cast; rfl
    rw [← h2]; exact Int.emod_eq_of_lt (by omega) (by have := z.isLt; omega)
  have hlt : ∀ z : BitVec k.bits, 0 ≤ (z.toNat : Int) := fun z => by omega
  have hz : ∀ (z : BitVec k.bits) (n : Int), n = (z.toNat : Int) → Value.int k n = .int k (z.toNat : Int) := fun z n h => by rw [h]
  cases op <;> simp only [cmpB] at h <;> try exact h.elim
  case add =>
    refine ⟨_, h, ?_⟩
    simp only [binOp, Op.intArith, ne_eq, not_true_eq_false, if_false]
    refine yld_pure ?_
    rw [show (x.toNat : Int) + (y.toNat : Int) = ((x.toNat + y.toNat : Nat) : Int) by push_cast; rfl, uwrapN hk, BitVec.ofNat_add, BitVec.ofNat_toNat, BitVec.ofNat_toNat, BitVec.setWidth_eq, BitVec.setWidth_eq]
    exact hR (x + y)
  case sub =>
    refine ⟨_, h, ?_⟩
    simp only [binOp, Op.intArith, ne_eq, not_true_eq_false, if_false]
    refine yld_pure ?_
    rw [uwrapI hk, Int.sub_eq_add_neg, BitVec.ofInt_add, BitVec.ofInt_neg, ofInt_toNat, ofInt_toNat, ← BitVec.sub_eq_add_neg]
    exact hR (x - y)
  case mul =>
    refine ⟨_, h, ?_⟩
    simp only [binOp, Op.intArith, ne_eq, not_true_eq_false, if_false]
    refine yld_pure ?_
    rw [show (x.toNat : Int) * (y.toNat : Int) = ((x.toNat * y.toNat : Nat) : Int) by push_cast; rfl, uwrapN hk, BitVec.ofNat_mul, BitVec.ofNat_toNat, BitVec.ofNat_toNat, BitVec.setWidth_eq, BitVec.setWidth_eq]
    exact hR (x * y)
  case quo =>
    obtain ⟨hy, h⟩ := h
    have hy' : ¬ (y.toNat : Int) = 0 := fun e => hy (BitVec.eq_of_toNat_eq (by simpa using e))
    refine ⟨_, h, ?_⟩
    simp only [binOp, Op.intDiv, hy', if_false, ne_eq, not_true_eq_false]
    refine yld_pure ?_
    rw [Int.tdiv_eq_ediv_of_nonneg (by omega), uwrap hk, show (x.toNat : Int) / (y.toNat : Int) = ((x / y).toNat : Int) by rw [BitVec.toNat_udiv]; push_cast; rfl, e0]
    exact hR _
  case rem =>
    obtain ⟨hy, h⟩ := h
    have hy' : ¬ (y.toNat : Int) = 0 := fun e => hy (BitVec.eq_of_toNat_eq (by simpa using e))
    refine ⟨_, h, ?_⟩
    simp only [binOp, Op.intDiv, hy', if_false, ne_eq, not_true_eq_false]
    refine yld_pure ?_
    rw [Int.tmod_eq_emod_of_nonneg (by omega), show (x.toNat : Int) % (y.toNat : Int) = ((x % y).toNat : Int) by rw [BitVec.toNat_umod]; push_cast; rfl]
    exact hR _
  case and => exact ⟨_, h, by
    simp only [binOp, Op.intBits, ne_eq, not_true_eq_false, if_false]
    refine yld_pure ?_
    rw [ofInt_toNat, ofInt_toNat, uwrap hk, e0]; exact hR _⟩
  case or => exact ⟨_, h, by
    simp only [binOp, Op.intBits, ne_eq, not_true_eq_false, if_false]
    refine yld_pure ?_
    rw [ofInt_toNat, ofInt_toNat, uwrap hk, e0]; exact hR _⟩
  case xor => exact ⟨_, h, by
    simp only [binOp, Op.intBits, ne_eq, not_true_eq_false, if_false]
    refine yld_pure ?_
    rw [ofInt_toNat, ofInt_toNat, uwrap hk, e0]; exact hR _⟩
  case andNot => exact ⟨_, h, by
    simp only [binOp, Op.intBits, ne_eq, not_true_eq_false, if_false]
    refine yld_pure ?_
    rw [ofInt_toNat, ofInt_toNat, uwrap hk, e0]; exact hR _⟩
  all_goals
    refine ⟨_, h, ?_⟩
    simp only [binOp, Op.intCmp, ne_eq, not_true_eq_false, if_false]
    refine yld_pure ?_
    show [Value.bool _] = [Value.bool _]
    congr 2
    rw [Bool.eq_iff_iff]
    simp [BitVec.lt_def, BitVec.le_def, ← BitVec.toNat_inj, bne, Int.ofNat_inj]
theorem int_bin {op : BinOp} {x y : Int} {K : AV → Prop} (h : cmpI op x y K) : ∃ r, K r ∧ Yld P c w (binOp op t (.int .i64 x) (.int .i64 y)) r := by
  cases op <;> simp only [cmpI] at h <;> try exact h.elim
  case add =>
    refine ⟨_, h.2, ?_⟩
    simp only [binOp, Op.intArith, ne_eq, not_true_eq_false, if_false]
    refine yld_pure ?_
    show [Value.int .i64 (IntKind.i64.wrap _)] = _
    rw [iwrap h.1]
  case sub =>
    refine ⟨_, h.2, ?_⟩
    simp only [binOp, Op.intArith, ne_eq, not_true_eq_false, if_false]
    refine yld_pure ?_
    show [Value.int .i64 (IntKind.i64.wrap _)] = _
    rw [iwrap h.1]
  case mul =>
    refine ⟨_, h.2, ?_⟩
    simp only [binOp, Op.intArith, ne_eq, not_true_eq_false, if_false]
    refine yld_pure ?_
    show [Value.int .i64 (IntKind.i64.wrap _)] = _
    rw [iwrap h.1]
  case quo =>
    obtain ⟨h0, h1, h2, h⟩ := h
    refine ⟨_, h, ?_⟩
    have hy : ¬ y = 0 := by omega
    simp only [binOp, Op.intDiv, hy, if_false, ne_eq, not_true_eq_false]
    refine yld_pure ?_
    show [Value.int .i64 (IntKind.i64.wrap _)] = _
    have hd : x / y ≤ x := Int.ediv_le_self _ h0
    have hd0 : 0 ≤ x / y := Int.ediv_nonneg h0 (by omega)
    rw [Int.tdiv_eq_ediv_of_nonneg h0, iwrap (by unfold I64 at *; omega)]
  case rem =>
    obtain ⟨h0, h1, h⟩ := h
    refine ⟨_, h, ?_⟩
    have hy : ¬ y = 0 := by omega
    simp only [binOp, Op.intDiv, hy, if_false, ne_eq, not_true_eq_false]
    refine yld_pure ?_
    show [Value.int .i64 (x.tmod y)] = _
    rw [Int.tmod_eq_emod_of_nonneg h0]
  case eql =>
    refine ⟨_, h, ?_⟩
    simp only [binOp, Op.intCmp, ne_eq, not_true_eq_false, if_false]
    refine yld_pure ?_
    show [Value.bool _] = [Value.bool _]
    congr 2
  case neq =>
    refine ⟨_, h, ?_⟩
    simp only [binOp, Op.intCmp, ne_eq, not_true_eq_false, if_false]
    refine yld_pure ?_
    show [Value.bool _] = [Value.bool _]
    congr 2
    rw [Bool.eq_iff_iff]; simp
  case lss =>
    refine ⟨_, h, ?_⟩
    simp only [binOp, Op.intCmp, ne_eq, not_true_eq_false, if_false]
    exact yld_pure rfl
  case leq =>
    refine ⟨_, h, ?_⟩
    simp only [binOp, Op.intCmp, ne_eq, not_true_eq_false, if_false]
    exact yld_pure rfl
  case gtr =>
    refine ⟨_, h, ?_⟩
    simp only [binOp, Op.intCmp, ne_eq, not_true_eq_false, if_false]
    exact yld_pure rfl
  case geq =>
    refine ⟨_, h, ?_⟩
    simp only [binOp, Op.intCmp, ne_eq, not_true_eq_false, if_false]
    exact yld_pure rfl
theorem nat_bin {op : BinOp} {x y : Nat} {K : AV → Prop} (h : cmpN op x y K) : ∃ r, K r ∧ Yld P c w (binOp op t (.int .i64 (x : Int)) (.int .i64 (y : Int))) r := by
  have hI : ∀ n : Nat, N63 n → I64 (n : Int) := fun n h => by unfold N63 at h; unfold I64; omega
  have conv : ∀ {op : BinOp} {z : Nat} {r : Int}, r = (z : Int) → (∃ q, (fun v => v = AV.int r) q ∧ Yld P c w (binOp op t (.int .i64 (x : Int)) (.int .i64 (y : Int))) q) → Yld P c w (binOp op t (.int .i64 (x : Int)) (.int .i64 (y : Int))) (.nat z) := by
    rintro op z r rfl ⟨_, rfl, v, h1, h2⟩; exact ⟨v, h1, h2⟩
  cases op <;> simp only [cmpN] at h
  case add => exact ⟨_, h.2, conv (by push_cast; rfl) (int_bin (op := .add) ⟨by have := hI _ h.1; simpa using this, rfl⟩)⟩
  case mul => exact ⟨_, h.2, conv (by push_cast; rfl) (int_bin (op := .mul) ⟨by have := hI _ h.1; simpa using this, rfl⟩)⟩
  case quo => exact ⟨_, h.2.2, conv (by push_cast; rfl) (int_bin (op := .quo) ⟨by omega, by omega, hI _ h.2.1, rfl⟩)⟩
  case rem => exact ⟨_, h.2, conv (by push_cast; rfl) (int_bin (op := .rem) ⟨by omega, by omega, rfl⟩)⟩
  case eql =>
    have := int_bin (P := P) (c := c) (w := w) (t := t) (op := .eql) (x := x) (y := y) (K := K) (by simpa [cmpI, Int.ofNat_inj] using h)
    exact this
  case neq =>
    have := int_bin (P := P) (c := c) (w := w) (t := t) (op := .neq) (x := x) (y := y) (K := K) (by simpa [cmpI, Int.ofNat_inj] using h)
    exact this
  case lss =>
    have := int_bin (P := P) (c := c) (w := w) (t := t) (op := .lss) (x := x) (y := y) (K := K) (by simpa [cmpI] using h)
    exact this
  case leq =>
    have := int_bin (P := P) (c := c) (w := w) (t := t) (op := .leq) (x := x) (y := y) (K := K) (by simpa [cmpI] using h)
    exact this
  case gtr =>
    have := int_bin (P := P) (c := c) (w := w) (t := t) (op := .gtr) (x := x) (y := y) (K := K) (by simpa [cmpI] using h)
    exact this
  case geq =>
    have := int_bin (P := P) (c := c) (w := w) (t := t) (op := .geq) (x := x) (y := y) (K := K) (by simpa [cmpI] using h)
    exact this
  all_goals exact int_bin h

/-- A count that came as whatever number. -/
theorem cnt_of {y : AV} {u : Value} {K : Nat → Prop} (hy : RV c y u) (h : cnt y K) : ∃ k n, K n ∧ u = .int k (n : Int) := by
  cases y <;> simp only [cnt] at h <;> try exact h.elim
  case nat k => exact ⟨.i64, k, h, by simpa [RV, R] using hy⟩
  case int z => exact ⟨.i64, z.toNat, h.2, by rw [Int.toNat_of_nonneg h.1]; simpa [RV, R] using hy⟩
  case u8 x => exact ⟨.u8, x.toNat, h, by simpa [RV, R, U8] using hy⟩
  case u16 x => exact ⟨.u16, x.toNat, h, by simpa [RV, R, U16] using hy⟩
  case u32 x => exact ⟨.u32, x.toNat, h, by simpa [RV, R, U32] using hy⟩
  case u64 x => exact ⟨.u64, x.toNat, h, by simpa [RV, R, U64] using hy⟩
theorem idx_of {y : AV} {u : Value} {K : Nat → Prop} (hy : RV c y u) (h : idx y K) : ∃ k n, K n ∧ u = .int k (n : Int) := by
  cases y <;> simp only [idx] at h <;> try exact h.elim
  case nat k => exact ⟨.i64, k, h, by simpa [RV, R] using hy⟩
  case int z => exact ⟨.i64, z.toNat, h.2, by rw [Int.toNat_of_nonneg h.1]; simpa [RV, R] using hy⟩
  case u8 x => exact ⟨.u8, x.toNat, h, by simpa [RV, R, U8] using hy⟩
  case u16 x => exact ⟨.u16, x.toNat, h, by simpa [RV, R, U16] using hy⟩
  case u32 x => exact ⟨.u32, x.toNat, h, by simpa [RV, R, U32] using hy⟩
  case u64 x => exact ⟨.u64, x.toNat, h, by simpa [RV, R, U64] using hy⟩
theorem word_shf {k : IntKind} (hk : k.signed = false) {Rk : BitVec k.bits → AV} (hR : ∀ z, RV c (Rk z) (.int k (z.toNat : Int))) {op : BinOp} {x : BitVec k.bits} {n : Nat} {K : AV → Prop} {yk : IntKind}
    (h : shf op x n Rk K) : ∃ r, K r ∧ Yld P c w (binOp op t (.int k (x.toNat : Int)) (.int yk (n : Int))) r := by
  cases op <;> simp only [shf] at h <;> try exact h.elim
  case shl =>
    refine ⟨_, h, ?_⟩
    have hn : ¬ (n : Int) < 0 := by omega
    simp only [binOp, Op.shift, hn, if_false, Int.toNat_natCast]
    refine yld_pure ?_
    have e : (x.toNat : Int) * 2 ^ (min n k.bits) = ((x.toNat * 2 ^ (min n k.bits) : Nat) : Int) := by push_cast; rfl
    rw [e, uwrapN hk]
    have e2 : BitVec.ofNat k.bits (x.toNat * 2 ^ min n k.bits) = x <<< n := by
      apply BitVec.eq_of_toNat_eq
      rw [BitVec.toNat_ofNat, BitVec.toNat_shiftLeft, Nat.shiftLeft_eq]
      rcases Nat.le_total n k.bits with hle | hle
      · rw [Nat.min_eq_left hle]
      · rw [Nat.min_eq_right hle]
        obtain ⟨d, rfl⟩ := Nat.exists_eq_add_of_le hle
        rw [Nat.mul_mod_left, Nat.pow_add, ← Nat.mul_assoc, Nat.mul_comm x.toNat, Nat.mul_assoc, Nat.mul_mod_right]
    rw [e2]; exact hR _
  case shr =>
    refine ⟨_, h, ?_⟩
    have hn : ¬ (n : Int) < 0 := by omega
    simp only [binOp, Op.shift, hn, if_false, Int.toNat_natCast]
    refine yld_pure ?_
    have e : Int.fdiv (x.toNat : Int) (2 ^ (min n k.bits)) = ((x >>> n).toNat : Int) := by
      have h2 : (2 : Int) ^ (min n k.bits) = ((2 ^ (min n k.bits) : Nat) : Int) := by push_cast; rfl
      rw [h2, Int.fdiv_eq_ediv_of_nonneg _ (Int.natCast_nonneg _), BitVec.toNat_ushiftRight, Nat.shiftRight_eq_div_pow]
      rcases Nat.le_total n k.bits with hle | hle
      · rw [Nat.min_eq_left hle]; push_cast; rfl
      · rw [Nat.min_eq_right hle]
        have h1 : x.toNat / 2 ^ k.bits = 0 := Nat.div_eq_of_lt x.isLt
        have h3 : x.toNat / 2 ^ n = 0 := Nat.div_eq_of_lt (Nat.lt_of_lt_of_le x.isLt (Nat.pow_le_pow_right (by decide) hle))
        rw [h3]
        have : ((x.toNat : Int) / ((2 ^ k.bits : Nat) : Int)) = ((x.toNat / 2 ^ k.bits : Nat) : Int) := by push_cast; rfl
        rw [this, h1]
    rw [e]; exact hR _
theorem nat_shf {op : BinOp} {x n : Nat} {K : AV → Prop} {yk : IntKind} (h : shfN op x n K) : ∃ r, K r ∧ Yld P c w (binOp op t (.int .i64 (x : Int)) (.int yk (n : Int))) r := by
  cases op <;> simp only [shfN] at h <;> try exact h.elim
  case shl =>
    obtain ⟨hn, hb, h⟩ := h
    refine ⟨_, h, ?_⟩
    have e := shift_shl .i64 yk (x : Int) (n : Int) (by omega) (by simp [IntKind.bits]; omega)
    simp only [binOp, e, Int.toNat_natCast]
    refine yld_pure ?_
    have e2 : (x : Int) * 2 ^ n = ((x * 2 ^ n : Nat) : Int) := by push_cast; rfl
    show [_] = [_]
    rw [e2, iwrap (by unfold N63 at hb; unfold I64; omega)]
  case shr =>
    obtain ⟨hn, h⟩ := h
    refine ⟨_, h, ?_⟩
    have e := shift_shr .i64 yk (x : Int) (n : Int) (by omega) (by simp [IntKind.bits]; omega)
    simp only [binOp, e, Int.toNat_natCast]
    refine yld_pure ?_
    show [_] = [_]
    congr 2
theorem rvU8 (z : BitVec 8) : RV c (.u8 z) (.int .u8 (z.toNat : Int)) := rfl
theorem rvU16 (z : BitVec 16) : RV c (.u16 z) (.int .u16 (z.toNat : Int)) := rfl
theorem rvU32 (z : BitVec 32) : RV c (.u32 z) (.int .u32 (z.toNat : Int)) := rfl
theorem rvU64 (z : BitVec 64) : RV c (.u64 z) (.int .u64 (z.toNat : Int)) := rfl
theorem bin_sound {op : BinOp} {x y : AV} {v u : Value} {K : AV → Prop} (hx : RV c x v) (hy : RV c y u) (h : bin op x y K) : ∃ r, K r ∧ Yld P c w (binOp op t v u) r := by
  by_cases hs : op = .shl ∨ op = .shr
  · have h' : cnt y (shf0 op x K) := by rcases hs with rfl | rfl <;> exact h
    obtain ⟨yk, n, hn, rfl⟩ := cnt_of hy h'
    clear h h' hs
    unfold shf0 at hn
    split at hn
    · rw [show v = _ by simpa [RV, R] using hx]; exact word_shf (k := .u8) rfl rvU8 hn
    · rw [show v = _ by simpa [RV, R] using hx]; exact word_shf (k := .u16) rfl rvU16 hn
    · rw [show v = _ by simpa [RV, R] using hx]; exact word_shf (k := .u32) rfl rvU32 hn
    · rw [show v = _ by simpa [RV, R] using hx]; exact word_shf (k := .u64) rfl rvU64 hn
    · rw [show v = _ by simpa [RV, R] using hx]; exact nat_shf hn
    · exact hn.elim
  · have h' : bin0 op x y K := by cases op <;> first | exact h | (simp at hs)
    clear h hs
    unfold bin0 at h'
    split at h'
    · rw [show v = _ by simpa [RV, R] using hx, show u = _ by simpa [RV, R] using hy]; exact word_bin (k := .u8) rfl rvU8 h'
    · rw [show v = _ by simpa [RV, R] using hx, show u = _ by simpa [RV, R] using hy]; exact word_bin (k := .u16) rfl rvU16 h'
    · rw [show v = _ by simpa [RV, R] using hx, show u = _ by simpa [RV, R] using hy]; exact word_bin (k := .u32) rfl rvU32 h'
    · rw [show v = _ by simpa [RV, R] using hx, show u = _ by simpa [RV, R] using hy]; exact word_bin (k := .u64) rfl rvU64 h'
    · rw [show v = _ by simpa [RV, R] using hx, show u = _ by simpa [RV, R] using hy]; exact nat_bin h'
    · rw [show v = _ by simpa [RV, R] using hx, show u = _ by simpa [RV, R] using hy]; exact int_bin h'
    · rw [show v = _ by simpa [RV, R] using hx, show u = _ by simpa [RV, R] using hy]; exact int_bin h'
    · rw [show v = _ by simpa [RV, R] using hx, show u = _ by simpa [RV, R] using hy]; exact int_bin h'
    · exact h'.elim
theorem bool_bin {op : BinOp} {x y : Bool} {K : AV → Prop} (hu : P.underlying t = some .bool) (h : match op with
      | .eql => K (.bo (x == y))
      | .neq => K (.bo (x != y))
      | _ => False) : ∃ r, K r ∧ Yld P c w (binOp op t (.bool x) (.bool y)) r := by
  have he : (Op.equal t (.bool x) (.bool y)).run P w = .ok (x == y) w := by
    have h1 : ∀ d, (Op.equalIn (d + 1) t (.bool x) (.bool y)).run P w = .ok (x == y) w := fun d => by simp [Op.equalIn, run_underlying hu]
    exact h1 9999
  cases op <;> simp only [] at h <;> try exact h.elim
  case eql => exact ⟨_, h, .bool (x == y), by simp only [binOp, Sem.run_bind, he, Result.andThen_ok, Sem.run_pure], rfl⟩
  case neq => exact ⟨_, h, .bool (!(x == y)), by simp only [binOp, Sem.run_bind, he, Result.andThen_ok, Sem.run_pure], rfl⟩
/-! ### What is made does not hang on what is done with it -/
theorem cmpB_det {n : Nat} {op : BinOp} {x y : BitVec n} {Rk : BitVec n → AV} {K : AV → Prop} (h : cmpB op x y Rk K) : ∃ r, K r ∧ ∀ K' : AV → Prop, K' r → cmpB op x y Rk K' := by
  cases op <;> simp only [cmpB] at h ⊢ <;> first | exact h.elim | exact ⟨_, h, fun _ k => k⟩ | exact ⟨_, h.2, fun _ k => ⟨h.1, k⟩⟩
theorem cmpI_det {op : BinOp} {x y : Int} {K : AV → Prop} (h : cmpI op x y K) : ∃ r, K r ∧ ∀ K' : AV → Prop, K' r → cmpI op x y K' := by
  cases op <;> simp only [cmpI] at h ⊢ <;> first | exact h.elim | exact ⟨_, h, fun _ k => k⟩ | exact ⟨_, h.2, fun _ k => ⟨h.1, k⟩⟩ | exact ⟨_, h.2.2, fun _ k => ⟨h.1, h.2.1, k⟩⟩ | exact ⟨_, h.2.2.2, fun _ k => ⟨h.1, h.2.1, h.2.2.1, k⟩⟩
theorem cmpN_det {op : BinOp} {x y : Nat} {K : AV → Prop} (h : cmpN op x y K) : ∃ r, K r ∧ ∀ K' : AV → Prop, K' r → cmpN op x y K' := by
  cases op <;> simp only [cmpN] at h ⊢ <;> first | exact cmpI_det h | exact ⟨_, h, fun _ k => k⟩ | exact ⟨_, h.2, fun _ k => ⟨h.1, k⟩⟩ | exact ⟨_, h.2.2, fun _ k => ⟨h.1, h.2.1, k⟩⟩
theorem shf0_det {op : BinOp} {x : AV} {n : Nat} {K : AV → Prop} (h : shf0 op x K n) : ∃ r, K r ∧ ∀ K' : AV → Prop, K' r → shf0 op x K' n := by
  unfold shf0 at h ⊢
  split at h <;> first | exact h.elim | (cases op <;> simp only [shf, shfN] at h ⊢ <;> first | exact h.elim | exact ⟨_, h, fun _ k => k⟩ | exact ⟨_, h.2, fun _ k => ⟨h.1, k⟩⟩ | exact ⟨_, h.2.2, fun _ k => ⟨h.1, h.2.1, k⟩⟩)
theorem cnt_det {y : AV} {K : Nat → Prop} (h : cnt y K) : ∃ n, K n ∧ ∀ K' : Nat → Prop, K' n → cnt y K' := by
  cases y <;> simp only [cnt] at h ⊢ <;> first | exact h.elim | exact ⟨_, h, fun _ k => k⟩ | exact ⟨_, h.2, fun _ k => ⟨h.1, k⟩⟩
theorem idx_det {y : AV} {K : Nat → Prop} (h : idx y K) : ∃ n, K n ∧ ∀ K' : Nat → Prop, K' n → idx y K' := by
  cases y <;> simp only [idx] at h ⊢ <;> first | exact h.elim | exact ⟨_, h, fun _ k => k⟩ | exact ⟨_, h.2, fun _ k => ⟨h.1, k⟩⟩
theorem bin_det {op : BinOp} {x y : AV} {K : AV → Prop} (h : bin op x y K) : ∃ r, K r ∧ ∀ K' : AV → Prop, K' r → bin op x y K' := by
  by_cases hs : op = .shl ∨ op = .shr
  · rcases hs with rfl | rfl
    · obtain ⟨n, h1, h2⟩ := cnt_det (show cnt y (shf0 .shl x K) from h)
      obtain ⟨r, h3, h4⟩ := shf0_det h1
      exact ⟨r, h3, fun K' hk => h2 _ (h4 K' hk)⟩
    · obtain ⟨n, h1, h2⟩ := cnt_det (show cnt y (shf0 .shr x K) from h)
      obtain ⟨r, h3, h4⟩ := shf0_det h1
      exact ⟨r, h3, fun K' hk => h2 _ (h4 K' hk)⟩
  · have h' : bin0 op x y K := by cases op <;> first | exact h | (simp at hs)
    have hb : ∀ K', bin0 op x y K' → bin op x y K' := fun K' hk => by cases op <;> first | exact hk | (simp at hs)
    have key : ∃ r, K r ∧ ∀ K' : AV → Prop, K' r → bin0 op x y K' := by
      clear hb h hs
      unfold bin0 at h' ⊢
      split at h' <;> first | exact cmpB_det h' | exact cmpN_det h' | exact cmpI_det h' | exact h'.elim
    obtain ⟨r, h1, h2⟩ := key
    exact ⟨r, h1, fun K' hk => hb _ (h2 K' hk)⟩
theorem una_det {op : UnOp} {x : AV} {K : AV → Prop} (h : una op x K) : ∃ r, K r ∧ ∀ K' : AV → Prop, K' r → una op x K' := by
  unfold una at h ⊢
  split at h <;> first | exact h.elim | exact ⟨_, h, fun _ k => k⟩ | exact ⟨_, h.2, fun _ k => ⟨h.1, k⟩⟩
theorem conv_det {d : Ty} {x : AV} {K : AV → Prop} (h : conv d x K) : ∃ r, K r ∧ ∀ K' : AV → Prop, K' r → conv d x K' := by
  unfold conv at h ⊢
  cases x <;> simp only [] at h ⊢ <;> try exact h.elim
  all_goals
    (try unfold toW at h ⊢)
    split at h <;> first | exact h.elim | exact ⟨_, h, fun _ k => k⟩ | exact ⟨_, h.2, fun _ k => ⟨h.1, k⟩⟩
/-- The same for all that hold it. -/
theorem bin_all {op : BinOp} {x y : AV} {K : AV → Prop} (h : bin op x y K) : ∃ r, K r ∧ ∀ (c : Cx) (w : World) (t : TypeId) (v u : Value), RV c x v → RV c y u → Yld P c w (binOp op t v u) r := by
  obtain ⟨r, h1, h2⟩ := bin_det h
  refine ⟨r, h1, fun c w t v u hx hy => ?_⟩
  obtain ⟨r', rfl, h3⟩ := bin_sound (P := P) (c := c) (w := w) (t := t) hx hy (h2 (· = r) rfl)
  exact h3
theorem idx_all {y : AV} {K : Nat → Prop} (h : idx y K) : ∃ n, K n ∧ ∀ (c : Cx) (u : Value), RV c y u → ∃ k, u = .int k (n : Int) := by
  obtain ⟨n, h1, h2⟩ := idx_det h
  refine ⟨n, h1, fun c u hy => ?_⟩
  obtain ⟨k, n', rfl, hu⟩ := idx_of hy (h2 (· = n) rfl)
  exact ⟨k, hu⟩
end
end Go.Proofs.YtdbiidfgbkmbmaaDoor
