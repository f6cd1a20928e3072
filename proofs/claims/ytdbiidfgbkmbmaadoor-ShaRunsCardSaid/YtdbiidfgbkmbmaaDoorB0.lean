/- Words of 8, 32 and 64 bits as values of the walk: what each operation on them makes. -/
import Derived.Test.YtdbiidfgbkmbmaaDoorRows
import Derived.WalkKit
import Derived.WalkSpells
import Derived.WalkLawsBesides
import Derived.BigQuiet
import Derived.Deep.QuietTactic
import Derived.Lib.Hide
namespace Go.Proofs.YtdbiidfgbkmbmaaDoor
open Go.RowKit

def U8 (x : BitVec 8) : Int := x.toNat
def U32 (x : BitVec 32) : Int := x.toNat
def U64 (x : BitVec 64) : Int := x.toNat

theorem U32_bd (x : BitVec 32) : 0 ≤ U32 x ∧ U32 x ≤ 4294967295 := by unfold U32; have := x.isLt; omega
theorem U8_bd (x : BitVec 8) : 0 ≤ U8 x ∧ U8 x ≤ 255 := by unfold U8; have := x.isLt; omega
theorem U64_bd (x : BitVec 64) : 0 ≤ U64 x ∧ U64 x ≤ 18446744073709551615 := by unfold U64; have := x.isLt; omega
theorem U32_inj {x y : BitVec 32} (h : U32 x = U32 y) : x = y := by unfold U32 at h; exact BitVec.eq_of_toNat_eq (by omega)
theorem U8_inj {x y : BitVec 8} (h : U8 x = U8 y) : x = y := by unfold U8 at h; exact BitVec.eq_of_toNat_eq (by omega)
theorem U64_inj {x y : BitVec 64} (h : U64 x = U64 y) : x = y := by unfold U64 at h; exact BitVec.eq_of_toNat_eq (by omega)

theorem ofInt_U32 (x : BitVec 32) : BitVec.ofInt 32 (U32 x) = x := by unfold U32; simp
theorem ofInt_U8 (x : BitVec 8) : BitVec.ofInt 8 (U8 x) = x := by unfold U8; simp
theorem ofInt_U64 (x : BitVec 64) : BitVec.ofInt 64 (U64 x) = x := by unfold U64; simp
theorem wrap_nat32 (n : Nat) : IntKind.u32.wrap (n : Int) = U32 (BitVec.ofNat 32 n) := by unfold U32; rw [IntKind.wrap_u32', BitVec.toNat_ofNat]; omega
theorem wrap_nat8 (n : Nat) : IntKind.u8.wrap (n : Int) = U8 (BitVec.ofNat 8 n) := by unfold U8; rw [IntKind.wrap_u8', BitVec.toNat_ofNat]; omega
theorem wrap_nat64 (n : Nat) : IntKind.u64.wrap (n : Int) = U64 (BitVec.ofNat 64 n) := by unfold U64; rw [IntKind.wrap_u64, BitVec.toNat_ofNat]; omega

-- 32 bits
@[go_sem high] theorem add32 (x y : BitVec 32) : Op.intArith .add .u32 (U32 x) (U32 y) = pure (.int .u32 (U32 (x + y))) := by
  unfold Op.intArith; simp only []
  have : U32 x + U32 y = ((x.toNat + y.toNat : Nat) : Int) := by unfold U32; omega
  rw [this, wrap_nat32, BitVec.ofNat_add]; simp
@[go_sem high] theorem and32 (x y : BitVec 32) : Op.intBits .and .u32 (U32 x) (U32 y) = pure (.int .u32 (U32 (x &&& y))) := by
  unfold Op.intBits; show pure (Value.int .u32 (IntKind.u32.wrap ((BitVec.ofInt 32 (U32 x) &&& BitVec.ofInt 32 (U32 y)).toNat : Nat))) = _
  rw [ofInt_U32, ofInt_U32, wrap_nat32]; simp
@[go_sem high] theorem or32 (x y : BitVec 32) : Op.intBits .or .u32 (U32 x) (U32 y) = pure (.int .u32 (U32 (x ||| y))) := by
  unfold Op.intBits; show pure (Value.int .u32 (IntKind.u32.wrap ((BitVec.ofInt 32 (U32 x) ||| BitVec.ofInt 32 (U32 y)).toNat : Nat))) = _
  rw [ofInt_U32, ofInt_U32, wrap_nat32]; simp
@[go_sem high] theorem xor32 (x y : BitVec 32) : Op.intBits .xor .u32 (U32 x) (U32 y) = pure (.int .u32 (U32 (x ^^^ y))) := by
  unfold Op.intBits; show pure (Value.int .u32 (IntKind.u32.wrap ((BitVec.ofInt 32 (U32 x) ^^^ BitVec.ofInt 32 (U32 y)).toNat : Nat))) = _
  rw [ofInt_U32, ofInt_U32, wrap_nat32]; simp
@[go_sem high] theorem not32 (x : BitVec 32) : Op.intBits .xor .u32 4294967295 (U32 x) = pure (.int .u32 (U32 (~~~x))) := by
  unfold Op.intBits; show pure (Value.int .u32 (IntKind.u32.wrap ((BitVec.ofInt 32 4294967295 ^^^ BitVec.ofInt 32 (U32 x)).toNat : Nat))) = _
  rw [ofInt_U32, wrap_nat32]; congr 3; rw [BitVec.ofNat_toNat, BitVec.setWidth_eq, show BitVec.ofInt 32 4294967295 = BitVec.allOnes 32 from by decide, BitVec.allOnes_xor]
@[go_sem high] theorem not32' (x : BitVec 32) : Op.unary .xor (.int .u32 (U32 x)) = pure (.int .u32 (U32 (~~~x))) := not32 x
@[go_sem high] theorem shl32 (x : BitVec 32) (yk : IntKind) (n : Nat) (h : n ≤ 32) : Op.shift .shl .u32 (U32 x) yk (no_index (OfNat.ofNat n)) = pure (.int .u32 (U32 (x <<< n))) := by
  show Op.shift .shl .u32 (U32 x) yk (n : Int) = _
  rw [shift_shl _ _ _ _ (by omega) (by simp [IntKind.bits]; omega)]
  have : U32 x * 2 ^ (n : Int).toNat = ((x.toNat * 2 ^ n : Nat) : Int) := by unfold U32; simp
  rw [this, wrap_nat32]; congr 3; apply BitVec.eq_of_toNat_eq; simp [Nat.shiftLeft_eq]
@[go_sem high] theorem shr32 (x : BitVec 32) (yk : IntKind) (n : Nat) (h : n ≤ 32) : Op.shift .shr .u32 (U32 x) yk (no_index (OfNat.ofNat n)) = pure (.int .u32 (U32 (x >>> n))) := by
  show Op.shift .shr .u32 (U32 x) yk (n : Int) = _
  rw [shift_shr _ _ _ _ (by omega) (by simp [IntKind.bits]; omega)]
  congr 2; unfold U32; simp [Nat.shiftRight_eq_div_pow]
@[go_sem high] theorem conv8_32 (x : BitVec 8) : Conv.intToInt .u32 (U8 x) = pure (.int .u32 (U32 (x.setWidth 32))) := by
  unfold Conv.intToInt U8; rw [wrap_nat32, BitVec.ofNat_toNat]
@[go_sem high] theorem conv8_64 (x : BitVec 8) : Conv.intToInt .u64 (U8 x) = pure (.int .u64 (U64 (x.setWidth 64))) := by
  unfold Conv.intToInt U8; rw [wrap_nat64, BitVec.ofNat_toNat]
@[go_sem high] theorem conv32_64 (x : BitVec 32) : Conv.intToInt .u64 (U32 x) = pure (.int .u64 (U64 (x.setWidth 64))) := by
  unfold Conv.intToInt U32; rw [wrap_nat64, BitVec.ofNat_toNat]
@[go_sem high] theorem conv64_32 (x : BitVec 64) : Conv.intToInt .u32 (U64 x) = pure (.int .u32 (U32 (x.setWidth 32))) := by
  unfold Conv.intToInt U64; rw [wrap_nat32, BitVec.ofNat_toNat]
@[go_sem high] theorem conv64_8 (x : BitVec 64) : Conv.intToInt .u8 (U64 x) = pure (.int .u8 (U8 (x.setWidth 8))) := by
  unfold Conv.intToInt U64; rw [wrap_nat8, BitVec.ofNat_toNat]
@[go_sem high] theorem conv32_8 (x : BitVec 32) : Conv.intToInt .u8 (U32 x) = pure (.int .u8 (U8 (x.setWidth 8))) := by
  unfold Conv.intToInt U32; rw [wrap_nat8, BitVec.ofNat_toNat]
@[go_sem high] theorem convN_64 (n : Nat) : Conv.intToInt .u64 (n : Int) = pure (.int .u64 (U64 (BitVec.ofNat 64 n))) := by
  unfold Conv.intToInt; rw [wrap_nat64]
@[go_sem high] theorem w8_32 (x : BitVec 8) : IntKind.u32.wrap (U8 x) = U32 (x.setWidth 32) := by unfold U8; rw [wrap_nat32, BitVec.ofNat_toNat]
@[go_sem high] theorem w8_64 (x : BitVec 8) : IntKind.u64.wrap (U8 x) = U64 (x.setWidth 64) := by unfold U8; rw [wrap_nat64, BitVec.ofNat_toNat]
@[go_sem high] theorem w32_64 (x : BitVec 32) : IntKind.u64.wrap (U32 x) = U64 (x.setWidth 64) := by unfold U32; rw [wrap_nat64, BitVec.ofNat_toNat]
@[go_sem high] theorem w64_32 (x : BitVec 64) : IntKind.u32.wrap (U64 x) = U32 (x.setWidth 32) := by unfold U64; rw [wrap_nat32, BitVec.ofNat_toNat]
@[go_sem high] theorem w64_8 (x : BitVec 64) : IntKind.u8.wrap (U64 x) = U8 (x.setWidth 8) := by unfold U64; rw [wrap_nat8, BitVec.ofNat_toNat]
@[go_sem high] theorem w32_8 (x : BitVec 32) : IntKind.u8.wrap (U32 x) = U8 (x.setWidth 8) := by unfold U32; rw [wrap_nat8, BitVec.ofNat_toNat]
@[go_sem high] theorem wN_64 (n : Nat) : IntKind.u64.wrap (n : Int) = U64 (BitVec.ofNat 64 n) := wrap_nat64 n
@[go_sem high] theorem w8_i (x : BitVec 8) : IntKind.i64.wrap (U8 x) = U8 x := IntWalk.i64_in _ (by have := U8_bd x; omega)
@[go_sem high] theorem w32_i (x : BitVec 32) : IntKind.i64.wrap (U32 x) = U32 x := IntWalk.i64_in _ (by have := U32_bd x; omega)
-- 8 bits
@[go_sem high] theorem and8 (x y : BitVec 8) : Op.intBits .and .u8 (U8 x) (U8 y) = pure (.int .u8 (U8 (x &&& y))) := by
  unfold Op.intBits; show pure (Value.int .u8 (IntKind.u8.wrap ((BitVec.ofInt 8 (U8 x) &&& BitVec.ofInt 8 (U8 y)).toNat : Nat))) = _
  rw [ofInt_U8, ofInt_U8, wrap_nat8]; simp
@[go_sem high] theorem or8 (x y : BitVec 8) : Op.intBits .or .u8 (U8 x) (U8 y) = pure (.int .u8 (U8 (x ||| y))) := by
  unfold Op.intBits; show pure (Value.int .u8 (IntKind.u8.wrap ((BitVec.ofInt 8 (U8 x) ||| BitVec.ofInt 8 (U8 y)).toNat : Nat))) = _
  rw [ofInt_U8, ofInt_U8, wrap_nat8]; simp
@[go_sem high] theorem xor8 (x y : BitVec 8) : Op.intBits .xor .u8 (U8 x) (U8 y) = pure (.int .u8 (U8 (x ^^^ y))) := by
  unfold Op.intBits; show pure (Value.int .u8 (IntKind.u8.wrap ((BitVec.ofInt 8 (U8 x) ^^^ BitVec.ofInt 8 (U8 y)).toNat : Nat))) = _
  rw [ofInt_U8, ofInt_U8, wrap_nat8]; simp
@[go_sem high] theorem add64 (x y : BitVec 64) : Op.intArith .add .u64 (U64 x) (U64 y) = pure (.int .u64 (U64 (x + y))) := by
  unfold Op.intArith; simp only []
  have : U64 x + U64 y = ((x.toNat + y.toNat : Nat) : Int) := by unfold U64; omega
  rw [this, wrap_nat64, BitVec.ofNat_add]; simp
@[go_sem high] theorem mul64 (x y : BitVec 64) : Op.intArith .mul .u64 (U64 x) (U64 y) = pure (.int .u64 (U64 (x * y))) := by
  unfold Op.intArith; simp only []
  have : U64 x * U64 y = ((x.toNat * y.toNat : Nat) : Int) := by unfold U64; simp
  rw [this, wrap_nat64, BitVec.ofNat_mul]; simp
@[go_sem high] theorem add64k (n : Nat) (y : BitVec 64) : Op.intArith .add .u64 (no_index (OfNat.ofNat n)) (U64 y) = pure (.int .u64 (U64 (BitVec.ofNat 64 n + y))) := by
  unfold Op.intArith; simp only []
  have : (OfNat.ofNat n : Int) + U64 y = ((n + y.toNat : Nat) : Int) := by unfold U64; show (n : Int) + _ = _; omega
  rw [this, wrap_nat64, BitVec.ofNat_add]; simp
@[go_sem high] theorem mul64k (n : Nat) (y : BitVec 64) : Op.intArith .mul .u64 (no_index (OfNat.ofNat n)) (U64 y) = pure (.int .u64 (U64 (BitVec.ofNat 64 n * y))) := by
  unfold Op.intArith; simp only []
  have : (OfNat.ofNat n : Int) * U64 y = ((n * y.toNat : Nat) : Int) := by unfold U64; show (n : Int) * _ = _; simp
  rw [this, wrap_nat64, BitVec.ofNat_mul]; simp
@[go_sem high] theorem shr64 (x : BitVec 64) (yk : IntKind) (n : Nat) (h : n ≤ 64) : Op.shift .shr .u64 (U64 x) yk (no_index (OfNat.ofNat n)) = pure (.int .u64 (U64 (x >>> n))) := by
  show Op.shift .shr .u64 (U64 x) yk (n : Int) = _
  rw [shift_shr _ _ _ _ (by omega) (by simp [IntKind.bits]; omega)]
  congr 2; unfold U64; simp [Nat.shiftRight_eq_div_pow]
@[go_sem high] theorem wadd32 (x y : BitVec 32) : IntKind.u32.wrap (U32 x + U32 y) = U32 (x + y) := by
  have : U32 x + U32 y = ((x.toNat + y.toNat : Nat) : Int) := by unfold U32; omega
  rw [this, wrap_nat32, BitVec.ofNat_add]; simp
@[go_sem high] theorem wadd64 (x y : BitVec 64) : IntKind.u64.wrap (U64 x + U64 y) = U64 (x + y) := by
  have : U64 x + U64 y = ((x.toNat + y.toNat : Nat) : Int) := by unfold U64; omega
  rw [this, wrap_nat64, BitVec.ofNat_add]; simp
@[go_sem high] theorem wmul64 (x y : BitVec 64) : IntKind.u64.wrap (U64 x * U64 y) = U64 (x * y) := by
  have : U64 x * U64 y = ((x.toNat * y.toNat : Nat) : Int) := by unfold U64; simp
  rw [this, wrap_nat64, BitVec.ofNat_mul]; simp
@[go_sem high] theorem wadd64k (n : Nat) (y : BitVec 64) : IntKind.u64.wrap ((no_index (OfNat.ofNat n)) + U64 y) = U64 (BitVec.ofNat 64 n + y) := by
  have : (OfNat.ofNat n : Int) + U64 y = ((n + y.toNat : Nat) : Int) := by unfold U64; show (n : Int) + _ = _; omega
  rw [this, wrap_nat64, BitVec.ofNat_add]; simp
@[go_sem high] theorem wmul64k (n : Nat) (y : BitVec 64) : IntKind.u64.wrap ((no_index (OfNat.ofNat n)) * U64 y) = U64 (BitVec.ofNat 64 n * y) := by
  have : (OfNat.ofNat n : Int) * U64 y = ((n * y.toNat : Nat) : Int) := by unfold U64; show (n : Int) * _ = _; simp
  rw [this, wrap_nat64, BitVec.ofNat_mul]; simp
theorem U8_lit (n : Nat) (h : n < 256) : U8 (BitVec.ofNat 8 n) = n := by unfold U8; simp; omega
theorem U32_lit (n : Nat) (h : n < 4294967296) : U32 (BitVec.ofNat 32 n) = n := by unfold U32; simp; omega
theorem U64_lit (n : Nat) (h : n < 18446744073709551616) : U64 (BitVec.ofNat 64 n) = n := by unfold U64; simp; omega
end Go.Proofs.YtdbiidfgbkmbmaaDoor
