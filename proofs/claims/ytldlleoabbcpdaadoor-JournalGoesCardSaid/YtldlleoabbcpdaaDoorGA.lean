/- The machine of plain values, part A. -/
import Derived.Test.YtldlleoabbcpdaaDoorRows
import Derived.WalkKit
import Derived.WalkSpells
import Derived.WalkLawsBesides
import Derived.BigQuiet
import Derived.Deep.QuietTactic
import Derived.Lib.Hide
import Derived.Below
import Derived.Deep.MidRow
import Derived.Laws.OwnMore
import Derived.Laws.Externs
import Derived.Maps.RangeRun
/- Words of 8, 32 and 64 bits as values of the walk: what each operation on them makes. -/
namespace Go.Proofs.YtldlleoabbcpdaaDoor
open Go.RowKit

def U8 (x : BitVec 8) : Int := x.toNat
def U32 (x : BitVec 32) : Int := x.toNat
def U64 (x : BitVec 64) : Int := x.toNat

theorem U32_bd (x : BitVec 32) : 0 ≤ U32 x ∧ U32 x ≤ 4294967295 := by unfold U32; have := x.isLt; omega
theorem U8_bd (x : BitVec 8) : 0 ≤ U8 x ∧ U8 x ≤ 255 := by unfold U8; have := x.isLt; omega
theorem U64_bd (x : BitVec 64) : 0 ≤ U64 x ∧ U64 x ≤ 18446744073709551615 := by unfold U64; have := x.isLt; omega
theorem U32_inj {x y : BitVec 32} (h : U32 x = U32 y) : x = y := by unfold U32 at h; exact BitVec.eq_of_toNat_eq (by omega)
theorem U8_inj {x y : BitVec 8} (h : U8 x = U8 y) : x = y := by unfold U8 at h; exact BitVec.eq_of_toNat_eq (by omega)
theorem U64_inj {x y : BitVec 64} (h : U64 x = U64 y) : x = y := by unfold U64 at h; exact BitVec.eq_of_toNat_eq (by omega)

theorem ofInt_U32 (x : BitVec 32) : BitVec.ofInt 32 (U32 x) = x := by unfold U32; simp
theorem ofInt_U8 (x : BitVec 8) : BitVec.ofInt 8 (U8 x) = x := by unfold U8; simp
theorem ofInt_U64 (x : BitVec 64) : BitVec.ofInt 64 (U64 x) = x := by unfold U64; simp
theorem wrap_nat32 (n : Nat) : IntKind.u32.wrap (n : Int) = U32 (BitVec.ofNat 32 n) := by unfold U32; rw [IntKind.wrap_u32', BitVec.toNat_ofNat]; omega
theorem wrap_nat8 (n : Nat) : IntKind.u8.wrap (n : Int) = U8 (BitVec.ofNat 8 n) := by unfold U8; rw [IntKind.wrap_u8', BitVec.toNat_ofNat]; omega
theorem wrap_nat64 (n : Nat) : IntKind.u64.wrap (n : Int) = U64 (BitVec.ofNat 64 n) := by unfold U64; rw [IntKind.wrap_u64, BitVec.toNat_ofNat]; omega

-- 32 bits
@[go_sem high] theorem add32 (x y : BitVec 32) : Op.intArith .add .u32 (U32 x) (U32 y) = pure (.int .u32 (U32 (x + y))) := by
  unfold Op.intArith; simp only []
  have : U32 x + U32 y = ((x.toNat + y.toNat : Nat) : Int) := by unfold U32; omega
  rw [this, wrap_nat32, BitVec.ofNat_add]; simp
@[go_sem high] theorem and32 (x y : BitVec 32) : Op.intBits .and .u32 (U32 x) (U32 y) = pure (.int .u32 (U32 (x &&& y))) := by
  unfold Op.intBits; show pure (Value.int .u32 (IntKind.u32.wrap ((BitVec.ofInt 32 (U32 x) &&& BitVec.ofInt 32 (U32 y)).toNat : Nat))) = _
  rw [ofInt_U32, ofInt_U32, wrap_nat32]; simp
@[go_sem high] theorem or32 (x y : BitVec 32) : Op.intBits .or .u32 (U32 x) (U32 y) = pure (.int .u32 (U32 (x ||| y))) := by
  unfold Op.intBits; show pure (Value.int .u32 (IntKind.u32.wrap ((BitVec.ofInt 32 (U32 x) ||| BitVec.ofInt 32 (U32 y)).toNat : Nat))) = _
  rw [ofInt_U32, ofInt_U32, wrap_nat32]; simp
@[go_sem high] theorem xor32 (x y : BitVec 32) : Op.intBits .xor .u32 (U32 x) (U32 y) = pure (.int .u32 (U32 (x ^^^ y))) := by
  unfold Op.intBits; show pure (Value.int .u32 (IntKind.u32.wrap ((BitVec.ofInt 32 (U32 x) ^^^ BitVec.ofInt 32 (U32 y)).toNat : Nat))) = _
  rw [ofInt_U32, ofInt_U32, wrap_nat32]; simp
@[go_sem high] theorem not32 (x : BitVec 32) : Op.intBits .xor .u32 4294967295 (U32 x) = pure (.int .u32 (U32 (~~~x))) := by
  unfold Op.intBits; show pure (Value.int .u32 (IntKind.u32.wrap ((BitVec.ofInt 32 4294967295 ^^^ BitVec.ofInt 32 (U32 x)).toNat : Nat))) = _
  rw [ofInt_U32, wrap_nat32]; congr 3; rw [BitVec.ofNat_toNat, BitVec.setWidth_eq, show BitVec.ofInt 32 4294967295 = BitVec.allOnes 32 from by decide, BitVec.allOnes_xor]
@[go_sem high] theorem not32' (x : BitVec 32) : Op.unary .xor (.int .u32 (U32 x)) = pure (.int .u32 (U32 (~~~x))) := not32 x
@[go_sem high] theorem shl32 (x : BitVec 32) (yk : IntKind) (n : Nat) (h : n ≤ 32) : Op.shift .shl .u32 (U32 x) yk (no_index (OfNat.ofNat n)) = pure (.int .u32 (U32 (x <<< n))) := by
  show Op.shift .shl .u32 (U32 x) yk (n : Int) = _
  rw [shift_shl _ _ _ _ (by omega) (by simp [IntKind.bits]; omega)]
  have : U32 x * 2 ^ (n : Int).toNat = ((x.toNat * 2 ^ n : Nat) : Int) := by unfold U32; simp
  rw [this, wrap_nat32]; congr 3; apply BitVec.eq_of_toNat_eq; simp [Nat.shiftLeft_eq]
@[go_sem high] theorem shr32 (x : BitVec 32) (yk : IntKind) (n : Nat) (h : n ≤ 32) : Op.shift .shr .u32 (U32 x) yk (no_index (OfNat.ofNat n)) = pure (.int .u32 (U32 (x >>> n))) := by
  show Op.shift .shr .u32 (U32 x) yk (n : Int) = _
  rw [shift_shr _ _ _ _ (by omega) (by simp [IntKind.bits]; omega)]
  congr 2; unfold U32; simp [Nat.shiftRight_eq_div_pow]
@[go_sem high] theorem conv8_32 (x : BitVec 8) : Conv.intToInt .u32 (U8 x) = pure (.int .u32 (U32 (x.setWidth 32))) := by
  unfold Conv.intToInt U8; rw [wrap_nat32, BitVec.ofNat_toNat]
@[go_sem high] theorem conv8_64 (x : BitVec 8) : Conv.intToInt .u64 (U8 x) = pure (.int .u64 (U64 (x.setWidth 64))) := by
  unfold Conv.intToInt U8; rw [wrap_nat64, BitVec.ofNat_toNat]
@[go_sem high] theorem conv32_64 (x : BitVec 32) : Conv.intToInt .u64 (U32 x) = pure (.int .u64 (U64 (x.setWidth 64))) := by
  unfold Conv.intToInt U32; rw [wrap_nat64, BitVec.ofNat_toNat]
@[go_sem high] theorem conv64_32 (x : BitVec 64) : Conv.intToInt .u32 (U64 x) = pure (.int .u32 (U32 (x.setWidth 32))) := by
  unfold Conv.intToInt U64; rw [wrap_nat32, BitVec.ofNat_toNat]
@[go_sem high] theorem conv64_8 (x : BitVec 64) : Conv.intToInt .u8 (U64 x) = pure (.int .u8 (U8 (x.setWidth 8))) := by
  unfold Conv.intToInt U64; rw [wrap_nat8, BitVec.ofNat_toNat]
@[go_sem high] theorem conv32_8 (x : BitVec 32) : Conv.intToInt .u8 (U32 x) = pure (.int .u8 (U8 (x.setWidth 8))) := by
  unfold Conv.intToInt U32; rw [wrap_nat8, BitVec.ofNat_toNat]
@[go_sem high] theorem convN_64 (n : Nat) : Conv.intToInt .u64 (n : Int) = pure (.int .u64 (U64 (BitVec.ofNat 64 n))) := by
  unfold Conv.intToInt; rw [wrap_nat64]
@[go_sem high] theorem w8_32 (x : BitVec 8) : IntKind.u32.wrap (U8 x) = U32 (x.setWidth 32) := by unfold U8; rw [wrap_nat32, BitVec.ofNat_toNat]
@[go_sem high] theorem w8_64 (x : BitVec 8) : IntKind.u64.wrap (U8 x) = U64 (x.setWidth 64) := by unfold U8; rw [wrap_nat64, BitVec.ofNat_toNat]
@[go_sem high] theorem w32_64 (x : BitVec 32) : IntKind.u64.wrap (U32 x) = U64 (x.setWidth 64) := by unfold U32; rw [wrap_nat64, BitVec.ofNat_toNat]
@[go_sem high] theorem w64_32 (x : BitVec 64) : IntKind.u32.wrap (U64 x) = U32 (x.setWidth 32) := by unfold U64; rw [wrap_nat32, BitVec.ofNat_toNat]
@[go_sem high] theorem w64_8 (x : BitVec 64) : IntKind.u8.wrap (U64 x) = U8 (x.setWidth 8) := by unfold U64; rw [wrap_nat8, BitVec.ofNat_toNat]
@[go_sem high] theorem w32_8 (x : BitVec 32) : IntKind.u8.wrap (U32 x) = U8 (x.setWidth 8) := by unfold U32; rw [wrap_nat8, BitVec.ofNat_toNat]
@[go_sem high] theorem wN_64 (n : Nat) : IntKind.u64.wrap (n : Int) = U64 (BitVec.ofNat 64 n) := wrap_nat64 n
@[go_sem high] theorem w8_i (x : BitVec 8) : IntKind.i64.wrap (U8 x) = U8 x := IntWalk.i64_in _ (by have := U8_bd x; omega)
@[go_sem high] theorem w32_i (x : BitVec 32) : IntKind.i64.wrap (U32 x) = U32 x := IntWalk.i64_in _ (by have := U32_bd x; omega)
-- 8 bits
@[go_sem high] theorem and8 (x y : BitVec 8) : Op.intBits .and .u8 (U8 x) (U8 y) = pure (.int .u8 (U8 (x &&& y))) := by
  unfold Op.intBits; show pure (Value.int .u8 (IntKind.u8.wrap ((BitVec.ofInt 8 (U8 x) &&& BitVec.ofInt 8 (U8 y)).toNat : Nat))) = _
  rw [ofInt_U8, ofInt_U8, wrap_nat8]; simp
@[go_sem high] theorem or8 (x y : BitVec 8) : Op.intBits .or .u8 (U8 x) (U8 y) = pure (.int .u8 (U8 (x ||| y))) := by
  unfold Op.intBits; show pure (Value.int .u8 (IntKind.u8.wrap ((BitVec.ofInt 8 (U8 x) ||| BitVec.ofInt 8 (U8 y)).toNat : Nat))) = _
  rw [ofInt_U8, ofInt_U8, wrap_nat8]; simp
@[go_sem high] theorem xor8 (x y : BitVec 8) : Op.intBits .xor .u8 (U8 x) (U8 y) = pure (.int .u8 (U8 (x ^^^ y))) := by
  unfold Op.intBits; show pure (Value.int .u8 (IntKind.u8.wrap ((BitVec.ofInt 8 (U8 x) ^^^ BitVec.ofInt 8 (U8 y)).toNat : Nat))) = _
  rw [ofInt_U8, ofInt_U8, wrap_nat8]; simp
@[go_sem high] theorem add64 (x y : BitVec 64) : Op.intArith .add .u64 (U64 x) (U64 y) = pure (.int .u64 (U64 (x + y))) := by
  unfold Op.intArith; simp only []
  have : U64 x + U64 y = ((x.toNat + y.toNat : Nat) : Int) := by unfold U64; omega
  rw [this, wrap_nat64, BitVec.ofNat_add]; simp
@[go_sem high] theorem mul64 (x y : BitVec 64) : Op.intArith .mul .u64 (U64 x) (U64 y) = pure (.int .u64 (U64 (x * y))) := by
  unfold Op.intArith; simp only []
  have : U64 x * U64 y = ((x.toNat * y.toNat : Nat) : Int) := by unfold U64; simp
  rw [this, wrap_nat64, BitVec.ofNat_mul]; simp
@[go_sem high] theorem add64k (n : Nat) (y : BitVec 64) : Op.intArith .add .u64 (no_index (OfNat.ofNat n)) (U64 y) = pure (.int .u64 (U64 (BitVec.ofNat 64 n + y))) := by
  unfold Op.intArith; simp only []
  have : (OfNat.ofNat n : Int) + U64 y = ((n + y.toNat : Nat) : Int) := by unfold U64; show (n : Int) + _ = _; omega
  rw [this, wrap_nat64, BitVec.ofNat_add]; simp
@[go_sem high] theorem mul64k (n : Nat) (y : BitVec 64) : Op.intArith .mul .u64 (no_index (OfNat.ofNat n)) (U64 y) = pure (.int .u64 (U64 (BitVec.ofNat 64 n * y))) := by
  unfold Op.intArith; simp only []
  have : (OfNat.ofNat n : Int) * U64 y = ((n * y.toNat : Nat) : Int) := by unfold U64; show (n : Int) * _ = _; simp
  rw [this, wrap_nat64, BitVec.ofNat_mul]; simp
@[go_sem high] theorem shr64 (x : BitVec 64) (yk : IntKind) (n : Nat) (h : n ≤ 64) : Op.shift .shr .u64 (U64 x) yk (no_index (OfNat.ofNat n)) = pure (.int .u64 (U64 (x >>> n))) := by
  show Op.shift .shr .u64 (U64 x) yk (n : Int) = _
  rw [shift_shr _ _ _ _ (by omega) (by simp [IntKind.bits]; omega)]
  congr 2; unfold U64; simp [Nat.shiftRight_eq_div_pow]
@[go_sem high] theorem wadd32 (x y : BitVec 32) : IntKind.u32.wrap (U32 x + U32 y) = U32 (x + y) := by
  have : U32 x + U32 y = ((x.toNat + y.toNat : Nat) : Int) := by unfold U32; omega
  rw [this, wrap_nat32, BitVec.ofNat_add]; simp
@[go_sem high] theorem wadd64 (x y : BitVec 64) : IntKind.u64.wrap (U64 x + U64 y) = U64 (x + y) := by
  have : U64 x + U64 y = ((x.toNat + y.toNat : Nat) : Int) := by unfold U64; omega
  rw [this, wrap_nat64, BitVec.ofNat_add]; simp
@[go_sem high] theorem wmul64 (x y : BitVec 64) : IntKind.u64.wrap (U64 x * U64 y) = U64 (x * y) := by
  have : U64 x * U64 y = ((x.toNat * y.toNat : Nat) : Int) := by unfold U64; simp
  rw [this, wrap_nat64, BitVec.ofNat_mul]; simp
@[go_sem high] theorem wadd64k (n : Nat) (y : BitVec 64) : IntKind.u64.wrap ((no_index (OfNat.ofNat n)) + U64 y) = U64 (BitVec.ofNat 64 n + y) := by
  have : (OfNat.ofNat n : Int) + U64 y = ((n + y.toNat : Nat) : Int) := by unfold U64; show (n : Int) + _ = _; omega
  rw [this, wrap_nat64, BitVec.ofNat_add]; simp
@[go_sem high] theorem wmul64k (n : Nat) (y : BitVec 64) : IntKind.u64.wrap ((no_index (OfNat.ofNat n)) * U64 y) = U64 (BitVec.ofNat 64 n * y) := by
  have : (OfNat.ofNat n : Int) * U64 y = ((n * y.toNat : Nat) : Int) := by unfold U64; show (n : Int) * _ = _; simp
  rw [this, wrap_nat64, BitVec.ofNat_mul]; simp
theorem U8_lit (n : Nat) (h : n < 256) : U8 (BitVec.ofNat 8 n) = n := by unfold U8; simp; omega
theorem U32_lit (n : Nat) (h : n < 4294967296) : U32 (BitVec.ofNat 32 n) = n := by unfold U32; simp; omega
theorem U64_lit (n : Nat) (h : n < 18446744073709551616) : U64 (BitVec.ofNat 64 n) = n := by unfold U64; simp; omega
end Go.Proofs.YtldlleoabbcpdaaDoor
/- A machine of plain values for Go code: its values, types, rows, and what each operation makes of them. -/
namespace Go.Proofs.YtldlleoabbcpdaaDoor
open Go.RowKit

inductive Ty where
  | no | bo | int (k : IntKind) | str | pt | sl (e : TypeId)
  /-- A map; a function. -/
  | mp (k e : TypeId) | fu
  | agg (u : Bool) (len : Nat) (f : Nat → Ty)

inductive AV where
  | junk | und
  | bo (x : Bool)
  | u8 (x : BitVec 8) | u16 (x : BitVec 16) | u32 (x : BitVec 32) | u64 (x : BitVec 64) | i32 (x : BitVec 32) | i8 (x : BitVec 8) | i16 (x : BitVec 16)
  | nat (k : Nat) | int (z : Int)
  | str (s : List UInt8)
  | nilp
  | ptr (τ : Ty) (k : Nat) (p : List Nat)
  | ipt (τ : Ty) (a : AV)
  | nils
  | imm (fr : Bool) (et : Ty) (len : Nat) (f : Nat → AV)
  | gsl (e : TypeId) (k len : Nat)
  | gpt (τ : Ty) (e : TypeId) (k len : Nat) (i : Nat) (p : List Nat)
  | gsub (e : TypeId) (k all : Nat) (o len : Nat)
  | sub (et : Ty) (k : Nat) (p : List Nat) (o len : Nat)
  | agg (u : Bool) (len : Nat) (f : Nat → AV)
  | tup (len : Nat) (f : Nat → AV)
  | fn (f : FuncId)
  /-- A slice onto a row that nobody has filled yet. -/
  | gcap (e : TypeId) (k len : Nat)
  /-- True or false. -/
  | anyb
  | anym
  /-- A function with what is bound to it: nf values ahead of the arguments, the others behind. -/
  | clo (f : FuncId) (nf n : Nat) (g : Nat → AV)
  /-- A pointer to an array that is a part of an array. -/
  | spt (et : Ty) (k : Nat) (p : List Nat) (o len : Nat)
  | gspt (e : TypeId) (k all : Nat) (o len : Nat)
  | blt (len : Nat) (f : Nat → AV)
  /-- No map; no function. -/
  | nilm | nilf
  /-- A map that has no entries but such as f tells (n of them; j tells which one an operation puts in). -/
  | mpt (kt et : Ty) (n : Nat) (f : Nat → AV) (j : Nat → Nat) (k : Nat)
  /-- One that goes through a text. -/
  | itp (k : Nat)
  /-- A map whose keys are the first numbers. -/
  | cmt (k : Nat)
  /-- A map that nobody writes: of the entries that f tells those that d tells are there, and no others. -/
  | fmp (fr : Bool) (kt et : Ty) (n : Nat) (f : Nat → AV) (d : Nat → Bool)
  /-- One that goes through such a map. -/
  | mit (k : Nat)
  /-- A map whose keys are the first numbers, with what it holds; such a one that nobody writes. -/
  | vmt (k : Nat)
  | fvm (fr : Bool) (et : Ty) (n : Nat) (f : Nat → AV)

instance : Inhabited Ty := ⟨.no⟩
instance : Inhabited AV := ⟨.junk⟩

/-- Of a row: a variable, or a slice that grows. -/
inductive Ob where
  /-- A map: of the entries that f tells those that d tells are there. -/
  | mp (kt et : Ty) (n : Nat) (f : Nat → AV) (d : Nat → Bool)
  /-- One more of them. -/
  | put (i : Nat)
  /-- A text, and how far it has been gone through. -/
  | it (s : List UInt8) (pos : Nat)
  /-- A map: the first numbers are its keys, nobody knows its values. -/
  | cnt (n : Nat)
  /-- On the way through a map: who has come, how many are left at most, who came last. -/
  | mi (kt et : Ty) (n : Nat) (f : Nat → AV) (d s : Nat → Bool) (l : Nat) (cu : Option Nat)
  /-- A map: the first numbers are its keys; f tells its values. -/
  | vm (et : Ty) (n : Nat) (f : Nat → AV)
inductive Row where
  | var (τ : Ty) (a : AV)
  | grow (e : TypeId) (len : Nat) (f : Nat → AV)
  | ob (o : Ob)
def Ob.abs : Ob → Bool
  | .put _ => false
  | _ => true
/-- It may be handed back. -/
def Ob.own : Ob → Bool
  | .put _ => false
  | .mi _ _ _ _ _ _ _ _ => false
  | _ => true
def Row.abs : Row → Bool
  | .ob o => o.abs
  | _ => true
/-- Alike but for what has been put in. -/
def Ob.like : Ob → Ob → Prop
  | .mp kt et n f _, .mp kt' et' n' f' _ => kt = kt' ∧ et = et' ∧ n = n' ∧ f = f'
  | .it _ _, .it _ _ => True
  | .cnt _, .cnt _ => True
  | .vm et _ _, .vm et' _ _ => et = et'
  | .mi _ _ _ _ _ _ _ _, .mi _ _ _ _ _ _ _ _ => True
  | .put _, .put _ => True
  | _, _ => False

/-- The type of an element: of an array it is one. -/
def el (u : Bool) (f : Nat → Ty) (i : Nat) : Ty := match u with
  | true => f 0
  | false => f i
def sumN (f : Nat → Nat) : Nat → Nat
  | 0 => 0
  | i + 1 => sumN f i + f i
def Ty.size : Ty → Nat
  | .agg true len f => len * (f 0).size
  | .agg false len f => sumN (fun i => (f i).size) len
  | _ => 1
def Ty.at : Ty → List Nat → Ty
  | τ, [] => τ
  | .agg true _ f, _ :: p => (f 0).at p
  | .agg false _ f, i :: p => (f i).at p
  | _, _ => .no
def Ty.off : Ty → List Nat → Nat
  | .agg true _ f, i :: p => i * (f 0).size + (f 0).off p
  | .agg false _ f, i :: p => sumN (fun j => (f j).size) i + (f i).off p
  | _, _ => 0
def Ty.inP : Ty → List Nat → Prop
  | _, [] => True
  | .agg true len f, i :: p => i < len ∧ (f 0).inP p
  | .agg false len f, i :: p => i < len ∧ (f i).inP p
  | _, _ => False
def Ty.len : Ty → Nat
  | .agg _ len _ => len
  | _ => 0
def Ty.elem : Ty → Ty
  | .agg _ _ f => f 0
  | _ => .no
/-- The zero value. -/
def Ty.zero : Ty → AV
  | .bo => .bo false
  | .int .u8 => .u8 0
  | .int .u16 => .u16 0
  | .int .u32 => .u32 0
  | .int .u64 => .u64 0
  | .int .i32 => .i32 0
  | .int .i8 => .i8 0
  | .int .i16 => .i16 0
  | .int .i64 => .nat 0
  | .str => .str []
  | .pt => .nilp
  | .sl _ => .nils
  | .mp _ _ => .nilm
  | .fu => .nilf
  | .agg true len f => .agg true len (fun _ => (f 0).zero)
  | .agg false len f => .agg false len (fun i => (f i).zero)
  | _ => .junk

def asU8 : AV → BitVec 8 | .u8 x => x | _ => 0
def asU16 : AV → BitVec 16 | .u16 x => x | _ => 0
def asU32 : AV → BitVec 32 | .u32 x => x | _ => 0
def asU64 : AV → BitVec 64 | .u64 x => x | _ => 0
def asB : AV → Bool | .bo x => x | _ => false
def AV.noAgg : AV → Bool
  | .agg _ _ _ => false
  | _ => true
def nthA : List AV → Nat → AV
  | [], _ => .junk
  | a :: l, i => match i with
    | 0 => a
    | i + 1 => nthA l i
def upto (g : Nat → AV) : Nat → Nat → List AV
  | _, 0 => []
  | i, n + 1 => g i :: upto g (i + 1) n
def AV.at : AV → List Nat → AV
  | a, [] => a
  | .agg _ _ f, i :: p => (f i).at p
  | _, _ => .junk
/-- One element is another one: of words so that it stays a word whatever the index. -/
def updA (f : Nat → AV) (i : Nat) : AV → Nat → AV
  | .u8 x => fun j => .u8 (if j = i then x else asU8 (f j))
  | .u16 x => fun j => .u16 (if j = i then x else asU16 (f j))
  | .u32 x => fun j => .u32 (if j = i then x else asU32 (f j))
  | .u64 x => fun j => .u64 (if j = i then x else asU64 (f j))
  | .bo x => fun j => .bo (if j = i then x else asB (f j))
  | v => fun j => if j = i then v else f j
def updU (u : Bool) (f : Nat → AV) (i : Nat) (v : AV) : Nat → AV :=
  match u with
  | true => updA f i v
  | false => fun j => bif Nat.beq j i then v else f j
def AV.upd : AV → List Nat → AV → AV
  | _, [], v => v
  | .agg u len f, i :: p, v => .agg u len (updU u f i ((f i).upd p v))
  | a, _, _ => a
/-- f up to o, g for cnt, then f again. -/
def spliceA (τ : Ty) (f : Nat → AV) (o cnt : Nat) (g : Nat → AV) : Nat → AV :=
  match τ with
  | .int .u8 => fun j => .u8 (if o ≤ j ∧ j < o + cnt then asU8 (g (j - o)) else asU8 (f j))
  | .int .u16 => fun j => .u16 (if o ≤ j ∧ j < o + cnt then asU16 (g (j - o)) else asU16 (f j))
  | .int .u32 => fun j => .u32 (if o ≤ j ∧ j < o + cnt then asU32 (g (j - o)) else asU32 (f j))
  | .int .u64 => fun j => .u64 (if o ≤ j ∧ j < o + cnt then asU64 (g (j - o)) else asU64 (f j))
  | _ => fun j => if o ≤ j ∧ j < o + cnt then g (j - o) else f j
def joinA (τ : Ty) (f : Nat → AV) (l : Nat) (g : Nat → AV) : Nat → AV :=
  match τ with
  | .int .u8 => fun j => .u8 (if j < l then asU8 (f j) else asU8 (g (j - l)))
  | .int .u16 => fun j => .u16 (if j < l then asU16 (f j) else asU16 (g (j - l)))
  | .int .u32 => fun j => .u32 (if j < l then asU32 (f j) else asU32 (g (j - l)))
  | .int .u64 => fun j => .u64 (if j < l then asU64 (f j) else asU64 (g (j - l)))
  | _ => fun j => if j < l then f j else g (j - l)
def look (l : List (Nat × AV)) (z : AV) (i : Nat) : AV :=
  match l with
  | [] => z
  | (k, v) :: l => bif Nat.beq i k then v else look l z i
def litA (τ : Ty) (l : List (Nat × AV)) : Nat → AV :=
  match τ with
  | .int .u8 => fun j => .u8 (asU8 (look l (.u8 0) j))
  | .int .u16 => fun j => .u16 (asU16 (look l (.u16 0) j))
  | .int .u32 => fun j => .u32 (asU32 (look l (.u32 0) j))
  | .int .u64 => fun j => .u64 (asU64 (look l (.u64 0) j))
  | τ => look l τ.zero

/-- The state: slots, rows, the next key. -/
structure St where
  t : Nat → AV
  m : Nat → Option Row
  c : Nat
def put (t : Nat → AV) (d : Nat) (v : AV) : Nat → AV := fun i => bif Nat.beq i d then v else t i
def putO (nt : Nat) (t : Nat → AV) : Option Nat → AV → Nat → AV
  | none, _ => t
  | some d, v => bif Nat.blt d nt then put t d v else t
def addD (d : Nat → Bool) (j : Nat) : Nat → Bool := fun i => Nat.beq i j || d i
def put1 (r : Option Row) (v : Row) : Option Row :=
  match v with
  | .ob (.put j) => match r with
    | some (.ob (.mp kt et n f d)) => some (.ob (.mp kt et n f (addD d j)))
    | r => r
  | v => some v
def putM (m : Nat → Option Row) (k : Nat) (v : Row) : Nat → Option Row := fun i => bif Nat.beq i k then put1 (m i) v else m i
def putW (m : Nat → Option Row) : List (Nat × Row) → Nat → Option Row
  | [] => m
  | (k, r) :: l => putW (putM m k r) l
/-- What an operation makes: a value, rows that are written, keys of rows that were looked at. -/
structure Res where
  v : AV
  wr : List (Nat × Row)
  rd : List Nat

def avOf : Value → AV
  | .bool x => .bo x
  | .int .i64 z => bif decide (0 ≤ z) then .nat z.toNat else .int z
  | .int .u8 z => bif decide (0 ≤ z) && decide (z < 256) then .u8 (BitVec.ofInt 8 z) else .junk
  | .int .u16 z => bif decide (0 ≤ z) && decide (z < 65536) then .u16 (BitVec.ofInt 16 z) else .junk
  | .int .u32 z => bif decide (0 ≤ z) && decide (z < 4294967296) then .u32 (BitVec.ofInt 32 z) else .junk
  | .int .u64 z => bif decide (0 ≤ z) && decide (z < 18446744073709551616) then .u64 (BitVec.ofInt 64 z) else .junk
  | .int .i32 z => bif decide (-2147483648 ≤ z) && decide (z < 2147483648) then .i32 (BitVec.ofInt 32 z) else .junk
  | .int .i8 z => bif decide (-128 ≤ z) && decide (z < 128) then .i8 (BitVec.ofInt 8 z) else .junk
  | .int .i16 z => bif decide (-32768 ≤ z) && decide (z < 32768) then .i16 (BitVec.ofInt 16 z) else .junk
  | .string s => .str s.data.toList
  | .pointer none => .nilp
  | .slice none 0 0 => .nils
  | .map none => .nilm
  | .nilFunc => .nilf
  | _ => .junk

/-- What the program has: its types, its tables, what its functions are known to do. -/
structure Pg where
  ty : TypeId → Ty
  gl : Nat → AV
  ctr : FuncId → List AV → (Nat → Option Row) → Nat → (Res → Prop) → Prop
  /-- Functions without a text, whose results nobody knows ahead. -/
  ext : FuncId → Option (List AV → Nat → (Res → Prop) → Prop) := fun _ => none
  /-- Literals of constant bytes are rows. -/
  lit : Bool := false

def ev (E : Pg) (t : Nat → AV) : Operand → AV
  | .tmp i => t i
  | .const v => avOf v
  | .global g => E.gl g
  | .func f => .fn f

def I64 (z : Int) : Prop := -9223372036854775808 ≤ z ∧ z ≤ 9223372036854775807
def N63 (k : Nat) : Prop := k ≤ 9223372036854775807

/-- Two values that are one. -/
def AEq : AV → AV → Prop
  | .bo x, .bo y => x = y
  | .u8 x, .u8 y => x = y
  | .u16 x, .u16 y => x = y
  | .u32 x, .u32 y => x = y
  | .u64 x, .u64 y => x = y
  | .i32 x, .i32 y => x = y
  | .i8 x, .i8 y => x = y
  | .i16 x, .i16 y => x = y
  | .nat x, .nat y => x = y
  | .nat x, .int y => (x : Int) = y
  | .int x, .nat y => x = (y : Int)
  | .int x, .int y => x = y
  | .str x, .str y => x = y
  | .agg _ l f, .agg _ _ g => ∀ i, i < l → AEq (f i) (g i)
  | _, _ => False
open Classical in
noncomputable def eqB (x y : AV) : Bool := decide (AEq x y)

def cmpI (op : BinOp) (x y : Int) (K : AV → Prop) : Prop :=
  match op with
  | .eql => K (.bo (decide (x = y)))
  | .neq => K (.bo (decide (x ≠ y)))
  | .lss => K (.bo (decide (x < y)))
  | .leq => K (.bo (decide (x ≤ y)))
  | .gtr => K (.bo (decide (y < x)))
  | .geq => K (.bo (decide (y ≤ x)))
  | .add => I64 (x + y) ∧ K (.int (x + y))
  | .sub => I64 (x - y) ∧ K (.int (x - y))
  | .mul => I64 (x * y) ∧ K (.int (x * y))
  | .quo => 0 ≤ x ∧ 0 < y ∧ I64 x ∧ K (.int (x / y))
  | .rem => 0 ≤ x ∧ 0 < y ∧ K (.int (x % y))
  | .and => 0 ≤ x ∧ 0 ≤ y ∧ N63 x.toNat ∧ N63 y.toNat ∧ K (.nat (x.toNat &&& y.toNat))
  | _ => False
def cmpN (op : BinOp) (x y : Nat) (K : AV → Prop) : Prop :=
  match op with
  | .eql => K (.bo (decide (x = y)))
  | .neq => K (.bo (decide (x ≠ y)))
  | .lss => K (.bo (decide (x < y)))
  | .leq => K (.bo (decide (x ≤ y)))
  | .gtr => K (.bo (decide (y < x)))
  | .geq => K (.bo (decide (y ≤ x)))
  | .add => N63 (x + y) ∧ K (.nat (x + y))
  | .mul => N63 (x * y) ∧ K (.nat (x * y))
  | .quo => 0 < y ∧ N63 x ∧ K (.nat (x / y))
  | .rem => 0 < y ∧ K (.nat (x % y))
  | .and => N63 x ∧ N63 y ∧ K (.nat (x &&& y))
  | .or => N63 x ∧ N63 y ∧ K (.nat (x ||| y))
  | .xor => N63 x ∧ N63 y ∧ K (.nat (x ^^^ y))
  | op => cmpI op x y K
def cmpB {w : Nat} (op : BinOp) (x y : BitVec w) (R : BitVec w → AV) (K : AV → Prop) : Prop :=
  match op with
  | .eql => K (.bo (decide (x = y)))
  | .neq => K (.bo (decide (x ≠ y)))
  | .lss => K (.bo (decide (x < y)))
  | .leq => K (.bo (decide (x ≤ y)))
  | .gtr => K (.bo (decide (y < x)))
  | .geq => K (.bo (decide (y ≤ x)))
  | .add => K (R (x + y))
  | .sub => K (R (x - y))
  | .mul => K (R (x * y))
  | .quo => y ≠ 0 ∧ K (R (x / y))
  | .rem => y ≠ 0 ∧ K (R (x % y))
  | .and => K (R (x &&& y))
  | .or => K (R (x ||| y))
  | .xor => K (R (x ^^^ y))
  | .andNot => K (R (x &&& ~~~y))
  | _ => False
/-- A count of bits. -/
def cnt : AV → (Nat → Prop) → Prop
  | .nat k, K => K k
  | .int z, K => 0 ≤ z ∧ K z.toNat
  | .u8 x, K => K x.toNat
  | .u16 x, K => K x.toNat
  | .u32 x, K => K x.toNat
  | .u64 x, K => K x.toNat
  | _, _ => False
def shf {w : Nat} (op : BinOp) (x : BitVec w) (k : Nat) (R : BitVec w → AV) (K : AV → Prop) : Prop :=
  match op with
  | .shl => K (R (x <<< k))
  | .shr => K (R (x >>> k))
  | _ => False
def shfN (op : BinOp) (x : Nat) (k : Nat) (K : AV → Prop) : Prop :=
  match op with
  | .shl => k < 63 ∧ N63 (x * 2 ^ k) ∧ K (.nat (x * 2 ^ k))
  | .shr => k < 64 ∧ K (.nat (x / 2 ^ k))
  | _ => False
/-- Which of two numbers is less. -/
def cmpC (op : BinOp) (x y : Int) (K : AV → Prop) : Prop :=
  match op with
  | .lss => K (.bo (decide (x < y)))
  | .leq => K (.bo (decide (x ≤ y)))
  | .gtr => K (.bo (decide (y < x)))
  | .geq => K (.bo (decide (y ≤ x)))
  | _ => False
/-- Of numbers with signs: a quotient is cut off towards nought. -/
def cmpJ (op : BinOp) (x y : Int) (K : AV → Prop) : Prop :=
  match op with
  | .quo => ¬ y = 0 ∧ I64 (x.tdiv y) ∧ K (.int (x.tdiv y))
  | .rem => ¬ y = 0 ∧ K (.int (x.tmod y))
  | op => cmpI op x y K
def bin0 (op : BinOp) (x y : AV) (K : AV → Prop) : Prop :=
  match x, y with
  | .u8 x, .u8 y => cmpB op x y .u8 K
  | .u16 x, .u16 y => cmpB op x y .u16 K
  | .u32 x, .u32 y => cmpB op x y .u32 K
  | .u64 x, .u64 y => cmpB op x y .u64 K
  | .nat x, .nat y => cmpN op x y K
  | .nat x, .int y => cmpI op x y K
  | .int x, .nat y => cmpI op x y K
  | .int x, .int y => cmpJ op x y K
  | .i32 x, .i32 y => cmpC op x.toInt y.toInt K
  | .i16 x, .i16 y => op = .rem ∧ ¬ y.toInt = 0 ∧ K (.i16 (BitVec.ofInt 16 (x.toInt.tmod y.toInt)))
  | _, _ => False
def shf0 (op : BinOp) (x : AV) (K : AV → Prop) (k : Nat) : Prop :=
  match x with
  | .u8 x => shf op x k .u8 K
  | .u16 x => shf op x k .u16 K
  | .u32 x => shf op x k .u32 K
  | .u64 x => shf op x k .u64 K
  | .nat x => shfN op x k K
  | .i32 x => op = .shr ∧ k < 32 ∧ K (.i32 (x.sshiftRight k))
  | .int x => op = .shr ∧ k < 64 ∧ K (.int (x / 2 ^ k))
  | _ => False
def bin (op : BinOp) (x y : AV) (K : AV → Prop) : Prop :=
  match op with
  | .shl => cnt y (shf0 .shl x K)
  | .shr => cnt y (shf0 .shr x K)
  | op => bin0 op x y K
def una (op : UnOp) (x : AV) (K : AV → Prop) : Prop :=
  match op, x with
  | .not, .bo x => K (.bo (!x))
  | .xor, .u8 x => K (.u8 (~~~x))
  | .xor, .u16 x => K (.u16 (~~~x))
  | .xor, .u32 x => K (.u32 (~~~x))
  | .xor, .u64 x => K (.u64 (~~~x))
  | .neg, .nat x => N63 x ∧ K (.int (-x))
  | .neg, .int x => I64 (-x) ∧ K (.int (-x))
  | _, _ => False
def toW {v : Nat} (d : Ty) (x : BitVec v) (K : AV → Prop) : Prop :=
  match d with
  | .int .u8 => K (.u8 (x.setWidth 8))
  | .int .u16 => K (.u16 (x.setWidth 16))
  | .int .u32 => K (.u32 (x.setWidth 32))
  | .int .u64 => K (.u64 (x.setWidth 64))
  | .int .i32 => K (.i32 (x.setWidth 32))
  | .int .i8 => K (.i8 (x.setWidth 8))
  | .int .i16 => K (.i16 (x.setWidth 16))
  | .int .i64 => N63 x.toNat ∧ K (.nat x.toNat)
  | _ => False
def conv (d : Ty) (x : AV) (K : AV → Prop) : Prop :=
  match x with
  | .u8 x => toW d x K
  | .u16 x => toW d x K
  | .u32 x => toW d x K
  | .u64 x => toW d x K
  | .nat x => match d with
    | .int .u8 => K (.u8 (BitVec.ofNat 8 x))
    | .int .u16 => K (.u16 (BitVec.ofNat 16 x))
    | .int .u32 => K (.u32 (BitVec.ofNat 32 x))
    | .int .u64 => K (.u64 (BitVec.ofNat 64 x))
    | .int .i64 => N63 x ∧ K (.nat x)
    | _ => False
  | .int x => match d with
    | .int .u8 => K (.u8 (BitVec.ofInt 8 x))
    | .int .u16 => K (.u16 (BitVec.ofInt 16 x))
    | .int .u32 => K (.u32 (BitVec.ofInt 32 x))
    | .int .u64 => K (.u64 (BitVec.ofInt 64 x))
    | .int .i64 => I64 x ∧ K (.int x)
    | _ => False
  | .i8 x => match d with
    | .int .i64 => K (.int x.toInt)
    | .int .u8 => K (.u8 x)
    | .int .u32 => K (.u32 (x.signExtend 32))
    | _ => False
  | .i16 x => match d with
    | .int .i64 => K (.int x.toInt)
    | .int .u16 => K (.u16 x)
    | .int .u32 => K (.u32 (x.signExtend 32))
    | _ => False
  | .i32 x => match d with
    | .int .i64 => K (.int x.toInt)
    | .int .u32 => K (.u32 x)
    | .int .u64 => K (.u64 (x.signExtend 64))
    | _ => False
  | _ => False
/-- An index. -/
def idx : AV → (Nat → Prop) → Prop
  | .nat k, K => K k
  | .int z, K => 0 ≤ z ∧ K z.toNat
  | .u8 x, K => K x.toNat
  | .u16 x, K => K x.toNat
  | .u32 x, K => K x.toNat
  | .u64 x, K => K x.toNat
  | _, _ => False
def idxO : Option AV → Nat → (Nat → Prop) → Prop
  | none, d, K => K d
  | some a, _, K => idx a K

/-- The elements of a slice. -/
def elems (m : Nat → Option Row) (ty : TypeId → Ty) : AV → (Ty → Nat → (Nat → AV) → List Nat → Prop) → Prop
  | .imm _ et l f, K => K et l f []
  | .gsl e k l, K => match m k with
    | some (.grow _ l' f) => l' = l ∧ K (ty e) l f [k]
    | _ => False
  | .gsub e k l o n, K => match m k with
    | some (.grow _ l' f) => l' = l ∧ K (ty e) n (fun i => f (o + i)) [k]
    | _ => False
  | .sub et k p o n, K => match m k with
    | some (.var _ a) => K et n (fun i => a.at (p ++ [o + i])) [k]
    | _ => False
  | _, _ => False

def lenOf : AV → (Nat → Prop) → Prop
  | .nils, K => K 0
  | .imm _ _ l _, K => K l
  | .gsl _ _ l, K => K l
  | .gsub _ _ _ _ l, K => K l
  | .sub _ _ _ _ l, K => K l
  | _, _ => False
/-- A type that is told. -/
def okT (τ : Ty) (K : Prop) : Prop :=
  match τ with
  | .no => False
  | _ => K
end Go.Proofs.YtldlleoabbcpdaaDoor
/- What each operation makes of plain values, and what must be shown of it; a function's text walked so. -/
namespace Go.Proofs.YtldlleoabbcpdaaDoor
open Go.RowKit

/-- The value is one of the type. -/
def Sh : Ty → AV → Prop
  | .mp _ _, .nilm => True
  | .mp _ _, .anym => True
  | .mp _ _, .mpt _ _ _ _ _ _ => True
  | .mp _ _, .cmt _ => True
  | .mp _ _, .fmp _ _ _ _ _ _ => True
  | .mp _ _, .vmt _ => True
  | .mp _ _, .fvm _ _ _ _ => True
  | .fu, .nilf => True
  | .fu, .fn _ => True
  | .bo, .bo _ => True
  | .int .u8, .u8 _ => True
  | .int .u16, .u16 _ => True
  | .int .u32, .u32 _ => True
  | .int .u64, .u64 _ => True
  | .int .i32, .i32 _ => True
  | .int .i8, .i8 _ => True
  | .int .i16, .i16 _ => True
  | .int .i64, .nat _ => True
  | .int .i64, .int _ => True
  | .str, .str _ => True
  | .pt, .nilp => True
  | .pt, .ptr _ _ _ => True
  | .pt, .ipt _ _ => True
  | .sl _, .nils => True
  | .sl _, .imm _ _ _ _ => True
  | .sl _, .gsl _ _ _ => True
  | .sl _, .gsub _ _ _ _ _ => True
  | .sl _, .sub _ _ _ _ _ => True
  | .agg u l f, .agg u' l' g => u = u' ∧ l = l' ∧ ∀ i, i < l → Sh (el u f i) (g i)
  | _, _ => False
/-- It may be held against another one. -/
def Cmp : AV → Prop
  | .bo _ => True
  | .u8 _ => True
  | .u16 _ => True
  | .u32 _ => True
  | .u64 _ => True
  | .i32 _ => True
  | .i8 _ => True
  | .i16 _ => True
  | .nat _ => True
  | .int _ => True
  | .str _ => True
  | .agg _ l f => ∀ i, i < l → Cmp (f i)
  | _ => False
/-- For all places: of a struct they are told one by one. -/
def allB : Nat → (Nat → Prop) → Prop
  | 0, _ => True
  | n + 1, p => allB n p ∧ p n
def forI (u : Bool) (l : Nat) (p : Nat → Prop) : Prop := match u with
  | true => ∀ i, i < l → p i
  | false => allB l p
theorem allB_at {p : Nat → Prop} : ∀ {l : Nat}, allB l p → ∀ i, i < l → p i
  | n + 1, h, i, hi => by
    by_cases e : i = n
    · subst e; exact h.2
    · exact allB_at h.1 i (by omega)
theorem forI_at {u : Bool} {l : Nat} {p : Nat → Prop} (h : forI u l p) : ∀ i, i < l → p i := by
  cases u with
  | true => exact h
  | false => exact allB_at h
def ShW : Ty → AV → Prop
  | .mp _ _, .nilm => True
  | .mp _ _, .anym => True
  | .mp _ _, .mpt _ _ _ _ _ _ => True
  | .mp _ _, .cmt _ => True
  | .mp _ _, .fmp _ _ _ _ _ _ => True
  | .mp _ _, .vmt _ => True
  | .mp _ _, .fvm _ _ _ _ => True
  | .fu, .nilf => True
  | .fu, .fn _ => True
  | .bo, .bo _ => True
  | .int .u8, .u8 _ => True
  | .int .u16, .u16 _ => True
  | .int .u32, .u32 _ => True
  | .int .u64, .u64 _ => True
  | .int .i32, .i32 _ => True
  | .int .i8, .i8 _ => True
  | .int .i16, .i16 _ => True
  | .int .i64, .nat _ => True
  | .int .i64, .int _ => True
  | .str, .str _ => True
  | .pt, .nilp => True
  | .pt, .ptr _ _ _ => True
  | .pt, .ipt _ _ => True
  | .sl _, .nils => True
  | .sl _, .imm _ _ _ _ => True
  | .sl _, .gsl _ _ _ => True
  | .sl _, .gsub _ _ _ _ _ => True
  | .sl _, .sub _ _ _ _ _ => True
  | .agg u l f, .agg u' l' g => u = u' ∧ l = l' ∧ forI u l fun i => ShW (el u f i) (g i)
  | _, _ => False
def CmpW : AV → Prop
  | .bo _ => True
  | .u8 _ => True
  | .u16 _ => True
  | .u32 _ => True
  | .u64 _ => True
  | .i32 _ => True
  | .i8 _ => True
  | .i16 _ => True
  | .nat _ => True
  | .int _ => True
  | .str _ => True
  | .agg u l f => forI u l fun i => CmpW (f i)
  | _ => False
theorem ShW_of : ∀ {a : AV} {τ : Ty}, ShW τ a → Sh τ a := by
  intro a
  induction a with
  | agg u l g ih =>
    intro τ h
    cases τ with
    | agg u' n f => exact ⟨h.1, h.2.1, fun i hi => ih i (forI_at h.2.2 i hi)⟩
    | int k => cases k <;> exact h.elim
    | _ => exact h.elim
  | _ =>
    intro τ h
    cases τ with
    | int k => cases k <;> first | exact h | exact h.elim
    | _ => first | exact h | exact h.elim
theorem CmpW_of : ∀ {a : AV}, CmpW a → Cmp a := by
  intro a
  induction a with
  | agg u l g ih => intro h i hi; exact ih i (forI_at h i (by simpa using hi))
  | _ => intro h; first | exact h | exact h.elim
def bnd (k : Nat) : Prop := k ≤ 1000000000

def semSlice (ty : TypeId → Ty) (τ : Ty) (a : AV) (lo hi : Option AV) (K : Res → Prop) : Prop :=
  match τ with
  | .sl e => match a with
    | .nils => idxO lo 0 fun l => idxO hi 0 fun h => l ≤ h ∧ h ≤ 0 ∧ K ⟨.nils, [], []⟩
    | .imm g et n f => idxO lo 0 fun l => idxO hi n fun h => et = ty e ∧ l ≤ h ∧ h ≤ n ∧ K ⟨.imm g et (h - l) (fun i => f (l + i)), [], []⟩
    | .gsl e' k n => idxO lo 0 fun l => idxO hi n fun h => e' = e ∧ l ≤ h ∧ h ≤ n ∧ K ⟨.gsub e k n l (h - l), [], []⟩
    | .gsub e' k n o q => idxO lo 0 fun l => idxO hi q fun h => e' = e ∧ l ≤ h ∧ h ≤ q ∧ K ⟨.gsub e k n (o + l) (h - l), [], []⟩
    | .sub et k p o q => idxO lo 0 fun l => idxO hi q fun h => et = ty e ∧ l ≤ h ∧ h ≤ q ∧ K ⟨.sub et k p (o + l) (h - l), [], []⟩
    | .gcap e' k n => idxO lo 0 fun l => idxO hi n fun h => e' = e ∧ l = 0 ∧ h = 0 ∧ 0 < n ∧ K ⟨.gsl e k 0, [], []⟩
    | _ => False
  | .agg true n f => match a with
    | .ptr τ' k p => idxO lo 0 fun l => idxO hi n fun h => τ' = .agg true n f ∧ l ≤ h ∧ h ≤ n ∧ K ⟨.sub (f 0) k p l (h - l), [], []⟩
    | .ipt τ' (.agg _ _ g) => idxO lo 0 fun l => idxO hi n fun h => τ' = .agg true n f ∧ l ≤ h ∧ h ≤ n ∧ K ⟨.imm false (f 0) (h - l) (fun i => g (l + i)), [], []⟩
    | _ => False
  | .str => match a with
    | .str s => idxO lo 0 fun l => idxO hi s.length fun h => l ≤ h ∧ h ≤ s.length ∧ K ⟨.str ((s.take h).drop l), [], []⟩
    | _ => False
  | _ => False

def semCopy (m : Nat → Option Row) (ty : TypeId → Ty) (e : TypeId) (d s : AV) (K : Res → Prop) : Prop :=
  match s with
  | .nils => lenOf d fun _ => K ⟨.nat 0, [], []⟩
  | s => elems m ty s fun et n g rd => et = ty e ∧ match d with
    | .nils => K ⟨.nat 0, [], rd⟩
    | .sub et' k p o l => match m k with
      | some (.var τ a) => et' = ty e ∧ K ⟨.nat (min n l), [(k, .var τ (a.upd p (.agg true (τ.at p).len (spliceA (ty e) (fun i => a.at (p ++ [i])) o (min n l) g))))], k :: rd⟩
      | _ => False
    | .gsl e' k l => match m k with
      | some (.grow _ l' f) => e' = e ∧ l' = l ∧ K ⟨.nat (min n l), [(k, .grow e l (spliceA (ty e) f 0 (min n l) g))], k :: rd⟩
      | _ => False
    | .gsub e' k l o q => match m k with
      | some (.grow _ l' f) => e' = e ∧ l' = l ∧ K ⟨.nat (min n q), [(k, .grow e l (spliceA (ty e) f o (min n q) g))], k :: rd⟩
      | _ => False
    | _ => False

/-- So many noughts behind nothing. -/
def semAppendN (m : Nat → Option Row) (ty : TypeId → Ty) (key : Nat) (e : TypeId) (d s : AV) (K : Res → Prop) : Prop :=
  match d with
  | .nils => match s with
    | .nat n => 0 < n ∧ bnd n ∧ K ⟨.gcap e key n, [(key, .grow e 0 fun _ => .junk)], []⟩
    | _ => False
  | .gsl e' k l => match m k with
    | some (.grow _ l' f) => idx s fun n => e' = e ∧ l' = l ∧ bnd (l + n) ∧ K ⟨.gsl e k (l + n), [(k, .grow e (l + n) (joinA (ty e) f l fun _ => (ty e).zero))], [k]⟩
    | _ => False
  | _ => False
def semAppend (m : Nat → Option Row) (ty : TypeId → Ty) (key : Nat) (e : TypeId) (d s : AV) (K : Res → Prop) : Prop :=
  match s with
  | .nils => lenOf d fun n => bnd n ∧ K ⟨d, [], []⟩
  | s => elems m ty s fun et n g rd => et = ty e ∧ match d with
    | .nils => bnd n ∧ K ⟨.gsl e key n, [(key, .grow e n g)], rd⟩
    | .gsl e' k l => match m k with
      | some (.grow _ l' f) => e' = e ∧ l' = l ∧ bnd (l + n) ∧ K ⟨.gsl e k (l + n), [(k, .grow e (l + n) (joinA (ty e) f l g))], k :: rd⟩
      | _ => False
    | .sub et' k p o l => match m k with
      | some (.var τ a) => et' = ty e ∧ o + l = (τ.at p).len ∧ 0 < l ∧ 0 < n ∧ bnd (l + n) ∧ K ⟨.gsl e key (l + n), [(key, .grow e (l + n) (joinA (ty e) (fun i => a.at (p ++ [o + i])) l g))], k :: rd⟩
      | _ => False
    | .blt l f => ty e = .int .u8 ∧ 0 < l ∧ 0 < n ∧ bnd (l + n) ∧ K ⟨.gsl e key (l + n), [(key, .grow e (l + n) (joinA (ty e) f l g))], rd⟩
    | _ => False

/-- A text's bytes copied into a slice. -/
def strA (b : List UInt8) (i : Nat) : AV := .u8 (BitVec.ofNat 8 (b.getD i 0).toNat)
def semCopyS (m : Nat → Option Row) (ty : TypeId → Ty) (e : TypeId) (d : AV) (b : List UInt8) (K : Res → Prop) : Prop :=
  match d with
  | .gsl e' k l => match m k with
    | some (.grow _ l' f) => e' = e ∧ l' = l ∧ ty e = .int .u8 ∧ K ⟨.nat (min b.length l), [(k, .grow e l (spliceA (ty e) f 0 (min b.length l) (strA b)))], [k]⟩
    | _ => False
  | .gsub e' k l o q => match m k with
    | some (.grow _ l' f) => e' = e ∧ l' = l ∧ ty e = .int .u8 ∧ K ⟨.nat (min b.length q), [(k, .grow e l (spliceA (ty e) f o (min b.length q) (strA b)))], [k]⟩
    | _ => False
  | _ => False
/-- Bytes as a text. -/
def strOf (n : Nat) (g : Nat → AV) : List UInt8 := (List.range n).map fun i => UInt8.ofNat (asU8 (g i)).toNat
def semText (m : Nat → Option Row) (ty : TypeId → Ty) (s : TypeId) (a : AV) (K : Res → Prop) : Prop :=
  match ty s with
  | .sl e => ty e = .int .u8 ∧ (match a with
    | .nils => K ⟨.str [], [], []⟩
    | a => elems m ty a fun et n g rd => et = .int .u8 ∧ K ⟨.str (strOf n g), [], rd⟩)
  | _ => False
/-- A slice with a limit. -/
def semSlice3 (ty : TypeId → Ty) (τ : Ty) (a : AV) (lo : Option AV) (hi mx : AV) (K : Res → Prop) : Prop :=
  match τ with
  | .sl e => match a with
    | .imm g et n f => idxO lo 0 fun l => idx hi fun h => idx mx fun q => et = ty e ∧ l ≤ h ∧ h ≤ q ∧ q ≤ n ∧ K ⟨.imm g et (h - l) (fun i => f (l + i)), [], []⟩
    | .gsl e' k n => idxO lo 0 fun l => idx hi fun h => idx mx fun q => e' = e ∧ l ≤ h ∧ h ≤ q ∧ q ≤ n ∧ K ⟨.gsub e k n l (h - l), [], []⟩
    | _ => False
  | _ => False

/-- The parts of a literal: each of its type, no place twice. -/
def litOk (S : Ty → AV → Prop) (u : Bool) (l : Nat) (f : Nat → Ty) : List (Nat × AV) → Prop
  | [] => True
  | (i, v) :: ps => i < l ∧ S (el u f i) v ∧ ps.all (fun q => !Nat.beq i q.1) = true ∧ litOk S u l f ps
def eqOp (op : BinOp) (b : Bool) (K : Res → Prop) : Prop :=
  match op with
  | .eql => K ⟨.bo b, [], []⟩
  | .neq => K ⟨.bo (!b), [], []⟩
  | _ => False
def semStr (x y : AV) (op : BinOp) (K : AV → Prop) : Prop :=
  match x, y with
  | .str a, .str b => match op with
    | .add => bnd (a.length + b.length) ∧ K (.str (a ++ b))
    | .eql => K (.bo (decide (a = b)))
    | .neq => K (.bo (decide (a ≠ b)))
    | _ => False
  | _, _ => False

/-- Bytes that are all told by the text: a literal that nobody writes. -/
def litB (τ : Ty) (l : Nat) (ps : List (Nat × Operand)) : Bool :=
  match τ with
  | .int .u8 => Nat.blt 0 l && ps.all fun q => match q.2 with
    | .const _ => true
    | _ => false
  | _ => false
def Ty.slE : Ty → TypeId | .sl e => e | _ => 0

/-- Is it none? -/
def nilS : AV → (Bool → Prop) → Prop
  | .nils, K => K true
  | .imm _ _ l _, K => 0 < l ∧ K false
  | .gsl _ _ l, K => 0 < l ∧ K false
  | .gsub _ _ _ _ l, K => 0 < l ∧ K false
  | .sub _ _ _ _ l, K => 0 < l ∧ K false
  | _, _ => False
def nilP : AV → (Bool → Prop) → Prop
  | .nilp, K => K true
  | .ptr _ _ _, K => K false
  | .gpt _ _ _ _ _ _, K => K false
  | .ipt _ _, K => K false
  | _, _ => False
def anyOp (op : BinOp) (K : Res → Prop) : Prop :=
  match op with
  | .eql => K ⟨.anyb, [], []⟩
  | .neq => K ⟨.anyb, [], []⟩
  | _ => False
/-- Of one that may be empty nobody knows. -/
inductive NilE (l : Nat) (p q : Prop) : Prop where
  | some (h : 0 < l) (k : p)
  | none (h : l = 0) (k : q)
def nilE (op : BinOp) (v : AV) (K : Res → Prop) : Prop :=
  match v with
  | .imm _ _ l _ => NilE l (eqOp op false K) (anyOp op K)
  | v => nilS v fun b => eqOp op b K
/-- Of plain data alone. -/
def Flat : AV → Prop
  | .bo _ => True
  | .u8 _ => True
  | .u16 _ => True
  | .u32 _ => True
  | .u64 _ => True
  | .i32 _ => True
  | .i8 _ => True
  | .i16 _ => True
  | .nat _ => True
  | .int _ => True
  | .str _ => True
  | .agg u l f => forI u l fun i => Flat (f i)
  | _ => False
/-- One and the same plain data. -/
def FEq : AV → AV → Prop
  | .bo x, .bo y => x = y
  | .u8 x, .u8 y => x = y
  | .u16 x, .u16 y => x = y
  | .u32 x, .u32 y => x = y
  | .u64 x, .u64 y => x = y
  | .i32 x, .i32 y => x = y
  | .i8 x, .i8 y => x = y
  | .i16 x, .i16 y => x = y
  | .nat x, .nat y => x = y
  | .nat x, .int y => (x : Int) = y
  | .int x, .nat y => x = (y : Int)
  | .int x, .int y => x = y
  | .str x, .str y => x = y
  | .agg u l f, .agg u' l' g => u = u' ∧ l = l' ∧ forI u l fun i => FEq (f i) (g i)
  | _, _ => False
/-- An entry's key, and its value. -/
def ekey (f : Nat → AV) (i : Nat) : AV := (f i).at [0]
def eval' (f : Nat → AV) (i : Nat) : AV := (f i).at [1]
def scalT : Ty → Bool
  | .bo => true
  | .int _ => true
  | .str => true
  | _ => false
/-- A key's type: plain, or a struct of plain ones. -/
def keyT : Ty → Bool
  | .agg false n f => Nat.all n fun i _ => scalT (f i)
  | τ => scalT τ
/-- The entries that a map may have: plain data, of unlike keys. -/
def EntsOK (S : Ty → AV → Prop) (C : AV → Prop) (kt et : Ty) (n : Nat) (f : Nat → AV) : Prop :=
  allB n fun i => S kt (ekey f i) ∧ C (ekey f i) ∧ Flat (ekey f i) ∧ S et (eval' f i) ∧ Flat (eval' f i)
/-- What is found: an entry that is there, or none, where there can't be one. -/
inductive Found (key : AV) (n : Nat) (f : Nat → AV) (d : Nat → Bool) (z : AV) (K : AV → Bool → Prop) : Prop where
  | hit (j : Nat) (h : j < n) (he : AEq key (ekey f j)) (hd : d j = true) (k : K (eval' f j) true)
  | miss (h : ∀ i, i < n → ¬ AEq key (ekey f i)) (k : K z false)
/-- A value at a number, or none. -/
inductive FoundN (v : BitVec 32) (n : Nat) (f : Nat → AV) (z : AV) (K : AV → Bool → Prop) : Prop where
  | hit (i : Nat) (h : i < n) (he : v.toNat = i) (k : K (f i) true)
  | miss (h : n ≤ v.toNat) (k : K z false)
/-- Data that names no row. -/
def Imd : AV → Prop
  | .bo _ => True
  | .u8 _ => True
  | .u16 _ => True
  | .u32 _ => True
  | .u64 _ => True
  | .i32 _ => True
  | .i8 _ => True
  | .i16 _ => True
  | .nat _ => True
  | .int _ => True
  | .str _ => True
  | .nils => True
  | .imm _ _ l f => ∀ i, i < l → Imd (f i)
  | .agg u l f => forI u l fun i => Imd (f i)
  | _ => False
/-- A text's next letter, if it is a plain one; or its end. -/
inductive NextE (s : List UInt8) (pos : Nat) (p q : Prop) : Prop where
  | more (h : pos < s.length) (h7 : (s.getD pos 0).toNat < 128) (k : p)
  | over (h : s.length ≤ pos) (k : q)
def semG (S : Ty → AV → Prop) (C : AV → Prop) (E : Pg) (m : Nat → Option Row) (key : Nat) (x : Operand → AV) : Op → (Res → Prop) → Prop
  | .move y, K => K ⟨x y, [], []⟩
  | .assign y, K => K ⟨x y, [], []⟩
  | .pick c a b, K => match x c with
    | .bo v => (v = true → K ⟨x a, [], []⟩) ∧ (v = false → K ⟨x b, [], []⟩)
    | _ => False
  | .alloc t, K => okT (E.ty t) (K ⟨.ptr (E.ty t) key [], [(key, .var (E.ty t) (E.ty t).zero)], []⟩)
  | .box t y, K => okT (E.ty t) (S (E.ty t) (x y) ∧ K ⟨.ptr (E.ty t) key [], [(key, .var (E.ty t) (x y))], []⟩)
  | .build t ps, K => match E.ty t with
    | .agg true l f => litOk S true l f (ps.toList.map fun (i, y) => (i, x y)) ∧ K ⟨.agg true l (litA (f 0) (ps.toList.map fun (i, y) => (i, x y))), [], []⟩
    | .agg false l f => litOk S false l f (ps.toList.map fun (i, y) => (i, x y)) ∧ K ⟨.agg false l (fun i => look (ps.toList.map fun (i, y) => (i, x y)) (f i).zero i), [], []⟩
    | _ => False
  | .buildSlice t l ps, K => match E.ty t with
    | .sl e => l * (E.ty e).size ≤ 16777216 ∧ litOk S true l (fun _ => E.ty e) (ps.toList.map fun (i, y) => (i, x y)) ∧ match litB (E.ty e) l ps.toList with
      | true => if E.lit = true then E.ty e = .int .u8 ∧ K ⟨.blt l (litA (E.ty e) (ps.toList.map fun (i, y) => (i, x y))), [], []⟩ else K ⟨.imm true (E.ty e) l (litA (E.ty e) (ps.toList.map fun (i, y) => (i, x y))), [], []⟩
      | false => K ⟨.gsl e key l, [(key, .grow e l (litA (E.ty e) (ps.toList.map fun (i, y) => (i, x y))))], []⟩
    | _ => False
  | .load t y, K => okT (E.ty t) (match x y with
    | .ptr τ' k p => match m k with
      | some (.var _ a) => τ' = E.ty t ∧ K ⟨a.at p, [], [k]⟩
      | _ => False
    | .gpt τ' _ k l i p => match m k with
      | some (.grow _ l' f) => l' = l ∧ τ' = E.ty t ∧ K ⟨(f i).at p, [], [k]⟩
      | _ => False
    | .ipt τ a => τ = E.ty t ∧ K ⟨a, [], []⟩
    | .spt et k p ofs n => match m k with
      | some (.var _ a) => match E.ty t with
        | .agg true n' g => n' = n ∧ g 0 = et ∧ K ⟨.agg true n (fun i => a.at (p ++ [ofs + i])), [], [k]⟩
        | _ => False
      | _ => False
    | .gspt e k l ofs n => match m k with
      | some (.grow _ l' f) => match E.ty t with
        | .agg true n' g => l' = l ∧ n' = n ∧ g 0 = E.ty e ∧ K ⟨.agg true n (fun i => f (ofs + i)), [], [k]⟩
        | _ => False
      | _ => False
    | _ => False)
  | .store t y z, K => okT (E.ty t) (match x y with
    | .ptr τ' k p => match m k with
      | some (.var τ a) => τ' = E.ty t ∧ S (E.ty t) (x z) ∧ K ⟨.junk, [(k, .var τ (a.upd p (x z)))], [k]⟩
      | _ => False
    | .gpt τ' e k l i p => match m k with
      | some (.grow _ l' f) => l' = l ∧ τ' = E.ty t ∧ S (E.ty t) (x z) ∧ K ⟨.junk, [(k, .grow e l (updA f i ((f i).upd p (x z))))], [k]⟩
      | _ => False
    | _ => False)
  | .nilCheck y, K => match x y with
    | .ptr τ k p => K ⟨.ptr τ k p, [], []⟩
    | .gpt τ e k l i p => K ⟨.gpt τ e k l i p, [], []⟩
    | .ipt τ a => K ⟨.ipt τ a, [], []⟩
    | _ => False
  | .binOp op t y z _, K => match x y with
    | .str a => semStr (.str a) (x z) op fun v => K ⟨v, [], []⟩
    | .agg u l f => match x z with
      | .agg u' l' g => okT (E.ty t) (C (.agg u l f) ∧ S (E.ty t) (.agg u l f) ∧ S (E.ty t) (.agg u' l' g) ∧ eqOp op (eqB (.agg u l f) (.agg u' l' g)) K)
      | _ => False
    | .bo a => match x z, E.ty t with
      | .bo b, .bo => eqOp op (a == b) K
      | _, _ => False
    | v => match x z, E.ty t with
      | .nils, .sl _ => nilE op v K
      | .nilp, .pt => nilP v fun b => eqOp op b K
      | w, _ => bin op v w fun v => K ⟨v, [], []⟩
  | .unOp op _ y, K => una op (x y) fun v => K ⟨v, [], []⟩
  | .convert s d y, K => okT (E.ty s) (match E.ty d with
    | .sl e => match x y with
      | .imm fr et n f => s = d ∧ fr = true ∧ et = .int .u8 ∧ E.ty e = .int .u8 ∧ 0 < n ∧ K ⟨.imm true et n f, [], []⟩
      | .blt n f => s = d ∧ E.ty e = .int .u8 ∧ 0 < n ∧ K ⟨.blt n f, [], []⟩
      | .str b => E.ty s = .str ∧ E.ty e = .int .u8 ∧ bnd b.length ∧ K ⟨.imm true (.int .u8) b.length (fun i => .u8 (BitVec.ofNat 8 (b.getD i 0).toNat)), [], []⟩
      | _ => False
    | .str => match x y with
      | .str b => K ⟨.str b, [], []⟩
      | .i32 c => E.ty s = .int .i32 ∧ c.toNat < 128 ∧ K ⟨.str [UInt8.ofNat c.toNat], [], []⟩
      | a => semText m E.ty s a K
    | d => conv d (x y) fun v => K ⟨v, [], []⟩)
  | .sliceToArrayPointer t y, K => match x y with
    | .imm _ et l f => match E.ty t with
      | .agg true n g => g 0 = et ∧ n ≤ l ∧ 0 < n ∧ K ⟨.ipt (.agg true n g) (.agg true n f), [], []⟩
      | _ => False
    | .sub et k p ofs l => match E.ty t with
      | .agg true n g => g 0 = et ∧ n ≤ l ∧ 0 < n ∧ K ⟨.spt et k p ofs n, [], []⟩
      | _ => False
    | .gsub e k al ofs l => match E.ty t with
      | .agg true n g => g 0 = E.ty e ∧ n ≤ l ∧ 0 < n ∧ K ⟨.gspt e k al ofs n, [], []⟩
      | _ => False
    | _ => False
  | .makeSlice t l c, K => match E.ty t with
    | .sl e => idx (x l) fun n => idx (x c) fun q => n ≤ q ∧ bnd q ∧ K ⟨.gsl e key n, [(key, .grow e n (fun _ => (E.ty e).zero))], []⟩
    | _ => False
  | .slice t y lo hi none, K => semSlice E.ty (E.ty t) (x y) (lo.map x) (hi.map x) K
  | .slice t y lo (some hi) (some mx), K => semSlice3 E.ty (E.ty t) (x y) (lo.map x) (x hi) (x mx) K
  | .fieldAddr t y i, K => match E.ty t with
    | .agg false n f => i < n ∧ match x y with
      | .ptr τ' k p => τ' = .agg false n f ∧ K ⟨.ptr (f i) k (p ++ [i]), [], []⟩
      | .gpt τ' e k l j p => τ' = .agg false n f ∧ K ⟨.gpt (f i) e k l j (p ++ [i]), [], []⟩
      | .ipt τ' (.agg _ _ g) => τ' = .agg false n f ∧ K ⟨.ipt (f i) (g i), [], []⟩
      | _ => False
    | _ => False
  | .field t y i, K => match E.ty t with
    | .agg false n f => match x y with
      | .agg u l g => S (.agg false n f) (.agg u l g) ∧ i < n ∧ K ⟨g i, [], []⟩
      | _ => False
    | _ => False
  | .indexAddr t y i, K => idx (x i) fun j => match E.ty t with
    | .agg true n f => j < n ∧ match x y with
      | .ptr τ' k p => τ' = .agg true n f ∧ K ⟨.ptr (f 0) k (p ++ [j]), [], []⟩
      | .gpt τ' e k l q p => τ' = .agg true n f ∧ K ⟨.gpt (f 0) e k l q (p ++ [j]), [], []⟩
      | .ipt τ' (.agg _ _ g) => τ' = .agg true n f ∧ K ⟨.ipt (f 0) (g j), [], []⟩
      | _ => False
    | .sl e => match x y with
      | .imm _ et l f => et = E.ty e ∧ j < l ∧ K ⟨.ipt et (f j), [], []⟩
      | .gsl e' k l => e' = e ∧ j < l ∧ K ⟨.gpt (E.ty e) e k l j [], [], []⟩
      | .gsub e' k l o n => e' = e ∧ j < n ∧ K ⟨.gpt (E.ty e) e k l (o + j) [], [], []⟩
      | .sub et k p o n => et = E.ty e ∧ j < n ∧ K ⟨.ptr et k (p ++ [o + j]), [], []⟩
      | _ => False
    | _ => False
  | .index t y i, K => idx (x i) fun j => match E.ty t with
    | .agg true n f => match x y with
      | .agg u l g => S (.agg true n f) (.agg u l g) ∧ j < n ∧ K ⟨g j, [], []⟩
      | _ => False
    | .str => match x y with
      | .str s => j < s.length ∧ K ⟨.u8 (BitVec.ofNat 8 (s.getD j 0).toNat), [], []⟩
      | _ => False
    | _ => False
  | .makeFunc (.func f) first caps, K => match first.toList.map x ++ caps.toList.map x with
    | [] => K ⟨.fn f, [], []⟩
    | l => l.all AV.noAgg = true ∧ K ⟨.clo f first.toList.length l.length (nthA l), [], []⟩
  | .extract y i, K => match x y with
    | .tup l f => i < l ∧ K ⟨f i, [], []⟩
    | _ => False
  | .makeMap t none, K => match E.ty t with
    | .mp k e => keyT (E.ty k) = true ∧ ((∃ (n : Nat) (f : Nat → AV) (j : Nat → Nat), EntsOK S C (E.ty k) (E.ty e) n f ∧ (∀ a, a < n → ∀ b, b < n → AEq (ekey f a) (ekey f b) → a = b) ∧
        K ⟨.mpt (E.ty k) (E.ty e) n f j key, [(key, .ob (.mp (E.ty k) (E.ty e) n f fun _ => false))], []⟩) ∨
        (E.ty k = .int .u32 ∧ K ⟨.cmt key, [(key, .ob (.cnt 0))], []⟩) ∨
        (E.ty k = .int .u32 ∧ K ⟨.vmt key, [(key, .ob (.vm (E.ty e) 0 fun _ => .junk))], []⟩))
    | _ => False
  | .insert t y z w, K => match E.ty t with
    | .mp k e => match x y with
      | .mpt kt et n f j q => kt = E.ty k ∧ et = E.ty e ∧ j key < n ∧ S kt (x z) ∧ S et (x w) ∧ FEq (x z) (ekey f (j key)) ∧ FEq (x w) (eval' f (j key)) ∧ K ⟨.junk, [(q, .ob (.put (j key)))], []⟩
      | .cmt q => match m q with
        | some (.ob (.cnt n)) => (match x z with
          | .u32 v => E.ty k = .int .u32 ∧ v.toNat = n ∧ K ⟨.junk, [(q, .ob (.cnt (n + 1)))], [q]⟩
          | _ => False)
        | _ => False
      | _ => False
    | _ => False
  | .mapUpdate t y z w, K => match E.ty t with
    | .mp k e => match x y with
      | .vmt q => match m q with
        | some (.ob (.vm et n f)) => (match x z with
          | .u32 v => E.ty k = .int .u32 ∧ et = E.ty e ∧ v.toNat = n ∧ S (E.ty e) (x w) ∧ Imd (x w) ∧ K ⟨.junk, [(q, .ob (.vm et (n + 1) fun i => bif Nat.beq i n then x w else f i))], [q]⟩
          | _ => False)
        | _ => False
      | .cmt q => match m q with
        | some (.ob (.cnt n)) => (match x z with
          | .u32 v => E.ty k = .int .u32 ∧ v.toNat = n ∧ K ⟨.junk, [(q, .ob (.cnt (n + 1)))], [q]⟩
          | _ => False)
        | _ => False
      | _ => False
    | _ => False
  | .lookup t y z ok, K => match E.ty t with
    | .mp k e => S (E.ty k) (x z) ∧ C (x z) ∧ keyT (E.ty k) = true ∧ (match x y with
      | .mpt kt et n f j q => match m q with
        | some (.ob (.mp kt' et' n' f' d)) => kt' = E.ty k ∧ et' = E.ty e ∧ Found (x z) n' f' d (E.ty e).zero fun v b => K ⟨match ok with
            | true => .tup 2 (nthA [v, .bo b])
            | false => v, [], [q]⟩
        | _ => False
      | .cmt q => match m q with
        | some (.ob (.cnt n)) => (match x z with
          | .u32 v => E.ty k = .int .u32 ∧ n ≤ v.toNat ∧ K ⟨match ok with
            | true => .tup 2 (nthA [(E.ty e).zero, .bo false])
            | false => (E.ty e).zero, [], [q]⟩
          | _ => False)
        | _ => False
      | .vmt q => match m q with
        | some (.ob (.vm et n f)) => (match x z with
          | .u32 v => E.ty k = .int .u32 ∧ et = E.ty e ∧ FoundN v n f (E.ty e).zero fun v b => K ⟨match ok with
            | true => .tup 2 (nthA [v, .bo b])
            | false => v, [], [q]⟩
          | _ => False)
        | _ => False
      | .fvm _ et n f => (match x z with
          | .u32 v => E.ty k = .int .u32 ∧ et = E.ty e ∧ FoundN v n f (E.ty e).zero fun v b => K ⟨match ok with
            | true => .tup 2 (nthA [v, .bo b])
            | false => v, [], []⟩
          | _ => False)
      | .fmp _ kt et n f d => kt = E.ty k ∧ et = E.ty e ∧ Found (x z) n f d (E.ty e).zero fun v b => K ⟨match ok with
            | true => .tup 2 (nthA [v, .bo b])
            | false => v, [], []⟩
      | .nilm => K ⟨match ok with
            | true => .tup 2 (nthA [(E.ty e).zero, .bo false])
            | false => (E.ty e).zero, [], []⟩
      | _ => False)
    | _ => False
  | .range t y, K => match E.ty t, x y with
    | .str, .str s => K ⟨.itp key, [(key, .ob (.it s 0))], []⟩
    | .mp _ _, .fmp _ kt et n f d => K ⟨.mit key, [(key, .ob (.mi kt et n f d (fun _ => false) n none))], []⟩
    | .mp _ _, .nilm => ∃ (kt et : Ty) (f : Nat → AV) (d : Nat → Bool), K ⟨.mit key, [(key, .ob (.mi kt et 0 f d (fun _ => false) 0 none))], []⟩
    | _, _ => False
  | .entry y, K => match x y with
    | .mit q => match m q with
      | some (.ob (.mi _ _ _ f _ _ _ (some i))) => K ⟨.tup 2 (nthA [ekey f i, eval' f i]), [], [q]⟩
      | _ => False
    | _ => False
  | .next y true, K => match x y with
    | .itp q => match m q with
      | some (.ob (.it s pos)) => NextE s pos (K ⟨.tup 3 (nthA [.bo true, .nat pos, .i32 (BitVec.ofNat 32 (s.getD pos 0).toNat)]), [(q, .ob (.it s (pos + 1)))], [q]⟩) (K ⟨.tup 1 (nthA [.bo false]), [], [q]⟩)
      | _ => False
    | _ => False
  | .call c, K => match c.callee with
    | .value (.func f) => E.ctr f (c.args.toList.map x) m key K
    | .value (.tmp i) => match x (.tmp i) with
      | .fn f => E.ctr f (c.args.toList.map x) m key K
      | .clo f nf n g => E.ctr f (upto g 0 nf ++ (c.args.toList.map x ++ upto g nf (n - nf))) m key K
      | _ => False
    | .builtin .len => match c.args.toList, c.argTypes.toList with
      | [y], [t] => match E.ty t with
        | .sl _ => lenOf (x y) fun l => K ⟨.nat l, [], []⟩
        | .str => match x y with
          | .str s => K ⟨.nat s.length, [], []⟩
          | _ => False
        | .mp _ _ => match x y with
          | .cmt q => match m q with
            | some (.ob (.cnt n)) => K ⟨.nat n, [], [q]⟩
            | _ => False
          | .vmt q => match m q with
            | some (.ob (.vm _ n _)) => K ⟨.nat n, [], [q]⟩
            | _ => False
          | _ => False
        | _ => False
      | _, _ => False
    | .builtin .cap => match c.args.toList, c.argTypes.toList with
      | [y], [t] => match E.ty t, x y with
        | .sl _, .nils => K ⟨.nat 0, [], []⟩
        | _, _ => False
      | _, _ => False
    | .builtin .min => match c.args.toList with
      | [y, z] => match x y, x z with
        | .nat a, .nat b => K ⟨.nat (min a b), [], []⟩
        | .nat a, .int b => K ⟨.int (min a b), [], []⟩
        | .int a, .nat b => K ⟨.int (min a b), [], []⟩
        | .int a, .int b => K ⟨.int (min a b), [], []⟩
        | _, _ => False
      | [y, z, w] => match x y, x z, x w with
        | .nat a, .nat b, .nat c => K ⟨.nat (min (min a b) c), [], []⟩
        | _, _, _ => False
      | _ => False
    | .builtin .max => match c.args.toList with
      | [y, z] => match x y, x z with
        | .nat a, .nat b => K ⟨.nat (max a b), [], []⟩
        | .nat a, .int b => K ⟨.int (max a b), [], []⟩
        | .int a, .nat b => K ⟨.int (max a b), [], []⟩
        | .int a, .int b => K ⟨.int (max a b), [], []⟩
        | _, _ => False
      | _ => False
    | .builtin .copy => match c.args.toList, c.argTypes.toList with
      | [y, z], [t, s] => match E.ty t, E.ty s with
        | .sl e, .sl e' => e = e' ∧ semCopy m E.ty e (x y) (x z) K
        | .sl e, .str => match x z with
          | .str b => semCopyS m E.ty e (x y) b K
          | _ => False
        | _, _ => False
      | _, _ => False
    | .builtin .append => match c.args.toList, c.argTypes.toList with
      | [y, z], [t, t'] => match E.ty t with
        | .sl e => match E.ty t' with
          | .int .i64 => semAppendN m E.ty key e (x y) (x z) K
          | _ => t = t' ∧ semAppend m E.ty key e (x y) (x z) K
        | _ => False
      | _, _ => False
    | _ => False
  | _, _ => False

def sem (E : Pg) (m : Nat → Option Row) (key : Nat) (x : Operand → AV) (op : Op) (K : Res → Prop) : Prop := semG Sh Cmp E m key x op K
def gsrc (l : List Oper) (i : Nat) : Bool := l.any fun o => match o.guard with
  | some (j, _) => Nat.beq j i
  | none => false
/-- The value, told whole ahead of what follows. -/
def AV.fc (a : AV) (K : AV → Prop) : Prop :=
  match a with
  | .junk => K .junk
  | .und => K .und
  | .bo a => K (.bo a)
  | .u8 a => K (.u8 a)
  | .u16 a => K (.u16 a)
  | .u32 a => K (.u32 a)
  | .u64 a => K (.u64 a)
  | .i32 a => K (.i32 a)
  | .i8 a => K (.i8 a)
  | .i16 a => K (.i16 a)
  | .nat a => K (.nat a)
  | .int a => K (.int a)
  | .str a => K (.str a)
  | .nilp => K .nilp
  | .ptr a b c => K (.ptr a b c)
  | .ipt a b => K (.ipt a b)
  | .nils => K .nils
  | .imm a b c d => K (.imm a b c d)
  | .gsl a b c => K (.gsl a b c)
  | .gpt a b c d e f => K (.gpt a b c d e f)
  | .gsub a b c d e => K (.gsub a b c d e)
  | .sub a b c d e => K (.sub a b c d e)
  | .agg a b c => K (.agg a b c)
  | .tup a b => K (.tup a b)
  | .fn a => K (.fn a)
  | .gcap a b c => K (.gcap a b c)
  | .anyb => K .anyb
  | .anym => K .anym
  | .clo a b c d => K (.clo a b c d)
  | .spt a b c d e => K (.spt a b c d e)
  | .gspt a b c d e => K (.gspt a b c d e)
  | .blt a b => K (.blt a b)
  | .nilm => K .nilm
  | .nilf => K .nilf
  | .mpt a b c d e f => K (.mpt a b c d e f)
  | .itp a => K (.itp a)
  | .cmt a => K (.cmt a)
  | .fmp a b c d e f => K (.fmp a b c d e f)
  | .mit a => K (.mit a)
  | .vmt a => K (.vmt a)
  | .fvm a b c d => K (.fvm a b c d)
theorem fc_eq (a : AV) (K : AV → Prop) : a.fc K = K a := by cases a <;> rfl
def fk (g : Bool) (v : AV) (K : AV → Prop) : Prop :=
  match g with
  | false => v.fc K
  | true => match v with
    | .bo x => (x = true → K (.bo true)) ∧ (x = false → K (.bo false))
    | _ => False
def gval (l : List Oper) (t : Nat → AV) (j : Nat) : AV :=
  match l[j]? with
  | some o => match o.dst with
    | some d => t d
    | none => .junk
  | none => .junk
def anc (l : List Oper) (i j : Nat) : Bool := ((Region.before l.toArray).getD i 0).testBit j
/-- May the operation look at rows, or write such as are there? -/
def memOp (o : Oper) : Bool := match o.op with
  | .load .. | .store .. | .convert .. | .insert .. | .mapUpdate .. | .lookup .. | .next .. | .entry .. => true
  | .call c => match c.callee with
    | .builtin .cap | .builtin .min | .builtin .max => false
    | _ => true
  | _ => false
def okR (l : List Oper) (base i : Nat) (o : Oper) (rd : List Nat) (wr : List Nat) : Bool :=
  (memOp o || rd.isEmpty) && rd.all (fun k => Nat.blt k base || anc l i ((k - base) / 8)) &&
  wr.all (fun k => (Nat.ble (base + 8 * i) k && Nat.blt k (base + 8 * i + 8)) || (memOp o && (Nat.blt k base || anc l i ((k - base) / 8))))
def memN (k : Nat) : List Nat → Bool
  | [] => false
  | j :: l => Nat.beq k j || memN k l
def offN (l l' : List Nat) : Bool := l.all fun k => !memN k l'
/-- Who is not ordered with one that came up touches other rows. -/
def offW (l l' : List (Nat × Bool)) : Bool := l.all fun x => l'.all fun y => !Nat.beq x.1 y.1 || (!x.2 && !y.2)
/-- The keys that are written, and whether what was there is gone. -/
def wks (wr : List (Nat × Row)) : List (Nat × Bool) := wr.map fun q => (q.1, q.2.abs)
def apart (l : List Oper) (i : Nat) (rd : List Nat) (wr : List (Nat × Bool)) (acc : List (Nat × List Nat × List (Nat × Bool))) : Bool :=
  acc.all fun q => (offN (wr.map (·.1)) q.2.1 && offW wr q.2.2 && offN rd (q.2.2.map (·.1))) || anc l i q.1
/-- The slots that an operation names. -/
def tmpsOf (l : List Oper) (o : Oper) : List Nat := o.dst.toList ++ (o.op.operands.toList.filterMap fun | .tmp t => some t | _ => none) ++ (match o.guard with
  | some (j, _) => (match l[j]? with | some g => g.dst.toList | none => [])
  | none => [])
/-- The edges go back, and who writes a slot that another one names is ordered with it. -/
def regB (l : List Oper) : Bool :=
  (List.range l.length).all (fun i => match l[i]? with
    | some o => o.after.toList.all (fun e => !Region.binds .any e || Nat.blt e.on i)
    | none => true) &&
  (List.range l.length).all (fun i => match l[i]? with
    | some o => (List.range l.length).all (fun j => Nat.beq i j || (match l[j]? with
      | some p => (match p.dst with
        | some d => !(tmpsOf l o).contains d || anc l (max i j) (min i j)
        | none => true)
      | none => true))
    | none => true)
def wrB (key : Nat) (wr : List (Nat × Row)) : Bool := wr.all fun kw => Nat.blt kw.1 (key + 8)
def thenR (dr : Bool) (l : List Oper) (base i : Nat) (o : Oper) (acc : List (Nat × List Nat × List (Nat × Bool))) (r : Res) (K : Prop) : Prop :=
  match wrB (base + 8 * i) r.wr with
  | false => False
  | true => match dr with
    | false => K
    | true => (okR l base i o r.rd (r.wr.map (·.1)) && apart l i r.rd (wks r.wr) acc) = true ∧ K

def nextT (nt : Nat) (t : Nat → AV) (d : Option Nat) (v : AV) (K : (Nat → AV) → Prop) : Prop :=
  match d with
  | none => K t
  | some d => match Nat.blt d nt with
    | true => K (put t d v)
    | false => K t
theorem nextT_eq (nt : Nat) (t : Nat → AV) (d : Option Nat) (v : AV) (K : (Nat → AV) → Prop) : nextT nt t d v K = K (putO nt t d v) := by
  cases d with
  | none => rfl
  | some d =>
    cases h : Nat.blt d nt <;> simp only [nextT, putO, h] <;> rfl
def nextM : (Nat → Option Row) → List (Nat × Row) → ((Nat → Option Row) → Prop) → Prop
  | m, [], K => K m
  | m, (k, r) :: l, K => nextM (putM m k r) l K
theorem nextM_eq : ∀ (m : Nat → Option Row) (wr : List (Nat × Row)) (K : (Nat → Option Row) → Prop), nextM m wr K = K (putW m wr)
  | _, [], _ => rfl
  | m, (k, r) :: l, K => nextM_eq (putM m k r) l K
def tmpsIn (op : Op) : List Nat := op.operands.toList.filterMap fun | .tmp t => some t | _ => none
def frc : List Nat → (Nat → AV) → List (Nat × AV) → (List (Nat × AV) → Prop) → Prop
  | [], _, acc, K => K acc
  | i :: is, t, acc, K => (t i).fc fun v => frc is t ((i, v) :: acc) K
def evL (E : Pg) (l : List (Nat × AV)) (y : Operand) : AV := match y with
  | .tmp i => look l .junk i
  | .const v => avOf v
  | .global g => E.gl g
  | .func f => .fn f
def noteR (dr : Bool) (i : Nat) (r : Res) (acc : List (Nat × List Nat × List (Nat × Bool))) : List (Nat × List Nat × List (Nat × Bool)) := match dr with
  | true => (i, r.rd, wks r.wr) :: acc
  | false => acc
def noteK (dr : Bool) (i : Nat) (r : Res) (acc : List (Nat × List Nat × List (Nat × Bool))) (K : List (Nat × List Nat × List (Nat × Bool)) → Prop) : Prop := match dr with
  | true => K ((i, r.rd, wks r.wr) :: acc)
  | false => K acc
theorem noteK_eq (dr : Bool) (i : Nat) (r : Res) (acc : List (Nat × List Nat × List (Nat × Bool))) (K : List (Nat × List Nat × List (Nat × Bool)) → Prop) : noteK dr i r acc K = K (noteR dr i r acc) := by cases dr <;> rfl
abbrev WOT := List (Nat × List Nat × List (Nat × Bool)) → Nat → (Nat → AV) → (Nat → Option Row) → ((Nat → AV) → (Nat → Option Row) → Prop) → Prop
/-- A call of a function whose result nobody knows, in a statement whose order is fixed. -/
def extOf (E : Pg) (dr : Bool) (op : Op) : Option ((List AV → Nat → (Res → Prop) → Prop) × List Operand) :=
  match dr with
  | true => none
  | false => match op with
    | .call c => match c.callee with
      | .value (.func f) => match E.ext f with
        | some C => some (C, c.args.toList)
        | none => none
      | _ => none
    | _ => none
/-- The next entry of a map, in a statement whose order is fixed: whichever it is. -/
def nxOf (dr : Bool) (op : Op) : Option Operand :=
  match dr with
  | true => none
  | false => match op with
    | .next y b => match b with
      | false => some y
      | true => none
    | _ => none
def semNx (m : Nat → Option Row) (a : AV) (K : Res → Prop) : Prop :=
  match a with
  | .mit q => match m q with
    | some (.ob (.mi kt et n f d s l _)) =>
      (∀ i, i < n → 0 < l → K ⟨.tup 3 (nthA [.bo true, .junk, .junk]), [(q, .ob (.mi kt et n f d (addD s i) (l - 1) (some i)))], [q]⟩) ∧
      ((∀ i, i < n → d i = true → s i = true) → K ⟨.tup 1 (nthA [.bo false]), [], [q]⟩)
    | _ => False
  | _ => False
def wDo (E : Pg) (nt : Nat) (dr : Bool) (l : List Oper) (base : Nat) (o : Oper) (ih : WOT) (acc : List (Nat × List Nat × List (Nat × Bool))) (i : Nat) (t : Nat → AV) (m : Nat → Option Row) (K : (Nat → AV) → (Nat → Option Row) → Prop) : Prop :=
  match extOf E dr o.op with
  | some (C, ys) => frc (tmpsIn o.op) t [] fun vs => C (ys.map (evL E vs)) (base + 8 * i) fun r => thenR dr l base i o acc r (fk (gsrc l i) r.v fun v => nextT nt t o.dst v fun t => nextM m r.wr fun m => noteK dr i r acc fun acc => ih acc (i + 1) t m K)
  | none => match nxOf dr o.op with
    | some y => frc (tmpsIn o.op) t [] fun vs => semNx m (evL E vs y) fun r => thenR dr l base i o acc r (fk (gsrc l i) r.v fun v => nextT nt t o.dst v fun t => nextM m r.wr fun m => noteK dr i r acc fun acc => ih acc (i + 1) t m K)
    | none => frc (tmpsIn o.op) t [] fun vs => semG ShW CmpW E m (base + 8 * i) (evL E vs) o.op fun r => thenR dr l base i o acc r (fk (gsrc l i) r.v fun v => nextT nt t o.dst v fun t => nextM m r.wr fun m => noteK dr i r acc fun acc => ih acc (i + 1) t m K)
def wStep (E : Pg) (nt : Nat) (dr : Bool) (l : List Oper) (base : Nat) (o : Oper) (_ : List Oper) (ih : WOT) (acc : List (Nat × List Nat × List (Nat × Bool))) (i : Nat) (t : Nat → AV) (m : Nat → Option Row) (K : (Nat → AV) → (Nat → Option Row) → Prop) : Prop :=
  match o.guard with
  | none => wDo E nt dr l base o ih acc i t m K
  | some (j, want) => match gval l t j with
    | .bo b => match b == want with
      | true => wDo E nt dr l base o ih acc i t m K
      | false => nextT nt t o.dst .und fun t => ih acc (i + 1) t m K
    | .und => nextT nt t o.dst .und fun t => ih acc (i + 1) t m K
    | _ => False
/-- The operations of a statement, one behind the other (told by the recursor, so that the kernel's forms are the ones that are shown). -/
noncomputable def wOps (E : Pg) (nt : Nat) (dr : Bool) (l : List Oper) (base : Nat) (acc : List (Nat × List Nat × List (Nat × Bool))) (i : Nat) (rest : List Oper) : (Nat → AV) → (Nat → Option Row) → ((Nat → AV) → (Nat → Option Row) → Prop) → Prop :=
  List.rec (motive := fun _ => WOT) (fun _ _ t m K => K t m) (wStep E nt dr l base) rest acc i
theorem wOps_cons (E : Pg) (nt : Nat) (dr : Bool) (l : List Oper) (base : Nat) (acc : List (Nat × List Nat × List (Nat × Bool))) (i : Nat) (o : Oper) (rest : List Oper) (t : Nat → AV) (m : Nat → Option Row) (K : (Nat → AV) → (Nat → Option Row) → Prop) :
    wOps E nt dr l base acc i (o :: rest) t m K = match o.guard with
    | none => wDo E nt dr l base o (fun acc i => wOps E nt dr l base acc i rest) acc i t m K
    | some (j, want) => match gval l t j with
      | .bo b => match b == want with
        | true => wDo E nt dr l base o (fun acc i => wOps E nt dr l base acc i rest) acc i t m K
        | false => nextT nt t o.dst .und fun t => wOps E nt dr l base acc (i + 1) rest t m K
      | .und => nextT nt t o.dst .und fun t => wOps E nt dr l base acc (i + 1) rest t m K
      | _ => False := rfl

/-- What holds at the head of a loop. -/
structure LI where
  G : Type
  ok : G → Prop
  sl : G → List (Nat × AV)
  rw : G → List (Nat × Row)
  mu : G → Nat
  r0 : Nat → Option Nat
  r1 : Nat → Option Nat

def rowOf (l : List (Nat × Row)) (k : Nat) : Option Row :=
  match l with
  | [] => none
  | (j, r) :: l => bif Nat.beq k j then some r else rowOf l k
/-- The first key that is free. -/
def nextA : List (Nat × Row) → Nat → Nat
  | [], c => c
  | (k, _) :: l, c => nextA l (bif Nat.ble c k then k + 1 else c)
def nextK (l : List (Nat × Row)) : Nat := nextA l 8
def stOf (sl : List (Nat × AV)) (rw : List (Nat × Row)) : St := ⟨look sl .junk, rowOf rw, nextK rw⟩
/-- A number, told whole ahead of what follows (so that the keys name no variable). -/
def frcS (k : Nat) (K : Nat → Prop) : Prop := match k with
  | 0 => K 0
  | k + 1 => K (k + 1)
theorem frcS_eq (k : Nat) (K : Nat → Prop) : frcS k K = K k := by cases k <;> rfl
def frcC : List (Nat × Row) → Nat → (Nat → Prop) → Prop
  | [], c, K => K c
  | (k, _) :: l, c, K => frcS k fun k => match Nat.ble c k with
    | true => frcC l (k + 1) K
    | false => frcC l c K
theorem frcC_eq : ∀ (l : List (Nat × Row)) (c : Nat) (K : Nat → Prop), frcC l c K = K (nextA l c)
  | [], _, _ => rfl
  | (k, _) :: l, c, K => by
    unfold frcC nextA
    rw [frcS_eq]
    cases Nat.ble c k with
    | true => exact frcC_eq l (k + 1) K
    | false => exact frcC_eq l c K
def inSt (sl : List (Nat × AV)) (rw : List (Nat × Row)) (K : St → Prop) : Prop := frcC rw 8 fun c => K ⟨look sl .junk, rowOf rw, c⟩
theorem inSt_eq (sl : List (Nat × AV)) (rw : List (Nat × Row)) (K : St → Prop) : inSt sl rw K = K (stOf sl rw) := frcC_eq _ _ _
def frcN : List Nat → (List Nat → Prop) → Prop
  | [], K => K []
  | k :: l, K => frcS k fun k => frcN l fun l' => K (k :: l')
theorem frcN_eq : ∀ (l : List Nat) (K : List Nat → Prop), frcN l K = K l
  | [], _ => rfl
  | k :: l, K => by
    unfold frcN
    rw [frcS_eq]
    exact frcN_eq l fun l' => K (k :: l')
def keyIs (rw : List (Nat × Row)) (ρ : Nat → Option Nat) (k' k : Nat) : Bool := (rowOf rw k').isSome && match ρ k' with
  | some j => Nat.beq k j
  | none => false
def keyFree (rw : List (Nat × Row)) (ρ : Nat → Option Nat) (k : Nat) : Bool := rw.all fun q => match ρ q.1 with
  | some j => !Nat.beq k j
  | none => true
def growOf (r : Option Row) (K : TypeId → Nat → (Nat → AV) → Prop) : Prop :=
  match r with
  | some (.grow e n f) => K e n f
  | _ => False
def varOf (r : Option Row) (K : Ty → AV → Prop) : Prop :=
  match r with
  | some (.var τ a) => K τ a
  | _ => False
def mpOf (r : Option Row) (K : (Nat → Bool) → Prop) : Prop :=
  match r with
  | some (.ob (.mp _ _ _ _ d)) => K d
  | _ => False
def vmOf (r : Option Row) (K : Ty → Nat → (Nat → AV) → Prop) : Prop :=
  match r with
  | some (.ob (.vm et n f)) => K et n f
  | _ => False
def cnOf (r : Option Row) (K : Nat → Prop) : Prop :=
  match r with
  | some (.ob (.cnt n)) => K n
  | _ => False
/-- What the first tells is there, is there. -/
def dLe : Nat → (Nat → Bool) → (Nat → Bool) → Bool
  | 0, _, _ => true
  | n + 1, d', d => dLe n d' d && (!d' n || d n)
theorem dLe_at {d' d : Nat → Bool} : ∀ {n : Nat}, dLe n d' d = true → ∀ i, i < n → d' i = true → d i = true
  | 0, _, i, hi, _ => by omega
  | n + 1, h, i, hi, hd => by
    simp only [dLe, Bool.and_eq_true] at h
    rcases Nat.lt_or_ge i n with h1 | h1
    · exact dLe_at h.1 i h1 hd
    · obtain rfl : i = n := by omega
      have := h.2; rw [hd] at this; simpa using this
/-- Everything of the first value may be told as the second: rows keep their content, slices of the call's own may become such as nobody writes. -/
def Le (m : Nat → Option Row) (ty : TypeId → Ty) (rw : List (Nat × Row)) (ρ : Nat → Option Nat) : AV → AV → Prop
  | _, .junk => True
  | .und, .und => True
  | .bo x, .bo y => x = y
  | .u8 x, .u8 y => x = y
  | .u16 x, .u16 y => x = y
  | .u32 x, .u32 y => x = y
  | .u64 x, .u64 y => x = y
  | .i32 x, .i32 y => x = y
  | .i8 x, .i8 y => x = y
  | .i16 x, .i16 y => x = y
  | .nat x, .nat y => x = y
  | .nat x, .int y => (x : Int) = y
  | .int x, .nat y => x = (y : Int)
  | .int x, .int y => x = y
  | .str x, .str y => x = y
  | .nilp, .nilp => True
  | .nilm, .nilm => True
  | .nilm, .anym => True
  | .mpt _ _ _ _ _ _, .anym => True
  | .cmt _, .anym => True
  | .fmp _ _ _ _ _ _, .anym => True
  | .vmt _, .anym => True
  | .fvm _ _ _ _, .anym => True
  | .anym, .anym => True
  | .nilf, .nilf => True
  | .itp k, .itp k' => keyIs rw ρ k' k = true
  | .cmt k, .cmt k' => keyIs rw ρ k' k = true
  | .mit k, .mit k' => keyIs rw ρ k' k = true
  | .vmt k, .vmt k' => keyIs rw ρ k' k = true
  | .fvm g et n f, .fvm g' et' n' f' => (g || !g') = true ∧ et = et' ∧ n = n' ∧ ∀ i, i < n → Sh et' (f' i) ∧ Le m ty rw ρ (f i) (f' i)
  | .vmt k, .fvm g' et' n' f' => (!g' || Nat.ble 8 k) = true ∧ keyFree rw ρ k = true ∧ vmOf (m k) fun et n f => et = et' ∧ n = n' ∧ ∀ i, i < n → Sh et' (f' i) ∧ Le m ty rw ρ (f i) (f' i)
  | .fmp g kt et n f d, .fmp g' kt' et' n' f' d' => (g || !g') = true ∧ kt = kt' ∧ et = et' ∧ n = n' ∧ f = f' ∧ d = d'
  | .mpt kt et n f _ k, .fmp g' kt' et' n' f' d' => (!g' || Nat.ble 8 k) = true ∧ keyFree rw ρ k = true ∧ kt = kt' ∧ et = et' ∧ n = n' ∧ f = f' ∧ mpOf (m k) fun d => dLe n' d' d = true
  | .cmt k, .fmp g' kt' _ n' _ _ => (!g' || Nat.ble 8 k) = true ∧ keyFree rw ρ k = true ∧ keyT kt' = true ∧ n' = 0 ∧ cnOf (m k) fun n => n = 0
  | .mpt kt et n f j k, .mpt kt' et' n' f' j' k' => keyIs rw ρ k' k = true ∧ kt = kt' ∧ et = et' ∧ n = n' ∧ f = f'
  | .fn f, .fn g => f = g
  | .ptr τ k p, .ptr τ' k' p' => keyIs rw ρ k' k = true ∧ τ = τ' ∧ p = p'
  | .ipt τ a, .ipt τ' a' => τ = τ' ∧ Sh τ' a' ∧ Le m ty rw ρ a a'
  | .ptr τ k p, .ipt τ' a' => keyFree rw ρ k = true ∧ τ = τ' ∧ Sh τ' a' ∧ varOf (m k) fun _ a => Le m ty rw ρ (a.at p) a'
  | .clo f nf n g, .clo f' nf' n' g' => f = f' ∧ nf = nf' ∧ n = n' ∧ ∀ i, i < n → Le m ty rw ρ (g i) (g' i)
  | .nils, .nils => True
  | .nils, .imm _ _ l _ => l = 0
  | .nils, .gsl e' k' l => l = 0 ∧ (ρ k').isNone = true ∧ growOf (rowOf rw k') fun e _ _ => e = e'
  | .imm g et l f, .imm g' et' l' f' => (g || !g') = true ∧ et = et' ∧ l = l' ∧ ∀ i, i < l → Sh et' (f' i) ∧ Le m ty rw ρ (f i) (f' i)
  | .gsl e k l, .gsl e' k' l' => keyIs rw ρ k' k = true ∧ e = e' ∧ l = l'
  | .gsl _ k l, .imm fr et' l' f' => (!fr || Nat.ble 8 k) = true ∧ keyFree rw ρ k = true ∧ l = l' ∧ growOf (m k) fun e n f => ty e = et' ∧ n = l ∧ ∀ i, i < l → Sh et' (f' i) ∧ Le m ty rw ρ (f i) (f' i)
  | .gsub _ k al o l, .imm fr et' l' f' => (!fr || Nat.ble 8 k) = true ∧ keyFree rw ρ k = true ∧ l = l' ∧ growOf (m k) fun e n f => ty e = et' ∧ n = al ∧ o + l ≤ n ∧ ∀ i, i < l → Sh et' (f' i) ∧ Le m ty rw ρ (f (o + i)) (f' i)
  | .sub et k p o l, .imm fr et' l' f' => (!fr || Nat.ble 8 k) = true ∧ keyFree rw ρ k = true ∧ l = l' ∧ et = et' ∧ varOf (m k) fun _ a => ∀ i, i < l → Sh et' (f' i) ∧ Le m ty rw ρ (a.at (p ++ [o + i])) (f' i)
  | .gsub e k al o l, .gsub e' k' al' o' l' => keyIs rw ρ k' k = true ∧ e = e' ∧ al = al' ∧ o = o' ∧ l = l'
  | .gsl e k l, .gsub e' k' al' o' l' => keyIs rw ρ k' k = true ∧ e = e' ∧ l = al' ∧ o' = 0 ∧ l = l'
  | .sub et k p o l, .sub et' k' p' o' l' => keyIs rw ρ k' k = true ∧ et = et' ∧ p = p' ∧ o = o' ∧ l = l'
  | .gpt τ e k l i p, .gpt τ' e' k' l' i' p' => keyIs rw ρ k' k = true ∧ τ = τ' ∧ e = e' ∧ l = l' ∧ i = i' ∧ p = p'
  | .agg u l f, .agg u' l' f' => u = u' ∧ l = l' ∧ ∀ i, i < l → Le m ty rw ρ (f i) (f' i)
  | .tup l f, .tup l' f' => l = l' ∧ ∀ i, i < l → Le m ty rw ρ (f i) (f' i)
  | _, _ => False
termination_by structural _ b => b
def LeRow (m : Nat → Option Row) (ty : TypeId → Ty) (rw : List (Nat × Row)) (ρ : Nat → Option Nat) (k' : Nat) (r : Row) : Prop :=
  match ρ k' with
  | some k => match m k, r with
    | some (.var τ a), .var τ' a' => τ = τ' ∧ Sh τ' a' ∧ Le m ty rw ρ a a'
    | some (.grow e n f), .grow e' n' f' => e = e' ∧ n = n' ∧ ∀ i, i < n → Sh (ty e') (f' i) ∧ Le m ty rw ρ (f i) (f' i)
    | some (.ob o), .ob o' => o = o'
    | _, _ => False
  | none => match r with
    | .grow _ n _ => n = 0
    | _ => False
def LeSl (m : Nat → Option Row) (ty : TypeId → Ty) (rw : List (Nat × Row)) (ρ : Nat → Option Nat) (t : Nat → AV) : List (Nat × AV) → Prop
  | [] => True
  | (i, a) :: l => Le m ty rw ρ (t i) a ∧ LeSl m ty rw ρ t l
def LeRw (m : Nat → Option Row) (ty : TypeId → Ty) (rw : List (Nat × Row)) (ρ : Nat → Option Nat) : List (Nat × Row) → Prop
  | [] => True
  | (k, r) :: l => LeRow m ty rw ρ k r ∧ LeRw m ty rw ρ l
def distinctB : List Nat → Bool
  | [] => true
  | k :: l => l.all (fun j => !Nat.beq k j) && distinctB l
def LeW (m : Nat → Option Row) (ty : TypeId → Ty) (rw : List (Nat × Row)) (ρ : Nat → Option Nat) : AV → AV → Prop
  | _, .junk => True
  | .und, .und => True
  | .bo x, .bo y => x = y
  | .u8 x, .u8 y => x = y
  | .u16 x, .u16 y => x = y
  | .u32 x, .u32 y => x = y
  | .u64 x, .u64 y => x = y
  | .i32 x, .i32 y => x = y
  | .i8 x, .i8 y => x = y
  | .i16 x, .i16 y => x = y
  | .nat x, .nat y => x = y
  | .nat x, .int y => (x : Int) = y
  | .int x, .nat y => x = (y : Int)
  | .int x, .int y => x = y
  | .str x, .str y => x = y
  | .nilp, .nilp => True
  | .nilm, .nilm => True
  | .nilm, .anym => True
  | .mpt _ _ _ _ _ _, .anym => True
  | .cmt _, .anym => True
  | .fmp _ _ _ _ _ _, .anym => True
  | .vmt _, .anym => True
  | .fvm _ _ _ _, .anym => True
  | .anym, .anym => True
  | .nilf, .nilf => True
  | .itp k, .itp k' => keyIs rw ρ k' k = true
  | .cmt k, .cmt k' => keyIs rw ρ k' k = true
  | .mit k, .mit k' => keyIs rw ρ k' k = true
  | .vmt k, .vmt k' => keyIs rw ρ k' k = true
  | .fvm g et n f, .fvm g' et' n' f' => (g || !g') = true ∧ et = et' ∧ n = n' ∧ ∀ i, i < n → ShW et' (f' i) ∧ LeW m ty rw ρ (f i) (f' i)
  | .vmt k, .fvm g' et' n' f' => (!g' || Nat.ble 8 k) = true ∧ keyFree rw ρ k = true ∧ vmOf (m k) fun et n f => et = et' ∧ n = n' ∧ ∀ i, i < n → ShW et' (f' i) ∧ LeW m ty rw ρ (f i) (f' i)
  | .fmp g kt et n f d, .fmp g' kt' et' n' f' d' => (g || !g') = true ∧ kt = kt' ∧ et = et' ∧ n = n' ∧ f = f' ∧ d = d'
  | .mpt kt et n f _ k, .fmp g' kt' et' n' f' d' => (!g' || Nat.ble 8 k) = true ∧ keyFree rw ρ k = true ∧ kt = kt' ∧ et = et' ∧ n = n' ∧ f = f' ∧ mpOf (m k) fun d => dLe n' d' d = true
  | .cmt k, .fmp g' kt' _ n' _ _ => (!g' || Nat.ble 8 k) = true ∧ keyFree rw ρ k = true ∧ keyT kt' = true ∧ n' = 0 ∧ cnOf (m k) fun n => n = 0
  | .mpt kt et n f j k, .mpt kt' et' n' f' j' k' => keyIs rw ρ k' k = true ∧ kt = kt' ∧ et = et' ∧ n = n' ∧ f = f'
  | .fn f, .fn g => f = g
  | .ptr τ k p, .ptr τ' k' p' => keyIs rw ρ k' k = true ∧ τ = τ' ∧ p = p'
  | .ipt τ a, .ipt τ' a' => τ = τ' ∧ ShW τ' a' ∧ LeW m ty rw ρ a a'
  | .ptr τ k p, .ipt τ' a' => keyFree rw ρ k = true ∧ τ = τ' ∧ ShW τ' a' ∧ varOf (m k) fun _ a => LeW m ty rw ρ (a.at p) a'
  | .clo f nf n g, .clo f' nf' n' g' => f = f' ∧ nf = nf' ∧ n = n' ∧ allB n fun i => LeW m ty rw ρ (g i) (g' i)
  | .nils, .nils => True
  | .nils, .imm _ _ l _ => l = 0
  | .nils, .gsl e' k' l => l = 0 ∧ (ρ k').isNone = true ∧ growOf (rowOf rw k') fun e _ _ => e = e'
  | .imm g et l f, .imm g' et' l' f' => (g || !g') = true ∧ et = et' ∧ l = l' ∧ ∀ i, i < l → ShW et' (f' i) ∧ LeW m ty rw ρ (f i) (f' i)
  | .gsl e k l, .gsl e' k' l' => keyIs rw ρ k' k = true ∧ e = e' ∧ l = l'
  | .gsl _ k l, .imm fr et' l' f' => (!fr || Nat.ble 8 k) = true ∧ keyFree rw ρ k = true ∧ l = l' ∧ growOf (m k) fun e n f => ty e = et' ∧ n = l ∧ ∀ i, i < l → ShW et' (f' i) ∧ LeW m ty rw ρ (f i) (f' i)
  | .gsub _ k al o l, .imm fr et' l' f' => (!fr || Nat.ble 8 k) = true ∧ keyFree rw ρ k = true ∧ l = l' ∧ growOf (m k) fun e n f => ty e = et' ∧ n = al ∧ o + l ≤ n ∧ ∀ i, i < l → ShW et' (f' i) ∧ LeW m ty rw ρ (f (o + i)) (f' i)
  | .sub et k p o l, .imm fr et' l' f' => (!fr || Nat.ble 8 k) = true ∧ keyFree rw ρ k = true ∧ l = l' ∧ et = et' ∧ varOf (m k) fun _ a => ∀ i, i < l → ShW et' (f' i) ∧ LeW m ty rw ρ (a.at (p ++ [o + i])) (f' i)
  | .gsub e k al o l, .gsub e' k' al' o' l' => keyIs rw ρ k' k = true ∧ e = e' ∧ al = al' ∧ o = o' ∧ l = l'
  | .gsl e k l, .gsub e' k' al' o' l' => keyIs rw ρ k' k = true ∧ e = e' ∧ l = al' ∧ o' = 0 ∧ l = l'
  | .sub et k p o l, .sub et' k' p' o' l' => keyIs rw ρ k' k = true ∧ et = et' ∧ p = p' ∧ o = o' ∧ l = l'
  | .gpt τ e k l i p, .gpt τ' e' k' l' i' p' => keyIs rw ρ k' k = true ∧ τ = τ' ∧ e = e' ∧ l = l' ∧ i = i' ∧ p = p'
  | .agg u l f, .agg u' l' f' => u = u' ∧ l = l' ∧ forI u l fun i => LeW m ty rw ρ (f i) (f' i)
  | .tup l f, .tup l' f' => l = l' ∧ allB l fun i => LeW m ty rw ρ (f i) (f' i)
  | _, _ => False
termination_by structural _ b => b
def LeRowW (m : Nat → Option Row) (ty : TypeId → Ty) (rw : List (Nat × Row)) (ρ : Nat → Option Nat) (k' : Nat) (r : Row) : Prop :=
  match ρ k' with
  | some k => match m k, r with
    | some (.var τ a), .var τ' a' => τ = τ' ∧ ShW τ' a' ∧ LeW m ty rw ρ a a'
    | some (.grow e n f), .grow e' n' f' => e = e' ∧ n = n' ∧ ∀ i, i < n → ShW (ty e') (f' i) ∧ LeW m ty rw ρ (f i) (f' i)
    | some (.ob o), .ob o' => o = o'
    | _, _ => False
  | none => match r with
    | .grow _ n _ => n = 0
    | _ => False
def LeSlW (m : Nat → Option Row) (ty : TypeId → Ty) (rw : List (Nat × Row)) (ρ : Nat → Option Nat) (t : Nat → AV) : List (Nat × AV) → Prop
  | [] => True
  | (i, a) :: l => LeW m ty rw ρ (t i) a ∧ LeSlW m ty rw ρ t l
def LeRwW (m : Nat → Option Row) (ty : TypeId → Ty) (rw : List (Nat × Row)) (ρ : Nat → Option Nat) : List (Nat × Row) → Prop
  | [] => True
  | (k, r) :: l => LeRowW m ty rw ρ k r ∧ LeRwW m ty rw ρ l
section
variable {m : Nat → Option Row} {ty : TypeId → Ty} {rw : List (Nat × Row)} {ρ : Nat → Option Nat}
theorem growOf_imp {r : Option Row} {F G : TypeId → Nat → (Nat → AV) → Prop} (hFG : ∀ e n f, F e n f → G e n f) (h : growOf r F) : growOf r G := by
  unfold growOf at h ⊢
  split at h
  · exact hFG _ _ _ h
  · exact h.elim
theorem varOf_imp {r : Option Row} {F G : Ty → AV → Prop} (hFG : ∀ τ a, F τ a → G τ a) (h : varOf r F) : varOf r G := by
  unfold varOf at h ⊢
  split at h
  · exact hFG _ _ h
  · exact h.elim
theorem vmOf_imp {r : Option Row} {F G : Ty → Nat → (Nat → AV) → Prop} (hFG : ∀ e n f, F e n f → G e n f) (h : vmOf r F) : vmOf r G := by
  unfold vmOf at h ⊢
  split at h
  · exact hFG _ _ _ h
  · exact h.elim
theorem LeW_of : ∀ {b a : AV}, LeW m ty rw ρ a b → Le m ty rw ρ a b := by
  intro b
  induction b with
  | junk => intro a _; cases a <;> trivial
  | ipt τ a' ih =>
    intro a h
    cases a with
    | ipt τ a => exact ⟨h.1, ShW_of h.2.1, ih h.2.2⟩
    | ptr τ k p => exact ⟨h.1, h.2.1, ShW_of h.2.2.1, varOf_imp (fun τ a hh => ih hh) h.2.2.2⟩
    | _ => exact h.elim
  | imm fr et l f ih =>
    intro a h
    cases a with
    | imm fr' et' l' f' => exact ⟨h.1, h.2.1, h.2.2.1, fun i hi => ⟨ShW_of (h.2.2.2 i hi).1, ih i (h.2.2.2 i hi).2⟩⟩
    | gsl e k l => exact ⟨h.1, h.2.1, h.2.2.1, growOf_imp (fun e n f hh => ⟨hh.1, hh.2.1, fun i hi => ⟨ShW_of (hh.2.2 i hi).1, ih i (hh.2.2 i hi).2⟩⟩) h.2.2.2⟩
    | gsub e k al o l => exact ⟨h.1, h.2.1, h.2.2.1, growOf_imp (fun e n f hh => ⟨hh.1, hh.2.1, hh.2.2.1, fun i hi => ⟨ShW_of (hh.2.2.2 i hi).1, ih i (hh.2.2.2 i hi).2⟩⟩) h.2.2.2⟩
    | sub et' k p o l' => exact ⟨h.1, h.2.1, h.2.2.1, h.2.2.2.1, varOf_imp (fun τ a hh i hi => ⟨ShW_of (hh i hi).1, ih i (hh i hi).2⟩) h.2.2.2.2⟩
    | nils => exact h
    | _ => exact h.elim
  | fvm g et n f ih =>
    intro a h
    cases a with
    | fvm g' et' n' f' => exact ⟨h.1, h.2.1, h.2.2.1, fun i hi => ⟨ShW_of (h.2.2.2 i hi).1, ih i (h.2.2.2 i hi).2⟩⟩
    | vmt k => exact ⟨h.1, h.2.1, vmOf_imp (fun e n f hh => ⟨hh.1, hh.2.1, fun i hi => ⟨ShW_of (hh.2.2 i hi).1, ih i (hh.2.2 i hi).2⟩⟩) h.2.2⟩
    | _ => exact h.elim
  | agg u l f ih =>
    intro a h
    cases a with
    | agg u' l' f' =>
      obtain ⟨rfl, rfl, h⟩ := h
      exact ⟨rfl, rfl, fun i hi => ih i (forI_at h i hi)⟩
    | _ => exact h.elim
  | clo f nf n g ih =>
    intro a h
    cases a with
    | clo f' nf' n' g' => exact ⟨h.1, h.2.1, h.2.2.1, by
        obtain ⟨_, _, rfl, h⟩ := h
        exact fun i hi => ih i (allB_at h i hi)⟩
    | _ => exact h.elim
  | tup l f ih =>
    intro a h
    cases a with
    | tup l' f' =>
      obtain ⟨rfl, h⟩ := h
      exact ⟨rfl, fun i hi => ih i (allB_at h i hi)⟩
    | _ => exact h.elim
  | _ => intro a h; cases a <;> first | exact h | exact h.elim
theorem LeRowW_of {k : Nat} {r : Row} (h : LeRowW m ty rw ρ k r) : LeRow m ty rw ρ k r := by
  unfold LeRowW at h
  unfold LeRow
  cases hρ : ρ k with
  | none => rw [hρ] at h; exact h
  | some K =>
    rw [hρ] at h
    simp only at h ⊢
    cases hk : m K with
    | none => simp only [hk] at h
    | some r0 =>
      rw [hk] at h
      cases r0 with
      | var τ a =>
        cases r with
        | var τ' a' => exact ⟨h.1, ShW_of h.2.1, LeW_of h.2.2⟩
        | grow _ _ _ => exact h.elim
        | ob _ => exact h.elim
      | grow e n f =>
        cases r with
        | var _ _ => exact h.elim
        | grow e' n' f' => exact ⟨h.1, h.2.1, fun i hi => ⟨ShW_of (h.2.2 i hi).1, LeW_of (h.2.2 i hi).2⟩⟩
        | ob _ => exact h.elim
      | ob o =>
        cases r with
        | ob o' => exact h
        | _ => exact h.elim
theorem LeRwW_of : ∀ {l : List (Nat × Row)}, LeRwW m ty rw ρ l → LeRw m ty rw ρ l
  | [], _ => trivial
  | (_, _) :: _, h => ⟨LeRowW_of h.1, LeRwW_of h.2⟩
theorem LeSlW_of {t : Nat → AV} : ∀ {l : List (Nat × AV)}, LeSlW m ty rw ρ t l → LeSl m ty rw ρ t l
  | [], _ => trivial
  | (_, _) :: _, h => ⟨LeW_of h.1, LeSlW_of h.2⟩
end
def injB (ks : List Nat) (ρ : Nat → Option Nat) : Bool := distinctB (ks.filterMap ρ)
/-- What the call was given stays named as it was. -/
def passB (m : Nat → Option Row) (rw : List (Nat × Row)) (ρ : Nat → Option Nat) : Bool := (List.range 8).all fun j => !(m j).isSome || ((rowOf rw j).isSome && match ρ j with
  | some k => Nat.beq k j
  | none => false)
def freshB (ks : List Nat) (ρ : Nat → Option Nat) : Bool := ks.all fun k' => Nat.blt k' 8 || match ρ k' with
  | some k => Nat.ble 8 k
  | none => true
def namesB (m : Nat → Option Row) (rw : List (Nat × Row)) (ρ : Nat → Option Nat) : Bool := injB (rw.map (·.1)) ρ && passB m rw ρ && freshB (rw.map (·.1)) ρ
def Ent (E : Pg) (s : St) (sl : List (Nat × AV)) (rw : List (Nat × Row)) (ρ : Nat → Option Nat) : Prop :=
  namesB s.m rw ρ = true ∧ LeRwW s.m E.ty rw ρ rw ∧ LeSlW s.m E.ty rw ρ s.t sl

def firstReg : Code → Nat
  | .region i _ _ => i
  | .seq a _ => firstReg a
  | .block _ a => firstReg a
  | .loop a => firstReg a
  | .scope a => firstReg a
  | _ => 0

def regOK (dr : Bool) (ops : List Oper) : Bool := Nat.ble ops.length 128 && (!dr || regB ops)
def xb (id : Nat) (N : St → Prop) (X : Exit → St → Prop) : Exit → St → Prop := fun e s => match e with
  | .exit j => match Nat.beq j id with
    | true => N s
    | false => X (.exit j) s
  | e => X e s
/-- A loop is entered, or gone round again. -/
inductive Enter (E : Pg) (L : LI) (J : L.G → Prop) (s : St) : Prop
  | mk (g : L.G) (h1 : L.ok g) (hJ : J g) (h2 : Ent E s (L.sl g) (L.rw g) L.r0) : Enter E L J s
  | via (ρ : Nat → Option Nat) (g : L.G) (h1 : L.ok g) (hJ : J g) (h2 : Ent E s (L.sl g) (L.rw g) ρ) : Enter E L J s
theorem Enter.ex {E : Pg} {L : LI} {J : L.G → Prop} {s : St} (h : Enter E L J s) : ∃ ρ g, L.ok g ∧ J g ∧ Ent E s (L.sl g) (L.rw g) ρ := by
  cases h with
  | mk g h1 h2 h3 => exact ⟨_, g, h1, h2, h3⟩
  | via ρ g h1 h2 h3 => exact ⟨ρ, g, h1, h2, h3⟩
inductive Again (E : Pg) (L : LI) (J : L.G → Prop) (g0 : L.G) (s : St) : Prop
  | mk (g : L.G) (h1 : L.ok g) (hJ : J g) (h2 : L.mu g < L.mu g0) (h3 : Ent E s (L.sl g) (L.rw g) L.r1) : Again E L J g0 s
  | via (ρ : Nat → Option Nat) (g : L.G) (h1 : L.ok g) (hJ : J g) (h2 : L.mu g < L.mu g0) (h3 : Ent E s (L.sl g) (L.rw g) ρ) : Again E L J g0 s
theorem Again.ex {E : Pg} {L : LI} {J : L.G → Prop} {g0 : L.G} {s : St} (h : Again E L J g0 s) : ∃ ρ g, L.ok g ∧ J g ∧ L.mu g < L.mu g0 ∧ Ent E s (L.sl g) (L.rw g) ρ := by
  cases h with
  | mk g h1 h2 h3 h4 => exact ⟨_, g, h1, h2, h3, h4⟩
  | via ρ g h1 h2 h3 h4 => exact ⟨ρ, g, h1, h2, h3, h4⟩
/-- What must be shown for the text to end in N, if it comes to its end, or otherwise in X. -/
abbrev WT := St → (St → Prop) → (Exit → St → Prop) → Prop
def wReg (E : Pg) (nt : Nat) (_ : Nat) (ops : Array Oper) (dr : Bool) (s : St) (N : St → Prop) (_ : Exit → St → Prop) : Prop := match s with
  | ⟨t, m, c⟩ => regOK dr ops.toList = true ∧ wOps E nt dr ops.toList c [] 0 ops.toList t m fun t m => N ⟨t, m, c + 1024⟩
def wSeq (E : Pg) (inv : Nat → Option LI) (_ y : Code) (ihx ihy : WT) (s : St) (N : St → Prop) (X : Exit → St → Prop) : Prop := match inv (100000 + firstReg y) with
  | none => ihx s (fun s => ihy s N X) X
  | some L => ∃ J : L.G → Prop, ihx s (fun s => Enter E L J s) X ∧ ∀ g, L.ok g → J g → inSt (L.sl g) (L.rw g) fun s => ihy s N X
def wCond (E : Pg) (c : Operand) (_ _ : Code) (ihx ihy : WT) (s : St) (N : St → Prop) (X : Exit → St → Prop) : Prop := match ev E s.t c with
  | .bo v => (v = true → ihx s N X) ∧ (v = false → ihy s N X)
  | .anyb => (true = true → ihx s N X) ∧ (false = false → ihy s N X)
  | _ => False
def wLoop (E : Pg) (inv : Nat → Option LI) (c : Code) (ih : WT) (s : St) (_ : St → Prop) (X : Exit → St → Prop) : Prop := match inv (firstReg c) with
  | none => False
  | some L => ∃ J : L.G → Prop, Enter E L J s ∧ ∀ g, L.ok g → J g → inSt (L.sl g) (L.rw g) fun s => ih s (fun s => Again E L J g s) X
/-- Nobody goes to a label. -/
def xs (X : Exit → St → Prop) : Exit → St → Prop := fun e s => match e with
  | .goto _ => False
  | e => X e s
noncomputable def W (E : Pg) (nt : Nat) (inv : Nat → Option LI) (x : Code) : WT :=
  Code.rec (motive := fun _ => WT) (fun s N _ => N s) (wReg E nt) (wSeq E inv) (wCond E) (fun id _ ih s N X => ih s N (xb id N X)) (wLoop E inv)
    (fun _ _ _ _ _ _ _ _ _ => False) (fun j s _ X => X (.exit j) s) (fun _ ih s N X => ih s N (xs X)) (fun _ s N _ => N s) (fun _ _ _ _ => False) (fun s _ X => X .ret s) (fun _ _ _ _ => False) x
theorem W_seq (E : Pg) (nt : Nat) (inv : Nat → Option LI) (x y : Code) (s : St) (N : St → Prop) (X : Exit → St → Prop) : W E nt inv (.seq x y) s N X = match inv (100000 + firstReg y) with
    | none => W E nt inv x s (fun s => W E nt inv y s N X) X
    | some L => ∃ J : L.G → Prop, W E nt inv x s (fun s => Enter E L J s) X ∧ ∀ g, L.ok g → J g → W E nt inv y (stOf (L.sl g) (L.rw g)) N X := by
  show wSeq E inv x y (W E nt inv x) (W E nt inv y) s N X = _
  unfold wSeq
  cases inv (100000 + firstReg y) with
  | none => rfl
  | some L => simp only [inSt_eq]
theorem W_cond (E : Pg) (nt : Nat) (inv : Nat → Option LI) (c : Operand) (x y : Code) (s : St) (N : St → Prop) (X : Exit → St → Prop) : W E nt inv (.cond c x y) s N X = match ev E s.t c with
    | .bo v => (v = true → W E nt inv x s N X) ∧ (v = false → W E nt inv y s N X)
    | .anyb => (true = true → W E nt inv x s N X) ∧ (false = false → W E nt inv y s N X)
    | _ => False := rfl
theorem W_loop (E : Pg) (nt : Nat) (inv : Nat → Option LI) (c : Code) (s : St) (N : St → Prop) (X : Exit → St → Prop) : W E nt inv (.loop c) s N X = match inv (firstReg c) with
    | none => False
    | some L => ∃ J : L.G → Prop, Enter E L J s ∧ ∀ g, L.ok g → J g → W E nt inv c (stOf (L.sl g) (L.rw g)) (fun s => Again E L J g s) X := by
  show wLoop E inv c (W E nt inv c) s N X = _
  unfold wLoop
  cases inv (firstReg c) with
  | none => rfl
  | some L => simp only [inSt_eq]
end Go.Proofs.YtldlleoabbcpdaaDoor
/- How plain values stand in memory. -/
namespace Go.Proofs.YtldlleoabbcpdaaDoor
open Go.RowKit

def U16 (x : BitVec 16) : Int := x.toNat

structure Cx where
  Mu : Nat → Prop
  base : Nat
  fb : Nat
  ty : TypeId → Ty
  m : Nat → Option Row
  bl : Nat → Option Nat
  sv : Nat → Value
  w : World
  kp : Prop

def valOf (τ : Ty) (ds : List Value) : Value := match τ with
  | .agg _ _ _ => .agg ds.toArray
  | _ => ds.headD undef
/-- The entries of a map are just such as f tells, each once (Q: what an entry holds). -/
def MapOK (Q : AV → MapEntry → Prop) (kt et : Ty) (n : Nat) (f : Nat → AV) (d : Nat → Bool) (es : Array MapEntry) (clock : Nat) : Prop :=
  EntsOK Sh Cmp kt et n f ∧ keyT kt = true ∧ (∀ a, a < n → ∀ b, b < n → AEq (ekey f a) (ekey f b) → a = b) ∧
      (∀ e ∈ es.toList, ∃ i, i < n ∧ Q (f i) e) ∧ (∀ i, i < n → d i = true → ∃ e ∈ es.toList, Q (f i) e) ∧
      (∀ e ∈ es.toList, e.born < clock) ∧ (es.toList.map (·.born)).Nodup ∧
      (∃ ks : List Nat, ks.Nodup ∧ ks.length = es.size ∧ ∀ i ∈ ks, i < n ∧ ∃ e ∈ es.toList, Q (f i) e) ∧
      ∀ e ∈ es.toList, ∀ i j, i < n → j < n → Q (f i) e → Q (f j) e → i = j
/-- The cells of a flat value, whatever lies in memory. -/
def FlatC : AV → List Value → Prop
  | .bo x, cs => cs = [.bool x]
  | .u8 x, cs => cs = [.int .u8 (U8 x)]
  | .u16 x, cs => cs = [.int .u16 (U16 x)]
  | .u32 x, cs => cs = [.int .u32 (U32 x)]
  | .u64 x, cs => cs = [.int .u64 (U64 x)]
  | .i32 x, cs => cs = [.int .i32 x.toInt]
  | .i8 x, cs => cs = [.int .i8 x.toInt]
  | .i16 x, cs => cs = [.int .i16 x.toInt]
  | .nat k, cs => cs = [.int .i64 (k : Int)]
  | .int z, cs => cs = [.int .i64 z]
  | .str s, cs => cs = [.string ⟨s.toArray⟩]
  | .agg _ l f, cs => ∃ g : Nat → List Value, (∀ i, i < l → FlatC (f i) (g i)) ∧ cs = (List.range l).flatMap g
  | _, _ => False
def RB (a : AV) (v : Value) : Prop :=
  match a with
  | .agg u l f => ∃ cs : List Value, v = .agg cs.toArray ∧ FlatC (.agg u l f) cs
  | a => FlatC a [v]
def KB (a : AV) (e : MapEntry) : Prop := RB (a.at [0]) e.key ∧ RB (a.at [1]) e.val
/-- The cells of a plain value. -/
def R (c : Cx) : AV → List Value → Prop
  | .junk, _ => True
  | .und, cs => cs = [undef]
  | .bo x, cs => cs = [.bool x]
  | .u8 x, cs => cs = [.int .u8 (U8 x)]
  | .u16 x, cs => cs = [.int .u16 (U16 x)]
  | .u32 x, cs => cs = [.int .u32 (U32 x)]
  | .u64 x, cs => cs = [.int .u64 (U64 x)]
  | .i32 x, cs => cs = [.int .i32 x.toInt]
  | .i8 x, cs => cs = [.int .i8 x.toInt]
  | .i16 x, cs => cs = [.int .i16 x.toInt]
  | .nat k, cs => cs = [.int .i64 (k : Int)]
  | .int z, cs => cs = [.int .i64 z]
  | .str s, cs => cs = [.string ⟨s.toArray⟩]
  | .nilp, cs => cs = [.pointer none]
  | .nilm, cs => cs = [.map none]
  | .nilf, cs => cs = [.nilFunc]
  | .mpt kt et n f _ k, cs => ∃ d b, c.m k = some (.ob (.mp kt et n f d)) ∧ c.bl k = some b ∧ cs = [.map (some b)]
  | .itp k, cs => ∃ s pos b, c.m k = some (.ob (.it s pos)) ∧ c.bl k = some b ∧ cs = [.pointer (some ⟨b, 0, none⟩)]
  | .cmt k, cs => ∃ n b, c.m k = some (.ob (.cnt n)) ∧ c.bl k = some b ∧ cs = [.map (some b)]
  | .vmt k, cs => ∃ et n f b, c.m k = some (.ob (.vm et n f)) ∧ c.bl k = some b ∧ cs = [.map (some b)]
  | .fvm fr et n f, cs => ∃ b es clock, cs = [.map (some b)] ∧ b < c.w.heap.size ∧ ¬ c.Mu b ∧ (fr = true → c.fb ≤ b) ∧ c.w.heap[b]? = some (.map es clock) ∧ es.size = n ∧
      (∀ e ∈ es.toList, ∃ i : Nat, i < n ∧ e.key = .int .u32 (i : Int) ∧ R c (f i) e.val.cells.toList ∧ e.val = valOf et e.val.cells.toList) ∧ ∀ i, i < n → Sh et (f i) ∧ ∃ e ∈ es.toList, e.key = .int .u32 (i : Int)
  | .mit k, cs => ∃ kt et n f d s l cu b, c.m k = some (.ob (.mi kt et n f d s l cu)) ∧ c.bl k = some b ∧ cs = [.pointer (some ⟨b, 0, none⟩)]
  | .fmp fr kt et n f d, cs => ∃ b es clock, cs = [.map (some b)] ∧ b < c.w.heap.size ∧ ¬ c.Mu b ∧ (fr = true → c.fb ≤ b) ∧ c.w.heap[b]? = some (.map es clock) ∧ MapOK KB kt et n f d es clock
  | .fn f, cs => cs = [.func (.func f) #[] #[]]
  | .anyb, cs => ∃ b, cs = [.bool b]
  | .anym, cs => ∃ h, cs = [.map h]
  | .clo f nf n g, cs => ∃ u : Nat → Value, cs = [.func (.func f) ((List.range nf).map u).toArray ((List.range (n - nf)).map fun i => u (nf + i)).toArray] ∧ nf ≤ n ∧ ∀ i, i < n → R c (g i) [u i] ∧ (g i).noAgg = true
  | .gcap e k l, cs => ∃ n f A q, c.m k = some (.grow e n f) ∧ cs = [.slice A l q] ∧ l ≤ q ∧ q ≤ maxLen ∧ (n = 0 → c.sv k = .slice A 0 q)
  | .ptr τ' k p, cs => ∃ τ a b, c.m k = some (.var τ a) ∧ c.bl k = some b ∧ τ.inP p ∧ τ.at p = τ' ∧ cs = [.pointer (some ⟨b, τ.off p, none⟩)]
  | .ipt τ a, cs => ∃ b o ds, cs = [.pointer (some ⟨b, o, none⟩)] ∧ b < c.w.heap.size ∧ ¬ c.Mu b ∧ R c a ds ∧ Sh τ a ∧ c.w.rangeAt b o ds
  | .nils, cs => cs = [.slice none 0 0]
  | .imm fr et l f, cs => ∃ A q, cs = [.slice A l q] ∧ l ≤ q ∧ q ≤ maxLen ∧
      (0 < l → ∃ b o, A = some ⟨b, o, none⟩ ∧ b < c.w.heap.size ∧ ¬ c.Mu b ∧ (fr = true → c.fb ≤ b) ∧ ∀ i, i < l → Sh et (f i) ∧ ∃ ds, R c (f i) ds ∧ c.w.rangeAt b (o + i * et.size) ds)
  | .blt l f, cs => ∃ A, cs = [.slice A l l] ∧ l ≤ maxLen ∧
      (0 < l → ∃ b o, A = some ⟨b, o, none⟩ ∧ b < c.w.heap.size ∧ ¬ c.Mu b ∧ c.fb ≤ b ∧ ∀ i, i < l → Sh (.int .u8) (f i) ∧ ∃ ds, R c (f i) ds ∧ c.w.rangeAt b (o + i * (Ty.int .u8).size) ds)
  | .gsl e k l, cs => ∃ n f A q, c.m k = some (.grow e n f) ∧ l ≤ n ∧ cs = [.slice A l q] ∧ l ≤ q ∧ q ≤ maxLen ∧ (0 < l → ∃ ad, A = some ad) ∧ (n = l → c.sv k = .slice A l q)
  | .gpt τ e k l i p, cs => ∃ n f ad, c.m k = some (.grow e n f) ∧ l ≤ n ∧ cs = [.pointer (some ad)] ∧ (n = l → i < l ∧ (c.ty e).inP p ∧ (c.ty e).at p = τ ∧ ∃ b, c.bl k = some b ∧ ad = ⟨b, i * (c.ty e).size + (c.ty e).off p, none⟩)
  | .gsub e k al o l, cs => ∃ n f A q, c.m k = some (.grow e n f) ∧ al ≤ n ∧ cs = [.slice A l q] ∧ l ≤ q ∧ q ≤ maxLen ∧ o + l ≤ al ∧ (0 < l → ∃ ad, A = some ad ∧ (n = al → ∃ b, c.bl k = some b ∧ ad = ⟨b, o * (c.ty e).size, none⟩))
  | .sub et k p o l, cs => ∃ τ a b n g A q, c.m k = some (.var τ a) ∧ c.bl k = some b ∧ τ.inP p ∧ τ.at p = .agg true n g ∧ g 0 = et ∧ o + l ≤ n ∧ cs = [.slice A l q] ∧ l ≤ q ∧ (q ≤ maxLen ∧ q = n - o) ∧ (0 < l → A = some ⟨b, τ.off p + o * et.size, none⟩)
  | .spt et k p o l, cs => ∃ τ a b n g, c.m k = some (.var τ a) ∧ c.bl k = some b ∧ τ.inP p ∧ τ.at p = .agg true n g ∧ g 0 = et ∧ o + l ≤ n ∧ cs = [.pointer (some ⟨b, τ.off p + o * et.size, none⟩)]
  | .gspt e k al o l, cs => ∃ n f ad, c.m k = some (.grow e n f) ∧ al ≤ n ∧ cs = [.pointer (some ad)] ∧ (n = al → 0 < l ∧ o + l ≤ al ∧ ∃ b, c.bl k = some b ∧ ad = ⟨b, o * (c.ty e).size, none⟩)
  | .agg _ l f, cs => ∃ g : Nat → List Value, (∀ i, i < l → R c (f i) (g i)) ∧ cs = (List.range l).flatMap g
  | .tup l f, cs => ∃ (vs : Array Value) (g : Nat → List Value), cs = [.tuple vs] ∧ vs.size = l ∧ ∀ i, i < l → R c (f i) (g i) ∧ ∃ v, vs[i]? = some v ∧ match f i with
      | .agg _ _ _ => v = .agg (g i).toArray
      | .junk => True
      | _ => g i = [v]

/-- A slot's value. -/
def RV (c : Cx) : AV → Value → Prop
  | .junk, _ => True
  | .agg u l f, v => ∃ cs : List Value, v = .agg cs.toArray ∧ R c (.agg u l f) cs
  | a, v => R c a [v]

def Cx.bare : Cx := ⟨fun _ => False, 0, 0, fun _ => .no, fun _ => Option.none, fun _ => Option.none, fun _ => undef, default, False⟩
/-- What an entry of a map holds. -/
def KV (kt et : Ty) (a : AV) (e : MapEntry) : Prop :=
  RV Cx.bare (a.at [0]) e.key ∧ RV Cx.bare (a.at [1]) e.val
def ObOK (c : Cx) : Ob → Obj → Prop
  | .mp kt et n f d, o => ∃ es clock, o = .map es clock ∧ MapOK (KV kt et) kt et n f d es clock
  | .mi kt et n f d s l cu, o => (o = .mapIter none 0 #[] 0 ∧ n = 0 ∧ cu = none) ∨ ∃ mb es clock sa, o = .mapIter (some mb) clock sa clock ∧ mb < c.w.heap.size ∧ ¬ c.Mu mb ∧ c.w.heap[mb]? = some (.map es clock) ∧ MapOK KB kt et n f d es clock ∧
      (∀ e ∈ es.toList, sa.contains e.born = true → ∀ i, i < n → KB (f i) e → s i = true) ∧ (leftOf es sa).size ≤ l ∧ ∀ i, cu = some i → i < n ∧ ∃ e ∈ es.toList, ∃ sb : Array Nat, sa = sb.push e.born ∧ KB (f i) e
  | .it s pos, o => o = .stringIter ⟨s.toArray⟩ pos
  | .vm et n f, o => ∃ es clock, o = .map es clock ∧ es.size = n ∧ (∀ e ∈ es.toList, ∃ i : Nat, i < n ∧ e.key = .int .u32 (i : Int) ∧ R c (f i) e.val.cells.toList ∧ e.val = valOf et e.val.cells.toList) ∧ ∀ i, i < n → (Sh et (f i) ∧ Imd (f i)) ∧ ∃ e ∈ es.toList, e.key = .int .u32 (i : Int)
  | .cnt n, o => ∃ es clock, o = .map es clock ∧ es.size = n ∧ ∀ e ∈ es.toList, ∃ i : Nat, i < n ∧ e.key = .int .u32 (i : Int)
  | .put _, _ => False
def RowOK (c : Cx) (k : Nat) : Row → Prop
  | .ob o => ∃ b x, c.bl k = some b ∧ c.w.heap[b]? = some x ∧ ObOK c o x
  | .var τ a => ∃ b cs t, c.bl k = some b ∧ c.w.heap[b]? = some (.cells cs t (0, 0)) ∧ R c a cs.toList ∧ Sh τ a
  | .grow e n f => ∃ g : Nat → List Value, c.w.ownsRow c.base e (c.ty e).size (c.sv k) n ((List.range n).flatMap g) ∧ (c.sv k).ownBlock = c.bl k ∧ ∀ i, i < n → R c (f i) (g i) ∧ Sh (c.ty e) (f i)

structure MemOK (c : Cx) : Prop where
  rows : ∀ k r, c.m k = some r → RowOK c k r
  inj : ∀ k k' r r' b, c.m k = some r → c.m k' = some r' → c.bl k = some b → c.bl k' = some b → k = k'
  mu : ∀ k r b, c.m k = some r → c.bl k = some b → c.Mu b ∧ c.base ≤ b ∧ (8 ≤ k → c.fb ≤ b)
  bf : c.base ≤ c.fb

def IsMap (w : World) (b : Nat) : Prop := ∃ es clock, w.heap[b]? = some (.map es clock)
/-- What was told in the first still holds in the second. -/
structure Stab (c c' : Cx) : Prop where
  ty : c'.ty = c.ty
  base : c'.base ≤ c.base
  fb : c'.fb = c.fb
  var : ∀ k τ a, c.m k = some (.var τ a) → (∃ a', c'.m k = some (.var τ a')) ∧ c'.bl k = c.bl k
  grow : ∀ k e n f, c.m k = some (.grow e n f) → ∃ n' f', c'.m k = some (.grow e n' f') ∧ n ≤ n' ∧ (n' = n → c'.sv k = c.sv k ∧ c'.bl k = c.bl k)
  ob : ∀ k o, c.m k = some (.ob o) → (∃ o', c'.m k = some (.ob o') ∧ o.like o') ∧ c'.bl k = c.bl k
  old : ∀ b, b < c.w.heap.size → ¬ c.Mu b → ¬ c'.Mu b ∧ (∀ o, c'.w.cell? ⟨b, o, none⟩ = c.w.cell? ⟨b, o, none⟩) ∧ (b < c.fb ∨ IsMap c.w b → c'.w.heap[b]? = c.w.heap[b]?)
  size : c.w.heap.size ≤ c'.w.heap.size

theorem same_old {w w' : World} {b : Nat} {p : Prop} (h : w'.heap[b]? = w.heap[b]?) : (∀ o, w'.cell? ⟨b, o, none⟩ = w.cell? ⟨b, o, none⟩) ∧ (p → w'.heap[b]? = w.heap[b]?) :=
  ⟨fun _ => World.cell?_of_block (w := w) h, fun _ => h⟩
theorem rangeAt_of_cells {w w' : World} {b o : Nat} {cs : List Value} (h : w.rangeAt b o cs) (hb : ∀ o, w'.cell? ⟨b, o, none⟩ = w.cell? ⟨b, o, none⟩) : w'.rangeAt b o cs :=
  fun j v hj => (hb _).trans (h j v hj)
theorem rangeAt_of_heap {w w' : World} {b o : Nat} {cs : List Value} (h : w.rangeAt b o cs) (hb : w'.heap[b]? = w.heap[b]?) : w'.rangeAt b o cs :=
  fun j v hj => (World.cell?_of_block (w := w) hb).trans (h j v hj)

theorem R_stab {c c' : Cx} (hs : Stab c c') : ∀ {a : AV} {cs : List Value}, R c a cs → R c' a cs := by
  intro a
  induction a with
  | ptr τ' k p =>
    rintro cs ⟨τ, a, b, hm, hb, hp, hat, rfl⟩
    obtain ⟨⟨a', hm'⟩, hb'⟩ := hs.var k τ a hm
    exact ⟨τ, a', b, hm', hb'.trans hb, hp, hat, rfl⟩
  | ipt τ a ih =>
    rintro cs ⟨b, o, ds, rfl, hlt, hmu, hr, hsh, hrg⟩
    obtain ⟨hmu', hb, _⟩ := hs.old b hlt hmu
    exact ⟨b, o, ds, rfl, Nat.lt_of_lt_of_le hlt hs.size, hmu', ih hr, hsh, rangeAt_of_cells hrg hb⟩
  | blt l f ih =>
    rintro cs ⟨A, rfl, h2, h3⟩
    refine ⟨A, rfl, h2, fun hl => ?_⟩
    obtain ⟨b, o, rfl, hlt, hmu, hfr, hi⟩ := h3 hl
    obtain ⟨hmu', hb, _⟩ := hs.old b hlt hmu
    refine ⟨b, o, rfl, Nat.lt_of_lt_of_le hlt hs.size, hmu', hs.fb ▸ hfr, fun i h => ?_⟩
    obtain ⟨hsh, ds, hr, hrg⟩ := hi i h
    exact ⟨hsh, ds, ih i hr, rangeAt_of_cells hrg hb⟩
  | imm fr et l f ih =>
    rintro cs ⟨A, q, rfl, h1, h2, h3⟩
    refine ⟨A, q, rfl, h1, h2, fun hl => ?_⟩
    obtain ⟨b, o, rfl, hlt, hmu, hfr, hi⟩ := h3 hl
    obtain ⟨hmu', hb, _⟩ := hs.old b hlt hmu
    refine ⟨b, o, rfl, Nat.lt_of_lt_of_le hlt hs.size, hmu', fun h => hs.fb ▸ hfr h, fun i h => ?_⟩
    obtain ⟨hsh, ds, hr, hrg⟩ := hi i h
    exact ⟨hsh, ds, ih i hr, rangeAt_of_cells hrg hb⟩
  | mpt kt et n f j k =>
    rintro cs ⟨d, b, hm, hb, rfl⟩
    obtain ⟨⟨o', hm', hl⟩, hb'⟩ := hs.ob k _ hm
    cases o' with
    | mp kt' et' n' f' d' =>
      obtain ⟨rfl, rfl, rfl, rfl⟩ := hl
      exact ⟨d', b, hm', hb'.trans hb, rfl⟩
    | _ => exact hl.elim
  | vmt k =>
    rintro cs ⟨et, n, f, b, hm, hb, rfl⟩
    obtain ⟨⟨o', hm', hl⟩, hb'⟩ := hs.ob k _ hm
    cases o' with
    | vm et' n' f' => exact ⟨et', n', f', b, hm', hb'.trans hb, rfl⟩
    | _ => exact hl.elim
  | fvm fr et n f ih =>
    rintro cs ⟨b, es, clock, rfl, hlt, hmu, hfr, hh, hsz, hup, hdn⟩
    obtain ⟨hmu', _, h3⟩ := hs.old b hlt hmu
    exact ⟨b, es, clock, rfl, Nat.lt_of_lt_of_le hlt hs.size, hmu', fun h => hs.fb ▸ hfr h, (h3 (.inr ⟨es, clock, hh⟩)).trans hh, hsz, fun e he => by
      obtain ⟨i, hi, hk, hr, hv⟩ := hup e he
      exact ⟨i, hi, hk, ih i hr, hv⟩, hdn⟩
  | mit k =>
    rintro cs ⟨kt, et, n, f, d, s, l, cu, b, hm, hb, rfl⟩
    obtain ⟨⟨o', hm', hl⟩, hb'⟩ := hs.ob k _ hm
    cases o' with
    | mi kt' et' n' f' d' s' l' cu' => exact ⟨kt', et', n', f', d', s', l', cu', b, hm', hb'.trans hb, rfl⟩
    | _ => exact hl.elim
  | fmp fr kt et n f d =>
    rintro cs ⟨b, es, clock, rfl, hlt, hmu, hfr, hh, hok⟩
    obtain ⟨hmu', _, h3⟩ := hs.old b hlt hmu
    exact ⟨b, es, clock, rfl, Nat.lt_of_lt_of_le hlt hs.size, hmu', fun h => hs.fb ▸ hfr h, (h3 (.inr ⟨es, clock, hh⟩)).trans hh, hok⟩
  | cmt k =>
    rintro cs ⟨n, b, hm, hb, rfl⟩
    obtain ⟨⟨o', hm', hl⟩, hb'⟩ := hs.ob k _ hm
    cases o' with
    | cnt n' => exact ⟨n', b, hm', hb'.trans hb, rfl⟩
    | _ => exact hl.elim
  | itp k =>
    rintro cs ⟨s, pos, b, hm, hb, rfl⟩
    obtain ⟨⟨o', hm', hl⟩, hb'⟩ := hs.ob k _ hm
    cases o' with
    | it s' pos' => exact ⟨s', pos', b, hm', hb'.trans hb, rfl⟩
    | _ => exact hl.elim
  | gcap e k l =>
    rintro cs ⟨n, f, A, q, hm, rfl, hq1, hq2, hv⟩
    obtain ⟨n', f', hm', hn, hsv⟩ := hs.grow k e n f hm
    exact ⟨n', f', A, q, hm', rfl, hq1, hq2, fun h => by
      have : n = 0 := by omega
      rw [(hsv (by omega)).1]; exact hv this⟩
  | gsl e k l =>
    rintro cs ⟨n, f, A, q, hm, hl, rfl, hq1, hq2, hA, hv⟩
    obtain ⟨n', f', hm', hn, hsv⟩ := hs.grow k e n f hm
    exact ⟨n', f', A, q, hm', Nat.le_trans hl hn, rfl, hq1, hq2, hA, fun h => by
      have : n = l := by omega
      rw [(hsv (by omega)).1]; exact hv this⟩
  | gpt τ e k l i p =>
    rintro cs ⟨n, f, A, hm, hl, rfl, hv⟩
    obtain ⟨n', f', hm', hn, hsv⟩ := hs.grow k e n f hm
    refine ⟨n', f', A, hm', Nat.le_trans hl hn, rfl, fun h => ?_⟩
    have h1 : n = l := by omega
    obtain ⟨hi, hp, hat, b, hb, hA⟩ := hv h1
    rw [hs.ty]
    exact ⟨hi, hp, hat, b, ((hsv (by omega)).2).trans hb, hA⟩
  | gsub e k al o l =>
    rintro cs ⟨n, f, A, q, hm, hl, rfl, hq, hq2, ho, hv⟩
    obtain ⟨n', f', hm', hn, hsv⟩ := hs.grow k e n f hm
    refine ⟨n', f', A, q, hm', Nat.le_trans hl hn, rfl, hq, hq2, ho, fun h0 => ?_⟩
    obtain ⟨ad, hA, hh⟩ := hv h0
    refine ⟨ad, hA, fun h => ?_⟩
    obtain ⟨b, hb, hA⟩ := hh (by omega)
    rw [hs.ty]
    exact ⟨b, ((hsv (by omega)).2).trans hb, hA⟩
  | sub et k p o l =>
    rintro cs ⟨τ, a, b, n, e, A, q, hm, hb, hp, hat, he, ho, rfl, h1, h2, hA⟩
    obtain ⟨⟨a', hm'⟩, hb'⟩ := hs.var k τ a hm
    exact ⟨τ, a', b, n, e, A, q, hm', hb'.trans hb, hp, hat, he, ho, rfl, h1, h2, hA⟩
  | spt et k p o l =>
    rintro cs ⟨τ, a, b, n, e, hm, hb, hp, hat, he, ho, rfl⟩
    obtain ⟨⟨a', hm'⟩, hb'⟩ := hs.var k τ a hm
    exact ⟨τ, a', b, n, e, hm', hb'.trans hb, hp, hat, he, ho, rfl⟩
  | gspt e k al o l =>
    rintro cs ⟨n, f, ad, hm, hl, rfl, hv⟩
    obtain ⟨n', f', hm', hn, hsv⟩ := hs.grow k e n f hm
    refine ⟨n', f', ad, hm', Nat.le_trans hl hn, rfl, fun h => ?_⟩
    obtain ⟨h0, hol, b, hb, hA⟩ := hv (by omega)
    rw [hs.ty]
    exact ⟨h0, hol, b, ((hsv (by omega)).2).trans hb, hA⟩
  | agg u l f ih =>
    rintro cs ⟨g, hg, rfl⟩
    exact ⟨g, fun i hi => ih i (hg i hi), rfl⟩
  | clo f nf n g ih =>
    rintro cs ⟨u, rfl, hn, hg⟩
    exact ⟨u, rfl, hn, fun i hi => ⟨ih i (hg i hi).1, (hg i hi).2⟩⟩
  | tup l f ih =>
    rintro cs ⟨vs, g, rfl, hsz, hg⟩
    exact ⟨vs, g, rfl, hsz, fun i hi => ⟨ih i (hg i hi).1, (hg i hi).2⟩⟩
  | _ => exact fun h => h

theorem RV_stab {c c' : Cx} (hs : Stab c c') {a : AV} {v : Value} (h : RV c a v) : RV c' a v := by
  cases a with
  | junk => trivial
  | agg u l f =>
    obtain ⟨cs, rfl, hr⟩ := h
    exact ⟨cs, rfl, R_stab hs hr⟩
  | _ => exact R_stab (a := _) hs h

/-! ### Lists of cells behind one another -/
theorem sumN_congr {f g : Nat → Nat} : ∀ (n : Nat), (∀ i, i < n → f i = g i) → sumN f n = sumN g n
  | 0, _ => rfl
  | n + 1, h => by rw [sumN, sumN, sumN_congr n (fun i hi => h i (by omega)), h n (by omega)]
theorem sumN_const (s : Nat) : ∀ n, sumN (fun _ => s) n = n * s
  | 0 => by simp [sumN]
  | n + 1 => by rw [sumN, sumN_const s n, Nat.succ_mul]
theorem sumN_le {f : Nat → Nat} {i : Nat} : ∀ {n : Nat}, i < n → sumN f i + f i ≤ sumN f n
  | 0, h => by omega
  | n + 1, h => by
    rw [sumN]
    rcases Nat.lt_succ_iff_lt_or_eq.1 h with h | rfl
    · have := sumN_le (f := f) h; omega
    · omega
theorem fm_succ (g : Nat → List Value) (n : Nat) : (List.range (n + 1)).flatMap g = (List.range n).flatMap g ++ g n := by
  rw [List.range_succ, List.flatMap_append]; simp
theorem fm_len (g : Nat → List Value) : ∀ n, ((List.range n).flatMap g).length = sumN (fun i => (g i).length) n
  | 0 => rfl
  | n + 1 => by rw [fm_succ, List.length_append, fm_len g n, sumN]
theorem fm_congr {g h : Nat → List Value} : ∀ (n : Nat), (∀ i, i < n → g i = h i) → (List.range n).flatMap g = (List.range n).flatMap h
  | 0, _ => rfl
  | n + 1, hh => by rw [fm_succ, fm_succ, fm_congr n (fun i hi => hh i (by omega)), hh n (by omega)]
theorem fm_split (g : Nat → List Value) (i : Nat) : ∀ (n : Nat), i < n → ∃ post, (List.range n).flatMap g = (List.range i).flatMap g ++ g i ++ post
  | 0, h => by omega
  | n + 1, h => by
    rcases Nat.lt_succ_iff_lt_or_eq.1 h with h1 | rfl
    · obtain ⟨post, hp⟩ := fm_split g i n h1
      exact ⟨post ++ g n, by rw [fm_succ, hp]; simp⟩
    · exact ⟨[], by rw [fm_succ]; simp⟩
theorem fm_upd (g : Nat → List Value) (i : Nat) (x : List Value) : ∀ (n : Nat), i < n →
    (List.range n).flatMap (fun j => if j = i then x else g j) = ((List.range n).flatMap g).take (sumN (fun j => (g j).length) i) ++ x ++ ((List.range n).flatMap g).drop (sumN (fun j => (g j).length) i + (g i).length)
  | 0, h => by omega
  | n + 1, h => by
    rw [fm_succ, fm_succ]
    rcases Nat.lt_succ_iff_lt_or_eq.1 h with h1 | rfl
    · have hle := sumN_le (f := fun j => (g j).length) h1
      have hgl := fm_len g n
      rw [fm_upd g i x n h1, if_neg (by omega)]
      rw [List.take_append_of_le_length (by omega), List.drop_append_of_le_length (by omega), List.append_assoc _ _ (g n)]
    · rw [if_pos rfl]
      have hl := fm_len g i
      rw [fm_congr (h := g) i (fun j hj => if_neg (by omega))]
      rw [List.take_append_of_le_length (by omega), List.take_of_length_le (by omega), ← hl, List.drop_append, List.drop_of_length_le (by omega)]
      simp

/-! ### A value has as many cells as its type -/
theorem Sh_agg {τ : Ty} {u : Bool} {l : Nat} {g : Nat → AV} (h : Sh τ (.agg u l g)) : ∃ f, τ = .agg u l f ∧ ∀ i, i < l → Sh (el u f i) (g i) := by
  cases τ with
  | agg u' n f => obtain ⟨rfl, rfl, h⟩ := h; exact ⟨f, rfl, h⟩
  | int k => cases k <;> exact h.elim
  | _ => exact h.elim
theorem size_agg (u : Bool) (l : Nat) (f : Nat → Ty) : (Ty.agg u l f).size = sumN (fun i => (el u f i).size) l := by
  cases u with
  | true => rw [Ty.size]; exact (sumN_const _ l).symm
  | false => rw [Ty.size]; rfl
theorem off_agg (u : Bool) (l : Nat) (f : Nat → Ty) (i : Nat) (p : List Nat) : (Ty.agg u l f).off (i :: p) = sumN (fun j => (el u f j).size) i + (el u f i).off p := by
  cases u with
  | true => rw [Ty.off]; show _ = sumN (fun _ => (f 0).size) i + _; rw [sumN_const]; rfl
  | false => rw [Ty.off]; rfl
theorem at_agg (u : Bool) (l : Nat) (f : Nat → Ty) (i : Nat) (p : List Nat) : (Ty.agg u l f).at (i :: p) = (el u f i).at p := by
  cases u <;> rfl
theorem inP_agg (u : Bool) (l : Nat) (f : Nat → Ty) (i : Nat) (p : List Nat) : (Ty.agg u l f).inP (i :: p) = (i < l ∧ (el u f i).inP p) := by
  cases u <;> rfl
theorem at_nil (τ : Ty) : τ.at [] = τ := by cases τ <;> rfl
theorem off_nil (τ : Ty) : τ.off [] = 0 := by
  cases τ with
  | agg u l f => cases u <;> rfl
  | _ => rfl
theorem inP_nil (τ : Ty) : τ.inP [] := by
  cases τ with
  | agg u l f => cases u <;> trivial
  | _ => trivial
theorem avat_nil (a : AV) : a.at [] = a := by cases a <;> rfl
theorem R_facts {c : Cx} : ∀ {a : AV} {τ : Ty} {cs : List Value}, R c a cs → Sh τ a → cs.length = τ.size ∧ ∀ v ∈ cs, v.oneCell' = true := by
  intro a
  induction a with
  | agg u l f ih =>
    intro τ cs hr hs
    obtain ⟨t, rfl, ht⟩ := Sh_agg hs
    obtain ⟨g, hg, rfl⟩ := hr
    constructor
    · rw [fm_len, size_agg]
      exact sumN_congr l (fun i hi => (ih i (hg i hi) (ht i hi)).1)
    · intro v hv
      obtain ⟨i, hi, hvi⟩ := List.mem_flatMap.1 hv
      have hi : i < l := by simpa using hi
      exact (ih i (hg i hi) (ht i hi)).2 v hvi
  | ptr τ' k p =>
    intro τ cs hr hs
    obtain ⟨_, _, _, _, _, _, _, rfl⟩ := hr
    cases τ with
    | pt => simp [Ty.size, Value.oneCell']
    | int k => cases k <;> exact hs.elim
    | _ => exact hs.elim
  | mpt _ _ _ _ _ _ =>
    intro τ cs hr hs
    obtain ⟨_, _, _, _, rfl⟩ := hr
    cases τ with
    | mp _ _ => simp [Ty.size, Value.oneCell']
    | int k => cases k <;> exact hs.elim
    | _ => exact hs.elim
  | cmt _ =>
    intro τ cs hr hs
    obtain ⟨_, _, _, _, rfl⟩ := hr
    cases τ with
    | mp _ _ => simp [Ty.size, Value.oneCell']
    | int k => cases k <;> exact hs.elim
    | _ => exact hs.elim
  | itp _ =>
    intro τ cs hr hs
    cases τ with
    | int k => cases k <;> exact hs.elim
    | _ => exact hs.elim
  | mit _ =>
    intro τ cs hr hs
    cases τ with
    | int k => cases k <;> exact hs.elim
    | _ => exact hs.elim
  | vmt _ =>
    intro τ cs hr hs
    obtain ⟨_, _, _, _, _, _, rfl⟩ := hr
    cases τ with
    | mp _ _ => simp [Ty.size, Value.oneCell']
    | int k => cases k <;> exact hs.elim
    | _ => exact hs.elim
  | fvm _ _ _ _ _ =>
    intro τ cs hr hs
    obtain ⟨_, _, _, rfl, _⟩ := hr
    cases τ with
    | mp _ _ => simp [Ty.size, Value.oneCell']
    | int k => cases k <;> exact hs.elim
    | _ => exact hs.elim
  | fmp _ _ _ _ _ _ =>
    intro τ cs hr hs
    obtain ⟨_, _, _, rfl, _⟩ := hr
    cases τ with
    | mp _ _ => simp [Ty.size, Value.oneCell']
    | int k => cases k <;> exact hs.elim
    | _ => exact hs.elim
  | anym =>
    intro τ cs hr hs
    obtain ⟨_, rfl⟩ := hr
    cases τ with
    | mp _ _ => simp [Ty.size, Value.oneCell']
    | int k => cases k <;> exact hs.elim
    | _ => exact hs.elim
  | ipt τ' a ih =>
    intro τ cs hr hs
    obtain ⟨_, _, _, rfl, _⟩ := hr
    cases τ with
    | pt => simp [Ty.size, Value.oneCell']
    | int k => cases k <;> exact hs.elim
    | _ => exact hs.elim
  | imm fr et l f ih =>
    intro τ cs hr hs
    obtain ⟨_, _, rfl, _⟩ := hr
    cases τ with
    | sl e => simp [Ty.size, Value.oneCell']
    | int k => cases k <;> exact hs.elim
    | _ => exact hs.elim
  | gsl e k l =>
    intro τ cs hr hs
    obtain ⟨_, _, _, _, _, _, rfl, _⟩ := hr
    cases τ with
    | sl e => simp [Ty.size, Value.oneCell']
    | int k => cases k <;> exact hs.elim
    | _ => exact hs.elim
  | gsub e k al o l =>
    intro τ cs hr hs
    obtain ⟨_, _, _, _, _, _, rfl, _⟩ := hr
    cases τ with
    | sl e => simp [Ty.size, Value.oneCell']
    | int k => cases k <;> exact hs.elim
    | _ => exact hs.elim
  | sub et k p o l =>
    intro τ cs hr hs
    obtain ⟨_, _, _, _, _, _, _, _, _, _, _, _, _, rfl, _⟩ := hr
    cases τ with
    | sl e => simp [Ty.size, Value.oneCell']
    | int k => cases k <;> exact hs.elim
    | _ => exact hs.elim
  | _ =>
    intro τ cs hr hs
    first
      | (cases τ with
         | int k => cases k <;> first | exact hs.elim | (rw [show cs = _ from hr]; simp [Ty.size, Value.oneCell'])
         | _ => first | exact hs.elim | (rw [show cs = _ from hr]; simp [Ty.size, Value.oneCell']))
theorem R_len {c : Cx} {a : AV} {τ : Ty} {cs : List Value} (h : R c a cs) (hs : Sh τ a) : cs.length = τ.size := (R_facts h hs).1
theorem R_one {c : Cx} {a : AV} {τ : Ty} {cs : List Value} (h : R c a cs) (hs : Sh τ a) : ∀ v ∈ cs, v.oneCell' = true := (R_facts h hs).2

/-! ### Parts -/
theorem R_at {c : Cx} : ∀ (p : List Nat) {a : AV} {τ : Ty} {cs : List Value}, R c a cs → Sh τ a → τ.inP p →
    Sh (τ.at p) (a.at p) ∧ ∃ pre post ds, cs = pre ++ ds ++ post ∧ pre.length = τ.off p ∧ R c (a.at p) ds
  | [], a, τ, cs, hr, hs, _ => by
    rw [at_nil, avat_nil]
    exact ⟨hs, [], [], cs, by simp, (off_nil τ).symm, hr⟩
  | i :: p, a, τ, cs, hr, hs, hp => by
    cases τ with
    | agg u n t =>
      rw [inP_agg] at hp
      obtain ⟨hi, hp⟩ := hp
      cases a with
      | agg u' l f =>
        obtain ⟨rfl, rfl, hs⟩ := hs
        obtain ⟨g, hg, rfl⟩ := hr
        obtain ⟨h1, pre, post, ds, hd, hl, hr⟩ := R_at p (hg i hi) (hs i hi) hp
        obtain ⟨post', hpost⟩ := fm_split g i n hi
        rw [at_agg]
        refine ⟨h1, (List.range i).flatMap g ++ pre, post ++ post', ds, by rw [hpost, hd]; simp, ?_, hr⟩
        rw [List.length_append, fm_len, hl, off_agg]
        congr 1
        exact sumN_congr i (fun j hj => R_len (hg j (by omega)) (hs j (by omega)))
      | _ => exact hs.elim
    | _ => exact hp.elim
theorem updA_eq {f : Nat → AV} {i : Nat} {v : AV} {l : Nat} {t : Ty} (hf : ∀ j, j < l → Sh t (f j)) (hv : Sh t v) : ∀ j, j < l → updA f i v j = if j = i then v else f j := by
  intro j hj
  have hfj := hf j hj
  cases v with
  | u8 x =>
    cases t with
    | int k => cases k <;> first | exact hv.elim | (cases hfe : f j <;> rw [hfe] at hfj <;> first | exact hfj.elim | (simp only [updA, hfe, asU8]; split <;> rfl))
    | _ => exact hv.elim
  | u16 x =>
    cases t with
    | int k => cases k <;> first | exact hv.elim | (cases hfe : f j <;> rw [hfe] at hfj <;> first | exact hfj.elim | (simp only [updA, hfe, asU16]; split <;> rfl))
    | _ => exact hv.elim
  | u32 x =>
    cases t with
    | int k => cases k <;> first | exact hv.elim | (cases hfe : f j <;> rw [hfe] at hfj <;> first | exact hfj.elim | (simp only [updA, hfe, asU32]; split <;> rfl))
    | _ => exact hv.elim
  | u64 x =>
    cases t with
    | int k => cases k <;> first | exact hv.elim | (cases hfe : f j <;> rw [hfe] at hfj <;> first | exact hfj.elim | (simp only [updA, hfe, asU64]; split <;> rfl))
    | _ => exact hv.elim
  | bo x =>
    cases t with
    | bo => cases hfe : f j <;> rw [hfe] at hfj <;> first | exact hfj.elim | (simp only [updA, hfe, asB]; split <;> rfl)
    | int k => cases k <;> exact hv.elim
    | _ => exact hv.elim
  | _ => rfl
theorem updU_eq {u : Bool} {f : Nat → AV} {i : Nat} {v : AV} {l : Nat} {t : Nat → Ty} (hf : ∀ j, j < l → Sh (el u t j) (f j)) (hv : Sh (el u t i) v) : ∀ j, j < l → updU u f i v j = if j = i then v else f j := by
  cases u with
  | true => exact updA_eq (t := t 0) hf hv
  | false =>
    intro j _
    show (bif Nat.beq j i then v else f j) = _
    by_cases h : j = i
    · subst h; simp
    · have : Nat.beq j i = false := by rw [← Bool.not_eq_true, Nat.beq_eq]; exact h
      rw [this, if_neg h]; rfl
theorem splice_mid (A B post ds : List Value) (o : Nat) (h : o + ds.length ≤ B.length) :
    (A ++ B ++ post).take A.length ++ (B.take o ++ ds ++ B.drop (o + ds.length)) ++ (A ++ B ++ post).drop (A.length + B.length) = (A ++ B ++ post).take (A.length + o) ++ ds ++ (A ++ B ++ post).drop (A.length + o + ds.length) := by
  have e1 : (A ++ B ++ post).take A.length = A := by rw [List.append_assoc, List.take_left]
  have e2 : (A ++ B ++ post).drop (A.length + B.length) = post := by
    rw [← List.length_append, List.drop_left]
  have e3 : (A ++ B ++ post).take (A.length + o) = A ++ B.take o := by
    rw [List.append_assoc, List.take_append, List.take_of_length_le (by omega), List.take_append_of_le_length (by omega), show A.length + o - A.length = o by omega]
  have e4 : (A ++ B ++ post).drop (A.length + o + ds.length) = B.drop (o + ds.length) ++ post := by
    rw [List.append_assoc, List.drop_append, List.drop_of_length_le (by omega), List.nil_append, List.drop_append_of_le_length (by omega), show A.length + o + ds.length - A.length = o + ds.length by omega]
  rw [e1, e2, e3, e4]; simp
/-- A part is another one. -/
theorem R_upd {c : Cx} : ∀ (p : List Nat) {a v : AV} {τ : Ty} {cs ds : List Value}, R c a cs → Sh τ a → τ.inP p → R c v ds → Sh (τ.at p) v →
    Sh τ (a.upd p v) ∧ R c (a.upd p v) (cs.take (τ.off p) ++ ds ++ cs.drop (τ.off p + ds.length))
  | [], a, v, τ, cs, ds, hr, hs, _, hv, hsv => by
    have e : a.upd [] v = v := by cases a <;> rfl
    rw [at_nil] at hsv
    rw [e, off_nil, Nat.zero_add, List.take_zero, List.nil_append, R_len hv hsv, ← R_len hr hs, List.drop_length, List.append_nil]
    exact ⟨hsv, hv⟩
  | i :: p, a, v, τ, cs, ds, hr, hs, hp, hv, hsv => by
    cases τ with
    | agg u n t =>
      rw [inP_agg] at hp
      rw [at_agg] at hsv
      obtain ⟨hi, hp⟩ := hp
      cases a with
      | agg u' l f =>
        obtain ⟨rfl, rfl, hs⟩ := hs
        obtain ⟨g, hg, rfl⟩ := hr
        obtain ⟨h1, h2⟩ := R_upd p (hg i hi) (hs i hi) hp hv hsv
        have he := updU_eq hs h1
        have hlen : ∀ j, j < n → (g j).length = (el u t j).size := fun j hj => R_len (hg j hj) (hs j hj)
        refine ⟨⟨rfl, rfl, fun j hj => ?_⟩, fun j => if j = i then (g i).take ((el u t i).off p) ++ ds ++ (g i).drop ((el u t i).off p + ds.length) else g j, fun j hj => ?_, ?_⟩
        · rw [he j hj]
          by_cases h : j = i
          · subst h; rw [if_pos rfl]; exact h1
          · rw [if_neg h]; exact hs j hj
        · rw [he j hj]
          by_cases h : j = i
          · subst h; simp only [if_true]; exact h2
          · simp only [if_neg h]; exact hg j hj
        · rw [fm_upd g i _ n hi, off_agg, sumN_congr (f := fun j => (el u t j).size) (g := fun j => (g j).length) i (fun j hj => (hlen j (by omega)).symm)]
          obtain ⟨post, hpost⟩ := fm_split g i n hi
          have hl2 : (g i).length = (el u t i).size := hlen i hi
          have hle : (el u t i).off p + ds.length ≤ (g i).length := by
            obtain ⟨_, pre, post, es, hcut, hpl, hre⟩ := R_at p (hg i hi) (hs i hi) hp
            have h3 := R_len hv hsv
            have h4 := R_len hre (by assumption)
            rw [hcut]; simp; omega
          have hL : ((List.range i).flatMap g).length = sumN (fun j => (g j).length) i := fm_len g i
          rw [hpost, ← hL]
          exact (splice_mid _ _ _ _ _ hle).symm
      | _ => exact hs.elim
    | _ => exact hp.elim
end Go.Proofs.YtldlleoabbcpdaaDoor
/- Arithmetic on plain values is the model's. -/
namespace Go.Proofs.YtldlleoabbcpdaaDoor
open Go.RowKit

theorem uwrap {k : IntKind} (hk : k.signed = false) (n : Int) : k.wrap n = n % (2 ^ k.bits : Int) := by
  unfold IntKind.wrap; simp [hk]
theorem uwrapN {k : IntKind} (hk : k.signed = false) (n : Nat) : k.wrap (n : Int) = ((BitVec.ofNat k.bits n).toNat : Int) := by
  rw [uwrap hk, BitVec.toNat_ofNat]
  push_cast; rfl
theorem uwrapI {k : IntKind} (hk : k.signed = false) (n : Int) : k.wrap n = ((BitVec.ofInt k.bits n).toNat : Int) := by
  rw [uwrap hk, BitVec.toNat_ofInt]
  have h : (0 : Int) < 2 ^ k.bits := Int.pow_pos (by decide)
  have h2 : ((2 ^ k.bits : Nat) : Int) = 2 ^ k.bits := by push_cast; rfl
  rw [h2, Int.toNat_of_nonneg (Int.emod_nonneg _ (by omega))]
theorem iwrap {n : Int} (h : I64 n) : IntKind.i64.wrap n = n := IntWalk.i64_in n h

section
variable {P : Program} {c : Cx} {w : World} {t : TypeId}
/-- The operation yields a value that is told by a plain one. -/
def Yld (P : Program) (c : Cx) (w : World) (s : Sem Value) (r : AV) : Prop := ∃ z, s.run P w = .ok z w ∧ RV c r z
theorem yld_pure {r : AV} {z : Value} (h : RV c r z) : Yld P c w (pure z) r := ⟨z, rfl, h⟩

theorem ofInt_toNat {n : Nat} (x : BitVec n) : BitVec.ofInt n (x.toNat : Int) = x := by simp
theorem word_bin {k : IntKind} (hk : k.signed = false) {Rk : BitVec k.bits → AV} (hR : ∀ z, RV c (Rk z) (.int k (z.toNat : Int))) {op : BinOp} {x y : BitVec k.bits} {K : AV → Prop}
    (h : cmpB op x y Rk K) : ∃ r, K r ∧ Yld P c w (binOp op t (.int k (x.toNat : Int)) (.int k (y.toNat : Int))) r := by
  have e0 : ∀ z : BitVec k.bits, ((z.toNat : Nat) : Int) % (2 ^ k.bits : Int) = (z.toNat : Int) := fun z => by
    have h2 : ((2 ^ k.bits : Nat) : Int) = 2 ^ k.bits := by push_cast; rfl
    rw [← h2]; exact Int.emod_eq_of_lt (by omega) (by have := z.isLt; omega)
  have hlt : ∀ z : BitVec k.bits, 0 ≤ (z.toNat : Int) := fun z => by omega
  have hz : ∀ (z : BitVec k.bits) (n : Int), n = (z.toNat : Int) → Value.int k n = .int k (z.toNat : Int) := fun z n h => by rw [h]
  cases op <;> simp only [cmpB] at h <;> try exact h.elim
  case add =>
    refine ⟨_, h, ?_⟩
    simp only [binOp, Op.intArith, ne_eq, not_true_eq_false, if_false]
    refine yld_pure ?_
    rw [show (x.toNat : Int) + (y.toNat : Int) = ((x.toNat + y.toNat : Nat) : Int) by push_cast; rfl, uwrapN hk, BitVec.ofNat_add, BitVec.ofNat_toNat, BitVec.ofNat_toNat, BitVec.setWidth_eq, BitVec.setWidth_eq]
    exact hR (x + y)
  case sub =>
    refine ⟨_, h, ?_⟩
    simp only [binOp, Op.intArith, ne_eq, not_true_eq_false, if_false]
    refine yld_pure ?_
    rw [uwrapI hk, Int.sub_eq_add_neg, BitVec.ofInt_add, BitVec.ofInt_neg, ofInt_toNat, ofInt_toNat, ← BitVec.sub_eq_add_neg]
    exact hR (x - y)
  case mul =>
    refine ⟨_, h, ?_⟩
    simp only [binOp, Op.intArith, ne_eq, not_true_eq_false, if_false]
    refine yld_pure ?_
    rw [show (x.toNat : Int) * (y.toNat : Int) = ((x.toNat * y.toNat : Nat) : Int) by push_cast; rfl, uwrapN hk, BitVec.ofNat_mul, BitVec.ofNat_toNat, BitVec.ofNat_toNat, BitVec.setWidth_eq, BitVec.setWidth_eq]
    exact hR (x * y)
  case quo =>
    obtain ⟨hy, h⟩ := h
    have hy' : ¬ (y.toNat : Int) = 0 := fun e => hy (BitVec.eq_of_toNat_eq (by simpa using e))
    refine ⟨_, h, ?_⟩
    simp only [binOp, Op.intDiv, hy', if_false, ne_eq, not_true_eq_false]
    refine yld_pure ?_
    rw [Int.tdiv_eq_ediv_of_nonneg (by omega), uwrap hk, show (x.toNat : Int) / (y.toNat : Int) = ((x / y).toNat : Int) by rw [BitVec.toNat_udiv]; push_cast; rfl, e0]
    exact hR _
  case rem =>
    obtain ⟨hy, h⟩ := h
    have hy' : ¬ (y.toNat : Int) = 0 := fun e => hy (BitVec.eq_of_toNat_eq (by simpa using e))
    refine ⟨_, h, ?_⟩
    simp only [binOp, Op.intDiv, hy', if_false, ne_eq, not_true_eq_false]
    refine yld_pure ?_
    rw [Int.tmod_eq_emod_of_nonneg (by omega), show (x.toNat : Int) % (y.toNat : Int) = ((x % y).toNat : Int) by rw [BitVec.toNat_umod]; push_cast; rfl]
    exact hR _
  case and => exact ⟨_, h, by
    simp only [binOp, Op.intBits, ne_eq, not_true_eq_false, if_false]
    refine yld_pure ?_
    rw [ofInt_toNat, ofInt_toNat, uwrap hk, e0]; exact hR _⟩
  case or => exact ⟨_, h, by
    simp only [binOp, Op.intBits, ne_eq, not_true_eq_false, if_false]
    refine yld_pure ?_
    rw [ofInt_toNat, ofInt_toNat, uwrap hk, e0]; exact hR _⟩
  case xor => exact ⟨_, h, by
    simp only [binOp, Op.intBits, ne_eq, not_true_eq_false, if_false]
    refine yld_pure ?_
    rw [ofInt_toNat, ofInt_toNat, uwrap hk, e0]; exact hR _⟩
  case andNot => exact ⟨_, h, by
    simp only [binOp, Op.intBits, ne_eq, not_true_eq_false, if_false]
    refine yld_pure ?_
    rw [ofInt_toNat, ofInt_toNat, uwrap hk, e0]; exact hR _⟩
  all_goals
    refine ⟨_, h, ?_⟩
    simp only [binOp, Op.intCmp, ne_eq, not_true_eq_false, if_false]
    refine yld_pure ?_
    show [Value.bool _] = [Value.bool _]
    congr 2
    rw [Bool.eq_iff_iff]
    simp [BitVec.lt_def, BitVec.le_def, ← BitVec.toNat_inj, bne, Int.ofNat_inj]
theorem back63 {z : BitVec 64} {n : Nat} (h : z.toNat = n) (hn : n < 2 ^ 63) : IntKind.i64.wrap (z.toNat : Int) = (n : Int) := by
  rw [h, iwrap (by unfold I64; omega)]
theorem ofN63 {n : Nat} (h : N63 n) : (BitVec.ofInt 64 (n : Int)).toNat = n ∧ n < 2 ^ 63 := by
  unfold N63 at h
  rw [BitVec.toNat_ofInt]
  refine ⟨?_, by omega⟩
  show ((n : Int) % 18446744073709551616).toNat = n
  omega
theorem int_bin {op : BinOp} {x y : Int} {K : AV → Prop} (h : cmpI op x y K) : ∃ r, K r ∧ Yld P c w (binOp op t (.int .i64 x) (.int .i64 y)) r := by
  cases op <;> simp only [cmpI] at h <;> try exact h.elim
  case add =>
    refine ⟨_, h.2, ?_⟩
    simp only [binOp, Op.intArith, ne_eq, not_true_eq_false, if_false]
    refine yld_pure ?_
    show [Value.int .i64 (IntKind.i64.wrap _)] = _
    rw [iwrap h.1]
  case sub =>
    refine ⟨_, h.2, ?_⟩
    simp only [binOp, Op.intArith, ne_eq, not_true_eq_false, if_false]
    refine yld_pure ?_
    show [Value.int .i64 (IntKind.i64.wrap _)] = _
    rw [iwrap h.1]
  case mul =>
    refine ⟨_, h.2, ?_⟩
    simp only [binOp, Op.intArith, ne_eq, not_true_eq_false, if_false]
    refine yld_pure ?_
    show [Value.int .i64 (IntKind.i64.wrap _)] = _
    rw [iwrap h.1]
  case quo =>
    obtain ⟨h0, h1, h2, h⟩ := h
    refine ⟨_, h, ?_⟩
    have hy : ¬ y = 0 := by omega
    simp only [binOp, Op.intDiv, hy, if_false, ne_eq, not_true_eq_false]
    refine yld_pure ?_
    show [Value.int .i64 (IntKind.i64.wrap _)] = _
    have hd : x / y ≤ x := Int.ediv_le_self _ h0
    have hd0 : 0 ≤ x / y := Int.ediv_nonneg h0 (by omega)
    rw [Int.tdiv_eq_ediv_of_nonneg h0, iwrap (by unfold I64 at *; omega)]
  case rem =>
    obtain ⟨h0, h1, h⟩ := h
    refine ⟨_, h, ?_⟩
    have hy : ¬ y = 0 := by omega
    simp only [binOp, Op.intDiv, hy, if_false, ne_eq, not_true_eq_false]
    refine yld_pure ?_
    show [Value.int .i64 (x.tmod y)] = _
    rw [Int.tmod_eq_emod_of_nonneg h0]
  case eql =>
    refine ⟨_, h, ?_⟩
    simp only [binOp, Op.intCmp, ne_eq, not_true_eq_false, if_false]
    refine yld_pure ?_
    show [Value.bool _] = [Value.bool _]
    congr 2
  case neq =>
    refine ⟨_, h, ?_⟩
    simp only [binOp, Op.intCmp, ne_eq, not_true_eq_false, if_false]
    refine yld_pure ?_
    show [Value.bool _] = [Value.bool _]
    congr 2
    rw [Bool.eq_iff_iff]; simp
  case lss =>
    refine ⟨_, h, ?_⟩
    simp only [binOp, Op.intCmp, ne_eq, not_true_eq_false, if_false]
    exact yld_pure rfl
  case and =>
    obtain ⟨hx, hy, h1, h2, hk⟩ := h
    obtain ⟨x, rfl⟩ : ∃ n : Nat, x = n := ⟨x.toNat, by omega⟩
    obtain ⟨y, rfl⟩ : ∃ n : Nat, y = n := ⟨y.toNat, by omega⟩
    simp only [Int.toNat_natCast] at h1 h2 hk
    refine ⟨_, hk, ?_⟩
    simp only [binOp, Op.intBits, ne_eq, not_true_eq_false, if_false]
    refine yld_pure ?_
    exact congrArg (fun n => [Value.int .i64 n]) (back63 (z := BitVec.ofInt 64 (x : Int) &&& BitVec.ofInt 64 (y : Int)) (by rw [BitVec.toNat_and, (ofN63 h1).1, (ofN63 h2).1]) (Nat.and_lt_two_pow _ (ofN63 h2).2))
  case leq =>
    refine ⟨_, h, ?_⟩
    simp only [binOp, Op.intCmp, ne_eq, not_true_eq_false, if_false]
    exact yld_pure rfl
  case gtr =>
    refine ⟨_, h, ?_⟩
    simp only [binOp, Op.intCmp, ne_eq, not_true_eq_false, if_false]
    exact yld_pure rfl
  case geq =>
    refine ⟨_, h, ?_⟩
    simp only [binOp, Op.intCmp, ne_eq, not_true_eq_false, if_false]
    exact yld_pure rfl
theorem nat_bin {op : BinOp} {x y : Nat} {K : AV → Prop} (h : cmpN op x y K) : ∃ r, K r ∧ Yld P c w (binOp op t (.int .i64 (x : Int)) (.int .i64 (y : Int))) r := by
  have hI : ∀ n : Nat, N63 n → I64 (n : Int) := fun n h => by unfold N63 at h; unfold I64; omega
  have conv : ∀ {op : BinOp} {z : Nat} {r : Int}, r = (z : Int) → (∃ q, (fun v => v = AV.int r) q ∧ Yld P c w (binOp op t (.int .i64 (x : Int)) (.int .i64 (y : Int))) q) → Yld P c w (binOp op t (.int .i64 (x : Int)) (.int .i64 (y : Int))) (.nat z) := by
    rintro op z r rfl ⟨_, rfl, v, h1, h2⟩; exact ⟨v, h1, h2⟩
  cases op <;> simp only [cmpN] at h
  case add => exact ⟨_, h.2, conv (by push_cast; rfl) (int_bin (op := .add) ⟨by have := hI _ h.1; simpa using this, rfl⟩)⟩
  case mul => exact ⟨_, h.2, conv (by push_cast; rfl) (int_bin (op := .mul) ⟨by have := hI _ h.1; simpa using this, rfl⟩)⟩
  case quo => exact ⟨_, h.2.2, conv (by push_cast; rfl) (int_bin (op := .quo) ⟨by omega, by omega, hI _ h.2.1, rfl⟩)⟩
  case rem => exact ⟨_, h.2, conv (by push_cast; rfl) (int_bin (op := .rem) ⟨by omega, by omega, rfl⟩)⟩
  case and => exact ⟨_, h.2.2, by
    simp only [binOp, Op.intBits, ne_eq, not_true_eq_false, if_false]
    refine yld_pure ?_
    exact congrArg (fun n => [Value.int .i64 n]) (back63 (z := BitVec.ofInt 64 (x : Int) &&& BitVec.ofInt 64 (y : Int)) (by rw [BitVec.toNat_and, (ofN63 h.1).1, (ofN63 h.2.1).1]) (Nat.and_lt_two_pow _ (ofN63 h.2.1).2))⟩
  case or => exact ⟨_, h.2.2, by
    simp only [binOp, Op.intBits, ne_eq, not_true_eq_false, if_false]
    refine yld_pure ?_
    exact congrArg (fun n => [Value.int .i64 n]) (back63 (z := BitVec.ofInt 64 (x : Int) ||| BitVec.ofInt 64 (y : Int)) (by rw [BitVec.toNat_or, (ofN63 h.1).1, (ofN63 h.2.1).1]) (Nat.or_lt_two_pow (ofN63 h.1).2 (ofN63 h.2.1).2))⟩
  case xor => exact ⟨_, h.2.2, by
    simp only [binOp, Op.intBits, ne_eq, not_true_eq_false, if_false]
    refine yld_pure ?_
    exact congrArg (fun n => [Value.int .i64 n]) (back63 (z := BitVec.ofInt 64 (x : Int) ^^^ BitVec.ofInt 64 (y : Int)) (by rw [BitVec.toNat_xor, (ofN63 h.1).1, (ofN63 h.2.1).1]) (Nat.xor_lt_two_pow (ofN63 h.1).2 (ofN63 h.2.1).2))⟩
  case eql =>
    have := int_bin (P := P) (c := c) (w := w) (t := t) (op := .eql) (x := x) (y := y) (K := K) (by simpa [cmpI, Int.ofNat_inj] using h)
    exact this
  case neq =>
    have := int_bin (P := P) (c := c) (w := w) (t := t) (op := .neq) (x := x) (y := y) (K := K) (by simpa [cmpI, Int.ofNat_inj] using h)
    exact this
  case lss =>
    have := int_bin (P := P) (c := c) (w := w) (t := t) (op := .lss) (x := x) (y := y) (K := K) (by simpa [cmpI] using h)
    exact this
  case leq =>
    have := int_bin (P := P) (c := c) (w := w) (t := t) (op := .leq) (x := x) (y := y) (K := K) (by simpa [cmpI] using h)
    exact this
  case gtr =>
    have := int_bin (P := P) (c := c) (w := w) (t := t) (op := .gtr) (x := x) (y := y) (K := K) (by simpa [cmpI] using h)
    exact this
  case geq =>
    have := int_bin (P := P) (c := c) (w := w) (t := t) (op := .geq) (x := x) (y := y) (K := K) (by simpa [cmpI] using h)
    exact this
  all_goals exact int_bin h

/-- A count that came as whatever number. -/
theorem cnt_of {y : AV} {u : Value} {K : Nat → Prop} (hy : RV c y u) (h : cnt y K) : ∃ k n, K n ∧ u = .int k (n : Int) := by
  cases y <;> simp only [cnt] at h <;> try exact h.elim
  case nat k => exact ⟨.i64, k, h, by simpa [RV, R] using hy⟩
  case int z => exact ⟨.i64, z.toNat, h.2, by rw [Int.toNat_of_nonneg h.1]; simpa [RV, R] using hy⟩
  case u8 x => exact ⟨.u8, x.toNat, h, by simpa [RV, R, U8] using hy⟩
  case u16 x => exact ⟨.u16, x.toNat, h, by simpa [RV, R, U16] using hy⟩
  case u32 x => exact ⟨.u32, x.toNat, h, by simpa [RV, R, U32] using hy⟩
  case u64 x => exact ⟨.u64, x.toNat, h, by simpa [RV, R, U64] using hy⟩
theorem idx_of {y : AV} {u : Value} {K : Nat → Prop} (hy : RV c y u) (h : idx y K) : ∃ k n, K n ∧ u = .int k (n : Int) := by
  cases y <;> simp only [idx] at h <;> try exact h.elim
  case nat k => exact ⟨.i64, k, h, by simpa [RV, R] using hy⟩
  case int z => exact ⟨.i64, z.toNat, h.2, by rw [Int.toNat_of_nonneg h.1]; simpa [RV, R] using hy⟩
  case u8 x => exact ⟨.u8, x.toNat, h, by simpa [RV, R, U8] using hy⟩
  case u16 x => exact ⟨.u16, x.toNat, h, by simpa [RV, R, U16] using hy⟩
  case u32 x => exact ⟨.u32, x.toNat, h, by simpa [RV, R, U32] using hy⟩
  case u64 x => exact ⟨.u64, x.toNat, h, by simpa [RV, R, U64] using hy⟩
theorem word_shf {k : IntKind} (hk : k.signed = false) {Rk : BitVec k.bits → AV} (hR : ∀ z, RV c (Rk z) (.int k (z.toNat : Int))) {op : BinOp} {x : BitVec k.bits} {n : Nat} {K : AV → Prop} {yk : IntKind}
    (h : shf op x n Rk K) : ∃ r, K r ∧ Yld P c w (binOp op t (.int k (x.toNat : Int)) (.int yk (n : Int))) r := by
  cases op <;> simp only [shf] at h <;> try exact h.elim
  case shl =>
    refine ⟨_, h, ?_⟩
    have hn : ¬ (n : Int) < 0 := by omega
    simp only [binOp, Op.shift, hn, if_false, Int.toNat_natCast]
    refine yld_pure ?_
    have e : (x.toNat : Int) * 2 ^ (min n k.bits) = ((x.toNat * 2 ^ (min n k.bits) : Nat) : Int) := by push_cast; rfl
    rw [e, uwrapN hk]
    have e2 : BitVec.ofNat k.bits (x.toNat * 2 ^ min n k.bits) = x <<< n := by
      apply BitVec.eq_of_toNat_eq
      rw [BitVec.toNat_ofNat, BitVec.toNat_shiftLeft, Nat.shiftLeft_eq]
      rcases Nat.le_total n k.bits with hle | hle
      · rw [Nat.min_eq_left hle]
      · rw [Nat.min_eq_right hle]
        obtain ⟨d, rfl⟩ := Nat.exists_eq_add_of_le hle
        rw [Nat.mul_mod_left, Nat.pow_add, ← Nat.mul_assoc, Nat.mul_comm x.toNat, Nat.mul_assoc, Nat.mul_mod_right]
    rw [e2]; exact hR _
  case shr =>
    refine ⟨_, h, ?_⟩
    have hn : ¬ (n : Int) < 0 := by omega
    simp only [binOp, Op.shift, hn, if_false, Int.toNat_natCast]
    refine yld_pure ?_
    have e : Int.fdiv (x.toNat : Int) (2 ^ (min n k.bits)) = ((x >>> n).toNat : Int) := by
      have h2 : (2 : Int) ^ (min n k.bits) = ((2 ^ (min n k.bits) : Nat) : Int) := by push_cast; rfl
      rw [h2, Int.fdiv_eq_ediv_of_nonneg _ (Int.natCast_nonneg _), BitVec.toNat_ushiftRight, Nat.shiftRight_eq_div_pow]
      rcases Nat.le_total n k.bits with hle | hle
      · rw [Nat.min_eq_left hle]; push_cast; rfl
      · rw [Nat.min_eq_right hle]
        have h1 : x.toNat / 2 ^ k.bits = 0 := Nat.div_eq_of_lt x.isLt
        have h3 : x.toNat / 2 ^ n = 0 := Nat.div_eq_of_lt (Nat.lt_of_lt_of_le x.isLt (Nat.pow_le_pow_right (by decide) hle))
        rw [h3]
        have : ((x.toNat : Int) / ((2 ^ k.bits : Nat) : Int)) = ((x.toNat / 2 ^ k.bits : Nat) : Int) := by push_cast; rfl
        rw [this, h1]
    rw [e]; exact hR _
theorem nat_shf {op : BinOp} {x n : Nat} {K : AV → Prop} {yk : IntKind} (h : shfN op x n K) : ∃ r, K r ∧ Yld P c w (binOp op t (.int .i64 (x : Int)) (.int yk (n : Int))) r := by
  cases op <;> simp only [shfN] at h <;> try exact h.elim
  case shl =>
    obtain ⟨hn, hb, h⟩ := h
    refine ⟨_, h, ?_⟩
    have e := shift_shl .i64 yk (x : Int) (n : Int) (by omega) (by simp [IntKind.bits]; omega)
    simp only [binOp, e, Int.toNat_natCast]
    refine yld_pure ?_
    have e2 : (x : Int) * 2 ^ n = ((x * 2 ^ n : Nat) : Int) := by push_cast; rfl
    show [_] = [_]
    rw [e2, iwrap (by unfold N63 at hb; unfold I64; omega)]
  case shr =>
    obtain ⟨hn, h⟩ := h
    refine ⟨_, h, ?_⟩
    have e := shift_shr .i64 yk (x : Int) (n : Int) (by omega) (by simp [IntKind.bits]; omega)
    simp only [binOp, e, Int.toNat_natCast]
    refine yld_pure ?_
    show [_] = [_]
    congr 2
theorem int_binJ {op : BinOp} {x y : Int} {K : AV → Prop} (h : cmpJ op x y K) : ∃ r, K r ∧ Yld P c w (binOp op t (.int .i64 x) (.int .i64 y)) r := by
  unfold cmpJ at h
  split at h
  · obtain ⟨hy, h2, h⟩ := h
    refine ⟨_, h, ?_⟩
    simp only [binOp, Op.intDiv, hy, if_false, ne_eq, not_true_eq_false]
    refine yld_pure ?_
    show [Value.int .i64 (IntKind.i64.wrap _)] = _
    rw [iwrap h2]
  · obtain ⟨hy, h⟩ := h
    refine ⟨_, h, ?_⟩
    simp only [binOp, Op.intDiv, hy, if_false, ne_eq, not_true_eq_false]
    exact yld_pure rfl
  · exact int_bin h
theorem cmp_bin {op : BinOp} {x y : Int} {k : IntKind} {K : AV → Prop} (h : cmpC op x y K) : ∃ r, K r ∧ Yld P c w (binOp op t (.int k x) (.int k y)) r := by
  cases op <;> simp only [cmpC] at h <;> try exact h.elim
  all_goals
    refine ⟨_, h, ?_⟩
    simp only [binOp, Op.intCmp, ne_eq, not_true_eq_false, if_false]
    exact yld_pure rfl
theorem i32_shr {x : BitVec 32} {n : Nat} {K : AV → Prop} {yk : IntKind} (hn : n < 32) (h : K (.i32 (x.sshiftRight n))) : ∃ r, K r ∧ Yld P c w (binOp .shr t (.int .i32 x.toInt) (.int yk (n : Int))) r := by
  refine ⟨_, h, ?_⟩
  have e := shift_shr .i32 yk x.toInt (n : Int) (by omega) (by simp [IntKind.bits]; omega)
  simp only [binOp, e, Int.toNat_natCast]
  refine yld_pure ?_
  show [_] = [_]
  rw [BitVec.toInt_sshiftRight, Int.shiftRight_eq_div_pow]
  norm_cast
theorem int_shr {x : Int} {n : Nat} {K : AV → Prop} {yk : IntKind} (hn : n < 64) (h : K (.int (x / 2 ^ n))) : ∃ r, K r ∧ Yld P c w (binOp .shr t (.int .i64 x) (.int yk (n : Int))) r := by
  refine ⟨_, h, ?_⟩
  have e := shift_shr .i64 yk x (n : Int) (by omega) (by simp [IntKind.bits]; omega)
  simp only [binOp, e, Int.toNat_natCast]
  exact yld_pure rfl
theorem rvU8 (z : BitVec 8) : RV c (.u8 z) (.int .u8 (z.toNat : Int)) := rfl
theorem rvU16 (z : BitVec 16) : RV c (.u16 z) (.int .u16 (z.toNat : Int)) := rfl
theorem rvU32 (z : BitVec 32) : RV c (.u32 z) (.int .u32 (z.toNat : Int)) := rfl
theorem rvU64 (z : BitVec 64) : RV c (.u64 z) (.int .u64 (z.toNat : Int)) := rfl
theorem bin_sound {op : BinOp} {x y : AV} {v u : Value} {K : AV → Prop} (hx : RV c x v) (hy : RV c y u) (h : bin op x y K) : ∃ r, K r ∧ Yld P c w (binOp op t v u) r := by
  by_cases hs : op = .shl ∨ op = .shr
  · have h' : cnt y (shf0 op x K) := by rcases hs with rfl | rfl <;> exact h
    obtain ⟨yk, n, hn, rfl⟩ := cnt_of hy h'
    clear h h' hs
    unfold shf0 at hn
    split at hn
    · rw [show v = _ by simpa [RV, R] using hx]; exact word_shf (k := .u8) rfl rvU8 hn
    · rw [show v = _ by simpa [RV, R] using hx]; exact word_shf (k := .u16) rfl rvU16 hn
    · rw [show v = _ by simpa [RV, R] using hx]; exact word_shf (k := .u32) rfl rvU32 hn
    · rw [show v = _ by simpa [RV, R] using hx]; exact word_shf (k := .u64) rfl rvU64 hn
    · rw [show v = _ by simpa [RV, R] using hx]; exact nat_shf hn
    · obtain ⟨rfl, h1, h2⟩ := hn
      rw [show v = _ by simpa [RV, R] using hx]; exact i32_shr h1 h2
    · obtain ⟨rfl, h1, h2⟩ := hn
      rw [show v = _ by simpa [RV, R] using hx]; exact int_shr h1 h2
    · exact hn.elim
  · have h' : bin0 op x y K := by cases op <;> first | exact h | (simp at hs)
    clear h hs
    unfold bin0 at h'
    split at h'
    · rw [show v = _ by simpa [RV, R] using hx, show u = _ by simpa [RV, R] using hy]; exact word_bin (k := .u8) rfl rvU8 h'
    · rw [show v = _ by simpa [RV, R] using hx, show u = _ by simpa [RV, R] using hy]; exact word_bin (k := .u16) rfl rvU16 h'
    · rw [show v = _ by simpa [RV, R] using hx, show u = _ by simpa [RV, R] using hy]; exact word_bin (k := .u32) rfl rvU32 h'
    · rw [show v = _ by simpa [RV, R] using hx, show u = _ by simpa [RV, R] using hy]; exact word_bin (k := .u64) rfl rvU64 h'
    · rw [show v = _ by simpa [RV, R] using hx, show u = _ by simpa [RV, R] using hy]; exact nat_bin h'
    · rw [show v = _ by simpa [RV, R] using hx, show u = _ by simpa [RV, R] using hy]; exact int_bin h'
    · rw [show v = _ by simpa [RV, R] using hx, show u = _ by simpa [RV, R] using hy]; exact int_bin h'
    · rw [show v = _ by simpa [RV, R] using hx, show u = _ by simpa [RV, R] using hy]; exact int_binJ h'
    · rw [show v = _ by simpa [RV, R] using hx, show u = _ by simpa [RV, R] using hy]; exact cmp_bin h'
    · rename_i a b
      obtain ⟨rfl, hy0, h'⟩ := h'
      refine ⟨_, h', ?_⟩
      rw [show v = .int .i16 a.toInt by simpa [RV, R] using hx, show u = .int .i16 b.toInt by simpa [RV, R] using hy]
      simp only [binOp, Op.intDiv, hy0, if_false, ne_eq, not_true_eq_false]
      refine yld_pure ?_
      show [Value.int .i16 (a.toInt.tmod b.toInt)] = [Value.int .i16 (BitVec.ofInt 16 (a.toInt.tmod b.toInt)).toInt]
      have h1 := BitVec.two_mul_toInt_lt (x := b)
      have h2 := BitVec.le_two_mul_toInt (x := b)
      have h3 : (a.toInt.tmod b.toInt).natAbs < b.toInt.natAbs := by rw [Int.natAbs_tmod]; exact Nat.mod_lt _ (by omega)
      rw [BitVec.toInt_ofInt, Int.bmod_eq_of_le (by omega) (by omega)]
    · exact h'.elim
theorem bool_bin {op : BinOp} {x y : Bool} {K : AV → Prop} (hu : P.underlying t = some .bool) (h : match op with
      | .eql => K (.bo (x == y))
      | .neq => K (.bo (x != y))
      | _ => False) : ∃ r, K r ∧ Yld P c w (binOp op t (.bool x) (.bool y)) r := by
  have he : (Op.equal t (.bool x) (.bool y)).run P w = .ok (x == y) w := by
    have h1 : ∀ d, (Op.equalIn (d + 1) t (.bool x) (.bool y)).run P w = .ok (x == y) w := fun d => by simp [Op.equalIn, run_underlying hu]
    exact h1 9999
  cases op <;> simp only [] at h <;> try exact h.elim
  case eql => exact ⟨_, h, .bool (x == y), by simp only [binOp, Sem.run_bind, he, Result.andThen_ok, Sem.run_pure], rfl⟩
  case neq => exact ⟨_, h, .bool (!(x == y)), by simp only [binOp, Sem.run_bind, he, Result.andThen_ok, Sem.run_pure], rfl⟩
/-! ### What is made does not hang on what is done with it -/
theorem cmpB_det {n : Nat} {op : BinOp} {x y : BitVec n} {Rk : BitVec n → AV} {K : AV → Prop} (h : cmpB op x y Rk K) : ∃ r, K r ∧ ∀ K' : AV → Prop, K' r → cmpB op x y Rk K' := by
  cases op <;> simp only [cmpB] at h ⊢ <;> first | exact h.elim | exact ⟨_, h, fun _ k => k⟩ | exact ⟨_, h.2, fun _ k => ⟨h.1, k⟩⟩
theorem cmpC_det {op : BinOp} {x y : Int} {K : AV → Prop} (h : cmpC op x y K) : ∃ r, K r ∧ ∀ K' : AV → Prop, K' r → cmpC op x y K' := by
  cases op <;> simp only [cmpC] at h ⊢ <;> first | exact h.elim | exact ⟨_, h, fun _ k => k⟩
theorem cmpI_det {op : BinOp} {x y : Int} {K : AV → Prop} (h : cmpI op x y K) : ∃ r, K r ∧ ∀ K' : AV → Prop, K' r → cmpI op x y K' := by
  cases op <;> simp only [cmpI] at h ⊢ <;> first | exact h.elim | exact ⟨_, h, fun _ k => k⟩ | exact ⟨_, h.2, fun _ k => ⟨h.1, k⟩⟩ | exact ⟨_, h.2.2, fun _ k => ⟨h.1, h.2.1, k⟩⟩ | exact ⟨_, h.2.2.2, fun _ k => ⟨h.1, h.2.1, h.2.2.1, k⟩⟩ | exact ⟨_, h.2.2.2.2, fun _ k => ⟨h.1, h.2.1, h.2.2.1, h.2.2.2.1, k⟩⟩
theorem cmpJ_det {op : BinOp} {x y : Int} {K : AV → Prop} (h : cmpJ op x y K) : ∃ r, K r ∧ ∀ K' : AV → Prop, K' r → cmpJ op x y K' := by
  cases op <;> simp only [cmpJ] at h ⊢ <;> first | exact cmpI_det h | exact ⟨_, h.2.2, fun _ k => ⟨h.1, h.2.1, k⟩⟩ | exact ⟨_, h.2, fun _ k => ⟨h.1, k⟩⟩
theorem cmpN_det {op : BinOp} {x y : Nat} {K : AV → Prop} (h : cmpN op x y K) : ∃ r, K r ∧ ∀ K' : AV → Prop, K' r → cmpN op x y K' := by
  cases op <;> simp only [cmpN] at h ⊢ <;> first | exact cmpI_det h | exact ⟨_, h, fun _ k => k⟩ | exact ⟨_, h.2, fun _ k => ⟨h.1, k⟩⟩ | exact ⟨_, h.2.2, fun _ k => ⟨h.1, h.2.1, k⟩⟩
theorem shf0_det {op : BinOp} {x : AV} {n : Nat} {K : AV → Prop} (h : shf0 op x K n) : ∃ r, K r ∧ ∀ K' : AV → Prop, K' r → shf0 op x K' n := by
  unfold shf0 at h ⊢
  split at h <;> first | exact h.elim | exact ⟨_, h.2.2, fun _ k => ⟨h.1, h.2.1, k⟩⟩ | (cases op <;> simp only [shf, shfN] at h ⊢ <;> first | exact h.elim | exact ⟨_, h, fun _ k => k⟩ | exact ⟨_, h.2, fun _ k => ⟨h.1, k⟩⟩ | exact ⟨_, h.2.2, fun _ k => ⟨h.1, h.2.1, k⟩⟩)
theorem cnt_det {y : AV} {K : Nat → Prop} (h : cnt y K) : ∃ n, K n ∧ ∀ K' : Nat → Prop, K' n → cnt y K' := by
  cases y <;> simp only [cnt] at h ⊢ <;> first | exact h.elim | exact ⟨_, h, fun _ k => k⟩ | exact ⟨_, h.2, fun _ k => ⟨h.1, k⟩⟩
theorem idx_det {y : AV} {K : Nat → Prop} (h : idx y K) : ∃ n, K n ∧ ∀ K' : Nat → Prop, K' n → idx y K' := by
  cases y <;> simp only [idx] at h ⊢ <;> first | exact h.elim | exact ⟨_, h, fun _ k => k⟩ | exact ⟨_, h.2, fun _ k => ⟨h.1, k⟩⟩
theorem bin_det {op : BinOp} {x y : AV} {K : AV → Prop} (h : bin op x y K) : ∃ r, K r ∧ ∀ K' : AV → Prop, K' r → bin op x y K' := by
  by_cases hs : op = .shl ∨ op = .shr
  · rcases hs with rfl | rfl
    · obtain ⟨n, h1, h2⟩ := cnt_det (show cnt y (shf0 .shl x K) from h)
      obtain ⟨r, h3, h4⟩ := shf0_det h1
      exact ⟨r, h3, fun K' hk => h2 _ (h4 K' hk)⟩
    · obtain ⟨n, h1, h2⟩ := cnt_det (show cnt y (shf0 .shr x K) from h)
      obtain ⟨r, h3, h4⟩ := shf0_det h1
      exact ⟨r, h3, fun K' hk => h2 _ (h4 K' hk)⟩
  · have h' : bin0 op x y K := by cases op <;> first | exact h | (simp at hs)
    have hb : ∀ K', bin0 op x y K' → bin op x y K' := fun K' hk => by cases op <;> first | exact hk | (simp at hs)
    have key : ∃ r, K r ∧ ∀ K' : AV → Prop, K' r → bin0 op x y K' := by
      clear hb h hs
      unfold bin0 at h' ⊢
      split at h' <;> first | exact cmpB_det h' | exact cmpN_det h' | exact cmpI_det h' | exact cmpJ_det h' | exact cmpC_det h' | exact h'.elim | exact ⟨_, h'.2.2, fun _ k => ⟨h'.1, h'.2.1, k⟩⟩
    obtain ⟨r, h1, h2⟩ := key
    exact ⟨r, h1, fun K' hk => hb _ (h2 K' hk)⟩
theorem una_det {op : UnOp} {x : AV} {K : AV → Prop} (h : una op x K) : ∃ r, K r ∧ ∀ K' : AV → Prop, K' r → una op x K' := by
  unfold una at h ⊢
  split at h <;> first | exact h.elim | exact ⟨_, h, fun _ k => k⟩ | exact ⟨_, h.2, fun _ k => ⟨h.1, k⟩⟩
theorem conv_det {d : Ty} {x : AV} {K : AV → Prop} (h : conv d x K) : ∃ r, K r ∧ ∀ K' : AV → Prop, K' r → conv d x K' := by
  unfold conv at h ⊢
  cases x <;> simp only [] at h ⊢ <;> try exact h.elim
  all_goals
    (try unfold toW at h ⊢)
    split at h <;> first | exact h.elim | exact ⟨_, h, fun _ k => k⟩ | exact ⟨_, h.2, fun _ k => ⟨h.1, k⟩⟩
/-- The same for all that hold it. -/
theorem bin_all {op : BinOp} {x y : AV} {K : AV → Prop} (h : bin op x y K) : ∃ r, K r ∧ ∀ (c : Cx) (w : World) (t : TypeId) (v u : Value), RV c x v → RV c y u → Yld P c w (binOp op t v u) r := by
  obtain ⟨r, h1, h2⟩ := bin_det h
  refine ⟨r, h1, fun c w t v u hx hy => ?_⟩
  obtain ⟨r', rfl, h3⟩ := bin_sound (P := P) (c := c) (w := w) (t := t) hx hy (h2 (· = r) rfl)
  exact h3
theorem idx_all {y : AV} {K : Nat → Prop} (h : idx y K) : ∃ n, K n ∧ ∀ (c : Cx) (u : Value), RV c y u → ∃ k, u = .int k (n : Int) := by
  obtain ⟨n, h1, h2⟩ := idx_det h
  refine ⟨n, h1, fun c u hy => ?_⟩
  obtain ⟨k, n', rfl, hu⟩ := idx_of hy (h2 (· = n) rfl)
  exact ⟨k, hu⟩
end
end Go.Proofs.YtldlleoabbcpdaaDoor
