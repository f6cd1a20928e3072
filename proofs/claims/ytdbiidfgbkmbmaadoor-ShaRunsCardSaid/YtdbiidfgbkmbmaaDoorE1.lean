/- A machine of plain values for Go code: its values, types, rows, and what each operation makes of them. -/
import Derived.Test.YtdbiidfgbkmbmaaDoorB0
import Derived.WalkKit
import Derived.Below
import Derived.Deep.MidRow
import Derived.Lib.Hide
namespace Go.Proofs.YtdbiidfgbkmbmaaDoor
open Go.RowKit

inductive Ty where
  | no | bo | int (k : IntKind) | str | pt | sl (e : TypeId)
  | agg (u : Bool) (len : Nat) (f : Nat → Ty)

inductive AV where
  | junk | und
  | bo (x : Bool)
  | u8 (x : BitVec 8) | u16 (x : BitVec 16) | u32 (x : BitVec 32) | u64 (x : BitVec 64) | i32 (x : BitVec 32)
  | nat (k : Nat) | int (z : Int)
  | str (s : List UInt8)
  | nilp
  | ptr (τ : Ty) (k : Nat) (p : List Nat)
  | ipt (τ : Ty) (a : AV)
  | nils
  | imm (fr : Bool) (et : Ty) (len : Nat) (f : Nat → AV)
  | gsl (e : TypeId) (k len : Nat)
  | gpt (τ : Ty) (e : TypeId) (k len : Nat) (i : Nat) (p : List Nat)
  | gsub (e : TypeId) (k all : Nat) (o len : Nat)
  | sub (et : Ty) (k : Nat) (p : List Nat) (o len : Nat)
  | agg (u : Bool) (len : Nat) (f : Nat → AV)
  | tup (len : Nat) (f : Nat → AV)

instance : Inhabited Ty := ⟨.no⟩
instance : Inhabited AV := ⟨.junk⟩

/-- Of a row: a variable, or a slice that grows. -/
inductive Row where
  | var (τ : Ty) (a : AV)
  | grow (e : TypeId) (len : Nat) (f : Nat → AV)

/-- The type of an element: of an array it is one. -/
def el (u : Bool) (f : Nat → Ty) (i : Nat) : Ty := match u with
  | true => f 0
  | false => f i
def sumN (f : Nat → Nat) : Nat → Nat
  | 0 => 0
  | i + 1 => sumN f i + f i
def Ty.size : Ty → Nat
  | .agg true len f => len * (f 0).size
  | .agg false len f => sumN (fun i => (f i).size) len
  | _ => 1
def Ty.at : Ty → List Nat → Ty
  | τ, [] => τ
  | .agg true _ f, _ :: p => (f 0).at p
  | .agg false _ f, i :: p => (f i).at p
  | _, _ => .no
def Ty.off : Ty → List Nat → Nat
  | .agg true _ f, i :: p => i * (f 0).size + (f 0).off p
  | .agg false _ f, i :: p => sumN (fun j => (f j).size) i + (f i).off p
  | _, _ => 0
def Ty.inP : Ty → List Nat → Prop
  | _, [] => True
  | .agg true len f, i :: p => i < len ∧ (f 0).inP p
  | .agg false len f, i :: p => i < len ∧ (f i).inP p
  | _, _ => False
def Ty.len : Ty → Nat
  | .agg _ len _ => len
  | _ => 0
def Ty.elem : Ty → Ty
  | .agg _ _ f => f 0
  | _ => .no
/-- The zero value. -/
def Ty.zero : Ty → AV
  | .bo => .bo false
  | .int .u8 => .u8 0
  | .int .u16 => .u16 0
  | .int .u32 => .u32 0
  | .int .u64 => .u64 0
  | .int .i32 => .i32 0
  | .int .i64 => .nat 0
  | .str => .str []
  | .pt => .nilp
  | .sl _ => .nils
  | .agg true len f => .agg true len (fun _ => (f 0).zero)
  | .agg false len f => .agg false len (fun i => (f i).zero)
  | _ => .junk

def asU8 : AV → BitVec 8 | .u8 x => x | _ => 0
def asU16 : AV → BitVec 16 | .u16 x => x | _ => 0
def asU32 : AV → BitVec 32 | .u32 x => x | _ => 0
def asU64 : AV → BitVec 64 | .u64 x => x | _ => 0
def AV.at : AV → List Nat → AV
  | a, [] => a
  | .agg _ _ f, i :: p => (f i).at p
  | _, _ => .junk
/-- One element is another one: of words so that it stays a word whatever the index. -/
def updA (f : Nat → AV) (i : Nat) : AV → Nat → AV
  | .u8 x => fun j => .u8 (if j = i then x else asU8 (f j))
  | .u16 x => fun j => .u16 (if j = i then x else asU16 (f j))
  | .u32 x => fun j => .u32 (if j = i then x else asU32 (f j))
  | .u64 x => fun j => .u64 (if j = i then x else asU64 (f j))
  | v => fun j => if j = i then v else f j
def updU (u : Bool) (f : Nat → AV) (i : Nat) (v : AV) : Nat → AV :=
  match u with
  | true => updA f i v
  | false => fun j => bif Nat.beq j i then v else f j
def AV.upd : AV → List Nat → AV → AV
  | _, [], v => v
  | .agg u len f, i :: p, v => .agg u len (updU u f i ((f i).upd p v))
  | a, _, _ => a
/-- f up to o, g for cnt, then f again. -/
def spliceA (τ : Ty) (f : Nat → AV) (o cnt : Nat) (g : Nat → AV) : Nat → AV :=
  match τ with
  | .int .u8 => fun j => .u8 (if o ≤ j ∧ j < o + cnt then asU8 (g (j - o)) else asU8 (f j))
  | .int .u16 => fun j => .u16 (if o ≤ j ∧ j < o + cnt then asU16 (g (j - o)) else asU16 (f j))
  | .int .u32 => fun j => .u32 (if o ≤ j ∧ j < o + cnt then asU32 (g (j - o)) else asU32 (f j))
  | .int .u64 => fun j => .u64 (if o ≤ j ∧ j < o + cnt then asU64 (g (j - o)) else asU64 (f j))
  | _ => fun j => if o ≤ j ∧ j < o + cnt then g (j - o) else f j
def joinA (τ : Ty) (f : Nat → AV) (l : Nat) (g : Nat → AV) : Nat → AV :=
  match τ with
  | .int .u8 => fun j => .u8 (if j < l then asU8 (f j) else asU8 (g (j - l)))
  | .int .u16 => fun j => .u16 (if j < l then asU16 (f j) else asU16 (g (j - l)))
  | .int .u32 => fun j => .u32 (if j < l then asU32 (f j) else asU32 (g (j - l)))
  | .int .u64 => fun j => .u64 (if j < l then asU64 (f j) else asU64 (g (j - l)))
  | _ => fun j => if j < l then f j else g (j - l)
def look (l : List (Nat × AV)) (z : AV) (i : Nat) : AV :=
  match l with
  | [] => z
  | (k, v) :: l => bif Nat.beq i k then v else look l z i
def litA (τ : Ty) (l : List (Nat × AV)) : Nat → AV :=
  match τ with
  | .int .u8 => fun j => .u8 (asU8 (look l (.u8 0) j))
  | .int .u16 => fun j => .u16 (asU16 (look l (.u16 0) j))
  | .int .u32 => fun j => .u32 (asU32 (look l (.u32 0) j))
  | .int .u64 => fun j => .u64 (asU64 (look l (.u64 0) j))
  | τ => look l τ.zero

/-- The state: slots, rows, the next key. -/
structure St where
  t : Nat → AV
  m : Nat → Option Row
  c : Nat
def put (t : Nat → AV) (d : Nat) (v : AV) : Nat → AV := fun i => bif Nat.beq i d then v else t i
def putO (nt : Nat) (t : Nat → AV) : Option Nat → AV → Nat → AV
  | none, _ => t
  | some d, v => bif Nat.blt d nt then put t d v else t
def putM (m : Nat → Option Row) (k : Nat) (v : Row) : Nat → Option Row := fun i => bif Nat.beq i k then some v else m i
def putW (m : Nat → Option Row) : List (Nat × Row) → Nat → Option Row
  | [] => m
  | (k, r) :: l => putW (putM m k r) l
/-- What an operation makes: a value, rows that are written, keys of rows that were looked at. -/
structure Res where
  v : AV
  wr : List (Nat × Row)
  rd : List Nat

def avOf : Value → AV
  | .bool x => .bo x
  | .int .i64 z => bif decide (0 ≤ z) then .nat z.toNat else .int z
  | .int .u8 z => bif decide (0 ≤ z) && decide (z < 256) then .u8 (BitVec.ofInt 8 z) else .junk
  | .int .u16 z => bif decide (0 ≤ z) && decide (z < 65536) then .u16 (BitVec.ofInt 16 z) else .junk
  | .int .u32 z => bif decide (0 ≤ z) && decide (z < 4294967296) then .u32 (BitVec.ofInt 32 z) else .junk
  | .int .u64 z => bif decide (0 ≤ z) && decide (z < 18446744073709551616) then .u64 (BitVec.ofInt 64 z) else .junk
  | .int .i32 z => bif decide (-2147483648 ≤ z) && decide (z < 2147483648) then .i32 (BitVec.ofInt 32 z) else .junk
  | .string s => .str s.data.toList
  | .pointer none => .nilp
  | .slice none 0 0 => .nils
  | _ => .junk

/-- What the program has: its types, its tables, what its functions are known to do. -/
structure Pg where
  ty : TypeId → Ty
  gl : Nat → AV
  ctr : FuncId → List AV → (Nat → Option Row) → Nat → (Res → Prop) → Prop

def ev (E : Pg) (t : Nat → AV) : Operand → AV
  | .tmp i => t i
  | .const v => avOf v
  | .global g => E.gl g
  | .func _ => .junk

def I64 (z : Int) : Prop := -9223372036854775808 ≤ z ∧ z ≤ 9223372036854775807
def N63 (k : Nat) : Prop := k ≤ 9223372036854775807

/-- Two values that are one. -/
def AEq : AV → AV → Prop
  | .bo x, .bo y => x = y
  | .u8 x, .u8 y => x = y
  | .u16 x, .u16 y => x = y
  | .u32 x, .u32 y => x = y
  | .u64 x, .u64 y => x = y
  | .i32 x, .i32 y => x = y
  | .nat x, .nat y => x = y
  | .nat x, .int y => (x : Int) = y
  | .int x, .nat y => x = (y : Int)
  | .int x, .int y => x = y
  | .str x, .str y => x = y
  | .agg _ l f, .agg _ _ g => ∀ i, i < l → AEq (f i) (g i)
  | _, _ => False
open Classical in
noncomputable def eqB (x y : AV) : Bool := decide (AEq x y)

def cmpI (op : BinOp) (x y : Int) (K : AV → Prop) : Prop :=
  match op with
  | .eql => K (.bo (decide (x = y)))
  | .neq => K (.bo (decide (x ≠ y)))
  | .lss => K (.bo (decide (x < y)))
  | .leq => K (.bo (decide (x ≤ y)))
  | .gtr => K (.bo (decide (y < x)))
  | .geq => K (.bo (decide (y ≤ x)))
  | .add => I64 (x + y) ∧ K (.int (x + y))
  | .sub => I64 (x - y) ∧ K (.int (x - y))
  | .mul => I64 (x * y) ∧ K (.int (x * y))
  | .quo => 0 ≤ x ∧ 0 < y ∧ I64 x ∧ K (.int (x / y))
  | .rem => 0 ≤ x ∧ 0 < y ∧ K (.int (x % y))
  | _ => False
def cmpN (op : BinOp) (x y : Nat) (K : AV → Prop) : Prop :=
  match op with
  | .eql => K (.bo (decide (x = y)))
  | .neq => K (.bo (decide (x ≠ y)))
  | .lss => K (.bo (decide (x < y)))
  | .leq => K (.bo (decide (x ≤ y)))
  | .gtr => K (.bo (decide (y < x)))
  | .geq => K (.bo (decide (y ≤ x)))
  | .add => N63 (x + y) ∧ K (.nat (x + y))
  | .mul => N63 (x * y) ∧ K (.nat (x * y))
  | .quo => 0 < y ∧ N63 x ∧ K (.nat (x / y))
  | .rem => 0 < y ∧ K (.nat (x % y))
  | op => cmpI op x y K
def cmpB {w : Nat} (op : BinOp) (x y : BitVec w) (R : BitVec w → AV) (K : AV → Prop) : Prop :=
  match op with
  | .eql => K (.bo (decide (x = y)))
  | .neq => K (.bo (decide (x ≠ y)))
  | .lss => K (.bo (decide (x < y)))
  | .leq => K (.bo (decide (x ≤ y)))
  | .gtr => K (.bo (decide (y < x)))
  | .geq => K (.bo (decide (y ≤ x)))
  | .add => K (R (x + y))
  | .sub => K (R (x - y))
  | .mul => K (R (x * y))
  | .quo => y ≠ 0 ∧ K (R (x / y))
  | .rem => y ≠ 0 ∧ K (R (x % y))
  | .and => K (R (x &&& y))
  | .or => K (R (x ||| y))
  | .xor => K (R (x ^^^ y))
  | .andNot => K (R (x &&& ~~~y))
  | _ => False
/-- A count of bits. -/
def cnt : AV → (Nat → Prop) → Prop
  | .nat k, K => K k
  | .int z, K => 0 ≤ z ∧ K z.toNat
  | .u8 x, K => K x.toNat
  | .u16 x, K => K x.toNat
  | .u32 x, K => K x.toNat
  | .u64 x, K => K x.toNat
  | _, _ => False
def shf {w : Nat} (op : BinOp) (x : BitVec w) (k : Nat) (R : BitVec w → AV) (K : AV → Prop) : Prop :=
  match op with
  | .shl => K (R (x <<< k))
  | .shr => K (R (x >>> k))
  | _ => False
def shfN (op : BinOp) (x : Nat) (k : Nat) (K : AV → Prop) : Prop :=
  match op with
  | .shl => k < 63 ∧ N63 (x * 2 ^ k) ∧ K (.nat (x * 2 ^ k))
  | .shr => k < 64 ∧ K (.nat (x / 2 ^ k))
  | _ => False
def bin0 (op : BinOp) (x y : AV) (K : AV → Prop) : Prop :=
  match x, y with
  | .u8 x, .u8 y => cmpB op x y .u8 K
  | .u16 x, .u16 y => cmpB op x y .u16 K
  | .u32 x, .u32 y => cmpB op x y .u32 K
  | .u64 x, .u64 y => cmpB op x y .u64 K
  | .nat x, .nat y => cmpN op x y K
  | .nat x, .int y => cmpI op x y K
  | .int x, .nat y => cmpI op x y K
  | .int x, .int y => cmpI op x y K
  | _, _ => False
def shf0 (op : BinOp) (x : AV) (K : AV → Prop) (k : Nat) : Prop :=
  match x with
  | .u8 x => shf op x k .u8 K
  | .u16 x => shf op x k .u16 K
  | .u32 x => shf op x k .u32 K
  | .u64 x => shf op x k .u64 K
  | .nat x => shfN op x k K
  | _ => False
def bin (op : BinOp) (x y : AV) (K : AV → Prop) : Prop :=
  match op with
  | .shl => cnt y (shf0 .shl x K)
  | .shr => cnt y (shf0 .shr x K)
  | op => bin0 op x y K
def una (op : UnOp) (x : AV) (K : AV → Prop) : Prop :=
  match op, x with
  | .not, .bo x => K (.bo (!x))
  | .xor, .u8 x => K (.u8 (~~~x))
  | .xor, .u16 x => K (.u16 (~~~x))
  | .xor, .u32 x => K (.u32 (~~~x))
  | .xor, .u64 x => K (.u64 (~~~x))
  | .neg, .nat x => N63 x ∧ K (.int (-x))
  | .neg, .int x => I64 (-x) ∧ K (.int (-x))
  | _, _ => False
def toW {v : Nat} (d : Ty) (x : BitVec v) (K : AV → Prop) : Prop :=
  match d with
  | .int .u8 => K (.u8 (x.setWidth 8))
  | .int .u16 => K (.u16 (x.setWidth 16))
  | .int .u32 => K (.u32 (x.setWidth 32))
  | .int .u64 => K (.u64 (x.setWidth 64))
  | .int .i64 => N63 x.toNat ∧ K (.nat x.toNat)
  | _ => False
def conv (d : Ty) (x : AV) (K : AV → Prop) : Prop :=
  match x with
  | .u8 x => toW d x K
  | .u16 x => toW d x K
  | .u32 x => toW d x K
  | .u64 x => toW d x K
  | .nat x => match d with
    | .int .u8 => K (.u8 (BitVec.ofNat 8 x))
    | .int .u16 => K (.u16 (BitVec.ofNat 16 x))
    | .int .u32 => K (.u32 (BitVec.ofNat 32 x))
    | .int .u64 => K (.u64 (BitVec.ofNat 64 x))
    | .int .i64 => N63 x ∧ K (.nat x)
    | _ => False
  | .int x => match d with
    | .int .u8 => K (.u8 (BitVec.ofInt 8 x))
    | .int .u16 => K (.u16 (BitVec.ofInt 16 x))
    | .int .u32 => K (.u32 (BitVec.ofInt 32 x))
    | .int .u64 => K (.u64 (BitVec.ofInt 64 x))
    | .int .i64 => I64 x ∧ K (.int x)
    | _ => False
  | _ => False
/-- An index. -/
def idx : AV → (Nat → Prop) → Prop
  | .nat k, K => K k
  | .int z, K => 0 ≤ z ∧ K z.toNat
  | .u8 x, K => K x.toNat
  | .u16 x, K => K x.toNat
  | .u32 x, K => K x.toNat
  | .u64 x, K => K x.toNat
  | _, _ => False
def idxO : Option AV → Nat → (Nat → Prop) → Prop
  | none, d, K => K d
  | some a, _, K => idx a K

/-- The elements of a slice. -/
def elems (m : Nat → Option Row) (ty : TypeId → Ty) : AV → (Ty → Nat → (Nat → AV) → List Nat → Prop) → Prop
  | .imm _ et l f, K => K et l f []
  | .gsl e k l, K => match m k with
    | some (.grow _ l' f) => l' = l ∧ K (ty e) l f [k]
    | _ => False
  | .gsub e k l o n, K => match m k with
    | some (.grow _ l' f) => l' = l ∧ K (ty e) n (fun i => f (o + i)) [k]
    | _ => False
  | .sub et k p o n, K => match m k with
    | some (.var _ a) => K et n (fun i => a.at (p ++ [o + i])) [k]
    | _ => False
  | _, _ => False

def lenOf : AV → (Nat → Prop) → Prop
  | .nils, K => K 0
  | .imm _ _ l _, K => K l
  | .gsl _ _ l, K => K l
  | .gsub _ _ _ _ l, K => K l
  | .sub _ _ _ _ l, K => K l
  | _, _ => False
/-- A type that is told. -/
def okT (τ : Ty) (K : Prop) : Prop :=
  match τ with
  | .no => False
  | _ => K
end Go.Proofs.YtdbiidfgbkmbmaaDoor
