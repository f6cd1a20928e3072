/- What each operation makes of plain values, and what must be shown of it; a function's text walked so. -/
import Derived.Test.YtdbiidfgbkmbmaaDoorE1
namespace Go.Proofs.YtdbiidfgbkmbmaaDoor
open Go.RowKit

/-- The value is one of the type. -/
def Sh : Ty → AV → Prop
  | .bo, .bo _ => True
  | .int .u8, .u8 _ => True
  | .int .u16, .u16 _ => True
  | .int .u32, .u32 _ => True
  | .int .u64, .u64 _ => True
  | .int .i32, .i32 _ => True
  | .int .i64, .nat _ => True
  | .int .i64, .int _ => True
  | .str, .str _ => True
  | .pt, .nilp => True
  | .pt, .ptr _ _ _ => True
  | .pt, .ipt _ _ => True
  | .sl _, .nils => True
  | .sl _, .imm _ _ _ _ => True
  | .sl _, .gsl _ _ _ => True
  | .sl _, .gsub _ _ _ _ _ => True
  | .sl _, .sub _ _ _ _ _ => True
  | .agg u l f, .agg u' l' g => u = u' ∧ l = l' ∧ ∀ i, i < l → Sh (el u f i) (g i)
  | _, _ => False
/-- It may be held against another one. -/
def Cmp : AV → Prop
  | .bo _ => True
  | .u8 _ => True
  | .u16 _ => True
  | .u32 _ => True
  | .u64 _ => True
  | .i32 _ => True
  | .nat _ => True
  | .int _ => True
  | .str _ => True
  | .agg _ l f => ∀ i, i < l → Cmp (f i)
  | _ => False
/-- For all places: of a struct they are told one by one. -/
def allB : Nat → (Nat → Prop) → Prop
  | 0, _ => True
  | n + 1, p => allB n p ∧ p n
def forI (u : Bool) (l : Nat) (p : Nat → Prop) : Prop := match u with
  | true => ∀ i, i < l → p i
  | false => allB l p
theorem allB_at {p : Nat → Prop} : ∀ {l : Nat}, allB l p → ∀ i, i < l → p i
  | n + 1, h, i, hi => by
    by_cases e : i = n
    · subst e; exact h.2
    · exact allB_at h.1 i (by omega)
theorem forI_at {u : Bool} {l : Nat} {p : Nat → Prop} (h : forI u l p) : ∀ i, i < l → p i := by
  cases u with
  | true => exact h
  | false => exact allB_at h
def ShW : Ty → AV → Prop
  | .bo, .bo _ => True
  | .int .u8, .u8 _ => True
  | .int .u16, .u16 _ => True
  | .int .u32, .u32 _ => True
  | .int .u64, .u64 _ => True
  | .int .i32, .i32 _ => True
  | .int .i64, .nat _ => True
  | .int .i64, .int _ => True
  | .str, .str _ => True
  | .pt, .nilp => True
  | .pt, .ptr _ _ _ => True
  | .pt, .ipt _ _ => True
  | .sl _, .nils => True
  | .sl _, .imm _ _ _ _ => True
  | .sl _, .gsl _ _ _ => True
  | .sl _, .gsub _ _ _ _ _ => True
  | .sl _, .sub _ _ _ _ _ => True
  | .agg u l f, .agg u' l' g => u = u' ∧ l = l' ∧ forI u l fun i => ShW (el u f i) (g i)
  | _, _ => False
def CmpW : AV → Prop
  | .bo _ => True
  | .u8 _ => True
  | .u16 _ => True
  | .u32 _ => True
  | .u64 _ => True
  | .i32 _ => True
  | .nat _ => True
  | .int _ => True
  | .str _ => True
  | .agg u l f => forI u l fun i => CmpW (f i)
  | _ => False
theorem ShW_of : ∀ {a : AV} {τ : Ty}, ShW τ a → Sh τ a := by
  intro a
  induction a with
  | agg u l g ih =>
    intro τ h
    cases τ with
    | agg u' n f => exact ⟨h.1, h.2.1, fun i hi => ih i (forI_at h.2.2 i hi)⟩
    | int k => cases k <;> exact h.elim
    | _ => exact h.elim
  | _ =>
    intro τ h
    cases τ with
    | int k => cases k <;> first | exact h | exact h.elim
    | _ => first | exact h | exact h.elim
theorem CmpW_of : ∀ {a : AV}, CmpW a → Cmp a := by
  intro a
  induction a with
  | agg u l g ih => intro h i hi; exact ih i (forI_at h i (by simpa using hi))
  | _ => intro h; first | exact h | exact h.elim
def bnd (k : Nat) : Prop := k ≤ 1000000000

def semSlice (ty : TypeId → Ty) (τ : Ty) (a : AV) (lo hi : Option AV) (K : Res → Prop) : Prop :=
  match τ with
  | .sl e => match a with
    | .nils => idxO lo 0 fun l => idxO hi 0 fun h => l ≤ h ∧ h ≤ 0 ∧ K ⟨.nils, [], []⟩
    | .imm g et n f => idxO lo 0 fun l => idxO hi n fun h => et = ty e ∧ l ≤ h ∧ h ≤ n ∧ K ⟨.imm g et (h - l) (fun i => f (l + i)), [], []⟩
    | .gsl e' k n => idxO lo 0 fun l => idxO hi n fun h => e' = e ∧ l ≤ h ∧ h ≤ n ∧ K ⟨.gsub e k n l (h - l), [], []⟩
    | .gsub e' k n o q => idxO lo 0 fun l => idxO hi q fun h => e' = e ∧ l ≤ h ∧ h ≤ q ∧ K ⟨.gsub e k n (o + l) (h - l), [], []⟩
    | .sub et k p o q => idxO lo 0 fun l => idxO hi q fun h => et = ty e ∧ l ≤ h ∧ h ≤ q ∧ K ⟨.sub et k p (o + l) (h - l), [], []⟩
    | _ => False
  | .agg true n f => match a with
    | .ptr τ' k p => idxO lo 0 fun l => idxO hi n fun h => τ' = .agg true n f ∧ l ≤ h ∧ h ≤ n ∧ K ⟨.sub (f 0) k p l (h - l), [], []⟩
    | _ => False
  | .str => match a with
    | .str s => idxO lo 0 fun l => idxO hi s.length fun h => l ≤ h ∧ h ≤ s.length ∧ K ⟨.str ((s.take h).drop l), [], []⟩
    | _ => False
  | _ => False

def semCopy (m : Nat → Option Row) (ty : TypeId → Ty) (e : TypeId) (d s : AV) (K : Res → Prop) : Prop :=
  match s with
  | .nils => lenOf d fun _ => K ⟨.nat 0, [], []⟩
  | s => elems m ty s fun et n g rd => et = ty e ∧ match d with
    | .nils => K ⟨.nat 0, [], rd⟩
    | .sub et' k p o l => match m k with
      | some (.var τ a) => et' = ty e ∧ K ⟨.nat (min n l), [(k, .var τ (a.upd p (.agg true (τ.at p).len (spliceA (ty e) (fun i => a.at (p ++ [i])) o (min n l) g))))], k :: rd⟩
      | _ => False
    | .gsl e' k l => match m k with
      | some (.grow _ l' f) => e' = e ∧ l' = l ∧ K ⟨.nat (min n l), [(k, .grow e l (spliceA (ty e) f 0 (min n l) g))], k :: rd⟩
      | _ => False
    | .gsub e' k l o q => match m k with
      | some (.grow _ l' f) => e' = e ∧ l' = l ∧ K ⟨.nat (min n q), [(k, .grow e l (spliceA (ty e) f o (min n q) g))], k :: rd⟩
      | _ => False
    | _ => False

def semAppend (m : Nat → Option Row) (ty : TypeId → Ty) (key : Nat) (e : TypeId) (d s : AV) (K : Res → Prop) : Prop :=
  match s with
  | .nils => lenOf d fun n => bnd n ∧ K ⟨d, [], []⟩
  | s => elems m ty s fun et n g rd => et = ty e ∧ match d with
    | .nils => bnd n ∧ K ⟨.gsl e key n, [(key, .grow e n g)], rd⟩
    | .gsl e' k l => match m k with
      | some (.grow _ l' f) => e' = e ∧ l' = l ∧ bnd (l + n) ∧ K ⟨.gsl e k (l + n), [(k, .grow e (l + n) (joinA (ty e) f l g))], k :: rd⟩
      | _ => False
    | _ => False

/-- The parts of a literal: each of its type, no place twice. -/
def litOk (S : Ty → AV → Prop) (u : Bool) (l : Nat) (f : Nat → Ty) : List (Nat × AV) → Prop
  | [] => True
  | (i, v) :: ps => i < l ∧ S (el u f i) v ∧ ps.all (fun q => !Nat.beq i q.1) = true ∧ litOk S u l f ps
def eqOp (op : BinOp) (b : Bool) (K : Res → Prop) : Prop :=
  match op with
  | .eql => K ⟨.bo b, [], []⟩
  | .neq => K ⟨.bo (!b), [], []⟩
  | _ => False
def semStr (x y : AV) (op : BinOp) (K : AV → Prop) : Prop :=
  match x, y with
  | .str a, .str b => match op with
    | .add => bnd (a.length + b.length) ∧ K (.str (a ++ b))
    | .eql => K (.bo (decide (a = b)))
    | .neq => K (.bo (decide (a ≠ b)))
    | _ => False
  | _, _ => False

/-- Bytes that are all told by the text: a literal that nobody writes. -/
def litB (τ : Ty) (l : Nat) (ps : List (Nat × Operand)) : Bool :=
  match τ with
  | .int .u8 => Nat.blt 0 l && ps.all fun q => match q.2 with
    | .const _ => true
    | _ => false
  | _ => false
def Ty.slE : Ty → TypeId | .sl e => e | _ => 0

def semG (S : Ty → AV → Prop) (C : AV → Prop) (E : Pg) (m : Nat → Option Row) (key : Nat) (x : Operand → AV) : Op → (Res → Prop) → Prop
  | .move y, K => K ⟨x y, [], []⟩
  | .assign y, K => K ⟨x y, [], []⟩
  | .pick c a b, K => match x c with
    | .bo v => (v = true → K ⟨x a, [], []⟩) ∧ (v = false → K ⟨x b, [], []⟩)
    | _ => False
  | .alloc t, K => okT (E.ty t) (K ⟨.ptr (E.ty t) key [], [(key, .var (E.ty t) (E.ty t).zero)], []⟩)
  | .box t y, K => okT (E.ty t) (S (E.ty t) (x y) ∧ K ⟨.ptr (E.ty t) key [], [(key, .var (E.ty t) (x y))], []⟩)
  | .build t ps, K => match E.ty t with
    | .agg true l f => litOk S true l f (ps.toList.map fun (i, y) => (i, x y)) ∧ K ⟨.agg true l (litA (f 0) (ps.toList.map fun (i, y) => (i, x y))), [], []⟩
    | .agg false l f => litOk S false l f (ps.toList.map fun (i, y) => (i, x y)) ∧ K ⟨.agg false l (fun i => look (ps.toList.map fun (i, y) => (i, x y)) (f i).zero i), [], []⟩
    | _ => False
  | .buildSlice t l ps, K => match E.ty t with
    | .sl e => l * (E.ty e).size ≤ 16777216 ∧ litOk S true l (fun _ => E.ty e) (ps.toList.map fun (i, y) => (i, x y)) ∧ match litB (E.ty e) l ps.toList with
      | true => K ⟨.imm true (E.ty e) l (litA (E.ty e) (ps.toList.map fun (i, y) => (i, x y))), [], []⟩
      | false => K ⟨.gsl e key l, [(key, .grow e l (litA (E.ty e) (ps.toList.map fun (i, y) => (i, x y))))], []⟩
    | _ => False
  | .load t y, K => okT (E.ty t) (match x y with
    | .ptr τ' k p => match m k with
      | some (.var _ a) => τ' = E.ty t ∧ K ⟨a.at p, [], [k]⟩
      | _ => False
    | .gpt τ' _ k l i p => match m k with
      | some (.grow _ l' f) => l' = l ∧ τ' = E.ty t ∧ K ⟨(f i).at p, [], [k]⟩
      | _ => False
    | .ipt τ a => τ = E.ty t ∧ K ⟨a, [], []⟩
    | _ => False)
  | .store t y z, K => okT (E.ty t) (match x y with
    | .ptr τ' k p => match m k with
      | some (.var τ a) => τ' = E.ty t ∧ S (E.ty t) (x z) ∧ K ⟨.junk, [(k, .var τ (a.upd p (x z)))], [k]⟩
      | _ => False
    | .gpt τ' e k l i p => match m k with
      | some (.grow _ l' f) => l' = l ∧ τ' = E.ty t ∧ S (E.ty t) (x z) ∧ K ⟨.junk, [(k, .grow e l (updA f i ((f i).upd p (x z))))], [k]⟩
      | _ => False
    | _ => False)
  | .nilCheck y, K => match x y with
    | .ptr τ k p => K ⟨.ptr τ k p, [], []⟩
    | .gpt τ e k l i p => K ⟨.gpt τ e k l i p, [], []⟩
    | .ipt τ a => K ⟨.ipt τ a, [], []⟩
    | _ => False
  | .binOp op t y z _, K => match x y with
    | .str a => semStr (.str a) (x z) op fun v => K ⟨v, [], []⟩
    | .agg u l f => match x z with
      | .agg u' l' g => okT (E.ty t) (C (.agg u l f) ∧ S (E.ty t) (.agg u l f) ∧ S (E.ty t) (.agg u' l' g) ∧ eqOp op (eqB (.agg u l f) (.agg u' l' g)) K)
      | _ => False
    | .bo a => match x z, E.ty t with
      | .bo b, .bo => eqOp op (a == b) K
      | _, _ => False
    | v => bin op v (x z) fun v => K ⟨v, [], []⟩
  | .unOp op _ y, K => una op (x y) fun v => K ⟨v, [], []⟩
  | .convert s d y, K => okT (E.ty s) (match E.ty d with
    | .sl e => match x y with
      | .imm fr et n f => s = d ∧ fr = true ∧ et = .int .u8 ∧ E.ty e = .int .u8 ∧ 0 < n ∧ K ⟨.imm true et n f, [], []⟩
      | .str b => E.ty s = .str ∧ E.ty e = .int .u8 ∧ bnd b.length ∧ K ⟨.imm true (.int .u8) b.length (fun i => .u8 (BitVec.ofNat 8 (b.getD i 0).toNat)), [], []⟩
      | _ => False
    | .str => match x y with
      | .str b => K ⟨.str b, [], []⟩
      | _ => False
    | d => conv d (x y) fun v => K ⟨v, [], []⟩)
  | .sliceToArrayPointer t y, K => match x y with
    | .imm _ et l f => match E.ty t with
      | .agg true n g => g 0 = et ∧ n ≤ l ∧ 0 < n ∧ K ⟨.ipt (.agg true n g) (.agg true n f), [], []⟩
      | _ => False
    | _ => False
  | .makeSlice t l c, K => match E.ty t with
    | .sl e => idx (x l) fun n => idx (x c) fun q => n ≤ q ∧ bnd q ∧ K ⟨.gsl e key n, [(key, .grow e n (fun _ => (E.ty e).zero))], []⟩
    | _ => False
  | .slice t y lo hi none, K => semSlice E.ty (E.ty t) (x y) (lo.map x) (hi.map x) K
  | .fieldAddr t y i, K => match E.ty t with
    | .agg false n f => i < n ∧ match x y with
      | .ptr τ' k p => τ' = .agg false n f ∧ K ⟨.ptr (f i) k (p ++ [i]), [], []⟩
      | .gpt τ' e k l j p => τ' = .agg false n f ∧ K ⟨.gpt (f i) e k l j (p ++ [i]), [], []⟩
      | .ipt τ' (.agg _ _ g) => τ' = .agg false n f ∧ K ⟨.ipt (f i) (g i), [], []⟩
      | _ => False
    | _ => False
  | .field t y i, K => match E.ty t with
    | .agg false n f => match x y with
      | .agg u l g => S (.agg false n f) (.agg u l g) ∧ i < n ∧ K ⟨g i, [], []⟩
      | _ => False
    | _ => False
  | .indexAddr t y i, K => idx (x i) fun j => match E.ty t with
    | .agg true n f => j < n ∧ match x y with
      | .ptr τ' k p => τ' = .agg true n f ∧ K ⟨.ptr (f 0) k (p ++ [j]), [], []⟩
      | .gpt τ' e k l q p => τ' = .agg true n f ∧ K ⟨.gpt (f 0) e k l q (p ++ [j]), [], []⟩
      | .ipt τ' (.agg _ _ g) => τ' = .agg true n f ∧ K ⟨.ipt (f 0) (g j), [], []⟩
      | _ => False
    | .sl e => match x y with
      | .imm _ et l f => et = E.ty e ∧ j < l ∧ K ⟨.ipt et (f j), [], []⟩
      | .gsl e' k l => e' = e ∧ j < l ∧ K ⟨.gpt (E.ty e) e k l j [], [], []⟩
      | .gsub e' k l o n => e' = e ∧ j < n ∧ K ⟨.gpt (E.ty e) e k l (o + j) [], [], []⟩
      | .sub et k p o n => et = E.ty e ∧ j < n ∧ K ⟨.ptr et k (p ++ [o + j]), [], []⟩
      | _ => False
    | _ => False
  | .index t y i, K => idx (x i) fun j => match E.ty t with
    | .agg true n f => match x y with
      | .agg u l g => S (.agg true n f) (.agg u l g) ∧ j < n ∧ K ⟨g j, [], []⟩
      | _ => False
    | .str => match x y with
      | .str s => j < s.length ∧ K ⟨.u8 (BitVec.ofNat 8 (s.getD j 0).toNat), [], []⟩
      | _ => False
    | _ => False
  | .extract y i, K => match x y with
    | .tup l f => i < l ∧ K ⟨f i, [], []⟩
    | _ => False
  | .call c, K => match c.callee with
    | .value (.func f) => E.ctr f (c.args.toList.map x) m key K
    | .builtin .len => match c.args.toList, c.argTypes.toList with
      | [y], [t] => match E.ty t with
        | .sl _ => lenOf (x y) fun l => K ⟨.nat l, [], []⟩
        | .str => match x y with
          | .str s => K ⟨.nat s.length, [], []⟩
          | _ => False
        | _ => False
      | _, _ => False
    | .builtin .min => match c.args.toList with
      | [y, z] => match x y, x z with
        | .nat a, .nat b => K ⟨.nat (min a b), [], []⟩
        | _, _ => False
      | _ => False
    | .builtin .max => match c.args.toList with
      | [y, z] => match x y, x z with
        | .nat a, .nat b => K ⟨.nat (max a b), [], []⟩
        | _, _ => False
      | _ => False
    | .builtin .copy => match c.args.toList, c.argTypes.toList with
      | [y, z], [t, s] => match E.ty t, E.ty s with
        | .sl e, .sl e' => e = e' ∧ semCopy m E.ty e (x y) (x z) K
        | _, _ => False
      | _, _ => False
    | .builtin .append => match c.args.toList, c.argTypes.toList with
      | [y, z], [t, t'] => match E.ty t with
        | .sl e => t = t' ∧ semAppend m E.ty key e (x y) (x z) K
        | _ => False
      | _, _ => False
    | _ => False
  | _, _ => False

def sem (E : Pg) (m : Nat → Option Row) (key : Nat) (x : Operand → AV) (op : Op) (K : Res → Prop) : Prop := semG Sh Cmp E m key x op K
def gsrc (l : List Oper) (i : Nat) : Bool := l.any fun o => match o.guard with
  | some (j, _) => Nat.beq j i
  | none => false
/-- The value, told whole ahead of what follows. -/
def AV.fc (a : AV) (K : AV → Prop) : Prop :=
  match a with
  | .junk => K .junk
  | .und => K .und
  | .bo a => K (.bo a)
  | .u8 a => K (.u8 a)
  | .u16 a => K (.u16 a)
  | .u32 a => K (.u32 a)
  | .u64 a => K (.u64 a)
  | .i32 a => K (.i32 a)
  | .nat a => K (.nat a)
  | .int a => K (.int a)
  | .str a => K (.str a)
  | .nilp => K .nilp
  | .ptr a b c => K (.ptr a b c)
  | .ipt a b => K (.ipt a b)
  | .nils => K .nils
  | .imm a b c d => K (.imm a b c d)
  | .gsl a b c => K (.gsl a b c)
  | .gpt a b c d e f => K (.gpt a b c d e f)
  | .gsub a b c d e => K (.gsub a b c d e)
  | .sub a b c d e => K (.sub a b c d e)
  | .agg a b c => K (.agg a b c)
  | .tup a b => K (.tup a b)
theorem fc_eq (a : AV) (K : AV → Prop) : a.fc K = K a := by cases a <;> rfl
def fk (g : Bool) (v : AV) (K : AV → Prop) : Prop :=
  match g with
  | false => v.fc K
  | true => match v with
    | .bo x => (x = true → K (.bo true)) ∧ (x = false → K (.bo false))
    | _ => False
def gval (l : List Oper) (t : Nat → AV) (j : Nat) : AV :=
  match l[j]? with
  | some o => match o.dst with
    | some d => t d
    | none => .junk
  | none => .junk
def anc (l : List Oper) (i j : Nat) : Bool := ((Region.before l.toArray).getD i 0).testBit j
/-- May the operation look at rows, or write such as are there? -/
def memOp (o : Oper) : Bool := match o.op with
  | .load .. | .store .. => true
  | .call c => match c.callee with
    | .builtin .len | .builtin .min | .builtin .max => false
    | _ => true
  | _ => false
def solo (l : List Oper) (i : Nat) : Bool := (List.range l.length).all fun j => Nat.beq i j || anc l i j || anc l j i || !(match l[j]? with | some o => memOp o | none => false)
def okR (l : List Oper) (base i : Nat) (o : Oper) (rd : List Nat) (wr : List Nat) : Bool :=
  (memOp o || rd.isEmpty) && rd.all (fun k => Nat.blt k base || anc l i ((k - base) / 8)) &&
  wr.all (fun k => (Nat.ble (base + 8 * i) k && Nat.blt k (base + 8 * i + 8)) || (memOp o && solo l i && (Nat.blt k base || anc l i ((k - base) / 8))))
/-- The slots that an operation names. -/
def tmpsOf (l : List Oper) (o : Oper) : List Nat := o.dst.toList ++ (o.op.operands.toList.filterMap fun | .tmp t => some t | _ => none) ++ (match o.guard with
  | some (j, _) => (match l[j]? with | some g => g.dst.toList | none => [])
  | none => [])
/-- The edges go back, and who writes a slot that another one names is ordered with it. -/
def regB (l : List Oper) : Bool :=
  (List.range l.length).all (fun i => match l[i]? with
    | some o => o.after.toList.all (fun e => !Region.binds .any e || Nat.blt e.on i)
    | none => true) &&
  (List.range l.length).all (fun i => match l[i]? with
    | some o => (List.range l.length).all (fun j => Nat.beq i j || (match l[j]? with
      | some p => (match p.dst with
        | some d => !(tmpsOf l o).contains d || anc l (max i j) (min i j)
        | none => true)
      | none => true))
    | none => true)
def wrB (key : Nat) (wr : List (Nat × Row)) : Bool := wr.all fun kw => Nat.blt kw.1 (key + 8)
def thenR (dr : Bool) (l : List Oper) (base i : Nat) (o : Oper) (r : Res) (K : Prop) : Prop :=
  match wrB (base + 8 * i) r.wr with
  | false => False
  | true => match dr with
    | false => K
    | true => okR l base i o r.rd (r.wr.map (·.1)) = true ∧ K

def nextT (nt : Nat) (t : Nat → AV) (d : Option Nat) (v : AV) (K : (Nat → AV) → Prop) : Prop :=
  match d with
  | none => K t
  | some d => match Nat.blt d nt with
    | true => K (put t d v)
    | false => K t
theorem nextT_eq (nt : Nat) (t : Nat → AV) (d : Option Nat) (v : AV) (K : (Nat → AV) → Prop) : nextT nt t d v K = K (putO nt t d v) := by
  cases d with
  | none => rfl
  | some d =>
    cases h : Nat.blt d nt <;> simp only [nextT, putO, h] <;> rfl
def nextM : (Nat → Option Row) → List (Nat × Row) → ((Nat → Option Row) → Prop) → Prop
  | m, [], K => K m
  | m, (k, r) :: l, K => nextM (putM m k r) l K
theorem nextM_eq : ∀ (m : Nat → Option Row) (wr : List (Nat × Row)) (K : (Nat → Option Row) → Prop), nextM m wr K = K (putW m wr)
  | _, [], _ => rfl
  | m, (k, r) :: l, K => nextM_eq (putM m k r) l K
def tmpsIn (op : Op) : List Nat := op.operands.toList.filterMap fun | .tmp t => some t | _ => none
def frc : List Nat → (Nat → AV) → List (Nat × AV) → (List (Nat × AV) → Prop) → Prop
  | [], _, acc, K => K acc
  | i :: is, t, acc, K => (t i).fc fun v => frc is t ((i, v) :: acc) K
def evL (E : Pg) (l : List (Nat × AV)) (y : Operand) : AV := match y with
  | .tmp i => look l .junk i
  | .const v => avOf v
  | .global g => E.gl g
  | .func _ => .junk
def wOps (E : Pg) (nt : Nat) (dr : Bool) (l : List Oper) (base : Nat) : Nat → List Oper → (Nat → AV) → (Nat → Option Row) → ((Nat → AV) → (Nat → Option Row) → Prop) → Prop
  | _, [], t, m, K => K t m
  | i, o :: rest, t, m, K =>
    match o.guard with
    | none => frc (tmpsIn o.op) t [] fun vs => semG ShW CmpW E m (base + 8 * i) (evL E vs) o.op fun r => thenR dr l base i o r (fk (gsrc l i) r.v fun v => nextT nt t o.dst v fun t => nextM m r.wr fun m => wOps E nt dr l base (i + 1) rest t m K)
    | some (j, want) => match gval l t j with
      | .bo b => match b == want with
        | true => frc (tmpsIn o.op) t [] fun vs => semG ShW CmpW E m (base + 8 * i) (evL E vs) o.op fun r => thenR dr l base i o r (fk (gsrc l i) r.v fun v => nextT nt t o.dst v fun t => nextM m r.wr fun m => wOps E nt dr l base (i + 1) rest t m K)
        | false => nextT nt t o.dst .und fun t => wOps E nt dr l base (i + 1) rest t m K
      | .und => nextT nt t o.dst .und fun t => wOps E nt dr l base (i + 1) rest t m K
      | _ => False

/-- What holds at the head of a loop. -/
structure LI where
  G : Type
  ok : G → Prop
  sl : G → List (Nat × AV)
  rw : G → List (Nat × Row)
  mu : G → Nat
  r0 : Nat → Option Nat
  r1 : Nat → Option Nat

def rowOf (l : List (Nat × Row)) (k : Nat) : Option Row :=
  match l with
  | [] => none
  | (j, r) :: l => bif Nat.beq k j then some r else rowOf l k
def nextK : List (Nat × Row) → Nat
  | [] => 8
  | (k, _) :: l => max (k + 1) (nextK l)
def stOf (sl : List (Nat × AV)) (rw : List (Nat × Row)) : St := ⟨look sl .junk, rowOf rw, nextK rw⟩

def keyIs (rw : List (Nat × Row)) (ρ : Nat → Option Nat) (k' k : Nat) : Bool := (rowOf rw k').isSome && match ρ k' with
  | some j => Nat.beq k j
  | none => false
def keyFree (rw : List (Nat × Row)) (ρ : Nat → Option Nat) (k : Nat) : Bool := rw.all fun q => match ρ q.1 with
  | some j => !Nat.beq k j
  | none => true
def growOf (r : Option Row) (K : TypeId → Nat → (Nat → AV) → Prop) : Prop :=
  match r with
  | some (.grow e n f) => K e n f
  | _ => False
def varOf (r : Option Row) (K : Ty → AV → Prop) : Prop :=
  match r with
  | some (.var τ a) => K τ a
  | _ => False
/-- Everything of the first value may be told as the second: rows keep their content, slices of the call's own may become such as nobody writes. -/
def Le (m : Nat → Option Row) (ty : TypeId → Ty) (rw : List (Nat × Row)) (ρ : Nat → Option Nat) : AV → AV → Prop
  | _, .junk => True
  | .und, .und => True
  | .bo x, .bo y => x = y
  | .u8 x, .u8 y => x = y
  | .u16 x, .u16 y => x = y
  | .u32 x, .u32 y => x = y
  | .u64 x, .u64 y => x = y
  | .i32 x, .i32 y => x = y
  | .nat x, .nat y => x = y
  | .nat x, .int y => (x : Int) = y
  | .int x, .nat y => x = (y : Int)
  | .int x, .int y => x = y
  | .str x, .str y => x = y
  | .nilp, .nilp => True
  | .ptr τ k p, .ptr τ' k' p' => keyIs rw ρ k' k = true ∧ τ = τ' ∧ p = p'
  | .ipt τ a, .ipt τ' a' => τ = τ' ∧ Sh τ' a' ∧ Le m ty rw ρ a a'
  | .nils, .nils => True
  | .nils, .imm _ _ l _ => l = 0
  | .nils, .gsl e' k' l => l = 0 ∧ (ρ k').isNone = true ∧ growOf (rowOf rw k') fun e _ _ => e = e'
  | .imm g et l f, .imm g' et' l' f' => (g || !g') = true ∧ et = et' ∧ l = l' ∧ ∀ i, i < l → Sh et' (f' i) ∧ Le m ty rw ρ (f i) (f' i)
  | .gsl e k l, .gsl e' k' l' => keyIs rw ρ k' k = true ∧ e = e' ∧ l = l'
  | .gsl _ k l, .imm fr et' l' f' => (!fr || Nat.ble 8 k) = true ∧ keyFree rw ρ k = true ∧ l = l' ∧ growOf (m k) fun e n f => ty e = et' ∧ n = l ∧ ∀ i, i < l → Sh et' (f' i) ∧ Le m ty rw ρ (f i) (f' i)
  | .gsub _ k al o l, .imm fr et' l' f' => (!fr || Nat.ble 8 k) = true ∧ keyFree rw ρ k = true ∧ l = l' ∧ growOf (m k) fun e n f => ty e = et' ∧ n = al ∧ o + l ≤ n ∧ ∀ i, i < l → Sh et' (f' i) ∧ Le m ty rw ρ (f (o + i)) (f' i)
  | .sub et k p o l, .imm fr et' l' f' => (!fr || Nat.ble 8 k) = true ∧ keyFree rw ρ k = true ∧ l = l' ∧ et = et' ∧ varOf (m k) fun _ a => ∀ i, i < l → Sh et' (f' i) ∧ Le m ty rw ρ (a.at (p ++ [o + i])) (f' i)
  | .gsub e k al o l, .gsub e' k' al' o' l' => keyIs rw ρ k' k = true ∧ e = e' ∧ al = al' ∧ o = o' ∧ l = l'
  | .gsl e k l, .gsub e' k' al' o' l' => keyIs rw ρ k' k = true ∧ e = e' ∧ l = al' ∧ o' = 0 ∧ l = l'
  | .sub et k p o l, .sub et' k' p' o' l' => keyIs rw ρ k' k = true ∧ et = et' ∧ p = p' ∧ o = o' ∧ l = l'
  | .gpt τ e k l i p, .gpt τ' e' k' l' i' p' => keyIs rw ρ k' k = true ∧ τ = τ' ∧ e = e' ∧ l = l' ∧ i = i' ∧ p = p'
  | .agg u l f, .agg u' l' f' => u = u' ∧ l = l' ∧ ∀ i, i < l → Le m ty rw ρ (f i) (f' i)
  | .tup l f, .tup l' f' => l = l' ∧ ∀ i, i < l → Le m ty rw ρ (f i) (f' i)
  | _, _ => False
termination_by structural _ b => b
def LeRow (m : Nat → Option Row) (ty : TypeId → Ty) (rw : List (Nat × Row)) (ρ : Nat → Option Nat) (k' : Nat) (r : Row) : Prop :=
  match ρ k' with
  | some k => match m k, r with
    | some (.var τ a), .var τ' a' => τ = τ' ∧ Sh τ' a' ∧ Le m ty rw ρ a a'
    | some (.grow e n f), .grow e' n' f' => e = e' ∧ n = n' ∧ ∀ i, i < n → Sh (ty e') (f' i) ∧ Le m ty rw ρ (f i) (f' i)
    | _, _ => False
  | none => match r with
    | .grow _ n _ => n = 0
    | _ => False
def LeSl (m : Nat → Option Row) (ty : TypeId → Ty) (rw : List (Nat × Row)) (ρ : Nat → Option Nat) (t : Nat → AV) : List (Nat × AV) → Prop
  | [] => True
  | (i, a) :: l => Le m ty rw ρ (t i) a ∧ LeSl m ty rw ρ t l
def LeRw (m : Nat → Option Row) (ty : TypeId → Ty) (rw : List (Nat × Row)) (ρ : Nat → Option Nat) : List (Nat × Row) → Prop
  | [] => True
  | (k, r) :: l => LeRow m ty rw ρ k r ∧ LeRw m ty rw ρ l
def distinctB : List Nat → Bool
  | [] => true
  | k :: l => l.all (fun j => !Nat.beq k j) && distinctB l
def LeW (m : Nat → Option Row) (ty : TypeId → Ty) (rw : List (Nat × Row)) (ρ : Nat → Option Nat) : AV → AV → Prop
  | _, .junk => True
  | .und, .und => True
  | .bo x, .bo y => x = y
  | .u8 x, .u8 y => x = y
  | .u16 x, .u16 y => x = y
  | .u32 x, .u32 y => x = y
  | .u64 x, .u64 y => x = y
  | .i32 x, .i32 y => x = y
  | .nat x, .nat y => x = y
  | .nat x, .int y => (x : Int) = y
  | .int x, .nat y => x = (y : Int)
  | .int x, .int y => x = y
  | .str x, .str y => x = y
  | .nilp, .nilp => True
  | .ptr τ k p, .ptr τ' k' p' => keyIs rw ρ k' k = true ∧ τ = τ' ∧ p = p'
  | .ipt τ a, .ipt τ' a' => τ = τ' ∧ ShW τ' a' ∧ LeW m ty rw ρ a a'
  | .nils, .nils => True
  | .nils, .imm _ _ l _ => l = 0
  | .nils, .gsl e' k' l => l = 0 ∧ (ρ k').isNone = true ∧ growOf (rowOf rw k') fun e _ _ => e = e'
  | .imm g et l f, .imm g' et' l' f' => (g || !g') = true ∧ et = et' ∧ l = l' ∧ ∀ i, i < l → ShW et' (f' i) ∧ LeW m ty rw ρ (f i) (f' i)
  | .gsl e k l, .gsl e' k' l' => keyIs rw ρ k' k = true ∧ e = e' ∧ l = l'
  | .gsl _ k l, .imm fr et' l' f' => (!fr || Nat.ble 8 k) = true ∧ keyFree rw ρ k = true ∧ l = l' ∧ growOf (m k) fun e n f => ty e = et' ∧ n = l ∧ ∀ i, i < l → ShW et' (f' i) ∧ LeW m ty rw ρ (f i) (f' i)
  | .gsub _ k al o l, .imm fr et' l' f' => (!fr || Nat.ble 8 k) = true ∧ keyFree rw ρ k = true ∧ l = l' ∧ growOf (m k) fun e n f => ty e = et' ∧ n = al ∧ o + l ≤ n ∧ ∀ i, i < l → ShW et' (f' i) ∧ LeW m ty rw ρ (f (o + i)) (f' i)
  | .sub et k p o l, .imm fr et' l' f' => (!fr || Nat.ble 8 k) = true ∧ keyFree rw ρ k = true ∧ l = l' ∧ et = et' ∧ varOf (m k) fun _ a => ∀ i, i < l → ShW et' (f' i) ∧ LeW m ty rw ρ (a.at (p ++ [o + i])) (f' i)
  | .gsub e k al o l, .gsub e' k' al' o' l' => keyIs rw ρ k' k = true ∧ e = e' ∧ al = al' ∧ o = o' ∧ l = l'
  | .gsl e k l, .gsub e' k' al' o' l' => keyIs rw ρ k' k = true ∧ e = e' ∧ l = al' ∧ o' = 0 ∧ l = l'
  | .sub et k p o l, .sub et' k' p' o' l' => keyIs rw ρ k' k = true ∧ et = et' ∧ p = p' ∧ o = o' ∧ l = l'
  | .gpt τ e k l i p, .gpt τ' e' k' l' i' p' => keyIs rw ρ k' k = true ∧ τ = τ' ∧ e = e' ∧ l = l' ∧ i = i' ∧ p = p'
  | .agg u l f, .agg u' l' f' => u = u' ∧ l = l' ∧ forI u l fun i => LeW m ty rw ρ (f i) (f' i)
  | .tup l f, .tup l' f' => l = l' ∧ allB l fun i => LeW m ty rw ρ (f i) (f' i)
  | _, _ => False
termination_by structural _ b => b
def LeRowW (m : Nat → Option Row) (ty : TypeId → Ty) (rw : List (Nat × Row)) (ρ : Nat → Option Nat) (k' : Nat) (r : Row) : Prop :=
  match ρ k' with
  | some k => match m k, r with
    | some (.var τ a), .var τ' a' => τ = τ' ∧ ShW τ' a' ∧ LeW m ty rw ρ a a'
    | some (.grow e n f), .grow e' n' f' => e = e' ∧ n = n' ∧ ∀ i, i < n → ShW (ty e') (f' i) ∧ LeW m ty rw ρ (f i) (f' i)
    | _, _ => False
  | none => match r with
    | .grow _ n _ => n = 0
    | _ => False
def LeSlW (m : Nat → Option Row) (ty : TypeId → Ty) (rw : List (Nat × Row)) (ρ : Nat → Option Nat) (t : Nat → AV) : List (Nat × AV) → Prop
  | [] => True
  | (i, a) :: l => LeW m ty rw ρ (t i) a ∧ LeSlW m ty rw ρ t l
def LeRwW (m : Nat → Option Row) (ty : TypeId → Ty) (rw : List (Nat × Row)) (ρ : Nat → Option Nat) : List (Nat × Row) → Prop
  | [] => True
  | (k, r) :: l => LeRowW m ty rw ρ k r ∧ LeRwW m ty rw ρ l
section
variable {m : Nat → Option Row} {ty : TypeId → Ty} {rw : List (Nat × Row)} {ρ : Nat → Option Nat}
theorem growOf_imp {r : Option Row} {F G : TypeId → Nat → (Nat → AV) → Prop} (hFG : ∀ e n f, F e n f → G e n f) (h : growOf r F) : growOf r G := by
  unfold growOf at h ⊢
  split at h
  · exact hFG _ _ _ h
  · exact h.elim
theorem varOf_imp {r : Option Row} {F G : Ty → AV → Prop} (hFG : ∀ τ a, F τ a → G τ a) (h : varOf r F) : varOf r G := by
  unfold varOf at h ⊢
  split at h
  · exact hFG _ _ h
  · exact h.elim
theorem LeW_of : ∀ {b a : AV}, LeW m ty rw ρ a b → Le m ty rw ρ a b := by
  intro b
  induction b with
  | junk => intro a _; cases a <;> trivial
  | ipt τ a' ih =>
    intro a h
    cases a with
    | ipt τ a => exact ⟨h.1, ShW_of h.2.1, ih h.2.2⟩
    | _ => exact h.elim
  | imm fr et l f ih =>
    intro a h
    cases a with
    | imm fr' et' l' f' => exact ⟨h.1, h.2.1, h.2.2.1, fun i hi => ⟨ShW_of (h.2.2.2 i hi).1, ih i (h.2.2.2 i hi).2⟩⟩
    | gsl e k l => exact ⟨h.1, h.2.1, h.2.2.1, growOf_imp (fun e n f hh => ⟨hh.1, hh.2.1, fun i hi => ⟨ShW_of (hh.2.2 i hi).1, ih i (hh.2.2 i hi).2⟩⟩) h.2.2.2⟩
    | gsub e k al o l => exact ⟨h.1, h.2.1, h.2.2.1, growOf_imp (fun e n f hh => ⟨hh.1, hh.2.1, hh.2.2.1, fun i hi => ⟨ShW_of (hh.2.2.2 i hi).1, ih i (hh.2.2.2 i hi).2⟩⟩) h.2.2.2⟩
    | sub et' k p o l' => exact ⟨h.1, h.2.1, h.2.2.1, h.2.2.2.1, varOf_imp (fun τ a hh i hi => ⟨ShW_of (hh i hi).1, ih i (hh i hi).2⟩) h.2.2.2.2⟩
    | nils => exact h
    | _ => exact h.elim
  | agg u l f ih =>
    intro a h
    cases a with
    | agg u' l' f' =>
      obtain ⟨rfl, rfl, h⟩ := h
      exact ⟨rfl, rfl, fun i hi => ih i (forI_at h i hi)⟩
    | _ => exact h.elim
  | tup l f ih =>
    intro a h
    cases a with
    | tup l' f' =>
      obtain ⟨rfl, h⟩ := h
      exact ⟨rfl, fun i hi => ih i (allB_at h i hi)⟩
    | _ => exact h.elim
  | _ => intro a h; cases a <;> first | exact h | exact h.elim
theorem LeRowW_of {k : Nat} {r : Row} (h : LeRowW m ty rw ρ k r) : LeRow m ty rw ρ k r := by
  unfold LeRowW at h
  unfold LeRow
  cases hρ : ρ k with
  | none => rw [hρ] at h; exact h
  | some K =>
    rw [hρ] at h
    simp only at h ⊢
    cases hk : m K with
    | none => simp only [hk] at h
    | some r0 =>
      rw [hk] at h
      cases r0 with
      | var τ a =>
        cases r with
        | var τ' a' => exact ⟨h.1, ShW_of h.2.1, LeW_of h.2.2⟩
        | grow _ _ _ => exact h.elim
      | grow e n f =>
        cases r with
        | var _ _ => exact h.elim
        | grow e' n' f' => exact ⟨h.1, h.2.1, fun i hi => ⟨ShW_of (h.2.2 i hi).1, LeW_of (h.2.2 i hi).2⟩⟩
theorem LeRwW_of : ∀ {l : List (Nat × Row)}, LeRwW m ty rw ρ l → LeRw m ty rw ρ l
  | [], _ => trivial
  | (_, _) :: _, h => ⟨LeRowW_of h.1, LeRwW_of h.2⟩
theorem LeSlW_of {t : Nat → AV} : ∀ {l : List (Nat × AV)}, LeSlW m ty rw ρ t l → LeSl m ty rw ρ t l
  | [], _ => trivial
  | (_, _) :: _, h => ⟨LeW_of h.1, LeSlW_of h.2⟩
end
def injB (ks : List Nat) (ρ : Nat → Option Nat) : Bool := distinctB (ks.filterMap ρ)
/-- What the call was given stays named as it was. -/
def passB (m : Nat → Option Row) (rw : List (Nat × Row)) (ρ : Nat → Option Nat) : Bool := (List.range 8).all fun j => !(m j).isSome || ((rowOf rw j).isSome && match ρ j with
  | some k => Nat.beq k j
  | none => false)
def freshB (ks : List Nat) (ρ : Nat → Option Nat) : Bool := ks.all fun k' => Nat.blt k' 8 || match ρ k' with
  | some k => Nat.ble 8 k
  | none => true
def namesB (m : Nat → Option Row) (rw : List (Nat × Row)) (ρ : Nat → Option Nat) : Bool := injB (rw.map (·.1)) ρ && passB m rw ρ && freshB (rw.map (·.1)) ρ
def Ent (E : Pg) (s : St) (sl : List (Nat × AV)) (rw : List (Nat × Row)) (ρ : Nat → Option Nat) : Prop :=
  namesB s.m rw ρ = true ∧ LeRwW s.m E.ty rw ρ rw ∧ LeSlW s.m E.ty rw ρ s.t sl

def firstReg : Code → Nat
  | .region i _ _ => i
  | .seq a _ => firstReg a
  | .block _ a => firstReg a
  | .loop a => firstReg a
  | .scope a => firstReg a
  | _ => 0

def regOK (dr : Bool) (ops : List Oper) : Bool := Nat.ble ops.length 128 && (!dr || regB ops)
def xb (id : Nat) (N : St → Prop) (X : Exit → St → Prop) : Exit → St → Prop := fun e s => match e with
  | .exit j => match Nat.beq j id with
    | true => N s
    | false => X (.exit j) s
  | e => X e s
/-- A loop is entered, or gone round again. -/
inductive Enter (E : Pg) (L : LI) (J : L.G → Prop) (s : St) : Prop
  | mk (g : L.G) (h1 : L.ok g) (hJ : J g) (h2 : Ent E s (L.sl g) (L.rw g) L.r0) : Enter E L J s
inductive Again (E : Pg) (L : LI) (J : L.G → Prop) (g0 : L.G) (s : St) : Prop
  | mk (g : L.G) (h1 : L.ok g) (hJ : J g) (h2 : L.mu g < L.mu g0) (h3 : Ent E s (L.sl g) (L.rw g) L.r1) : Again E L J g0 s
/-- What must be shown for the text to end in N, if it comes to its end, or otherwise in X. -/
def W (E : Pg) (nt : Nat) (inv : Nat → Option LI) : Code → St → (St → Prop) → (Exit → St → Prop) → Prop
  | .skip, s, N, _ => N s
  | .region _ ops dr, s, N, _ => match s with
    | ⟨t, m, c⟩ => regOK dr ops.toList = true ∧ wOps E nt dr ops.toList c 0 ops.toList t m fun t m => N ⟨t, m, c + 1024⟩
  | .seq x y, s, N, X => match inv (100000 + firstReg y) with
    | none => W E nt inv x s (fun s => W E nt inv y s N X) X
    | some L => ∃ J : L.G → Prop, W E nt inv x s (fun s => Enter E L J s) X ∧ ∀ g, L.ok g → J g → W E nt inv y (stOf (L.sl g) (L.rw g)) N X
  | .cond c x y, s, N, X => match ev E s.t c with
    | .bo v => (v = true → W E nt inv x s N X) ∧ (v = false → W E nt inv y s N X)
    | _ => False
  | .block id c, s, N, X => W E nt inv c s N (xb id N X)
  | .exit j, s, _, X => X (.exit j) s
  | .ret, s, _, X => X .ret s
  | .loop c, s, _, X => match inv (firstReg c) with
    | none => False
    | some L => ∃ J : L.G → Prop, Enter E L J s ∧ ∀ g, L.ok g → J g → W E nt inv c (stOf (L.sl g) (L.rw g)) (fun s => Again E L J g s) X
  | _, _, _, _ => False
end Go.Proofs.YtdbiidfgbkmbmaaDoor
