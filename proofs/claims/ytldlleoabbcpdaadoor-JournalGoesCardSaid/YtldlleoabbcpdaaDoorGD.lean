/- The machine of plain values, part D. -/
import Derived.Test.YtldlleoabbcpdaaDoorGC
import Derived.Orders
import Derived.LoopN
import Derived.Scope
/- The machine's state and the plain one; a statement's operations, one behind the other. -/
namespace Go.Proofs.YtldlleoabbcpdaaDoor
open Go.RowKit
/-- The plain state tells the machine's. c0: what the call was given. -/
structure Abs (P : Program) (E : Pg) (nt : Nat) (c0 : Cx) (s : St) (c : Cx) (a : Act) : Prop where
  ty : c.ty = E.ty
  mem : MemOK c
  bs : c.fb ≤ c.w.heap.size
  base : c.base = c0.base
  fb : c.fb = c0.fb
  low : Below c0.base c0.w c.w
  since : Stab c0 c
  m : c.m = s.m
  t : ∀ i, RV c (s.t i) (a.tmps.getD i undef)
  nt : a.tmps.size = nt
  dfr : a.defers = []
  gl : ∀ g, RV c (E.gl g) (.pointer (some ⟨g, 0, none⟩))
  keep : c0.kp → ∀ b, b < c0.w.heap.size → c0.Mu b → c.Mu b
def Fr (s : St) (b : Nat) : Prop := ∀ k, b ≤ k → s.m k = none
theorem rv_const (c : Cx) (v : Value) : RV c (avOf v) v := by
  unfold avOf
  split
  · exact rfl
  · rename_i z
    by_cases h : 0 ≤ z
    · simp only [h, decide_true, cond_true]; show [_] = [_]; rw [Int.toNat_of_nonneg h]
    · simp only [h, decide_false, cond_false]; rfl
  · rename_i z
    by_cases h : 0 ≤ z ∧ z < 256
    · simp only [h.1, h.2, decide_true, Bool.and_self, cond_true]
      show [_] = [_]; congr 2; unfold U8; rw [BitVec.toNat_ofInt]; omega
    · have : (decide (0 ≤ z) && decide (z < 256)) = false := by simp; omega
      rw [this]; trivial
  · rename_i z
    by_cases h : 0 ≤ z ∧ z < 65536
    · simp only [h.1, h.2, decide_true, Bool.and_self, cond_true]
      show [_] = [_]; congr 2; unfold U16; rw [BitVec.toNat_ofInt]; omega
    · have : (decide (0 ≤ z) && decide (z < 65536)) = false := by simp; omega
      rw [this]; trivial
  · rename_i z
    by_cases h : 0 ≤ z ∧ z < 4294967296
    · simp only [h.1, h.2, decide_true, Bool.and_self, cond_true]
      show [_] = [_]; congr 2; unfold U32; rw [BitVec.toNat_ofInt]; omega
    · have : (decide (0 ≤ z) && decide (z < 4294967296)) = false := by simp; omega
      rw [this]; trivial
  · rename_i z
    by_cases h : 0 ≤ z ∧ z < 18446744073709551616
    · simp only [h.1, h.2, decide_true, Bool.and_self, cond_true]
      show [_] = [_]; congr 2; unfold U64; rw [BitVec.toNat_ofInt]; omega
    · have : (decide (0 ≤ z) && decide (z < 18446744073709551616)) = false := by simp; omega
      rw [this]; trivial
  · rename_i z
    by_cases h : -2147483648 ≤ z ∧ z < 2147483648
    · simp only [h.1, h.2, decide_true, Bool.and_self, cond_true]
      show [_] = [_]; congr 2; rw [BitVec.toInt_ofInt]; simp [Int.bmod]; omega
    · have : (decide (-2147483648 ≤ z) && decide (z < 2147483648)) = false := by simp; omega
      rw [this]; trivial
  · rename_i z
    by_cases h : -128 ≤ z ∧ z < 128
    · simp only [h.1, h.2, decide_true, Bool.and_self, cond_true]
      show [_] = [_]; congr 2; rw [BitVec.toInt_ofInt]; simp [Int.bmod]; omega
    · have : (decide (-128 ≤ z) && decide (z < 128)) = false := by simp; omega
      rw [this]; trivial
  · rename_i z
    by_cases h : -32768 ≤ z ∧ z < 32768
    · simp only [h.1, h.2, decide_true, Bool.and_self, cond_true]
      show [_] = [_]; congr 2; rw [BitVec.toInt_ofInt]; simp [Int.bmod]; omega
    · have : (decide (-32768 ≤ z) && decide (z < 32768)) = false := by simp; omega
      rw [this]; trivial
  · exact rfl
  · exact rfl
  · exact rfl
  · exact rfl
  · exact rfl
  · trivial
section
variable {P : Program} {E : Pg} {nt : Nat} {c0 : Cx} {s : St} {c : Cx} {a : Act}
theorem Abs.ev (h : Abs P E nt c0 s c a) (y : Operand) : RV c (ev E s.t y) (a.eval y) := by
  cases y with
  | tmp i => exact h.t i
  | const v => exact rv_const c v
  | global g => exact h.gl g
  | func f => rfl
theorem put_getD (a : Act) (d : Option Tmp) (v : Value) (i : Nat) : (a.put d v).tmps.getD i undef = if d = some i ∧ i < a.tmps.size then v else a.tmps.getD i undef := by
  cases d with
  | none => simp [Act.put]
  | some d =>
    simp only [Act.put, Option.some.injEq, Array.getD_eq_getD_getElem?, Array.getElem?_setIfInBounds]
    by_cases h1 : d = i
    · subst h1
      by_cases h2 : d < a.tmps.size
      · simp [h2]
      · simp [h2]
    · simp [h1]
theorem putO_at (nt : Nat) (t : Nat → AV) (d : Option Nat) (v : AV) (i : Nat) : putO nt t d v i = if d = some i ∧ i < nt then v else t i := by
  cases d with
  | none => simp [putO]
  | some d =>
    simp only [putO, Option.some.injEq]
    cases h : Nat.blt d nt with
    | true =>
      have hd : d < nt := by simpa [Nat.blt_eq] using h
      simp only [cond_true, put]
      by_cases e : d = i
      · subst e; simp [hd]
      · have : Nat.beq i d = false := by rw [← Bool.not_eq_true, Nat.beq_eq]; exact fun h => e h.symm
        rw [this]; simp [e]
    | false =>
      have hd : ¬ d < nt := by intro hh; rw [(by simpa [Nat.blt_eq] using hh : Nat.blt d nt = true)] at h; cases h
      simp only [cond_false]
      by_cases e : d = i
      · subst e; simp [hd]
      · simp [e]
theorem putW_not {m : Nat → Option Row} : ∀ {wr : List (Nat × Row)} {k : Nat}, (∀ q ∈ wr, q.1 ≠ k) → putW m wr k = m k
  | [], _, _ => rfl
  | (j, r) :: wr, k, h => by
    show putW (putM m j r) wr k = m k
    rw [putW_not (fun q hq => h q (by simp [hq])), putM_ne _ _ (fun e => h (j, r) (by simp) e.symm)]
/-- One operation. -/
def step1 (nt : Nat) (o : Oper) (q : Bool × Res) (s : St) : St := ⟨putO nt s.t o.dst q.2.v, putW s.m q.2.wr, s.c⟩
theorem Abs.step (h : Abs P E nt c0 s c a) {o : Oper} {q : Bool × Res} {c' : Cx} {v : Value} (hs : Step c q.2.wr c') (hv : RV c' q.2.v v) : Abs P E nt c0 (step1 nt o q s) c' (a.put o.dst v) := by
  refine ⟨hs.stab.ty.trans h.ty, hs.mem, ?_, hs.base.trans h.base, hs.fb.trans h.fb, h.low.trans (by rw [← h.base]; exact hs.low), h.since.trans hs.stab, ?_, fun i => ?_, ?_, ?_, fun g => RV_stab hs.stab (h.gl g), fun hk b hb hmu => hs.keep b (Nat.lt_of_lt_of_le hb h.since.size) (h.keep hk b hb hmu)⟩
  · rw [hs.fb]; exact Nat.le_trans h.bs hs.stab.size
  · rw [hs.m, h.m]; rfl
  · show RV c' (putO nt s.t o.dst q.2.v i) _
    rw [put_getD, putO_at, h.nt]
    split
    · exact hv
    · exact RV_stab hs.stab (h.t i)
  · rw [← h.nt]; cases o.dst <;> simp [Act.put]
  · rw [← h.dfr]; cases o.dst <;> rfl
theorem Abs.skip (h : Abs P E nt c0 s c a) (o : Oper) : Abs P E nt c0 (step1 nt o (false, ⟨.und, [], []⟩) s) c (a.put o.dst undef) :=
  h.step (q := (false, ⟨.und, [], []⟩)) (Step.refl h.mem) rfl
/-- What an operation makes hangs on its operands alone. -/
theorem sem_congr {E : Pg} {m : Nat → Option Row} {key : Nat} {x x' : Operand → AV} {op : Op} {K : Res → Prop} (h : ∀ y ∈ op.operands.toList, x y = x' y) (hs : sem E m key x op K) : sem E m key x' op K := by
  cases op with
  | call c =>
    have ha : c.args.toList.map x = c.args.toList.map x' := List.map_congr_left fun y hy => h y (by
      simp only [Op.operands, Call.operands]
      cases c.callee <;> simp <;> first | exact Or.inr (by simpa using hy) | exact (by simpa using hy))
    have hx : ∀ y, y ∈ c.args.toList → x y = x' y := fun y hy => by
      have := List.map_inj_left.1 ha y hy; exact this
    simp only [sem, semG] at hs ⊢
    split at hs
    · rw [← ha]; exact hs
    · rename_i i hcal
      have h0 := h (.tmp i) (by simp [Op.operands, Call.operands, hcal])
      rw [← ha, ← h0]; exact hs
    · split at hs <;> first | exact hs.elim | skip
      rename_i y t ha' ht'
      have := hx y (by rw [ha']; simp)
      rw [← this]; exact hs
    · split at hs <;> first | exact hs.elim | skip
      rename_i y t ha' ht'
      have := hx y (by rw [ha']; simp)
      rw [← this]; exact hs
    · split at hs <;> first | exact hs.elim | skip
      · rename_i y z ha'
        have h1 := hx y (by rw [ha']; simp)
        have h2 := hx z (by rw [ha']; simp)
        rw [← h1, ← h2]; exact hs
      · rename_i y z w ha'
        have h1 := hx y (by rw [ha']; simp)
        have h2 := hx z (by rw [ha']; simp)
        have h3 := hx w (by rw [ha']; simp)
        rw [← h1, ← h2, ← h3]; exact hs
    · split at hs <;> first | exact hs.elim | skip
      rename_i y z ha'
      have h1 := hx y (by rw [ha']; simp)
      have h2 := hx z (by rw [ha']; simp)
      rw [← h1, ← h2]; exact hs
    · split at hs <;> first | exact hs.elim | skip
      rename_i y z t s ha' ht'
      have h1 := hx y (by rw [ha']; simp)
      have h2 := hx z (by rw [ha']; simp)
      rw [← h1, ← h2]; exact hs
    · split at hs <;> first | exact hs.elim | skip
      rename_i y z t s ha' ht'
      have h1 := hx y (by rw [ha']; simp)
      have h2 := hx z (by rw [ha']; simp)
      rw [← h1, ← h2]; exact hs
    · exact hs.elim
  | build t ps =>
    have ha : (ps.toList.map fun (i, y) => (i, x y)) = ps.toList.map fun (i, y) => (i, x' y) := List.map_congr_left fun q hq => by
      obtain ⟨i, y⟩ := q
      show (i, x y) = (i, x' y)
      rw [h y (by simp only [Op.operands]; simpa using ⟨i, by simpa using hq⟩)]
    simp only [sem, semG, ha] at hs ⊢; exact hs
  | buildSlice t l ps =>
    have ha : (ps.toList.map fun (i, y) => (i, x y)) = ps.toList.map fun (i, y) => (i, x' y) := List.map_congr_left fun q hq => by
      obtain ⟨i, y⟩ := q
      show (i, x y) = (i, x' y)
      rw [h y (by simp only [Op.operands]; simpa using ⟨i, by simpa using hq⟩)]
    simp only [sem, semG, ha] at hs ⊢; exact hs
  | slice t y lo hi mx =>
    cases mx with
    | some z =>
      cases hi with
      | none => exact hs.elim
      | some z' =>
        have h1 := h y (by simp [Op.operands])
        have h2 : lo.map x = lo.map x' := by cases lo <;> first | rfl | (simp only [Option.map_some]; rw [h _ (by simp [Op.operands])])
        have h3 := h z (by simp [Op.operands])
        have h4 := h z' (by simp [Op.operands])
        simp only [sem, semG, h1, h2, h3, h4] at hs ⊢; exact hs
    | none =>
      have h1 := h y (by simp [Op.operands])
      have h2 : lo.map x = lo.map x' := by cases lo <;> first | rfl | (simp only [Option.map_some]; rw [h _ (by simp [Op.operands])])
      have h3 : hi.map x = hi.map x' := by cases hi <;> first | rfl | (simp only [Option.map_some]; rw [h _ (by simp [Op.operands])])
      simp only [sem, semG, h1, h2, h3] at hs ⊢; exact hs
  | pick a b c =>
    have h1 := h a (by simp [Op.operands]); have h2 := h b (by simp [Op.operands]); have h3 := h c (by simp [Op.operands])
    simp only [sem, semG, h1, h2, h3] at hs ⊢; exact hs
  | alloc t => exact hs
  | move y => have h1 := h y (by simp [Op.operands]); simp only [sem, semG, h1] at hs ⊢; exact hs
  | assign y => have h1 := h y (by simp [Op.operands]); simp only [sem, semG, h1] at hs ⊢; exact hs
  | box t y => have h1 := h y (by simp [Op.operands]); simp only [sem, semG, h1] at hs ⊢; exact hs
  | load t y => have h1 := h y (by simp [Op.operands]); simp only [sem, semG, h1] at hs ⊢; exact hs
  | nilCheck y => have h1 := h y (by simp [Op.operands]); simp only [sem, semG, h1] at hs ⊢; exact hs
  | unOp p t y => have h1 := h y (by simp [Op.operands]); simp only [sem, semG, h1] at hs ⊢; exact hs
  | convert a b y => have h1 := h y (by simp [Op.operands]); simp only [sem, semG, h1] at hs ⊢; exact hs
  | sliceToArrayPointer t y => have h1 := h y (by simp [Op.operands]); simp only [sem, semG, h1] at hs ⊢; exact hs
  | makeMap t r =>
    cases r with
    | none => simp only [sem, semG] at hs ⊢; exact hs
    | some _ => exact hs.elim
  | insert t y z w =>
    have h1 := h y (by simp [Op.operands])
    have h2 := h z (by simp [Op.operands])
    have h3 := h w (by simp [Op.operands])
    simp only [sem, semG, h1, h2, h3] at hs ⊢; exact hs
  | mapUpdate t y z w =>
    have h1 := h y (by simp [Op.operands])
    have h2 := h z (by simp [Op.operands])
    have h3 := h w (by simp [Op.operands])
    simp only [sem, semG, h1, h2, h3] at hs ⊢; exact hs
  | lookup t y z ok =>
    have h1 := h y (by simp [Op.operands])
    have h2 := h z (by simp [Op.operands])
    simp only [sem, semG, h1, h2] at hs ⊢; exact hs
  | range t y => have h1 := h y (by simp [Op.operands]); simp only [sem, semG, h1] at hs ⊢; exact hs
  | entry y => have h1 := h y (by simp [Op.operands]); simp only [sem, semG, h1] at hs ⊢; exact hs
  | next y b =>
    have h1 := h y (by simp [Op.operands])
    cases b with
    | true => simp only [sem, semG, h1] at hs ⊢; exact hs
    | false => exact hs.elim
  | fieldAddr t y i => have h1 := h y (by simp [Op.operands]); simp only [sem, semG, h1] at hs ⊢; exact hs
  | field t y i => have h1 := h y (by simp [Op.operands]); simp only [sem, semG, h1] at hs ⊢; exact hs
  | makeFunc fn first caps =>
    cases fn with
    | func f =>
      have h1 : first.toList.map x = first.toList.map x' := List.map_congr_left fun y hy => h y (by simp only [Op.operands, Array.mem_toList_iff, Array.mem_append]; exact .inl (Array.mem_toList_iff.1 hy))
      have h2 : caps.toList.map x = caps.toList.map x' := List.map_congr_left fun y hy => h y (by simp only [Op.operands, Array.mem_toList_iff, Array.mem_append]; exact .inr (Array.mem_toList_iff.1 hy))
      simp only [sem, semG, h1, h2] at hs ⊢; exact hs
    | _ => exact hs.elim
  | extract y i => have h1 := h y (by simp [Op.operands]); simp only [sem, semG, h1] at hs ⊢; exact hs
  | store t y z => have h1 := h y (by simp [Op.operands]); have h2 := h z (by simp [Op.operands]); simp only [sem, semG, h1, h2] at hs ⊢; exact hs
  | binOp p t y z u => have h1 := h y (by simp [Op.operands]); have h2 := h z (by simp [Op.operands]); simp only [sem, semG, h1, h2] at hs ⊢; exact hs
  | makeSlice t y z => have h1 := h y (by simp [Op.operands]); have h2 := h z (by simp [Op.operands]); simp only [sem, semG, h1, h2] at hs ⊢; exact hs
  | indexAddr t y z => have h1 := h y (by simp [Op.operands]); have h2 := h z (by simp [Op.operands]); simp only [sem, semG, h1, h2] at hs ⊢; exact hs
  | index t y z => have h1 := h y (by simp [Op.operands]); have h2 := h z (by simp [Op.operands]); simp only [sem, semG, h1, h2] at hs ⊢; exact hs
  | _ => exact hs.elim
open Classical in
/-- Of the operands alone. -/
noncomputable def mask (o : Oper) (x : Operand → AV) : Operand → AV := fun y => match y with
  | .tmp t => if .tmp t ∈ o.op.operands.toList then x (.tmp t) else .junk
  | y => x y
theorem mask_sem {E : Pg} {m : Nat → Option Row} {key : Nat} {x : Operand → AV} {o : Oper} {K : Res → Prop} (hs : sem E m key x o.op K) : sem E m key (mask o x) o.op K :=
  sem_congr (fun y hy => by unfold mask; cases y <;> first | rfl | (simp only []; rw [if_pos hy])) hs
theorem mask_rv {c : Cx} {x : Operand → AV} {o : Oper} {e : Operand → Value} (h : ∀ y ∈ o.op.operands.toList, RV c (x y) (e y)) (h' : ∀ y, (∀ t, y ≠ .tmp t) → RV c (x y) (e y)) (y : Operand) : RV c (mask o x y) (e y) := by
  unfold mask
  cases y with
  | tmp t =>
    simp only []
    split
    · rename_i hy; exact h _ hy
    · trivial
  | _ => exact h' _ (fun t e => by cases e)
def Ok1 (P : Program) (E : Pg) (l : List Oper) (base i : Nat) (o : Oper) (s : St) (q : Bool × Res) : Prop :=
  wrB (base + 8 * i) q.2.wr = true ∧
  ((q.1 = true ∧ (o.guard = none ∨ ∃ j want, o.guard = some (j, want) ∧ gval l s.t j = .bo want) ∧ Valid P E.ty o (mask o (ev E s.t)) (base + 8 * i) s.m q.2) ∨
   (q.1 = false ∧ q.2 = ⟨.und, [], []⟩ ∧ ∃ j want, o.guard = some (j, want) ∧ (gval l s.t j = .und ∨ gval l s.t j = .bo (!want))))
abbrev Acc := List (Nat × List Nat × List (Nat × Bool))
inductive Runs (P : Program) (E : Pg) (nt : Nat) (dr : Bool) (l : List Oper) (base : Nat) : Acc → Nat → List Oper → List (Bool × Res) → St → St → Prop where
  | nil (acc i s) : Runs P E nt dr l base acc i [] [] s s
  | cons {acc i o q s rest qs s'} (h : Ok1 P E l base i o s q) (hr : dr = true → okR l base i o q.2.rd (q.2.wr.map (·.1)) = true ∧ apart l i q.2.rd (wks q.2.wr) acc = true) (t : Runs P E nt dr l base (noteR (q.1 && dr) i q.2 acc) (i + 1) rest qs (step1 nt o q s) s') : Runs P E nt dr l base acc i (o :: rest) (q :: qs) s s'
theorem thenR_of {dr : Bool} {l : List Oper} {base i : Nat} {o : Oper} {acc : Acc} {r : Res} {K : Prop} (h : thenR dr l base i o acc r K) : wrB (base + 8 * i) r.wr = true ∧ (dr = true → okR l base i o r.rd (r.wr.map (·.1)) = true ∧ apart l i r.rd (wks r.wr) acc = true) ∧ K := by
  unfold thenR at h
  split at h
  · exact h.elim
  · rename_i hw
    cases dr with
    | false => exact ⟨hw, (fun h => by cases h), h⟩
    | true => exact ⟨hw, fun _ => by simpa only [Bool.and_eq_true] using h.1, h.2⟩
theorem fk_of {g : Bool} {v : AV} {K : AV → Prop} (h : fk g v K) : K v := by
  cases g with
  | false => simp only [fk, fc_eq] at h; exact h
  | true =>
    simp only [fk] at h
    split at h
    · rename_i x
      cases x with
      | true => exact h.1 rfl
      | false => exact h.2 rfl
    · exact h.elim
theorem frc_eq {t : Nat → AV} : ∀ {is : List Nat} {acc : List (Nat × AV)} {K : List (Nat × AV) → Prop}, frc is t acc K → (∀ q ∈ acc, q.2 = t q.1) → ∃ l, K l ∧ (∀ q ∈ l, q.2 = t q.1) ∧ (∀ i, (i ∈ is ∨ ∃ q ∈ acc, q.1 = i) → ∃ q ∈ l, q.1 = i)
  | [], acc, K, h, ha => ⟨acc, h, ha, fun i hi => by simpa using hi⟩
  | i :: is, acc, K, h, ha => by
    simp only [frc, fc_eq] at h
    obtain ⟨l, h1, h2, h3⟩ := frc_eq h (fun q hq => by
      rcases List.mem_cons.1 hq with rfl | hq
      · rfl
      · exact ha q hq)
    refine ⟨l, h1, h2, fun j hj => h3 j ?_⟩
    rcases hj with hj | ⟨q, hq, hj⟩
    · rcases List.mem_cons.1 hj with rfl | hj
      · exact .inr ⟨(j, t j), by simp, rfl⟩
      · exact .inl hj
    · exact .inr ⟨q, by simp [hq], hj⟩
theorem look_of {t : Nat → AV} {z : AV} {i : Nat} : ∀ {l : List (Nat × AV)}, (∀ q ∈ l, q.2 = t q.1) → (∃ q ∈ l, q.1 = i) → look l z i = t i
  | [], _, ⟨q, hq, _⟩ => by cases hq
  | (j, v) :: l, h1, h2 => by
    unfold look
    by_cases e : i = j
    · subst e; simpa using h1 (i, v) (by simp)
    · have e1 : Nat.beq i j = false := by rw [← Bool.not_eq_true, Nat.beq_eq]; exact e
      rw [e1]
      refine look_of (l := l) (fun q hq => h1 q (by simp [hq])) ?_
      obtain ⟨q, hq, hqi⟩ := h2
      rcases List.mem_cons.1 hq with rfl | hq
      · exact absurd hqi.symm e
      · exact ⟨q, hq, hqi⟩
theorem skip_ok (nt base i : Nat) : wrB (base + 8 * i) ([] : List (Nat × Row)) = true := rfl
theorem okR_nil (l : List Oper) (base i : Nat) (o : Oper) : okR l base i o [] [] = true := by simp [okR]
theorem apart_nil (l : List Oper) (i : Nat) (acc : Acc) : apart l i [] [] acc = true := by simp [apart, offN, offW]
theorem memN_of {k : Nat} : ∀ {l : List Nat}, k ∈ l → memN k l = true
  | j :: l, h => by
    unfold memN
    rcases List.mem_cons.1 h with rfl | h
    · simp
    · rw [memN_of h, Bool.or_true]
theorem offN_of {l l' : List Nat} (h : offN l l' = true) : ∀ k ∈ l, ¬ k ∈ l' := fun k hk hk' => by
  have := List.all_eq_true.1 h k hk
  rw [memN_of hk'] at this; cases this
theorem offW_of {l l' : List (Nat × Bool)} (h : offW l l' = true) : ∀ a ∈ l, ∀ b ∈ l', a.1 = b.1 → a.2 = false ∧ b.2 = false := fun a ha b hb e => by
  have := List.all_eq_true.1 (List.all_eq_true.1 h a ha) b hb
  rw [e] at this
  simpa using this
/-- Where none is behind the other: what one writes the other one doesn't touch, but that both may put something in. -/
def PairOK (l : List Oper) (i : Nat) (rd : List Nat) (wr : List (Nat × Bool)) (e : Nat × List Nat × List (Nat × Bool)) : Prop :=
  anc l i e.1 = true ∨ ((∀ k ∈ wr, ¬ k.1 ∈ e.2.1 ∧ ∀ b ∈ e.2.2, k.1 = b.1 → k.2 = false ∧ b.2 = false) ∧ ∀ k ∈ rd, ¬ k ∈ e.2.2.map (·.1))
theorem apart_of {l : List Oper} {i : Nat} {rd : List Nat} {wr : List (Nat × Bool)} {acc : Acc} (h : apart l i rd wr acc = true) : ∀ e ∈ acc, PairOK l i rd wr e := fun e he => by
  have := List.all_eq_true.1 h e he
  simp only [Bool.or_eq_true, Bool.and_eq_true] at this
  rcases this with ⟨⟨h1, h2⟩, h3⟩ | h
  · exact .inr ⟨fun k hk => ⟨offN_of h1 k.1 (List.mem_map_of_mem hk), fun b hb e => offW_of h2 k hk b hb e⟩, offN_of h3⟩
  · exact .inl h
theorem okT_imp {τ : Ty} {A B : Prop} (h : A → B) : okT τ A → okT τ B := by cases τ <;> first | exact h | exact id
theorem litOk_imp {S S' : Ty → AV → Prop} (hS : ∀ τ a, S τ a → S' τ a) {u : Bool} {l : Nat} {f : Nat → Ty} : ∀ {ps : List (Nat × AV)}, litOk S u l f ps → litOk S' u l f ps
  | [], _ => trivial
  | (_, _) :: _, h => ⟨h.1, hS _ _ h.2.1, h.2.2.1, litOk_imp hS h.2.2.2⟩
theorem semG_imp {S S' : Ty → AV → Prop} {C C' : AV → Prop} (hS : ∀ τ a, S τ a → S' τ a) (hC : ∀ a, C a → C' a) {E : Pg} {m : Nat → Option Row} {key : Nat} {x : Operand → AV} {op : Op} {K : Res → Prop} (h : semG S C E m key x op K) : semG S' C' E m key x op K := by
  cases op with
  | box t y => simp only [semG] at h ⊢; exact okT_imp (fun h => ⟨hS _ _ h.1, h.2⟩) h
  | build t ps =>
    simp only [semG] at h ⊢
    split at h
    · exact ⟨litOk_imp hS h.1, h.2⟩
    · exact ⟨litOk_imp hS h.1, h.2⟩
    · exact h.elim
  | buildSlice t l ps =>
    simp only [semG] at h ⊢
    split at h
    · exact ⟨h.1, litOk_imp hS h.2.1, h.2.2⟩
    · exact h.elim
  | store t y z =>
    simp only [semG] at h ⊢
    refine okT_imp (fun h => ?_) h
    split at h
    · split at h
      · exact ⟨h.1, hS _ _ h.2.1, h.2.2⟩
      · exact h.elim
    · split at h
      · exact ⟨h.1, h.2.1, hS _ _ h.2.2.1, h.2.2.2⟩
      · exact h.elim
    · exact h.elim
  | binOp p t y z t' =>
    simp only [semG] at h ⊢
    split at h
    · exact h
    · split at h
      · exact okT_imp (fun h => ⟨hC _ h.1, hS _ _ h.2.1, hS _ _ h.2.2.1, h.2.2.2⟩) h
      · exact h.elim
    · exact h
    · exact h
  | field t y i =>
    simp only [semG] at h ⊢
    split at h
    · split at h
      · exact ⟨hS _ _ h.1, h.2⟩
      · exact h.elim
    · exact h.elim
  | index t y i =>
    simp only [semG] at h ⊢
    obtain ⟨n, h1, h2⟩ := idx_det h
    refine h2 _ ?_
    split at h1
    · split at h1
      · exact ⟨hS _ _ h1.1, h1.2⟩
      · exact h1.elim
    · exact h1
    · exact h1.elim
  | makeMap t r =>
    cases r with
    | none =>
      simp only [semG] at h ⊢
      split at h
      · obtain ⟨h1, h⟩ := h
        rcases h with ⟨n, f, j, h2, h3⟩ | h
        · exact ⟨h1, .inl ⟨n, f, j, ents_imp hS hC h2, h3⟩⟩
        · exact ⟨h1, .inr h⟩
      · exact h.elim
    | some _ => exact h
  | insert t y z w =>
    simp only [semG] at h ⊢
    split at h
    · split at h
      · obtain ⟨h1, h2, h3, h4, h5, h6⟩ := h
        exact ⟨h1, h2, h3, hS _ _ h4, hS _ _ h5, h6⟩
      · exact h
      · exact h.elim
    · exact h.elim
  | lookup t y z ok =>
    simp only [semG] at h ⊢
    split at h
    · exact ⟨hS _ _ h.1, hC _ h.2.1, h.2.2⟩
    · exact h.elim
  | mapUpdate t y z w =>
    simp only [semG] at h ⊢
    split at h
    · split at h
      · split at h
        · split at h
          · obtain ⟨h1, h2, h3, h4, h5, h6⟩ := h
            exact ⟨h1, h2, h3, hS _ _ h4, h5, h6⟩
          · exact h.elim
        · exact h.elim
      · exact h
      · exact h.elim
    · exact h.elim
  | next y b => cases b <;> exact h
  | range t y => exact h
  | entry y => exact h
  | slice t y lo hi mx => cases mx <;> cases hi <;> exact h
  | makeFunc fn _ _ => cases fn <;> exact h
  | _ => exact h
theorem frc_imp {t : Nat → AV} {K K' : List (Nat × AV) → Prop} (h : ∀ acc, K acc → K' acc) : ∀ {is : List Nat} {acc : List (Nat × AV)}, frc is t acc K → frc is t acc K'
  | [], _, hk => h _ hk
  | i :: is, acc, hk => by
    unfold frc at hk ⊢
    rw [fc_eq] at hk ⊢
    exact frc_imp h hk
theorem frc_sem {E : Pg} {m : Nat → Option Row} {key : Nat} {t : Nat → AV} {o : Oper} {K : Res → Prop} (h : frc (tmpsIn o.op) t [] fun vs => sem E m key (evL E vs) o.op K) : sem E m key (mask o (ev E t)) o.op K := by
  obtain ⟨l, h1, h2, h3⟩ := frc_eq h (fun q hq => by cases hq)
  refine sem_congr (fun y hy => ?_) h1
  cases y with
  | tmp i =>
    show look l .junk i = _
    unfold mask
    simp only []
    rw [if_pos hy]
    exact look_of h2 (h3 i (.inl (List.mem_filterMap.2 ⟨.tmp i, hy, rfl⟩)))
  | _ => rfl
theorem wOps_run (hP : PgOK P E) {dr : Bool} (hdr : ∀ op, extOf E dr op = none) (hnx : ∀ op, nxOf dr op = none) {l : List Oper} {base : Nat} : ∀ (rest : List Oper) (acc : Acc) (i : Nat) (s : St) (K : (Nat → AV) → (Nat → Option Row) → Prop), wOps E nt dr l base acc i rest s.t s.m K → ∃ qs s', Runs P E nt dr l base acc i rest qs s s' ∧ K s'.t s'.m
  | [], acc, i, s, K, h => ⟨[], s, .nil acc i s, h⟩
  | o :: rest, acc, i, s, K, h => by
    have exec : (o.guard = none ∨ ∃ j want, o.guard = some (j, want) ∧ gval l s.t j = .bo want) → wDo E nt dr l base o (fun acc i => wOps E nt dr l base acc i rest) acc i s.t s.m K → ∃ qs s', Runs P E nt dr l base acc i (o :: rest) qs s s' ∧ K s'.t s'.m := fun hg h => by
      unfold wDo at h
      rw [hdr] at h
      simp only [] at h
      rw [hnx] at h
      simp only [] at h
      obtain ⟨r, hr, hv⟩ := sem_sound hP (fun g => rfl) (frc_sem (frc_imp (fun _ => semG_imp (fun _ _ => ShW_of) (fun _ => CmpW_of)) h))
      obtain ⟨h1, h2, h3⟩ := thenR_of hr
      have h3 := fk_of h3
      rw [nextT_eq, nextM_eq, noteK_eq] at h3
      obtain ⟨qs, s', h4, h5⟩ := wOps_run hP hdr hnx rest (noteR dr i r acc) (i + 1) ⟨putO nt s.t o.dst r.v, putW s.m r.wr, s.c⟩ K h3
      exact ⟨(true, r) :: qs, s', .cons ⟨h1, .inl ⟨rfl, hg, hv⟩⟩ h2 h4, h5⟩
    have skip : (∃ j want, o.guard = some (j, want) ∧ (gval l s.t j = .und ∨ gval l s.t j = .bo (!want))) → (nextT nt s.t o.dst .und fun t => wOps E nt dr l base acc (i + 1) rest t s.m K) → ∃ qs s', Runs P E nt dr l base acc i (o :: rest) qs s s' ∧ K s'.t s'.m := fun hg h => by
      rw [nextT_eq] at h
      obtain ⟨qs, s', h4, h5⟩ := wOps_run hP hdr hnx rest acc (i + 1) ⟨putO nt s.t o.dst .und, s.m, s.c⟩ K h
      exact ⟨(false, ⟨.und, [], []⟩) :: qs, s', .cons ⟨rfl, .inr ⟨rfl, rfl, hg⟩⟩ (fun _ => ⟨okR_nil _ _ _ _, apart_nil _ _ _⟩) h4, h5⟩
    rw [wOps_cons] at h
    split at h
    · rename_i hg
      exact exec (.inl hg) h
    · rename_i j want hg
      split at h
      · rename_i b hb
        split at h
        · rename_i e
          have e : b = want := by simpa using e
          subst e
          exact exec (.inr ⟨j, b, hg, hb⟩) h
        · rename_i e
          refine skip ⟨j, want, hg, .inr ?_⟩ h
          rw [hb]; cases b <;> cases want <;> first | rfl | (simp at e)
      · rename_i hb
        exact skip ⟨j, want, hg, .inl hb⟩ h
      · exact h.elim
/-- What a guard says. -/
theorem guard_yields (h : Abs P E nt c0 s c a) {l : List Oper} {j : Nat} {b : Bool} (hg : gval l s.t j = .bo b) : yielded l.toArray a.tmps j = some b := by
  unfold gval at hg
  split at hg
  · rename_i o ho
    split at hg
    · rename_i d hd
      have hv := h.t d
      rw [hg] at hv
      have hv := rv_bo hv
      have : a.tmps[d]? = some (.bool b) := by
        rw [Array.getD_eq_getD_getElem?] at hv
        cases hq : a.tmps[d]? with
        | none => rw [hq] at hv; cases hv
        | some v => rw [hq] at hv; simp at hv; rw [hv]
      unfold yielded
      simp [ho, hd, this]
    · cases hg
  · cases hg
theorem guard_und (h : Abs P E nt c0 s c a) {l : List Oper} {j : Nat} (hg : gval l s.t j = .und) : yielded l.toArray a.tmps j = none := by
  unfold gval at hg
  split at hg
  · rename_i o ho
    split at hg
    · rename_i d hd
      have hv := h.t d
      rw [hg] at hv
      have hv : a.tmps.getD d undef = undef := by simpa [RV, R] using hv
      unfold yielded
      cases hq : a.tmps[d]? with
      | none => simp [ho, hd, hq]
      | some v =>
        rw [Array.getD_eq_getD_getElem?, hq] at hv
        simp only [Option.getD_some] at hv
        subst hv
        simp [ho, hd, hq, undef]
    · cases hg
  · cases hg
/-- One operation is carried out, or passed over. -/
theorem op_ok (h : Abs P E nt c0 s c a) {l : List Oper} {base i : Nat} {o : Oper} {q : Bool × Res} {K : Act → World → Prop} {Q : Exit → Act → World → Prop} (ho : l[i]? = some o) (hok : Ok1 P E l base i o s q) (hf : ∀ j, base + 8 * i ≤ j → j < base + 8 * i + 8 → s.m j = none)
    (hK : ∀ c' a', Abs P E nt c0 (step1 nt o q s) c' a' → K a' c'.w) : wpOp P l.toArray Q i K a c.w := by
  have ho' : l.toArray[i]? = some o := by simpa using ho
  unfold wpOp
  simp only [ho']
  obtain ⟨_, ⟨_, hg, hv⟩ | ⟨_, hq, j, want, hg, hb⟩⟩ := hok
  · have hw : Region.wanted o (yielded l.toArray a.tmps) = true := by
      rcases hg with hg | ⟨j, want, hg, hb⟩
      · simp [Region.wanted, hg]
      · simp [Region.wanted, hg, guard_yields h hb]
    rw [if_pos hw]
    left
    exact hv c a K Q h.ty h.mem h.bs (fun k _ => by rw [h.m]) (fun j h1 h2 => by rw [h.m]; exact hf j h1 h2) (mask_rv (fun y _ => h.ev y) fun y _ => h.ev y) (fun c' v hst hr => hK c' _ (h.step hst hr))
  · have hw : Region.wanted o (yielded l.toArray a.tmps) = false := by
      rcases hb with hb | hb
      · simp [Region.wanted, hg, guard_und h hb]
      · simp [Region.wanted, hg, guard_yields h hb]
    rw [hw]
    simp only [Bool.false_eq_true, if_false]
    have := hK c _ (by rw [show q = (q.1, q.2) from rfl, hq]; exact h.skip o)
    exact this
theorem fr_step {base i : Nat} {o : Oper} {q : Bool × Res} (hf : Fr s (base + 8 * i)) (hw : wrB (base + 8 * i) q.2.wr = true) : Fr (step1 nt o q s) (base + 8 * (i + 1)) := by
  intro k hk
  show putW s.m q.2.wr k = none
  rw [putW_not (fun r hr => ?_)]
  · exact hf k (by omega)
  · have := List.all_eq_true.1 hw r hr
    simp only [Nat.blt_eq] at this
    omega
/-- The operations in the text's order. -/
theorem seq_ok {l : List Oper} {base : Nat} {Q : Exit → Act → World → Prop} {dr : Bool} {s' : St} : ∀ {rest : List Oper} {acc : Acc} {i : Nat} {qs : List (Bool × Res)} {s : St} {c : Cx} {a : Act}, Runs P E nt dr l base acc i rest qs s s' → l.drop i = rest → i ≤ l.length → Abs P E nt c0 s c a → Fr s (base + 8 * i) →
    (∀ c' a', Abs P E nt c0 s' c' a' → Fr s' (base + 8 * l.length) → Q .normal a' c'.w) → wpOps P l.toArray Q (List.range' i rest.length) a c.w := by
  intro rest acc i qs s c a hr
  induction hr generalizing c a with
  | nil acc i s =>
    intro hl hi h hf hQ
    have : l.length ≤ i := by
      rcases Nat.lt_or_ge i l.length with hlt | hge
      · have := congrArg List.length hl; simp at this; omega
      · exact hge
    exact hQ c a h (fun k hk => hf k (by omega))
  | @cons acc i o q s rest qs s' hok _ _ ih =>
    intro hl hi h hf hQ
    have ho : l[i]? = some o := by
      have := congrArg (fun r => r[0]?) hl
      simpa using this
    have hi' : i + 1 ≤ l.length := (List.getElem?_eq_some_iff.1 ho).1
    have hl' : l.drop (i + 1) = rest := by
      have := congrArg List.tail hl
      simpa using this
    rw [List.length_cons, List.range'_succ, wpOps_cons]
    refine op_ok h ho hok (fun j h1 h2 => hf j h1) (fun c' a' h' => ?_)
    exact ih hl' hi' h' (fr_step hf hok.1) hQ
/-- A call of a function whose result nobody knows. -/
theorem ext_ok (hP : PgOK P E) (h : Abs P E nt c0 s c a) {l : List Oper} {base i : Nat} {o : Oper} {C : List AV → Nat → (Res → Prop) → Prop} {ys : List Operand} {K0 : Res → Prop} {K : Act → World → Prop} {Q : Exit → Act → World → Prop} (ho : l[i]? = some o) (hx : extOf E false o.op = some (C, ys))
    (hg : o.guard = none ∨ ∃ j want, o.guard = some (j, want) ∧ gval l s.t j = .bo want) (hc : frc (tmpsIn o.op) s.t [] fun vs => C (ys.map (evL E vs)) (base + 8 * i) K0) (hf : ∀ j, base + 8 * i ≤ j → j < base + 8 * i + 8 → s.m j = none)
    (hK : ∀ r c' a', K0 r → Abs P E nt c0 (step1 nt o (true, r) s) c' a' → K a' c'.w) : wpOp P l.toArray Q i K a c.w := by
  have ho' : l.toArray[i]? = some o := by simpa using ho
  have hw : Region.wanted o (yielded l.toArray a.tmps) = true := by
    rcases hg with hg | ⟨j, want, hg, hb⟩
    · simp [Region.wanted, hg]
    · simp [Region.wanted, hg, guard_yields h hb]
  unfold wpOp
  simp only [ho']
  rw [if_pos hw]
  left
  unfold extOf at hx
  simp only [] at hx
  split at hx
  · rename_i cl hop
    split at hx
    · rename_i f hcal
      split at hx
      · rename_i C' hE
        injection hx with hx
        injection hx with h1 h2
        subst h1; subst h2
        obtain ⟨vs, h1, h2, h3⟩ := frc_eq hc (fun q hq => by cases hq)
        obtain ⟨fn, ext, hfn, hn, hb, hnx, hfd, hv⟩ := hP.ext f _ hE
        have hvs : RVs c (cl.args.toList.map (evL E vs)) (cl.args.toList.map a.eval) := by
          have : ∀ ys : List Operand, (∀ y ∈ ys, y ∈ o.op.operands.toList) → RVs c (ys.map (evL E vs)) (ys.map a.eval) := by
            intro ys
            induction ys with
            | nil => intro _; exact .nil
            | cons y ys ih =>
              intro hm
              refine .cons ?_ (ih fun z hz => hm z (List.mem_cons_of_mem _ hz))
              have hy := hm y (List.mem_cons_self ..)
              have hev := h.ev y
              cases y with
              | tmp t =>
                show RV c (look vs .junk t) _
                rw [look_of h2 (h3 t (.inl (List.mem_filterMap.2 ⟨.tmp t, hy, rfl⟩)))]
                exact hev
              | _ => exact hev
          refine this _ fun y hy => ?_
          rw [hop]
          simp only [Op.operands, Call.operands]
          have hy' : y ∈ cl.args := Array.mem_toList_iff.1 hy
          simp [hy']
        obtain ⟨r, c', v, hk, hrun, hst, hr⟩ := hv _ _ _ h1 c _ h.ty h.mem h.bs (fun j h1 h2 => by rw [h.m]; exact hf j h1 h2) hvs
        unfold Oper.wp
        have hex : (execOp a.eval o).run P c.w = (callFunc f (cl.args.toList.map a.eval).toArray).run P c.w := by
          obtain ⟨callee, args, argTypes⟩ := cl
          simp only at hcal
          subst hcal
          unfold execOp
          simp only [hop]
          show Sem.run P (callFunc f (#[] ++ args.map a.eval ++ #[])) c.w = _
          rw [show #[] ++ args.map a.eval ++ #[] = (List.map a.eval args.toList).toArray from Array.ext' (by simp)]
        rw [hex, run_callFunc_extern hfn hn hb hnx hfd, hrun]
        exact hK r c' _ hk (h.step (q := (true, r)) hst hr)
      · cases hx
    · cases hx
  · cases hx
/-- The next entry of a map, whichever it is. -/
theorem nx_ok (hP : PgOK P E) (h : Abs P E nt c0 s c a) {l : List Oper} {base i : Nat} {o : Oper} {y : Operand} {K0 : Res → Prop} {K : Act → World → Prop} {Q : Exit → Act → World → Prop} (ho : l[i]? = some o) (hx : nxOf false o.op = some y)
    (hg : o.guard = none ∨ ∃ j want, o.guard = some (j, want) ∧ gval l s.t j = .bo want) (hc : frc (tmpsIn o.op) s.t [] fun vs => semNx s.m (evL E vs y) K0) (hf : ∀ j, base + 8 * i ≤ j → j < base + 8 * i + 8 → s.m j = none)
    (hK : ∀ r c' a', K0 r → Abs P E nt c0 (step1 nt o (true, r) s) c' a' → K a' c'.w) : wpOp P l.toArray Q i K a c.w := by
  have ho' : l.toArray[i]? = some o := by simpa using ho
  have hw : Region.wanted o (yielded l.toArray a.tmps) = true := by
    rcases hg with hg | ⟨j, want, hg, hb⟩
    · simp [Region.wanted, hg]
    · simp [Region.wanted, hg, guard_yields h hb]
  unfold wpOp
  simp only [ho']
  rw [if_pos hw]
  left
  unfold nxOf at hx
  simp only [] at hx
  split at hx
  · rename_i y' b hop
    split at hx
    · injection hx with hx
      subst hx
      obtain ⟨vs, h1, h2, h3⟩ := frc_eq hc (fun q hq => by cases hq)
      have hyv : RV c (evL E vs y') (a.eval y') := by
        have hev := h.ev y'
        cases y' with
        | tmp t =>
          show RV c (look vs .junk t) _
          rw [look_of h2 (h3 t (.inl (List.mem_filterMap.2 ⟨.tmp t, by rw [hop]; simp [Op.operands], rfl⟩)))]
          exact hev
        | _ => exact hev
      unfold semNx at h1
      split at h1
      · rename_i q hy
        split at h1
        · rename_i kt et n f d s' l' cu hmq
          rw [hy] at hyv
          obtain ⟨_, _, _, _, _, _, _, _, b, hcq', hbl, ev⟩ := (show R c _ _ from hyv)
          injection ev with ev
          have hcq : c.m q = some (.ob (.mi kt et n f d s' l' cu)) := by rw [h.m]; exact hmq
          have hex : ∀ {v : Value} {w' : World}, (Instr.next (.pointer (some ⟨b, 0, none⟩)) false o.type).run P c.w = .ok v w' → (execOp a.eval o).run P c.w = .ok (.value v) w' := fun hrun => by
            unfold execOp
            simp only [hop, ev, Sem.run_bind, hrun, Result.andThen_ok, Sem.run_pure]
          obtain ⟨b', ob, hb', hheap, ⟨rfl, rfl, rfl⟩ | ⟨mb, es, clock, sa, rfl, hlt, hmu, hh, hok, hsn, hll, hcu⟩⟩ := h.mem.rows q _ hcq
          · rw [hbl] at hb'; injection hb' with hb'; subst hb'
            have hrun : (Instr.next (.pointer (some ⟨b, 0, none⟩)) false o.type).run P c.w = .ok (.tuple #[.bool false]) c.w := by
              unfold Instr.next
              simp [getObj, Sem.run, hheap, Sem.run_bind, Result.andThen_ok]
            unfold Oper.wp
            rw [hex hrun]
            refine hK _ c _ (h1.2 fun i hi _ => absurd hi (Nat.not_lt_zero i)) (h.step (q := (true, ⟨.tup 1 (nthA [.bo false]), [], [q]⟩)) (Step.refl h.mem) (tup_rv rfl fun i hi => ?_))
            obtain rfl : i = 0 := by omega
            exact ⟨_, rfl, rfl⟩
          rw [hbl] at hb'; injection hb' with hb'; subst hb'
          obtain ⟨_, _, _, hup, hdn, hbn, hnd, _, huq⟩ := id hok
          have hne : mb ≠ b := fun e => hmu (e ▸ (h.mem.mu q _ b hcq hbl).1)
          unfold Oper.wp
          rcases run_next_at (P := P) c.w o.type b mb clock clock sa es clock hheap hh hbn (Nat.le_refl _) with ⟨h0, hrun⟩ | ⟨e, he, w1, hal, hrun⟩
          · rw [hex hrun]
            refine hK _ c _ (h1.2 fun i hi hd => ?_) (h.step (q := (true, ⟨.tup 1 (nthA [.bo false]), [], [q]⟩)) (Step.refl h.mem) (tup_rv rfl fun i hi => ?_))
            · obtain ⟨e, he, hk⟩ := hdn i hi hd
              exact hsn e he (all_seen es sa h0 e he) i hi hk
            · obtain rfl : i = 0 := by omega
              exact ⟨_, rfl, rfl⟩
          · obtain ⟨hem, hns⟩ := mem_left he
            obtain ⟨j, hj, hkj⟩ := hup e hem
            have hsh := left_shrinks es sa e he
            have hheap1 : w1.heap[b]? = some (.mapIter (some mb) clock sa clock) := by rcases hal with rfl | rfl <;> exact hheap
            have hset := MapKept.heap_set (o' := .mapIter (some mb) clock (sa.push e.born) clock) hheap1
            have hw1 : ∀ k : Nat, w1.heap[k]? = c.w.heap[k]? := fun k => by rcases hal with rfl | rfl <;> rfl
            have hlow : Below c.base c.w (ChangeMaps.setBlock w1 b (.mapIter (some mb) clock (sa.push e.born) clock)) := by
              have hb1 := (h.mem.mu q _ b hcq hbl).2.1
              have hs1 : c.w.heap.size ≤ (ChangeMaps.setBlock w1 b (.mapIter (some mb) clock (sa.push e.born) clock)).heap.size := by rcases hal with rfl | rfl <;> simp [ChangeMaps.setBlock]
              exact ⟨by rcases hal with rfl | rfl <;> rfl, by rcases hal with rfl | rfl <;> rfl, by rcases hal with rfl | rfl <;> rfl, hs1, fun k hk => (hset.2 k (by omega)).trans (hw1 k)⟩
            have hput : putM c.m q (.ob (.mi kt et n f d (addD s' j) (l' - 1) (some j))) q = some (.ob (.mi kt et n f d (addD s' j) (l' - 1) (some j))) := putM_same _ _ _
            have hstep := step_ob (w := ChangeMaps.setBlock w1 b (.mapIter (some mb) clock (sa.push e.born) clock)) h.mem hcq hput trivial hbl hlow (fun k _ hk => (hset.2 k hk).trans (hw1 k)) ⟨b, _, hbl, hset.1, .inr ⟨mb, es, clock, sa.push e.born, rfl, Nat.lt_of_lt_of_le hlt hlow.size, hmu, (hset.2 mb hne).trans ((hw1 mb).trans hh), hok, (fun e' he' hc' i' hi' hk' => by
                rw [contains_push] at hc'
                simp only [addD, Bool.or_eq_true, Nat.beq_eq]
                rcases Bool.or_eq_true _ _ ▸ hc' with hc' | hc'
                · exact .inr (hsn e' he' hc' i' hi' hk')
                · have hbb : e'.born = e.born := by simpa using hc'
                  obtain rfl := born_inj hnd he' hem hbb
                  exact .inl (huq e' he' i' j hi' hj hk' hkj)), (by omega), fun i' hi' => by
                injection hi' with hi'; subst hi'
                exact ⟨hj, e, hem, sa, rfl, hkj⟩⟩⟩
            rw [hex hrun]
            refine hK _ _ _ (h1.1 j hj (by omega)) (h.step (q := (true, ⟨.tup 3 (nthA [.bo true, .junk, .junk]), [(q, .ob (.mi kt et n f d (addD s' j) (l' - 1) (some j)))], [q]⟩)) hstep (tup_rv rfl fun i hi => ?_))
            rcases i with _ | _ | _ | i
            · exact ⟨_, rfl, rfl⟩
            · exact ⟨_, rfl, trivial⟩
            · exact ⟨_, rfl, trivial⟩
            · omega
        · exact h1.elim
      · exact h1.elim
    · cases hx
  · cases hx
/-- The operations of a statement whose order is fixed. -/
theorem seq_direct (hP : PgOK P E) {l : List Oper} {base : Nat} {Q : Exit → Act → World → Prop} {K : (Nat → AV) → (Nat → Option Row) → Prop} {cc : Nat} : ∀ (rest : List Oper) (acc : Acc) (i : Nat) (s : St) (c : Cx) (a : Act), wOps E nt false l base acc i rest s.t s.m K → s.c = cc → l.drop i = rest → i ≤ l.length → Abs P E nt c0 s c a → Fr s (base + 8 * i) →
    (∀ s' c' a', K s'.t s'.m → s'.c = cc → Abs P E nt c0 s' c' a' → Fr s' (base + 8 * l.length) → Q .normal a' c'.w) → wpOps P l.toArray Q (List.range' i rest.length) a c.w
  | [], acc, i, s, c, a, h, hcc, hl, hi, ha, hf, hQ => by
    have : l.length ≤ i := by
      rcases Nat.lt_or_ge i l.length with hlt | hge
      · have := congrArg List.length hl; simp at this; omega
      · exact hge
    exact hQ s c a h hcc ha (fun k hk => hf k (by omega))
  | o :: rest, acc, i, s, c, a, h, hcc, hl, hi, ha, hf, hQ => by
    have ho : l[i]? = some o := by
      have := congrArg (fun r => r[0]?) hl
      simpa using this
    have hi' : i + 1 ≤ l.length := (List.getElem?_eq_some_iff.1 ho).1
    have hl' : l.drop (i + 1) = rest := by
      have := congrArg List.tail hl
      simpa using this
    rw [List.length_cons, List.range'_succ, wpOps_cons]
    have next : ∀ (r : Res) (c' : Cx) (a' : Act), thenR false l base i o acc r (fk (gsrc l i) r.v fun v => nextT nt s.t o.dst v fun t => nextM s.m r.wr fun m => noteK false i r acc fun acc => wOps E nt false l base acc (i + 1) rest t m K) → Abs P E nt c0 (step1 nt o (true, r) s) c' a' → wpOps P l.toArray Q (List.range' (i + 1) rest.length) a' c'.w := fun r c' a' hr ha' => by
      obtain ⟨h1, _, h3⟩ := thenR_of hr
      have h3 := fk_of h3
      rw [nextT_eq, nextM_eq, noteK_eq] at h3
      exact seq_direct hP rest (noteR false i r acc) (i + 1) (step1 nt o (true, r) s) c' a' h3 hcc hl' hi' ha' (fr_step hf h1) hQ
    have exec : (o.guard = none ∨ ∃ j want, o.guard = some (j, want) ∧ gval l s.t j = .bo want) → wDo E nt false l base o (fun acc i => wOps E nt false l base acc i rest) acc i s.t s.m K → wpOp P l.toArray Q i (fun a w => wpOps P l.toArray Q (List.range' (i + 1) rest.length) a w) a c.w := fun hg h => by
      unfold wDo at h
      cases hx : extOf E false o.op with
      | none =>
        rw [hx] at h
        simp only [] at h
        cases hxn : nxOf false o.op with
        | some y =>
          rw [hxn] at h
          simp only [] at h
          exact nx_ok hP ha ho hxn hg h (fun j h1 h2 => hf j h1) (fun r c' a' hk h' => next r c' a' hk h')
        | none =>
        rw [hxn] at h
        simp only [] at h
        obtain ⟨r, hr, hv⟩ := sem_sound hP (fun g => rfl) (frc_sem (frc_imp (fun _ => semG_imp (fun _ _ => ShW_of) (fun _ => CmpW_of)) h))
        exact op_ok ha ho ⟨(thenR_of hr).1, .inl ⟨rfl, hg, hv⟩⟩ (fun j h1 h2 => hf j h1) (fun c' a' h' => next r c' a' hr h')
      | some q =>
        obtain ⟨C, ys⟩ := q
        rw [hx] at h
        simp only [] at h
        exact ext_ok hP ha ho hx hg h (fun j h1 h2 => hf j h1) (fun r c' a' hk h' => next r c' a' hk h')
    have skip : (∃ j want, o.guard = some (j, want) ∧ (gval l s.t j = .und ∨ gval l s.t j = .bo (!want))) → (nextT nt s.t o.dst .und fun t => wOps E nt false l base acc (i + 1) rest t s.m K) → wpOp P l.toArray Q i (fun a w => wpOps P l.toArray Q (List.range' (i + 1) rest.length) a w) a c.w := fun hg h => by
      rw [nextT_eq] at h
      refine op_ok (q := (false, ⟨.und, [], []⟩)) ha ho ⟨rfl, .inr ⟨rfl, rfl, hg⟩⟩ (fun j h1 h2 => hf j h1) (fun c' a' h' => ?_)
      exact seq_direct hP rest acc (i + 1) (step1 nt o (false, ⟨.und, [], []⟩) s) c' a' h hcc hl' hi' h' (fr_step (q := (false, ⟨.und, [], []⟩)) hf rfl) hQ
    rw [wOps_cons] at h
    split at h
    · rename_i hg
      exact exec (.inl hg) h
    · rename_i j want hg
      split at h
      · rename_i b hb
        split at h
        · rename_i e
          have e : b = want := by simpa using e
          subst e
          exact exec (.inr ⟨j, b, hg, hb⟩) h
        · rename_i e
          refine skip ⟨j, want, hg, .inr ?_⟩ h
          rw [hb]; cases b <;> cases want <;> first | rfl | (simp at e)
      · rename_i hb
        exact skip ⟨j, want, hg, .inl hb⟩ h
      · exact h.elim
end
end Go.Proofs.YtldlleoabbcpdaaDoor
/- A statement whose order is open: whatever order is drawn, it comes to what the text's order comes to. -/
namespace Go.Proofs.YtldlleoabbcpdaaDoor
open Go.RowKit
instance : Inhabited Res := ⟨⟨.junk, [], []⟩⟩
def opAt (l : List Oper) (p : Nat) : Oper := l.getD p default
def resAt (qs : List (Bool × Res)) (p : Nat) : Bool × Res := qs.getD p default
/-- The state behind those of the first p operations that have come up. -/
def stL (nt : Nat) (l : List Oper) (qs : List (Bool × Res)) (L : Nat → Bool) (s : St) : Nat → St
  | 0 => s
  | p + 1 => if L p = true then step1 nt (opAt l p) (resAt qs p) (stL nt l qs L s p) else stL nt l qs L s p
section
variable {nt : Nat} {l : List Oper} {qs : List (Bool × Res)} {L L' : Nat → Bool} {s : St}
theorem stL_cons {o : Oper} {q : Bool × Res} : ∀ p, stL nt (o :: l) (q :: qs) L s (p + 1) = stL nt l qs (fun i => L (i + 1)) (if L 0 = true then step1 nt o q s else s) p
  | 0 => by simp only [stL]; rfl
  | p + 1 => by
    rw [stL, stL_cons p]
    simp only [stL]; rfl
theorem stL_congr : ∀ {p : Nat}, (∀ i, i < p → L i = L' i) → stL nt l qs L s p = stL nt l qs L' s p
  | 0, _ => rfl
  | p + 1, h => by
    simp only [stL]
    rw [h p (by omega), stL_congr (fun i hi => h i (by omega))]
theorem stL_ge {i : Nat} : ∀ {n : Nat}, i ≤ n → (∀ p, i ≤ p → p < n → L p = false) → stL nt l qs L s n = stL nt l qs L s i
  | 0, hi, _ => by obtain rfl : i = 0 := by omega
                   rfl
  | n + 1, hi, h => by
    rcases Nat.lt_or_eq_of_le hi with hlt | rfl
    · have hn := h n (by omega) (by omega)
      have ih := stL_ge (n := n) (by omega) (fun p h1 h2 => h p h1 (by omega))
      simp only [stL, hn, Bool.false_eq_true, if_false]; exact ih
    · rfl
theorem step1_t (o : Oper) (q : Bool × Res) (s : St) (t : Nat) : (step1 nt o q s).t t = if o.dst = some t ∧ t < nt then q.2.v else s.t t := putO_at nt s.t o.dst q.2.v t
theorem step1_m {o : Oper} {q : Bool × Res} {s : St} {k : Nat} (h : ∀ r ∈ q.2.wr, r.1 ≠ k) : (step1 nt o q s).m k = s.m k := putW_not h
theorem stL_c : ∀ p, (stL nt l qs L s p).c = s.c
  | 0 => rfl
  | p + 1 => by
    simp only [stL]
    split
    · exact stL_c p
    · exact stL_c p
theorem stL_t {t : Nat} : ∀ {n : Nat}, (∀ p, p < n → L p ≠ L' p → (opAt l p).dst = some t → ¬ t < nt) → (stL nt l qs L s n).t t = (stL nt l qs L' s n).t t
  | 0, _ => rfl
  | n + 1, h => by
    have ih := stL_t (n := n) (fun p hp => h p (by omega))
    simp only [stL]
    by_cases e : L n = L' n
    · rw [e]
      split
      · rw [step1_t, step1_t, ih]
      · exact ih
    · have hd := h n (by omega) e
      have hn : ∀ s : St, (step1 nt (opAt l n) (resAt qs n) s).t t = s.t t := fun s => by rw [step1_t, if_neg (fun h => hd h.1 h.2)]
      split <;> split <;> (try simp only [hn]) <;> exact ih
theorem putW_congr {m m' : Nat → Option Row} {k : Nat} (h : m k = m' k) : ∀ {wr : List (Nat × Row)}, putW m wr k = putW m' wr k := by
  intro wr
  induction wr generalizing m m' with
  | nil => exact h
  | cons q wr ih =>
    obtain ⟨j, r⟩ := q
    show putW (putM m j r) wr k = putW (putM m' j r) wr k
    refine ih ?_
    by_cases e : k = j
    · subst e; rw [putM_at, putM_at, h]
    · rw [putM_ne _ _ e, putM_ne _ _ e]; exact h
theorem stL_m {k : Nat} : ∀ {n : Nat}, (∀ p, p < n → L p ≠ L' p → ∀ r ∈ (resAt qs p).2.wr, r.1 ≠ k) → (stL nt l qs L s n).m k = (stL nt l qs L' s n).m k
  | 0, _ => rfl
  | n + 1, h => by
    have ih := stL_m (n := n) (fun p hp => h p (by omega))
    simp only [stL]
    by_cases e : L n = L' n
    · rw [e]
      split
      · show putW _ _ k = putW _ _ k
        exact putW_congr ih
      · exact ih
    · have hd := h n (by omega) e
      have hn : ∀ s : St, (step1 nt (opAt l n) (resAt qs n) s).m k = s.m k := fun s => step1_m hd
      split <;> split <;> (try simp only [hn]) <;> exact ih
/-- The last one that wrote the slot. -/
theorem stL_t_last {t i : Nat} : ∀ {n : Nat}, i < n → (∀ p, i < p → p < n → L p = true → (opAt l p).dst ≠ some t) → (stL nt l qs L s n).t t = (stL nt l qs L s (i + 1)).t t
  | 0, h, _ => by omega
  | n + 1, h, hh => by
    rcases Nat.lt_or_eq_of_le h with hlt | e
    · have ih := stL_t_last (n := n) (by omega) (fun p h1 h2 => hh p h1 (by omega))
      rw [stL]
      split
      · rename_i hL
        rw [step1_t, if_neg (fun h => hh n (by omega) (by omega) hL h.1)]; exact ih
      · exact ih
    · injection e with e; subst e; rfl
theorem stL_m_last {k i : Nat} : ∀ {n : Nat}, i < n → (∀ p, i < p → p < n → L p = true → ∀ r ∈ (resAt qs p).2.wr, r.1 ≠ k) → (stL nt l qs L s n).m k = (stL nt l qs L s (i + 1)).m k
  | 0, h, _ => by omega
  | n + 1, h, hh => by
    rcases Nat.lt_or_eq_of_le h with hlt | e
    · have ih := stL_m_last (n := n) (by omega) (fun p h1 h2 => hh p h1 (by omega))
      rw [stL]
      split
      · rename_i hL
        rw [step1_m (hh n (by omega) (by omega) hL)]; exact ih
      · exact ih
    · injection e with e; subst e; rfl
theorem put1_comm {r : Option Row} {a b : Row} (ha : a.abs = false) (hb : b.abs = false) : put1 (put1 r a) b = put1 (put1 r b) a := by
  cases a with
  | ob x =>
    cases x with
    | put i =>
      cases b with
      | ob y =>
        cases y with
        | put j =>
          cases r with
          | none => rfl
          | some r =>
            cases r with
            | ob z =>
              cases z with
              | mp kt et n f d =>
                show some (Row.ob (.mp kt et n f (addD (addD d i) j))) = some (Row.ob (.mp kt et n f (addD (addD d j) i)))
                congr 3
                funext q
                simp only [addD, ← Bool.or_assoc, Bool.or_comm (Nat.beq q i)]
              | _ => rfl
            | _ => rfl
        | _ => cases hb
      | _ => cases hb
    | _ => cases ha
  | _ => cases ha
/-- Two that put something in: one behind the other or the other way round. -/
theorem putW_comm {k : Nat} : ∀ {wr wr' : List (Nat × Row)} {m m' : Nat → Option Row}, (∀ a ∈ wr, ∀ b ∈ wr', a.1 = k → b.1 = k → a.2.abs = false ∧ b.2.abs = false) → m k = m' k → putW (putW m wr) wr' k = putW (putW m' wr') wr k
  | [], wr', m, m', _, h => putW_congr h
  | (j, r) :: wr, wr', m, m', hh, h => by
    have one : ∀ (wr' : List (Nat × Row)) (q q' : Nat → Option Row), (∀ b ∈ wr', j = k → b.1 = k → r.abs = false ∧ b.2.abs = false) → q k = q' k → putW (putM q j r) wr' k = putM (putW q' wr') j r k := fun wr' => by
      induction wr' with
      | nil =>
        intro q q' _ h
        show putM q j r k = putM q' j r k
        by_cases e : k = j
        · subst e; rw [putM_at, putM_at, h]
        · rw [putM_ne _ _ e, putM_ne _ _ e, h]
      | cons b wr' ih =>
        intro q q' hb h
        obtain ⟨i, b⟩ := b
        show putW (putM (putM q j r) i b) wr' k = putM (putW (putM q' i b) wr') j r k
        rw [← ih (putM q' i b) (putM q' i b) (fun b' hb' => hb b' (by simp [hb'])) rfl]
        refine putW_congr ?_
        by_cases e1 : k = j
        · by_cases e2 : k = i
          · subst e1; subst e2
            obtain ⟨h1, h2⟩ := hb (k, b) (by simp) rfl rfl
            rw [putM_at, putM_at, putM_at, putM_at, h, put1_comm h1 h2]
          · subst e1
            rw [putM_ne _ _ e2, putM_at, putM_at, putM_ne _ _ e2, h]
        · by_cases e2 : k = i
          · subst e2
            rw [putM_at, putM_ne _ _ e1, putM_ne _ _ e1, putM_at, h]
          · rw [putM_ne _ _ e2, putM_ne _ _ e1, putM_ne _ _ e1, putM_ne _ _ e2, h]
    show putW (putW (putM m j r) wr) wr' k = putW (putM (putW m' wr') j r) wr k
    refine putW_comm (wr := wr) (wr' := wr') (m := putM m j r) (m' := putM m j r) (fun a ha b hb => hh a (by simp [ha]) b hb) rfl |>.trans ?_
    refine putW_congr ?_
    exact one wr' m m' (fun b hb e1 e2 => hh (j, r) (by simp) b hb e1 e2) h
end
theorem runs_facts {P : Program} {E : Pg} {nt : Nat} {dr : Bool} {l : List Oper} {base : Nat} {acc : Acc} {i : Nat} {rest : List Oper} {qs : List (Bool × Res)} {s s' : St} (h : Runs P E nt dr l base acc i rest qs s s') :
    (∀ j, j < rest.length → Ok1 P E l base (i + j) (opAt rest j) (stL nt rest qs (fun _ => true) s j) (resAt qs j) ∧ (dr = true → okR l base (i + j) (opAt rest j) (resAt qs j).2.rd ((resAt qs j).2.wr.map (·.1)) = true)) ∧ s' = stL nt rest qs (fun _ => true) s rest.length := by
  induction h with
  | nil acc i s => exact ⟨fun j hj => by simp at hj, rfl⟩
  | @cons acc i o q s rest qs s' hok hr _ ih =>
    refine ⟨fun j hj => ?_, ?_⟩
    · match j with
      | 0 => exact ⟨hok, fun h => (hr h).1⟩
      | j + 1 =>
        rw [stL_cons]
        simp only [if_true]
        have := ih.1 j (by simpa using hj)
        rw [show i + (j + 1) = i + 1 + j by omega]
        exact this
    · rw [List.length_cons, stL_cons]
      simp only [if_true]
      exact ih.2
theorem runs_pairs {P : Program} {E : Pg} {nt : Nat} {l : List Oper} {base : Nat} {acc : Acc} {i : Nat} {rest : List Oper} {qs : List (Bool × Res)} {s s' : St} (h : Runs P E nt true l base acc i rest qs s s') :
    (∀ j, j < rest.length → ∀ e ∈ acc, PairOK l (i + j) (resAt qs j).2.rd (wks (resAt qs j).2.wr) e) ∧
    (∀ j j', j < j' → j' < rest.length → PairOK l (i + j') (resAt qs j').2.rd (wks (resAt qs j').2.wr) (i + j, (resAt qs j).2.rd, wks (resAt qs j).2.wr)) := by
  induction h with
  | nil acc i s => exact ⟨fun j hj => by simp at hj, fun j j' _ hj => by simp at hj⟩
  | @cons acc i o q s rest qs s' hok hr _ ih =>
    have hq : ∀ e, e ∈ acc → e ∈ noteR (q.1 && true) i q.2 acc := fun e he => by
      cases q.1 with
      | true => exact List.mem_cons_of_mem _ he
      | false => exact he
    refine ⟨fun j hj e he => ?_, fun j j' h1 h2 => ?_⟩
    · match j with
      | 0 => exact apart_of (hr rfl).2 e he
      | j + 1 =>
        have := ih.1 j (by simpa using hj) e (hq e he)
        rw [show i + (j + 1) = i + 1 + j by omega]
        exact this
    · obtain ⟨k, rfl⟩ : ∃ k, j' = k + 1 := ⟨j' - 1, by omega⟩
      have h2 : k < rest.length := by simpa using h2
      match j with
      | 0 =>
        rw [show i + (k + 1) = i + 1 + k by omega]
        cases hb : q.1 with
        | true => exact ih.1 k h2 (i, q.2.rd, wks q.2.wr) (by rw [hb]; exact List.mem_cons_self)
        | false =>
          obtain ⟨_, ⟨ht, _⟩ | ⟨_, he, _⟩⟩ := hok
          · rw [hb] at ht; cases ht
          · refine .inr ⟨fun k hk => ?_, fun k hk => ?_⟩
            · show ¬ k.1 ∈ q.2.rd ∧ ∀ b ∈ wks q.2.wr, k.1 = b.1 → k.2 = false ∧ b.2 = false
              rw [he]; simp [wks]
            · show ¬ k ∈ (wks q.2.wr).map (·.1)
              rw [he]; simp [wks]
      | j + 1 =>
        have := ih.2 j k (by omega) h2
        rw [show i + (j + 1) = i + 1 + j by omega, show i + (k + 1) = i + 1 + k by omega]
        exact this
/-- Who lies behind whom. -/
def Closed (l : List Oper) (L : Nat → Bool) : Prop := ∀ i o, l[i]? = some o → L i = true → ∀ e ∈ o.after.toList, Region.binds .any e = true → L e.on = true
theorem before_fold {l : List Oper} {L : Nat → Bool} (hL : Closed l L) : ∀ (rest : List Oper) (acc : Array Nat), l.drop acc.size = rest → acc.size ≤ l.length →
    (∀ i o, i < acc.size → l[i]? = some o → (∀ e ∈ o.after.toList, Region.binds .any e = true → L e.on = true) → ∀ j, (acc.getD i 0).testBit j = true → L j = true) →
    ∀ i o, l[i]? = some o → (∀ e ∈ o.after.toList, Region.binds .any e = true → L e.on = true) → ∀ j, ((rest.foldl (init := acc) fun acc (o : Oper) => acc.push (o.after.foldl (fun s e => if Region.binds .any e then s ||| 2 ^ e.on ||| acc.getD e.on 0 else s) 0)).getD i 0).testBit j = true → L j = true
  | [], acc, hd, hl, h, i, o, ho, he, j, hj => by
    have hlen : l.length ≤ acc.size := by
      have := congrArg List.length hd; simp at this; omega
    exact h i o (by have := (List.getElem?_eq_some_iff.1 ho).1; omega) ho he j hj
  | o1 :: rest, acc, hd, hl, h, i, o, ho, he, j, hj => by
    have ho1 : l[acc.size]? = some o1 := by
      have := congrArg (fun r => r[0]?) hd
      simpa using this
    refine before_fold hL rest _ ?_ ?_ ?_ i o ho he j hj
    · have := congrArg List.tail hd
      simpa using this
    · have := (List.getElem?_eq_some_iff.1 ho1).1
      rw [Array.size_push]; omega
    · intro i' o' hi' ho' he' j' hj'
      rw [Array.size_push] at hi'
      rcases Nat.lt_or_eq_of_le (Nat.le_of_lt_succ hi') with hlt | rfl
      · have : (acc.push (o1.after.foldl (fun s e => if Region.binds .any e then s ||| 2 ^ e.on ||| acc.getD e.on 0 else s) 0)).getD i' 0 = acc.getD i' 0 := by
          simp only [Array.getD_eq_getD_getElem?]
          rw [Array.getElem?_push, if_neg (by omega)]
        rw [this] at hj'
        exact h i' o' hlt ho' he' j' hj'
      · rw [ho1] at ho'; injection ho' with ho'; subst ho'
        have : (acc.push (o1.after.foldl (fun s e => if Region.binds .any e then s ||| 2 ^ e.on ||| acc.getD e.on 0 else s) 0)).getD acc.size 0 = o1.after.foldl (fun s e => if Region.binds .any e then s ||| 2 ^ e.on ||| acc.getD e.on 0 else s) 0 := by
          simp
        rw [this, ← Array.foldl_toList] at hj'
        have key : ∀ (es : List Edge) (s : Nat), (∀ e ∈ es, Region.binds .any e = true → L e.on = true) → (∀ j, s.testBit j = true → L j = true) → ∀ j, (es.foldl (fun s e => if Region.binds .any e then s ||| 2 ^ e.on ||| acc.getD e.on 0 else s) s).testBit j = true → L j = true := by
          intro es
          induction es with
          | nil => intro s _ hs j hj; exact hs j hj
          | cons e es ih =>
            intro s hes hs j hj
            rw [List.foldl_cons] at hj
            refine ih _ (fun e' he' => hes e' (by simp [he'])) (fun j hj => ?_) j hj
            split at hj
            · rename_i hb
              have hLe := hes e (by simp) hb
              rw [Nat.testBit_or, Nat.testBit_or] at hj
              simp only [Bool.or_eq_true] at hj
              rcases hj with (hj | hj) | hj
              · exact hs j hj
              · rw [Nat.testBit_two_pow] at hj
                have : e.on = j := by simpa using hj
                rw [← this]; exact hLe
              · by_cases hlt : e.on < acc.size
                · obtain ⟨oe, hoe⟩ : ∃ oe, l[e.on]? = some oe := ⟨l[e.on]'(by omega), List.getElem?_eq_getElem _⟩
                  exact h e.on oe hlt hoe (hL e.on oe hoe hLe) j hj
                · rw [Array.getD_eq_getD_getElem?, Array.getElem?_eq_none (by omega)] at hj
                  simp at hj
            · exact hs j hj
        exact key _ 0 he' (fun j hj => by simp at hj) j' hj'
theorem anc_in {l : List Oper} {L : Nat → Bool} (hL : Closed l L) {i j : Nat} {o : Oper} (ho : l[i]? = some o) (he : ∀ e ∈ o.after.toList, Region.binds .any e = true → L e.on = true) (h : anc l i j = true) : L j = true := by
  unfold anc Region.before at h
  rw [← Array.foldl_toList] at h
  exact before_fold hL l #[] (by simp) (by simp) (fun i o hi => by simp at hi) i o ho he j h
end Go.Proofs.YtldlleoabbcpdaaDoor
/- A statement whose order is open, walked: each order leaves what the text's leaves. -/
namespace Go.Proofs.YtldlleoabbcpdaaDoor
open Go.RowKit
section
variable {P : Program} {E : Pg} {nt : Nat} {c0 : Cx} {l : List Oper} {base : Nat} {qs : List (Bool × Res)} {s0 s' : St}
/-- The edges go back. -/
def Back (l : List Oper) : Prop := ∀ i o, l[i]? = some o → ∀ e ∈ o.after.toList, Region.binds .any e = true → e.on < i
def Ordered (l : List Oper) : Prop := ∀ (i j : Nat) (o p : Oper), l[i]? = some o → l[j]? = some p → i ≠ j → ∀ d, p.dst = some d → d ∈ tmpsOf l o → anc l (max i j) (min i j) = true
theorem regB_of (h : regB l = true) : Back l ∧ Ordered l := by
  simp only [regB, Bool.and_eq_true, List.all_eq_true, List.mem_range] at h
  obtain ⟨h1, h2⟩ := h
  refine ⟨fun i o ho e he hb => ?_, fun i j o p ho hp hij d hd hm => ?_⟩
  · have hi := (List.getElem?_eq_some_iff.1 ho).1
    have := h1 i hi
    rw [ho] at this
    have := List.all_eq_true.1 this e he
    rw [hb] at this
    simpa [Nat.blt_eq] using this
  · have hi := (List.getElem?_eq_some_iff.1 ho).1
    have hj := (List.getElem?_eq_some_iff.1 hp).1
    have := h2 i hi
    rw [ho] at this
    have := List.all_eq_true.1 this j (List.mem_range.2 hj)
    rw [hp] at this
    have e : Nat.beq i j = false := by rw [← Bool.not_eq_true, Nat.beq_eq]; exact hij
    simp only [e, hd, Bool.false_or] at this
    have hc : (tmpsOf l o).contains d = true := by simpa using hm
    rw [hc] at this
    simpa using this
theorem anc_lt (hB : Back l) {i j : Nat} {o : Oper} (ho : l[i]? = some o) (h : anc l i j = true) : j < i := by
  have := anc_in (L := fun p => decide (p < i)) (fun k p hp hk e he hb => by
    have := hB k p hp e he hb
    simp only [decide_eq_true_eq] at hk ⊢; omega) ho (fun e he hb => by
    have := hB i o ho e he hb
    simpa using this) h
  simpa using this
theorem opAt_eq {i : Nat} (h : i < l.length) : l[i]? = some (opAt l i) := by
  unfold opAt
  rw [List.getD_eq_getElem?_getD, List.getElem?_eq_getElem h]; rfl
/-- What is known of each operation. -/
structure Known (P : Program) (E : Pg) (nt : Nat) (l : List Oper) (base : Nat) (qs : List (Bool × Res)) (s0 : St) : Prop where
  ok : ∀ j, j < l.length → Ok1 P E l base j (opAt l j) (stL nt l qs (fun _ => true) s0 j) (resAt qs j)
  rd : ∀ j, j < l.length → okR l base j (opAt l j) (resAt qs j).2.rd ((resAt qs j).2.wr.map (·.1)) = true
  back : Back l
  ord : Ordered l
  pr : ∀ p i, p < i → i < l.length → PairOK l i (resAt qs i).2.rd (wks (resAt qs i).2.wr) (p, (resAt qs p).2.rd, wks (resAt qs p).2.wr)
theorem okR_rd {i : Nat} {o : Oper} {rd wr : List Nat} (h : okR l base i o rd wr = true) : ∀ k ∈ rd, memOp o = true ∧ (k < base ∨ anc l i ((k - base) / 8) = true) := by
  intro k hk
  simp only [okR, Bool.and_eq_true] at h
  obtain ⟨⟨h1, h2⟩, _⟩ := h
  constructor
  · cases hm : memOp o with
    | true => rfl
    | false => rw [hm] at h1; cases rd with
      | nil => cases hk
      | cons a b => simp at h1
  · have := List.all_eq_true.1 h2 k hk
    simpa [Nat.blt_eq] using this
theorem okR_wr {i : Nat} {o : Oper} {rd wr : List Nat} (h : okR l base i o rd wr = true) : ∀ k ∈ wr, (base + 8 * i ≤ k ∧ k < base + 8 * i + 8) ∨ (memOp o = true ∧ (k < base ∨ anc l i ((k - base) / 8) = true)) := by
  intro k hk
  simp only [okR, Bool.and_eq_true] at h
  have := List.all_eq_true.1 h.2 k hk
  simp only [Bool.or_eq_true, Bool.and_eq_true, Nat.blt_eq, Nat.ble_eq] at this
  rcases this with h | ⟨h1, h3⟩
  · exact .inl h
  · exact .inr ⟨h1, h3⟩
variable {L : Nat → Bool} {i : Nat}
/-- One of those that may be next. -/
structure Next (l : List Oper) (L : Nat → Bool) (i : Nat) : Prop where
  lt : i < l.length
  un : L i = false
  edges : ∀ e ∈ (opAt l i).after.toList, Region.binds .any e = true → L e.on = true
theorem pre_eq (nt : Nat) (l : List Oper) (qs : List (Bool × Res)) (s0 : St) {i : Nat} (hi : i ≤ l.length) : stL nt l qs (fun _ => true) s0 i = stL nt l qs (fun p => decide (p < i)) s0 l.length := by
  rw [stL_ge (i := i) hi (fun p h1 _ => by simp; omega)]
  exact stL_congr fun p hp => by simp [hp]
theorem not_anc_up (hL : Closed l L) (hN : Next l L i) {p : Nat} (hp : p < l.length) (hLp : L p = true) : anc l p i = false := by
  rw [← Bool.not_eq_true]
  intro h
  have := anc_in hL (opAt_eq hp) (hL p _ (opAt_eq hp) hLp) h
  rw [hN.un] at this; cases this
theorem anc_listed (hL : Closed l L) (hN : Next l L i) {p : Nat} (h : anc l i p = true) : L p = true :=
  anc_in hL (opAt_eq hN.lt) hN.edges h
theorem agree_t (hK : Known P E nt l base qs s0) (hL : Closed l L) (hN : Next l L i) {t : Nat} (ht : t ∈ tmpsOf l (opAt l i)) :
    (stL nt l qs L s0 l.length).t t = (stL nt l qs (fun _ => true) s0 i).t t := by
  rw [pre_eq nt l qs s0 (Nat.le_of_lt hN.lt)]
  refine stL_t fun p hp hne hd => ?_
  exfalso
  have hpi : p ≠ i := by rintro rfl; rw [hN.un] at hne; simp at hne
  have ha := hK.ord i p _ _ (opAt_eq hN.lt) (opAt_eq hp) (fun e => hpi e.symm) t hd ht
  rcases Nat.lt_or_gt_of_ne hpi with h | h
  · rw [Nat.max_eq_left (by omega), Nat.min_eq_right (by omega)] at ha
    have := anc_listed hL hN ha
    rw [this] at hne; simp [h] at hne
  · rw [Nat.max_eq_right (by omega), Nat.min_eq_left (by omega)] at ha
    have hLp : L p = true := by
      cases hq : L p with
      | true => rfl
      | false => rw [hq] at hne; exact absurd (by simp; omega) hne
    rw [not_anc_up hL hN hp hLp] at ha; cases ha
theorem wks_mem {r : Nat × Row} {wr : List (Nat × Row)} (h : r ∈ wr) : (r.1, r.2.abs) ∈ wks wr := List.mem_map_of_mem (f := fun q : Nat × Row => (q.1, q.2.abs)) h
theorem agree_m (hK : Known P E nt l base qs s0) (hL : Closed l L) (hN : Next l L i) {k : Nat} (hk : k ∈ (resAt qs i).2.rd) :
    (stL nt l qs L s0 l.length).m k = (stL nt l qs (fun _ => true) s0 i).m k := by
  obtain ⟨hm, hkb⟩ := okR_rd (hK.rd i hN.lt) k hk
  rw [pre_eq nt l qs s0 (Nat.le_of_lt hN.lt)]
  refine stL_m fun p hp hne r hr hrk => ?_
  subst hrk
  have hpi : p ≠ i := by rintro rfl; rw [hN.un] at hne; simp at hne
  have hcase : (p < i ∧ L p = false) ∨ (i < p ∧ L p = true) := by
    rcases Nat.lt_or_gt_of_ne hpi with h | h
    · left; refine ⟨h, ?_⟩; cases hq : L p with
      | false => rfl
      | true => rw [hq] at hne; simp [h] at hne
    · right; refine ⟨h, ?_⟩; cases hq : L p with
      | true => rfl
      | false => rw [hq] at hne; exact absurd (by simp; omega) hne
  have key : ¬ anc l i p = true := fun ha => by
    have h1 := anc_listed hL hN ha
    have h2 := anc_lt hK.back (opAt_eq hN.lt) ha
    rcases hcase with ⟨_, h⟩ | ⟨h, _⟩
    · rw [h] at h1; cases h1
    · omega
  have key2 : ¬ anc l p i = true := fun ha => by
    have h2 := anc_lt hK.back (opAt_eq hp) ha
    rcases hcase with ⟨h, _⟩ | ⟨_, h⟩
    · omega
    · rw [not_anc_up hL hN hp h] at ha; cases ha
  rcases hcase with ⟨h, _⟩ | ⟨h, _⟩
  · rcases hK.pr p i h hN.lt with ha | ⟨_, ha⟩
    · exact key ha
    · exact ha r.1 hk (List.mem_map_of_mem (f := (·.1)) (wks_mem hr))
  · rcases hK.pr i p h hp with ha | ⟨ha, _⟩
    · exact key2 ha
    · exact (ha (r.1, r.2.abs) (wks_mem hr)).1 hk
theorem fresh_m (hK : Known P E nt l base qs s0) (hf : Fr s0 base) (hL : Closed l L) (hN : Next l L i) {k : Nat} (h1 : base + 8 * i ≤ k) (h2 : k < base + 8 * i + 8) : (stL nt l qs L s0 l.length).m k = none := by
  have : (stL nt l qs L s0 l.length).m k = (stL nt l qs (fun _ => false) s0 l.length).m k := stL_m fun p hp hne r hr hrk => by
    subst hrk
    have hLp : L p = true := by cases hq : L p with
      | true => rfl
      | false => rw [hq] at hne; exact absurd rfl hne
    have hpi : p ≠ i := by rintro rfl; rw [hN.un] at hLp; cases hLp
    rcases okR_wr (hK.rd p hp) r.1 (List.mem_map_of_mem hr) with ⟨h3, h4⟩ | ⟨_, h3⟩
    · omega
    · rcases h3 with h3 | h3
      · omega
      · rw [show (r.1 - base) / 8 = i by omega, not_anc_up hL hN hp hLp] at h3; cases h3
  rw [this, stL_ge (i := 0) (Nat.zero_le _) (fun p _ _ => rfl)]
  exact hf k (by omega)
def also (L : Nat → Bool) (i : Nat) : Nat → Bool := fun p => L p || Nat.beq p i
theorem also_ne {p : Nat} (h : p ≠ i) : also L i p = L p := by
  have : Nat.beq p i = false := by rw [← Bool.not_eq_true, Nat.beq_eq]; exact h
  simp [also, this]
theorem also_self : also L i i = true := by simp [also]
theorem step_L (hK : Known P E nt l base qs s0) (hL : Closed l L) (hN : Next l L i) : stL nt l qs (also L i) s0 l.length = step1 nt (opAt l i) (resAt qs i) (stL nt l qs L s0 l.length) := by
  have hpre : stL nt l qs (also L i) s0 i = stL nt l qs L s0 i := stL_congr fun p hp => also_ne (by omega)
  have hat : stL nt l qs (also L i) s0 (i + 1) = step1 nt (opAt l i) (resAt qs i) (stL nt l qs L s0 i) := by
    rw [stL, if_pos also_self, hpre]
  have hup : ∀ p, i < p → p < l.length → also L i p = true → L p = true := fun p h1 _ h => by rwa [also_ne (by omega)] at h
  have hc : (stL nt l qs (also L i) s0 l.length).c = (step1 nt (opAt l i) (resAt qs i) (stL nt l qs L s0 l.length)).c := by
    show _ = (stL nt l qs L s0 l.length).c
    rw [stL_c, stL_c]
  have ht : (stL nt l qs (also L i) s0 l.length).t = (step1 nt (opAt l i) (resAt qs i) (stL nt l qs L s0 l.length)).t := by
    funext t
    rw [step1_t]
    split
    · rename_i h
      obtain ⟨hd, hlt⟩ := h
      rw [stL_t_last hN.lt (fun p h1 h2 hp hdp => ?_), hat, step1_t, if_pos ⟨hd, hlt⟩]
      have hm : t ∈ tmpsOf l (opAt l i) := by simp [tmpsOf, hd]
      have ha := hK.ord i p _ _ (opAt_eq hN.lt) (opAt_eq h2) (by omega) t hdp hm
      rw [Nat.max_eq_right (by omega), Nat.min_eq_left (by omega), not_anc_up hL hN h2 (hup p h1 h2 hp)] at ha
      cases ha
    · rename_i h
      refine stL_t fun p hp hne hd hlt => h ?_
      have : p = i := by
        by_cases e : p = i
        · exact e
        · rw [also_ne e] at hne; exact absurd rfl hne
      subst this
      exact ⟨hd, hlt⟩
  have hm : (stL nt l qs (also L i) s0 l.length).m = (step1 nt (opAt l i) (resAt qs i) (stL nt l qs L s0 l.length)).m := by
    funext k
    show _ = putW (stL nt l qs L s0 l.length).m (resAt qs i).2.wr k
    by_cases e : ∃ r ∈ (resAt qs i).2.wr, r.1 = k
    · have hall : ∀ n, i + 1 ≤ n → n ≤ l.length → (stL nt l qs (also L i) s0 n).m k = putW (stL nt l qs L s0 n).m (resAt qs i).2.wr k := by
        intro n hn
        induction n with
        | zero => omega
        | succ n ih =>
          intro hl
          rcases Nat.lt_or_eq_of_le hn with h1 | h1
          · have ih := ih (by omega) (by omega)
            simp only [stL]
            rw [also_ne (by omega)]
            by_cases hL' : L n = true
            · rw [if_pos hL', if_pos hL']
              show putW _ (resAt qs n).2.wr k = putW (putW _ (resAt qs n).2.wr) (resAt qs i).2.wr k
              rw [putW_congr ih]
              refine putW_comm (fun a ha b hb e1 e2 => ?_) rfl
              have hn1 := not_anc_up hL hN (by omega) hL'
              rcases hK.pr i n (by omega) (by omega) with hx | ⟨hx, _⟩
              · rw [hn1] at hx; cases hx
              · have := (hx (b.1, b.2.abs) (wks_mem hb)).2 (a.1, a.2.abs) (wks_mem ha) (e2.trans e1.symm)
                exact ⟨this.2, this.1⟩
            · rw [if_neg hL', if_neg hL']; exact ih
          · obtain rfl : n = i := by omega
            rw [hat]
            show putW _ _ k = putW _ _ k
            rw [show stL nt l qs L s0 (n + 1) = stL nt l qs L s0 n by rw [stL, hN.un]; rfl]
      exact hall l.length hN.lt (Nat.le_refl _)
    · have hn : ∀ r ∈ (resAt qs i).2.wr, r.1 ≠ k := fun r hr hrk => e ⟨r, hr, hrk⟩
      rw [putW_not hn]
      refine stL_m fun p hp hne r hr => ?_
      have : p = i := by
        by_cases e : p = i
        · exact e
        · rw [also_ne e] at hne; exact absurd rfl hne
      subst this
      exact hn r hr
  generalize stL nt l qs (also L i) s0 l.length = A at hc ht hm ⊢
  generalize step1 nt (opAt l i) (resAt qs i) (stL nt l qs L s0 l.length) = C at hc ht hm ⊢
  obtain ⟨_, _, _⟩ := A
  obtain ⟨_, _, _⟩ := C
  simp only at hc ht hm
  subst hc ht hm
  rfl
theorem closed_also (hB : Back l) (hL : Closed l L) (hN : Next l L i) : Closed l (also L i) := by
  intro j o ho hj e he hb
  by_cases e1 : j = i
  · subst e1
    rw [opAt_eq hN.lt] at ho; injection ho with ho; subst ho
    simp [also, hN.edges e he hb]
  · rw [also_ne e1] at hj
    simp [also, hL j o ho hj e he hb]
/-- One operation, whenever it comes up. -/
theorem op_any (hK : Known P E nt l base qs s0) (hf : Fr s0 base) (hL : Closed l L) (hN : Next l L i) {c : Cx} {a : Act} (h : Abs P E nt c0 (stL nt l qs L s0 l.length) c a) {K : Act → World → Prop} {Q : Exit → Act → World → Prop}
    (hk : ∀ c' a', Abs P E nt c0 (stL nt l qs (also L i) s0 l.length) c' a' → K a' c'.w) : wpOp P l.toArray Q i K a c.w := by
  have ho := opAt_eq hN.lt
  have ho' : l.toArray[i]? = some (opAt l i) := by simpa using ho
  rw [step_L hK hL hN] at hk
  have hgv : ∀ j want, (opAt l i).guard = some (j, want) → gval l (stL nt l qs (fun _ => true) s0 i).t j = gval l (stL nt l qs L s0 l.length).t j := by
    intro j want hg
    unfold gval
    cases hj : l[j]? with
    | none => rfl
    | some g =>
      simp only []
      cases hd : g.dst with
      | none => rfl
      | some d =>
        simp only []
        exact (agree_t hK hL hN (by simp [tmpsOf, hg, hj, hd])).symm
  unfold wpOp
  simp only [ho']
  obtain ⟨_, ⟨_, hg, hv⟩ | ⟨_, hq, j, want, hg, hb⟩⟩ := hK.ok i hN.lt
  · have hw : Region.wanted (opAt l i) (yielded l.toArray a.tmps) = true := by
      rcases hg with hg | ⟨j, want, hg, hb⟩
      · simp [Region.wanted, hg]
      · rw [hgv j want hg] at hb
        simp [Region.wanted, hg, guard_yields h hb]
    rw [if_pos hw]
    left
    refine hv c a K Q h.ty h.mem h.bs (fun k hk' => by rw [h.m]; exact agree_m hK hL hN hk') (fun j h1 h2 => by rw [h.m]; exact fresh_m hK hf hL hN h1 h2) (mask_rv (fun y hy => ?_) fun y hy => ?_) (fun c' v hst hr => hk c' _ (h.step hst hr))
    · have := h.ev y
      cases y with
      | tmp t =>
        have ht : t ∈ tmpsOf l (opAt l i) := by
          simp only [tmpsOf, List.mem_append, List.mem_filterMap]
          exact .inl (.inr ⟨.tmp t, hy, rfl⟩)
        show RV c ((stL nt l qs (fun _ => true) s0 i).t t) _
        rw [← agree_t hK hL hN ht]; exact this
      | _ => exact this
    · have := h.ev y
      cases y with
      | tmp t => exact absurd rfl (hy t)
      | _ => exact this
  · have hw : Region.wanted (opAt l i) (yielded l.toArray a.tmps) = false := by
      rw [hgv j want hg] at hb
      rcases hb with hb | hb
      · simp [Region.wanted, hg, guard_und h hb]
      · simp [Region.wanted, hg, guard_yields h hb]
    rw [hw]
    simp only [Bool.false_eq_true, if_false]
    exact hk c _ (by rw [show resAt qs i = ((resAt qs i).1, (resAt qs i).2) from rfl, hq]; exact h.skip _)
end
end Go.Proofs.YtldlleoabbcpdaaDoor
/- Statements, drawn or not, walked. -/
namespace Go.Proofs.YtldlleoabbcpdaaDoor
open Go.RowKit
section
variable {P : Program} {E : Pg} {nt : Nat} {c0 : Cx} {l : List Oper} {base : Nat} {qs : List (Bool × Res)} {s0 s' : St}
def left (L : Nat → Bool) (n : Nat) : Nat := ((List.range n).filter fun p => !L p).length
theorem left_also {L : Nat → Bool} {i n : Nat} (hi : i < n) (hL : L i = false) : left (also L i) n < left L n := by
  unfold left
  have : (List.range n).filter (fun p => !also L i p) = ((List.range n).filter fun p => !L p).filter fun p => !Nat.beq p i := by
    rw [List.filter_filter]
    refine List.filter_congr fun p _ => ?_
    simp [also, Bool.and_comm]
  rw [this]
  exact List.length_filter_lt_length_iff_exists.2 ⟨i, by simp [hi, hL], by simp⟩
theorem ready_iff {L : Nat → Bool} {listed : Array Bool} (hl : ∀ p, p < l.length → listed.getD p true = L p) (hl' : ∀ p, p < l.length → listed.getD p false = L p) (hB : Back l) {i : Nat} :
    i ∈ Region.ready .any l.toArray listed ↔ Next l L i := by
  have key : ∀ i, i < l.length → ((∀ e ∈ (opAt l i).after.toList, (!Region.binds .any e || listed.getD e.on false) = true) ↔ ∀ e ∈ (opAt l i).after.toList, Region.binds .any e = true → L e.on = true) := by
    intro i hi
    refine forall_congr' fun e => forall_congr' fun he => ?_
    cases hb : Region.binds .any e with
    | false => simp
    | true =>
      have := hB i _ (opAt_eq hi) e he hb
      simp only [Bool.not_true, Bool.false_or, true_imp_iff]
      rw [hl' e.on (by omega)]
  unfold Region.ready
  rw [List.mem_filter, List.mem_range]
  constructor
  · rintro ⟨h1, h2⟩
    have h1 : i < l.length := by simpa using h1
    simp only [Bool.and_eq_true] at h2
    have ho : l.toArray[i]? = some (opAt l i) := by simpa using opAt_eq h1
    rw [ho, hl i h1] at h2
    refine ⟨h1, by simpa using h2.1, (key i h1).1 fun e he => ?_⟩
    have h3 : (opAt l i).after.all (fun e => !Region.binds .any e || listed.getD e.on false) = true := by simpa using h2.2
    rw [← Array.all_toList] at h3
    exact List.all_eq_true.1 h3 e he
  · rintro ⟨h1, h2, h3⟩
    refine ⟨by simpa using h1, ?_⟩
    have ho : l.toArray[i]? = some (opAt l i) := by simpa using opAt_eq h1
    rw [ho, hl i h1, h2]
    have h4 : (opAt l i).after.all (fun e => !Region.binds .any e || listed.getD e.on false) = true := by
      rw [← Array.all_toList]
      exact List.all_eq_true.2 ((key i h1).2 h3)
    simpa using h4
theorem all_listed {L : Nat → Bool} {listed : Array Bool} (hl : ∀ p, p < l.length → listed.getD p true = L p) (hl' : ∀ p, p < l.length → listed.getD p false = L p) (hB : Back l) (hr : Region.ready .any l.toArray listed = []) : ∀ (i : Nat), i < l.length → L i = true := by
  intro i
  induction i using Nat.strongRecOn with
  | ind i ih =>
    intro hi
    cases hL : L i with
    | true => rfl
    | false =>
      have : i ∈ Region.ready .any l.toArray listed := (ready_iff hl hl' hB).2 ⟨hi, hL, fun e he hb => by
        have := hB i _ (opAt_eq hi) e he hb
        exact ih e.on this (by omega)⟩
      rw [hr] at this; cases this
theorem any_ok (hK : Known P E nt l base qs s0) (hf : Fr s0 base) {Q : Exit → Act → World → Prop}
    (hQ : ∀ c' a', Abs P E nt c0 (stL nt l qs (fun _ => true) s0 l.length) c' a' → Q .normal a' c'.w) :
    ∀ (fuel : Nat) (L : Nat → Bool) (listed : Array Bool) (c : Cx) (a : Act), listed.size = l.length → (∀ p, p < l.length → listed.getD p true = L p) → (∀ p, p < l.length → listed.getD p false = L p) → Closed l L → left L l.length ≤ fuel →
      Abs P E nt c0 (stL nt l qs L s0 l.length) c a → wpAny P .any l.toArray Q fuel listed a c.w := by
  intro fuel
  have fin : ∀ (L : Nat → Bool) (listed : Array Bool) (c : Cx) (a : Act), (∀ p, p < l.length → listed.getD p true = L p) → (∀ p, p < l.length → listed.getD p false = L p) → Region.ready .any l.toArray listed = [] → Abs P E nt c0 (stL nt l qs L s0 l.length) c a → Q .normal a c.w := by
    intro L listed c a hl hl' hr h
    rw [stL_congr (L' := fun _ => true) (fun p hp => all_listed hl hl' hK.back hr p hp)] at h
    exact hQ c a h
  induction fuel with
  | zero =>
    intro L listed c a hsz hl hl' hC hle h
    have hr : Region.ready .any l.toArray listed = [] := by
      cases hr : Region.ready .any l.toArray listed with
      | nil => rfl
      | cons i r =>
        have hN := (ready_iff hl hl' hK.back).1 (by rw [hr]; simp : i ∈ Region.ready .any l.toArray listed)
        have := left_also hN.lt hN.un
        omega
    exact ⟨hr, fin L listed c a hl hl' hr h⟩
  | succ fuel ih =>
    intro L listed c a hsz hl hl' hC hle h
    refine ⟨fun hr => fin L listed c a hl hl' hr h, fun i hi => ?_⟩
    have hN := (ready_iff hl hl' hK.back).1 hi
    refine op_any hK hf hC hN h (fun c' a' h' => ih (also L i) _ c' a' (by simpa using hsz) ?_ ?_ (closed_also hK.back hC hN) (by have := left_also hN.lt hN.un; omega) h')
    · intro p hp
      rw [Array.getD_eq_getD_getElem?, Array.getElem?_setIfInBounds]
      by_cases e : i = p
      · subst e; rw [also_self, if_pos rfl, if_pos (by omega)]; rfl
      · rw [also_ne (fun h => e h.symm), if_neg e, ← Array.getD_eq_getD_getElem?]; exact hl p hp
    · intro p hp
      rw [Array.getD_eq_getD_getElem?, Array.getElem?_setIfInBounds]
      by_cases e : i = p
      · subst e; rw [also_self, if_pos rfl, if_pos (by omega)]; rfl
      · rw [also_ne (fun h => e h.symm), if_neg e, ← Array.getD_eq_getD_getElem?]; exact hl' p hp
/-- Nothing but the count of draws has turned. -/
theorem Abs.drew {s : St} {c : Cx} {a : Act} (h : Abs P E nt c0 s c a) : Abs P E nt c0 s { c with w := { c.w with drawn := c.w.drawn + 1 } } a := by
  have hst : Stab c { c with w := { c.w with drawn := c.w.drawn + 1 } } :=
    ⟨rfl, Nat.le_refl _, rfl, fun k τ v hk => ⟨⟨v, hk⟩, rfl⟩, fun k e n f hk => ⟨n, f, hk, Nat.le_refl _, fun _ => ⟨rfl, rfl⟩⟩, fun k o hk => ⟨⟨o, hk, .refl⟩, rfl⟩, fun b _ hm => ⟨hm, same_old rfl⟩, Nat.le_refl _⟩
  refine ⟨h.ty, ⟨fun k r hk => RowOK_stab hst rfl rfl rfl (fun _ _ => rfl) (h.mem.rows k r hk), h.mem.inj, h.mem.mu, h.mem.bf⟩, h.bs, h.base, h.fb, h.low.drew, h.since.trans hst, h.m, fun i => RV_stab hst (h.t i), h.nt, h.dfr, fun g => RV_stab hst (h.gl g), h.keep⟩
theorem fr_at {dr : Bool} : ∀ {rest : List Oper} {acc : Acc} {i : Nat} {qs : List (Bool × Res)} {s s' : St}, Runs P E nt dr l base acc i rest qs s s' → Fr s (base + 8 * i) → Fr s' (base + 8 * (i + rest.length)) := by
  intro rest acc i qs s s' h
  induction h with
  | nil acc i s => intro hf; simpa using hf
  | @cons acc i o q s rest qs s' hok _ _ ih =>
    intro hf
    have := ih (fr_step hf hok.1)
    rw [List.length_cons, show i + (rest.length + 1) = i + 1 + rest.length by omega]
    exact this
theorem runs_c {dr : Bool} : ∀ {rest : List Oper} {acc : Acc} {i : Nat} {qs : List (Bool × Res)} {s s' : St}, Runs P E nt dr l base acc i rest qs s s' → s'.c = s.c := by
  intro rest acc i qs s s' h
  induction h with
  | nil acc i s => rfl
  | cons _ _ _ ih => rw [ih]; rfl
/-- A statement. -/
theorem region_ok (hP : PgOK P E) (hm : P.follows .mixedOrders = true) {id : Nat} {ops : Array Oper} {dr : Bool} {s : St} {c : Cx} {a : Act} {K : (Nat → AV) → (Nat → Option Row) → Prop} {Q : Exit → Act → World → Prop} (hB : dr = true → regB ops.toList = true)
    (h : wOps E nt dr ops.toList s.c [] 0 ops.toList s.t s.m K) (ha : Abs P E nt c0 s c a) (hf : Fr s s.c)
    (hQ : ∀ s' c' a', K s'.t s'.m → s'.c = s.c → Abs P E nt c0 s' c' a' → Fr s' (s.c + 8 * ops.toList.length) → Q .normal a' c'.w) : (Code.region id ops dr).wp P Q a c.w := by
  have hops : ops = ops.toList.toArray := rfl
  cases dr with
  | false =>
    refine wp_region ?_
    have := seq_direct hP (Q := Q) ops.toList [] 0 s c a h rfl (by simp) (by simp) ha (by simpa using hf) hQ
    rw [List.range_eq_range']
    exact this
  | true =>
    obtain ⟨qs, s', hr, hk⟩ := wOps_run hP (fun _ => rfl) (fun _ => rfl) _ _ _ _ _ h
    have hf' : Fr s' (s.c + 8 * ops.toList.length) := by simpa using fr_at hr (by simpa using hf)
    have hc' := runs_c hr
    refine wp_region_any hm ?_
    obtain ⟨hB1, hB2⟩ := regB_of (hB rfl)
    obtain ⟨hfa, hs'⟩ := runs_facts hr
    have hK : Known P E nt ops.toList s.c qs s := ⟨fun j hj => by have := (hfa j hj).1; rwa [Nat.zero_add] at this, fun j hj => by have := (hfa j hj).2 rfl; rwa [Nat.zero_add] at this, hB1, hB2, fun p i h1 h2 => by have := (runs_pairs hr).2 p i h1 h2; rwa [Nat.zero_add, Nat.zero_add] at this⟩
    have hnone : stL nt ops.toList qs (fun _ => false) s ops.toList.length = s := stL_ge (i := 0) (Nat.zero_le _) (fun p _ _ => rfl)
    have := any_ok (Q := Q) hK hf (fun c' a' h' => hQ s' c' a' hk hc' (by rw [hs']; exact h') hf') ops.toList.length (fun _ => false) (Array.replicate ops.size false) _ a (by simp) ?_ ?_ (fun _ _ _ h => by cases h) ?_ (by rw [hnone]; exact ha.drew)
    · simpa using this
    · intro p hp
      have hp : p < ops.size := by simpa using hp
      simp [Array.getD_eq_getD_getElem?, Array.getElem?_replicate, hp]
    · intro p hp
      have hp : p < ops.size := by simpa using hp
      simp [Array.getD_eq_getD_getElem?, Array.getElem?_replicate, hp]
    · unfold left
      have := List.length_filter_le (fun p => !(fun _ => false) p) (List.range ops.toList.length)
      simpa using this
end
end Go.Proofs.YtldlleoabbcpdaaDoor
/- A text walked: statements, branches, loops. -/
namespace Go.Proofs.YtldlleoabbcpdaaDoor
open Go.RowKit
/-- What names no row stands wherever memory is the same. -/
theorem R_norow {c c' : Cx} (hw : c'.w = c.w) (hmu : ∀ b, c'.Mu b → c.Mu b) : ∀ {a : AV} {cs : List Value}, NoRow a → R c a cs → R c' a cs := by
  intro a
  induction a with
  | ptr _ _ _ => exact fun h => h.elim
  | gpt _ _ _ _ _ _ => exact fun h => h.elim
  | gsl _ _ _ => exact fun h => h.elim
  | gsub _ _ _ _ _ => exact fun h => h.elim
  | gcap _ _ _ => exact fun h => h.elim
  | mpt _ _ _ _ _ _ => exact fun h => h.elim
  | itp _ => exact fun h => h.elim
  | cmt _ => exact fun h => h.elim
  | mit _ => exact fun h => h.elim
  | vmt _ => exact fun h => h.elim
  | fvm fr et n f ih =>
    rintro cs hn ⟨b, es, clock, rfl, hlt, hm, hfr, hh, hsz, hup, hdn⟩
    exact ⟨b, es, clock, rfl, by rw [hw]; exact hlt, fun h => hm (hmu b h), (by rw [hn.1]; intro h; cases h), by rw [hw]; exact hh, hsz, fun e he => by
      obtain ⟨i, hi, hk, hr, hv⟩ := hup e he
      exact ⟨i, hi, hk, ih i (hn.2 i hi) hr, hv⟩, hdn⟩
  | fmp fr kt et n f d =>
    rintro cs hn ⟨b, es, clock, rfl, hlt, hm, hfr, hh, hok⟩
    exact ⟨b, es, clock, rfl, by rw [hw]; exact hlt, fun h => hm (hmu b h), (by rw [show fr = false from hn]; intro h; cases h), by rw [hw]; exact hh, hok⟩
  | sub _ _ _ _ _ => exact fun h => h.elim
  | spt _ _ _ _ _ => exact fun h => h.elim
  | gspt _ _ _ _ _ => exact fun h => h.elim
  | blt _ _ => exact fun h => h.elim
  | ipt τ a ih =>
    rintro cs hn ⟨b, o, ds, rfl, hlt, hm, hr, hsh, hrg⟩
    exact ⟨b, o, ds, rfl, by rw [hw]; exact hlt, fun h => hm (hmu b h), ih hn hr, hsh, by rw [hw]; exact hrg⟩
  | imm fr et l f ih =>
    rintro cs hn ⟨A, q, rfl, h1, h2, h3⟩
    refine ⟨A, q, rfl, h1, h2, fun hl => ?_⟩
    obtain ⟨b, o, rfl, hlt, hm, hfr, hi⟩ := h3 hl
    refine ⟨b, o, rfl, by rw [hw]; exact hlt, fun h => hm (hmu b h), (by rw [hn.1]; intro h; cases h), fun i h => ?_⟩
    obtain ⟨hsh, ds, hr, hrg⟩ := hi i h
    exact ⟨hsh, ds, ih i (hn.2 i h) hr, by rw [hw]; exact hrg⟩
  | agg u l f ih =>
    rintro cs hn ⟨g, hg, rfl⟩
    exact ⟨g, fun i hi => ih i (hn i hi) (hg i hi), rfl⟩
  | clo f nf n g ih =>
    rintro cs hn ⟨u, rfl, hnn, hg⟩
    exact ⟨u, rfl, hnn, fun i hi => ⟨ih i (hn i hi) (hg i hi).1, (hg i hi).2⟩⟩
  | tup l f ih =>
    rintro cs hn ⟨vs, g, rfl, hsz, hg⟩
    exact ⟨vs, g, rfl, hsz, fun i hi => ⟨ih i (hn i hi) (hg i hi).1, (hg i hi).2⟩⟩
  | _ => exact fun _ h => h
theorem RV_norow {c c' : Cx} (hw : c'.w = c.w) (hmu : ∀ b, c'.Mu b → c.Mu b) {a : AV} {v : Value} (hn : NoRow a) (h : RV c a v) : RV c' a v := by
  cases a with
  | junk => trivial
  | agg u l f =>
    obtain ⟨cs, rfl, hr⟩ := h
    exact ⟨cs, rfl, R_norow hw hmu hn hr⟩
  | _ => exact R_norow (a := _) hw hmu hn h
/-- The rows as a loop names them. -/
def Cx.named (c : Cx) (rw : List (Nat × Row)) (ρ : Nat → Option Nat) : Cx :=
  { c with
    Mu := fun b => ∃ k r, rowOf rw k = some r ∧ (ρ k).bind c.bl = some b
    m := rowOf rw
    bl := fun k => (ρ k).bind c.bl
    sv := fun k => match ρ k with
      | some j => c.sv j
      | none => .slice none 0 0 }
theorem rowOf_mem : ∀ {rw : List (Nat × Row)} {k : Nat} {r : Row}, rowOf rw k = some r → (k, r) ∈ rw
  | (j, r') :: rw, k, r, h => by
    unfold rowOf at h
    by_cases e : k = j
    · subst e; simp at h; subst h; simp
    · have : Nat.beq k j = false := by rw [← Bool.not_eq_true, Nat.beq_eq]; exact e
      rw [this] at h
      simp [rowOf_mem (show rowOf rw k = some r from h)]
theorem LeRw_mem {m : Nat → Option Row} {ty : TypeId → Ty} {rw : List (Nat × Row)} {ρ : Nat → Option Nat} {k : Nat} {r : Row} : ∀ {l : List (Nat × Row)}, LeRw m ty rw ρ l → (k, r) ∈ l → LeRow m ty rw ρ k r
  | (j, r') :: l, h, hm => by
    simp only [List.mem_cons, Prod.mk.injEq] at hm
    rcases hm with ⟨rfl, rfl⟩ | hm
    · exact h.1
    · exact LeRw_mem h.2 hm
theorem inj_of {ρ : Nat → Option Nat} {k k' j : Nat} : ∀ {ks : List Nat}, injB ks ρ = true → k ∈ ks → k' ∈ ks → ρ k = some j → ρ k' = some j → k = k'
  | x :: ks, h, h1, h2, h3, h4 => by
    unfold injB at h
    cases hx : ρ x with
    | none =>
      rw [List.filterMap_cons_none hx] at h
      have e1 : k ∈ ks := by
        rcases List.mem_cons.1 h1 with rfl | h1
        · rw [hx] at h3; cases h3
        · exact h1
      have e2 : k' ∈ ks := by
        rcases List.mem_cons.1 h2 with rfl | h2
        · rw [hx] at h4; cases h4
        · exact h2
      exact inj_of h e1 e2 h3 h4
    | some y =>
      rw [List.filterMap_cons_some hx, distinctB, Bool.and_eq_true] at h
      have hn : ∀ q, q ∈ ks → ρ q ≠ some y := fun q hq hy => by
        have := List.all_eq_true.1 h.1 y (List.mem_filterMap.2 ⟨q, hq, hy⟩)
        simp at this
      rcases List.mem_cons.1 h1 with e1 | g1
      · rcases List.mem_cons.1 h2 with e2 | g2
        · rw [e1, e2]
        · subst e1; rw [hx] at h3; injection h3 with h3; subst h3
          exact absurd h4 (hn k' g2)
      · rcases List.mem_cons.1 h2 with e2 | g2
        · subst e2; rw [hx] at h4; injection h4 with h4; subst h4
          exact absurd h3 (hn k g1)
        · exact inj_of h.2 g1 g2 h3 h4
section
variable {c : Cx} {rw : List (Nat × Row)} {ρ : Nat → Option Nat}
theorem named_mu (hm : MemOK c) (hr : LeRw c.m c.ty rw ρ rw) {b : Nat} (h : (c.named rw ρ).Mu b) : ∃ k' r' k r, rowOf rw k' = some r' ∧ ρ k' = some k ∧ c.m k = some r ∧ c.bl k = some b := by
  obtain ⟨k', r', hk, hb⟩ := h
  have hle := LeRw_mem hr (rowOf_mem hk)
  cases hρ : ρ k' with
  | none => rw [hρ] at hb; cases hb
  | some k =>
    rw [hρ] at hb
    unfold LeRow at hle
    rw [hρ] at hle
    simp only at hle
    cases hc : c.m k with
    | none => rw [hc] at hle; exact hle.elim
    | some r => exact ⟨k', r', k, r, hk, hρ, hc, hb⟩
theorem keyIs_of {k' k : Nat} (h : keyIs rw ρ k' k = true) : (∃ r, rowOf rw k' = some r) ∧ ρ k' = some k := by
  simp only [keyIs, Bool.and_eq_true] at h
  obtain ⟨h1, h2⟩ := h
  refine ⟨Option.isSome_iff_exists.1 h1, ?_⟩
  cases hρ : ρ k' with
  | none => rw [hρ] at h2; cases h2
  | some j => rw [hρ] at h2; rw [Nat.eq_of_beq_eq_true h2]
theorem keyFree_of {k : Nat} (h : keyFree rw ρ k = true) {k' : Nat} {r : Row} (hk : rowOf rw k' = some r) : ρ k' ≠ some k := by
  intro e
  have := List.all_eq_true.1 h _ (rowOf_mem hk)
  simp [e] at this
theorem free_mu (hm : MemOK c) (hr : LeRw c.m c.ty rw ρ rw) {k : Nat} {r : Row} {b : Nat} (hk : c.m k = some r) (hb : c.bl k = some b) (h : keyFree rw ρ k = true) : ¬ (c.named rw ρ).Mu b := by
  intro hmu
  obtain ⟨k', r', j, r0, h1, h2, h3, h4⟩ := named_mu hm hr hmu
  have := hm.inj j k r0 r b h3 hk h4 hb
  subst this
  exact keyFree_of h h1 h2
theorem mu_old (hm : MemOK c) (hr : LeRw c.m c.ty rw ρ rw) {b : Nat} (h : (c.named rw ρ).Mu b) : c.Mu b := by
  obtain ⟨k', r', k, r, h1, h2, h3, h4⟩ := named_mu hm hr h
  exact (hm.mu k r b h3 h4).1
/-- A row of one's own as one that nobody writes. -/
theorem row_imm (hm : MemOK c) (hr : LeRw c.m c.ty rw ρ rw) {k e n : Nat} {f : Nat → AV} (hk : c.m k = some (.grow e n f)) (hf : keyFree rw ρ k = true) {f' : Nat → AV} {o l : Nat} (hl : o + l ≤ n) (h0 : 0 < l)
    (hi : ∀ i, i < l → Sh (c.ty e) (f' i) ∧ ∀ ds, R c (f (o + i)) ds → R (c.named rw ρ) (f' i) ds) :
    ∃ b, c.bl k = some b ∧ (∃ q, c.sv k = .slice (some ⟨b, 0, none⟩) n q ∧ n ≤ q ∧ q ≤ maxLen) ∧ b < c.w.heap.size ∧ ¬ (c.named rw ρ).Mu b ∧ (8 ≤ k → c.fb ≤ b) ∧ ∀ i, i < l → Sh (c.ty e) (f' i) ∧ ∃ ds, R (c.named rw ρ) (f' i) ds ∧ c.w.rangeAt b (o * (c.ty e).size + i * (c.ty e).size) ds := by
  obtain ⟨g, ⟨hlen, hown⟩, hbl, hg⟩ := hm.rows k _ hk
  rcases hown with ⟨_, hn⟩ | ⟨b, cap, cur, hsv, hbb, hh, hcap, hmax, hcs, htk⟩
  · omega
  · have hb : c.bl k = some b := by rw [← hbl, hsv]; rfl
    have hlt : b < c.w.heap.size := (Array.getElem?_eq_some_iff.1 hh).1
    refine ⟨b, hb, ⟨cap, hsv, hcap, hmax⟩, hlt, free_mu hm hr hk hb hf, (hm.mu k _ b hk hb).2.2, fun i h => ?_⟩
    obtain ⟨h1, h2⟩ := hi i h
    refine ⟨h1, g (o + i), h2 _ (hg (o + i) (by omega)).1, ?_⟩
    have hsz : ∀ j, j < n → (g j).length = (c.ty e).size := fun j hj => R_len (hg j hj).1 (hg j hj).2
    obtain ⟨post, hp⟩ := fm_split g (o + i) n (by omega)
    have hpre : ((List.range (o + i)).flatMap g).length = (o + i) * (c.ty e).size := fm_len_const fun j hj => hsz j (by omega)
    have hcur : cur.toList = (List.range (o + i)).flatMap g ++ g (o + i) ++ (post ++ cur.toList.drop (n * (c.ty e).size)) := by
      rw [← List.append_assoc, ← hp, ← htk, List.take_append_drop]
    intro j v hj
    have hjl : j < (g (o + i)).length := (List.getElem?_eq_some_iff.1 hj).1
    have : cur.toList[(o + i) * (c.ty e).size + j]? = some v := by
      rw [hcur, List.getElem?_append_left (by rw [List.length_append]; omega), ← hpre, List.getElem?_append_right (by omega), Nat.add_sub_cancel_left]; exact hj
    rw [← Nat.add_mul]
    unfold World.cell?
    simp only [hh]
    simpa using this
end
end Go.Proofs.YtldlleoabbcpdaaDoor
/- What a loop's head tells is true of what came there. -/
namespace Go.Proofs.YtldlleoabbcpdaaDoor
open Go.RowKit
section
variable {c : Cx} {rw : List (Nat × Row)} {ρ : Nat → Option Nat}
theorem le_row_grow (hr : LeRw c.m c.ty rw ρ rw) {k' k e n : Nat} {f : Nat → AV} (h : keyIs rw ρ k' k = true) (hk : c.m k = some (.grow e n f)) : ∃ f', rowOf rw k' = some (.grow e n f') ∧ ρ k' = some k := by
  obtain ⟨⟨r, h1⟩, h2⟩ := keyIs_of h
  have hle := LeRw_mem hr (rowOf_mem h1)
  unfold LeRow at hle
  rw [h2] at hle; simp only [hk] at hle
  cases r with
  | grow e' n' f' => obtain ⟨rfl, rfl, _⟩ := hle; exact ⟨f', h1, h2⟩
  | _ => exact hle.elim
theorem le_row_var (hr : LeRw c.m c.ty rw ρ rw) {k' k : Nat} {τ : Ty} {a : AV} (h : keyIs rw ρ k' k = true) (hk : c.m k = some (.var τ a)) : ∃ a', rowOf rw k' = some (.var τ a') ∧ ρ k' = some k := by
  obtain ⟨⟨r, h1⟩, h2⟩ := keyIs_of h
  have hle := LeRw_mem hr (rowOf_mem h1)
  unfold LeRow at hle
  rw [h2] at hle; simp only [hk] at hle
  cases r with
  | var τ' a' => obtain ⟨rfl, _⟩ := hle; exact ⟨a', h1, h2⟩
  | _ => exact hle.elim
theorem le_row_ob (hr : LeRw c.m c.ty rw ρ rw) {k' k : Nat} {o : Ob} (h : keyIs rw ρ k' k = true) (hk : c.m k = some (.ob o)) : rowOf rw k' = some (.ob o) ∧ ρ k' = some k := by
  obtain ⟨⟨r, h1⟩, h2⟩ := keyIs_of h
  have hle := LeRw_mem hr (rowOf_mem h1)
  unfold LeRow at hle
  rw [h2] at hle; simp only [hk] at hle
  cases r with
  | ob o' => have hle : o = o' := hle; subst hle; exact ⟨h1, h2⟩
  | _ => exact hle.elim
theorem noAgg_le {m : Nat → Option Row} {ty : TypeId → Ty} {rw : List (Nat × Row)} {ρ : Nat → Option Nat} {a b : AV} (h : Le m ty rw ρ a b) (hn : a.noAgg = true) : b.noAgg = true := by
  cases b with
  | agg _ _ _ => cases a <;> first | exact h.elim | cases hn
  | _ => rfl
theorem Le_sound (hm : MemOK c) (hr : LeRw c.m c.ty rw ρ rw) : ∀ {b a : AV} {cs : List Value}, Le c.m c.ty rw ρ a b → R c a cs → R (c.named rw ρ) b cs := by
  intro b
  induction b with
  | junk => intros; trivial
  | ptr τ' k' p' =>
    intro a cs hle h
    cases a with
    | ptr τ k p =>
      obtain ⟨h1, rfl, rfl⟩ := hle
      obtain ⟨τ0, a0, b, hk, hb, hp, hat, rfl⟩ := h
      obtain ⟨a', h2, h3⟩ := le_row_var hr h1 hk
      exact ⟨τ0, a', b, h2, by simp [Cx.named, h3, hb], hp, hat, rfl⟩
    | _ => exact hle.elim
  | ipt τ' a' ih =>
    intro a cs hle h
    cases a with
    | ipt τ a =>
      obtain ⟨rfl, hs, hl⟩ := hle
      obtain ⟨b, o, ds, rfl, hlt, hmu, hra, hsa, hrg⟩ := h
      exact ⟨b, o, ds, rfl, hlt, fun h => hmu (mu_old hm hr h), ih hl hra, hs, hrg⟩
    | ptr τ k p =>
      obtain ⟨hf, rfl, hs, hl⟩ := hle
      obtain ⟨τ0, a0, b, hk, hb, hp, hat, rfl⟩ := h
      rw [hk] at hl; simp only [varOf] at hl
      obtain ⟨b', cs', t', hb', hheap, hra, hsa⟩ := hm.rows k _ hk
      rw [hb] at hb'; injection hb' with hb'; subst hb'
      obtain ⟨_, pre, post, ds, hcut, hpl, hrd⟩ := R_at p hra hsa hp
      have hrg := range_of_block hheap hcut
      rw [hpl] at hrg
      exact ⟨b, _, ds, rfl, (Array.getElem?_eq_some_iff.1 hheap).1, free_mu hm hr hk hb hf, ih hl hrd, hs, hrg⟩
    | _ => exact hle.elim
  | imm fr' et' l' f' ih =>
    intro a cs hle h
    cases a with
    | nils =>
      have hle : l' = 0 := hle
      subst hle
      have h : cs = [.slice none 0 0] := h
      exact ⟨none, 0, h, Nat.le_refl _, Nat.zero_le _, fun h => absurd h (by omega)⟩
    | imm fr et l f =>
      obtain ⟨hfr, rfl, rfl, hi⟩ := hle
      obtain ⟨A, q, rfl, h1, h2, h3⟩ := h
      refine ⟨A, q, rfl, h1, h2, fun hl => ?_⟩
      obtain ⟨b, o, rfl, hlt, hmu, hbb, hj⟩ := h3 hl
      refine ⟨b, o, rfl, hlt, fun h => hmu (mu_old hm hr h), fun h => hbb (by subst h; simpa using hfr), fun i h => ?_⟩
      obtain ⟨_, ds, hd, hrg⟩ := hj i h
      exact ⟨(hi i h).1, ds, ih i (hi i h).2 hd, hrg⟩
    | gsl e k l =>
      obtain ⟨h8, hf, rfl, hi⟩ := hle
      obtain ⟨n, f, A, q, hk, hln, rfl, h1, h2, h3, h4⟩ := h
      rw [hk] at hi; simp only [growOf] at hi
      obtain ⟨he, hnl, hi⟩ := hi
      subst hnl
      refine ⟨A, q, rfl, h1, h2, fun hl => ?_⟩
      obtain ⟨b, _, ⟨q', hsv, _⟩, hlt, hmu, hbb, hj⟩ := row_imm hm hr hk hf (o := 0) (l := n) (f' := f') (by omega) hl (fun i h => ⟨he ▸ (hi i h).1, fun ds hd => ih i (hi i h).2 (by rwa [Nat.zero_add] at hd)⟩)
      rw [h4 rfl] at hsv
      injection hsv with hA _ _
      refine ⟨b, 0, hA, hlt, hmu, fun h => hbb (by subst h; simpa using h8), fun i h => ?_⟩
      obtain ⟨_, ds, hd, hrg⟩ := hj i h
      exact ⟨(hi i h).1, ds, hd, by subst he; simpa [Cx.named] using hrg⟩
    | gsub e k al o l =>
      obtain ⟨h8, hf, rfl, hi⟩ := hle
      obtain ⟨n, f, A, q, hk, hln, rfl, h1, h2, h3, h4⟩ := h
      rw [hk] at hi; simp only [growOf] at hi
      obtain ⟨he, hnl, hol, hi⟩ := hi
      subst hnl
      refine ⟨A, q, rfl, h1, h2, fun hl => ?_⟩
      obtain ⟨b, hb, _, hlt, hmu, hbb, hj⟩ := row_imm hm hr hk hf (o := o) (l := l) (f' := f') hol hl (fun i h => ⟨he ▸ (hi i h).1, fun ds hd => ih i (hi i h).2 hd⟩)
      obtain ⟨ad, rfl, h5⟩ := h4 hl
      obtain ⟨b', hb', rfl⟩ := h5 rfl
      rw [hb] at hb'; injection hb' with hb'; subst hb'
      refine ⟨b, _, rfl, hlt, hmu, fun h => hbb (by subst h; simpa using h8), fun i h => ?_⟩
      obtain ⟨_, ds, hd, hrg⟩ := hj i h
      exact ⟨(hi i h).1, ds, hd, by subst he; simpa [Cx.named] using hrg⟩
    | sub et k p o l =>
      obtain ⟨h8, hf, rfl, rfl, hi⟩ := hle
      obtain ⟨τ, a, b, n, g, A, q, hk, hb, hp, hat, he, hon, rfl, h1, ⟨h2, _⟩, hA⟩ := h
      rw [hk] at hi; simp only [varOf] at hi
      obtain ⟨b', cs', t', hb', hheap, hra, hsa⟩ := hm.rows k _ hk
      rw [hb] at hb'; injection hb' with hb'; subst hb'
      refine ⟨A, q, rfl, h1, h2, fun hl => ?_⟩
      have hlt : b < c.w.heap.size := (Array.getElem?_eq_some_iff.1 hheap).1
      refine ⟨b, _, hA hl, hlt, free_mu hm hr hk hb hf, fun h => (hm.mu k _ b hk hb).2.2 (by subst h; simpa using h8), fun i h => ?_⟩
      obtain ⟨hsf, hle⟩ := hi i h
      have hin : τ.inP (p ++ [o + i]) := by
        refine inP_append _ _ _ hp ?_
        rw [hat, inP_agg]
        exact ⟨by omega, inP_nil _⟩
      obtain ⟨_, pre, post, ds, hcut, hpl, hrd⟩ := R_at (p ++ [o + i]) hra hsa hin
      have hrg := range_of_block hheap hcut
      refine ⟨hsf, ds, ih i hle hrd, ?_⟩
      rw [hpl, off_append _ _ _ hp, hat, off_agg, show sumN (fun j => (el true g j).size) (o + i) = (o + i) * (g 0).size from sumN_const (g 0).size (o + i), he, off_nil, Nat.add_zero, Nat.add_mul, ← Nat.add_assoc] at hrg
      exact hrg
    | _ => exact hle.elim
  | gsub e' k' al' o' l' =>
    intro a cs hle h
    cases a with
    | gsub e k al o l =>
      obtain ⟨h1, rfl, rfl, rfl, rfl⟩ := hle
      obtain ⟨n, f, A, q, hk, hln, rfl, h2, h3, h4, h5⟩ := h
      obtain ⟨f', h6, h7⟩ := le_row_grow hr h1 hk
      exact ⟨n, f', A, q, h6, hln, rfl, h2, h3, h4, fun hl => by
        obtain ⟨ad, hA, h8⟩ := h5 hl
        exact ⟨ad, hA, fun hn => by
          obtain ⟨b, hb, had⟩ := h8 hn
          exact ⟨b, by simp [Cx.named, h7, hb], had⟩⟩⟩
    | gsl e k l =>
      obtain ⟨h1, rfl, rfl, rfl, rfl⟩ := hle
      obtain ⟨n, f, A, q, hk, hln, rfl, h2, h3, h4, h5⟩ := h
      obtain ⟨f', h6, h7⟩ := le_row_grow hr h1 hk
      refine ⟨n, f', A, q, h6, hln, rfl, h2, h3, by omega, fun hl => ?_⟩
      obtain ⟨ad, hA⟩ := h4 hl
      refine ⟨ad, hA, fun hn => ?_⟩
      obtain ⟨b, cap, cur, hbl, hsv, _⟩ := grow_parts (hm.rows k _ hk) (by omega)
      rw [h5 hn] at hsv
      injection hsv with e1 _ _
      rw [hA] at e1; injection e1 with e1
      exact ⟨b, by simp [Cx.named, h7, hbl], by rw [e1, Nat.zero_mul]⟩
    | _ => exact hle.elim
  | spt et' k' p' o' l' => intro a cs hle h; cases a <;> exact hle.elim
  | gspt e' k' al' o' l' => intro a cs hle h; cases a <;> exact hle.elim
  | blt l' f' => intro a cs hle h; cases a <;> exact hle.elim
  | sub et' k' p' o' l' =>
    intro a cs hle h
    cases a with
    | sub et k p o l =>
      obtain ⟨h1, rfl, rfl, rfl, rfl⟩ := hle
      obtain ⟨τ, a, b, n, g, A, q, hk, hb, hp, hat, he, hon, rfl, h2, h3, hA⟩ := h
      obtain ⟨a', h4, h5⟩ := le_row_var hr h1 hk
      exact ⟨τ, a', b, n, g, A, q, h4, by simp [Cx.named, h5, hb], hp, hat, he, hon, rfl, h2, h3, hA⟩
    | _ => exact hle.elim
  | gpt τ' e' k' l' i' p' =>
    intro a cs hle h
    cases a with
    | gpt τ e k l i p =>
      obtain ⟨h1, rfl, rfl, rfl, rfl, rfl⟩ := hle
      obtain ⟨n, f, ad, hk, hln, rfl, h5⟩ := h
      obtain ⟨f', h6, h7⟩ := le_row_grow hr h1 hk
      refine ⟨n, f', ad, h6, hln, rfl, fun hn => ?_⟩
      obtain ⟨hi, hp, hat, b, hb, had⟩ := h5 hn
      exact ⟨hi, hp, hat, b, by simp [Cx.named, h7, hb], had⟩
    | _ => exact hle.elim
  | gsl e' k' l' =>
    intro a cs hle h
    cases a with
    | nils =>
      obtain ⟨rfl, hρ, hk⟩ := hle
      have h : cs = [.slice none 0 0] := h
      cases hrow : rowOf rw k' with
      | none => rw [hrow] at hk; exact hk.elim
      | some r =>
        rw [hrow] at hk
        cases r with
        | var _ _ => exact hk.elim
        | ob _ => exact hk.elim
        | grow e n f =>
          have hk : e = e' := hk
          subst hk
          have hle := LeRw_mem hr (rowOf_mem hrow)
          have hρ : ρ k' = none := by simpa using hρ
          unfold LeRow at hle
          rw [hρ] at hle
          have hle : n = 0 := hle
          subst hle
          exact ⟨0, f, none, 0, hrow, Nat.le_refl _, h, Nat.le_refl _, Nat.zero_le _, fun h => absurd h (by omega), fun _ => by simp [Cx.named, hρ]⟩
    | gsl e k l =>
      obtain ⟨h1, rfl, rfl⟩ := hle
      obtain ⟨n, f, A, q, hk, hln, rfl, h2, h3, h4, h5⟩ := h
      obtain ⟨f', h6, h7⟩ := le_row_grow hr h1 hk
      exact ⟨n, f', A, q, h6, hln, rfl, h2, h3, h4, fun e => by simp [Cx.named, h7, h5 e]⟩
    | _ => exact hle.elim
  | agg u' l' f' ih =>
    intro a cs hle h
    cases a with
    | agg u l f =>
      obtain ⟨rfl, rfl, hi⟩ := hle
      obtain ⟨g, hg, rfl⟩ := h
      exact ⟨g, fun i h => ih i (hi i h) (hg i h), rfl⟩
    | _ => exact hle.elim
  | tup l' f' ih =>
    intro a cs hle h
    cases a with
    | tup l f =>
      obtain ⟨rfl, hi⟩ := hle
      obtain ⟨vs, g, rfl, hsz, hg⟩ := h
      refine ⟨vs, g, rfl, hsz, fun i h => ⟨ih i (hi i h) (hg i h).1, ?_⟩⟩
      obtain ⟨_, v, hv, hmt⟩ := hg i h
      refine ⟨v, hv, ?_⟩
      have hli := hi i h
      cases hf' : f' i with
      | junk => trivial
      | _ => rw [hf'] at hli; cases hf : f i <;> rw [hf] at hli hmt <;> first | exact hli.elim | exact hmt
    | _ => exact hle.elim
  | nat y =>
    intro a cs hle h
    cases a with
    | nat x => have hle : x = y := hle; subst hle; exact h
    | int x => have hle : x = (y : Int) := hle; subst hle; exact h
    | _ => exact hle.elim
  | int y =>
    intro a cs hle h
    cases a with
    | nat x => have hle : (x : Int) = y := hle; subst hle; exact h
    | int x => have hle : x = y := hle; subst hle; exact h
    | _ => exact hle.elim
  | und => intro a cs hle h; cases a <;> first | exact hle.elim | exact h
  | nilp => intro a cs hle h; cases a <;> first | exact hle.elim | exact h
  | nils => intro a cs hle h; cases a <;> first | exact hle.elim | exact h
  | bo y => intro a cs hle h; cases a <;> first | exact hle.elim | (have hle : _ = y := hle; subst hle; exact h)
  | u8 y => intro a cs hle h; cases a <;> first | exact hle.elim | (have hle : _ = y := hle; subst hle; exact h)
  | u16 y => intro a cs hle h; cases a <;> first | exact hle.elim | (have hle : _ = y := hle; subst hle; exact h)
  | u32 y => intro a cs hle h; cases a <;> first | exact hle.elim | (have hle : _ = y := hle; subst hle; exact h)
  | u64 y => intro a cs hle h; cases a <;> first | exact hle.elim | (have hle : _ = y := hle; subst hle; exact h)
  | i32 y => intro a cs hle h; cases a <;> first | exact hle.elim | (have hle : _ = y := hle; subst hle; exact h)
  | clo f' nf' n' g' ih =>
    intro a cs hle h
    cases a with
    | clo f nf n g =>
      obtain ⟨rfl, rfl, rfl, hi⟩ := hle
      obtain ⟨u, rfl, hnn, hg⟩ := h
      exact ⟨u, rfl, hnn, fun i h => ⟨ih i (hi i h) (hg i h).1, noAgg_le (hi i h) (hg i h).2⟩⟩
    | _ => exact hle.elim
  | gcap _ _ _ => intro a cs hle h; cases a <;> exact hle.elim
  | nilm => intro a cs hle h; cases a <;> first | exact hle.elim | exact h
  | nilf => intro a cs hle h; cases a <;> first | exact hle.elim | exact h
  | mpt kt' et' n' f' j' k' =>
    intro a cs hle h
    cases a with
    | mpt kt et n f j k =>
      obtain ⟨h1, rfl, rfl, rfl, rfl⟩ := hle
      obtain ⟨d, b, hk, hb, rfl⟩ := h
      obtain ⟨h4, h5⟩ := le_row_ob hr h1 hk
      exact ⟨d, b, h4, by simp [Cx.named, h5, hb], rfl⟩
    | _ => exact hle.elim
  | vmt k' =>
    intro a cs hle h
    cases a with
    | vmt k =>
      obtain ⟨et, n, f, b, hk, hb, rfl⟩ := h
      obtain ⟨h4, h5⟩ := le_row_ob hr hle hk
      exact ⟨et, n, f, b, h4, by simp [Cx.named, h5, hb], rfl⟩
    | _ => exact hle.elim
  | fvm g' et' n' f' ih =>
    intro a cs hle h
    cases a with
    | fvm g et n f =>
      obtain ⟨hfr, rfl, rfl, hi⟩ := hle
      obtain ⟨b, es, clock, rfl, hlt, hmu, hbb, hh, hsz, hup, hdn⟩ := h
      exact ⟨b, es, clock, rfl, hlt, fun h => hmu (mu_old hm hr h), fun h => hbb (by subst h; simpa using hfr), hh, hsz, fun e he => by
        obtain ⟨i, hin, hk, hr2, hv⟩ := hup e he
        exact ⟨i, hin, hk, ih i (hi i hin).2 hr2, hv⟩, fun i hin => ⟨(hi i hin).1, (hdn i hin).2⟩⟩
    | vmt k =>
      obtain ⟨h8, hf, hv⟩ := hle
      obtain ⟨et, n, f, b, hk, hb, rfl⟩ := h
      rw [hk] at hv
      obtain ⟨rfl, rfl, hi⟩ := (show et = et' ∧ n = n' ∧ _ from hv)
      obtain ⟨b', x, hb', hheap, es, clock, rfl, hsz, hup, hdn⟩ := hm.rows k _ hk
      rw [hb] at hb'; injection hb' with hb'; subst hb'
      exact ⟨b, es, clock, rfl, (Array.getElem?_eq_some_iff.1 hheap).1, free_mu hm hr hk hb hf, fun h => (hm.mu k _ b hk hb).2.2 (by subst h; simpa using h8), hheap, hsz, fun e he => by
        obtain ⟨i, hin, hk2, hr2, hv2⟩ := hup e he
        exact ⟨i, hin, hk2, ih i (hi i hin).2 hr2, hv2⟩, fun i hin => ⟨(hi i hin).1, (hdn i hin).2⟩⟩
    | _ => exact hle.elim
  | mit k' =>
    intro a cs hle h
    cases a with
    | mit k =>
      obtain ⟨kt, et, n, f, d, s, l, cu, b, hk, hb, rfl⟩ := h
      obtain ⟨h4, h5⟩ := le_row_ob hr hle hk
      exact ⟨kt, et, n, f, d, s, l, cu, b, h4, by simp [Cx.named, h5, hb], rfl⟩
    | _ => exact hle.elim
  | fmp g' kt' et' n' f' d' =>
    intro a cs hle h
    cases a with
    | fmp g kt et n f d =>
      obtain ⟨hfr, rfl, rfl, rfl, rfl, rfl⟩ := hle
      obtain ⟨b, es, clock, rfl, hlt, hmu, hbb, hh, hok⟩ := h
      exact ⟨b, es, clock, rfl, hlt, fun h => hmu (mu_old hm hr h), fun h => hbb (by subst h; simpa using hfr), hh, hok⟩
    | mpt kt et n f j k =>
      obtain ⟨h8, hf, rfl, rfl, rfl, rfl, hd⟩ := hle
      obtain ⟨d, b, hk, hb, rfl⟩ := h
      rw [hk] at hd
      have hd : dLe n d' d = true := hd
      obtain ⟨b', x, hb', hheap, es, clock, rfl, hok⟩ := hm.rows k _ hk
      rw [hb] at hb'; injection hb' with hb'; subst hb'
      exact ⟨b, es, clock, rfl, (Array.getElem?_eq_some_iff.1 hheap).1, free_mu hm hr hk hb hf, fun h => (hm.mu k _ b hk hb).2.2 (by subst h; simpa using h8), hheap, mapOK_less (dLe_at hd) (mapOK_kb hok)⟩
    | cmt k =>
      obtain ⟨h8, hf, hkt, rfl, hn⟩ := hle
      obtain ⟨n, b, hk, hb, rfl⟩ := h
      rw [hk] at hn
      have hn : n = 0 := hn
      subst hn
      obtain ⟨b', x, hb', hheap, es, clock, rfl, hsz, _⟩ := hm.rows k _ hk
      rw [hb] at hb'; injection hb' with hb'; subst hb'
      obtain rfl : es = #[] := Array.eq_empty_of_size_eq_zero hsz
      exact ⟨b, #[], clock, rfl, (Array.getElem?_eq_some_iff.1 hheap).1, free_mu hm hr hk hb hf, fun h => (hm.mu k _ b hk hb).2.2 (by subst h; simpa using h8), hheap, trivial, hkt, (fun a ha => absurd ha (by omega)), (by simp), (fun i hi => absurd hi (by omega)), (by simp), (by simp), ⟨[], by simp, by simp, by simp⟩, by simp⟩
    | _ => exact hle.elim
  | cmt k' =>
    intro a cs hle h
    cases a with
    | cmt k =>
      obtain ⟨n, b, hk, hb, rfl⟩ := h
      obtain ⟨h4, h5⟩ := le_row_ob hr hle hk
      exact ⟨n, b, h4, by simp [Cx.named, h5, hb], rfl⟩
    | _ => exact hle.elim
  | itp k' =>
    intro a cs hle h
    cases a with
    | itp k =>
      obtain ⟨s, pos, b, hk, hb, rfl⟩ := h
      obtain ⟨h4, h5⟩ := le_row_ob hr hle hk
      exact ⟨s, pos, b, h4, by simp [Cx.named, h5, hb], rfl⟩
    | _ => exact hle.elim
  | anyb => intro a cs hle h; cases a <;> exact hle.elim
  | anym =>
    intro a cs hle h
    cases a with
    | nilm => exact ⟨_, h⟩
    | anym => exact h
    | mpt kt et n f j k =>
      obtain ⟨d, b, _, _, rfl⟩ := h
      exact ⟨_, rfl⟩
    | cmt k =>
      obtain ⟨d, b, _, _, rfl⟩ := h
      exact ⟨_, rfl⟩
    | fmp _ _ _ _ _ _ =>
      obtain ⟨b, _, _, rfl, _⟩ := h
      exact ⟨_, rfl⟩
    | fvm _ _ _ _ =>
      obtain ⟨b, _, _, rfl, _⟩ := h
      exact ⟨_, rfl⟩
    | vmt k =>
      obtain ⟨_, _, _, b, _, _, rfl⟩ := h
      exact ⟨_, rfl⟩
    | _ => exact hle.elim
  | fn y => intro a cs hle h; cases a <;> first | exact hle.elim | (have hle : _ = y := hle; subst hle; exact h)
  | i8 y => intro a cs hle h; cases a <;> first | exact hle.elim | (have hle : _ = y := hle; subst hle; exact h)
  | i16 y => intro a cs hle h; cases a <;> first | exact hle.elim | (have hle : _ = y := hle; subst hle; exact h)
  | str y => intro a cs hle h; cases a <;> first | exact hle.elim | (have hle : _ = y := hle; subst hle; exact h)
theorem Le_rv (hm : MemOK c) (hr : LeRw c.m c.ty rw ρ rw) {a b : AV} {v : Value} (hle : Le c.m c.ty rw ρ a b) (h : RV c a v) : RV (c.named rw ρ) b v := by
  cases b with
  | junk => trivial
  | agg u' l' f' =>
    cases a with
    | agg u l f =>
      obtain ⟨cs, rfl, hc⟩ := h
      exact ⟨cs, rfl, Le_sound hm hr (b := .agg u' l' f') hle hc⟩
    | _ => exact hle.elim
  | _ =>
    have h' : R c a [v] := by
      cases a <;> first | exact h | exact hle.elim
    exact Le_sound hm hr (b := _) hle h'
theorem named_mem (hm : MemOK c) (hr : LeRw c.m c.ty rw ρ rw) (hi : injB (rw.map (·.1)) ρ = true) (hfr : freshB (rw.map (·.1)) ρ = true) : MemOK (c.named rw ρ) := by
  refine ⟨fun k' r hk => ?_, fun k1 k2 r1 r2 b h1 h2 hb1 hb2 => ?_, fun k' r b hk hb => ?_, hm.bf⟩
  · have hle := LeRw_mem hr (rowOf_mem hk)
    unfold LeRow at hle
    cases hρ : ρ k' with
    | none =>
      rw [hρ] at hle
      cases r with
      | var _ _ => exact hle.elim
      | ob _ => exact hle.elim
      | grow e n f =>
        have hle : n = 0 := hle
        subst hle
        exact ⟨fun _ => [], ⟨by simp, .inl ⟨by simp [Cx.named, hρ], rfl⟩⟩, by simp [Cx.named, hρ]; rfl, fun i hi => absurd hi (by omega)⟩
    | some k =>
      rw [hρ] at hle
      cases hc : c.m k with
      | none => simp only [hc] at hle
      | some r0 =>
        have hrow := hm.rows k r0 hc
        cases r0 with
        | ob o =>
          cases r with
          | ob o' =>
            simp only [hc] at hle
            subst hle
            obtain ⟨b, x, h1, h2, h3⟩ := hrow
            exact ⟨b, x, by simp [Cx.named, hρ, h1], h2, ObOK_mono (c := c) (c' := c.named rw ρ) rfl (fun b' hq => mu_old hm hr hq) rfl h3⟩
          | _ => simp only [hc] at hle
        | var τ a =>
          cases r with
          | grow _ _ _ => simp only [hc] at hle
          | ob _ => simp only [hc] at hle
          | var τ' a' =>
            simp only [hc] at hle
            obtain ⟨rfl, hs, hl⟩ := hle
            obtain ⟨b, cs, t, h1, h2, h3, h4⟩ := hrow
            exact ⟨b, cs, t, by simp [Cx.named, hρ, h1], h2, Le_sound hm hr hl h3, hs⟩
        | grow e n f =>
          cases r with
          | var _ _ => simp only [hc] at hle
          | ob _ => simp only [hc] at hle
          | grow e' n' f' =>
            simp only [hc] at hle
            obtain ⟨rfl, rfl, hl⟩ := hle
            obtain ⟨g, hown, hbl, hg⟩ := hrow
            exact ⟨g, by simpa [Cx.named, hρ] using hown, by simpa [Cx.named, hρ] using hbl, fun i h => ⟨Le_sound hm hr (hl i h).2 (hg i h).1, (hl i h).1⟩⟩
  · have g1 : ∃ j, ρ k1 = some j ∧ c.bl j = some b := by
      have : (ρ k1).bind c.bl = some b := hb1
      cases hρ : ρ k1 with
      | none => rw [hρ] at this; cases this
      | some j => rw [hρ] at this; exact ⟨j, rfl, this⟩
    have g2 : ∃ j, ρ k2 = some j ∧ c.bl j = some b := by
      have : (ρ k2).bind c.bl = some b := hb2
      cases hρ : ρ k2 with
      | none => rw [hρ] at this; cases this
      | some j => rw [hρ] at this; exact ⟨j, rfl, this⟩
    obtain ⟨j1, e1, f1⟩ := g1
    obtain ⟨j2, e2, f2⟩ := g2
    have row : ∀ k' r j, rowOf rw k' = some r → ρ k' = some j → ∃ r0, c.m j = some r0 := by
      intro k' r j hk hρ
      have hle := LeRw_mem hr (rowOf_mem hk)
      unfold LeRow at hle
      rw [hρ] at hle
      cases hc : c.m j with
      | none => simp only [hc] at hle
      | some r0 => exact ⟨r0, rfl⟩
    obtain ⟨q1, g1⟩ := row k1 r1 j1 h1 e1
    obtain ⟨q2, g2⟩ := row k2 r2 j2 h2 e2
    have := hm.inj j1 j2 q1 q2 b g1 g2 f1 f2
    subst this
    exact inj_of hi (List.mem_map_of_mem (f := Prod.fst) (rowOf_mem h1)) (List.mem_map_of_mem (f := Prod.fst) (rowOf_mem h2)) e1 e2
  · refine ⟨⟨k', r, hk, hb⟩, ?_⟩
    have hb' : (ρ k').bind c.bl = some b := hb
    cases hρ : ρ k' with
    | none => rw [hρ] at hb'; cases hb'
    | some k =>
      rw [hρ] at hb'
      have hle := LeRw_mem hr (rowOf_mem hk)
      unfold LeRow at hle
      rw [hρ] at hle
      cases hc : c.m k with
      | none => simp only [hc] at hle
      | some r0 =>
        have h0 := hm.mu k r0 b hc hb'
        refine ⟨h0.2.1, fun h8 => h0.2.2 ?_⟩
        have := List.all_eq_true.1 hfr k' (List.mem_map_of_mem (f := Prod.fst) (rowOf_mem hk))
        rw [hρ] at this
        have e : Nat.blt k' 8 = false := by rw [← Bool.not_eq_true, Nat.blt_eq]; omega
        simpa [e] using this
end
section
variable {P : Program} {E : Pg} {nt : Nat} {c0 : Cx}
theorem LeSl_at {m : Nat → Option Row} {ty : TypeId → Ty} {rw : List (Nat × Row)} {ρ : Nat → Option Nat} {t : Nat → AV} {i : Nat} : ∀ {sl : List (Nat × AV)}, LeSl m ty rw ρ t sl → Le m ty rw ρ (t i) (look sl .junk i)
  | [], _ => by show Le _ _ _ _ _ .junk; cases t i <;> trivial
  | (j, a) :: sl, h => by
    unfold look
    by_cases e : i = j
    · subst e; simpa using h.1
    · have : Nat.beq i j = false := by rw [← Bool.not_eq_true, Nat.beq_eq]; exact e
      rw [this]; exact LeSl_at h.2
theorem nextA_le : ∀ (l : List (Nat × Row)) (c : Nat), c ≤ nextA l c
  | [], c => Nat.le_refl c
  | (k, _) :: l, c => by
    unfold nextA
    refine Nat.le_trans ?_ (nextA_le l _)
    cases h : Nat.ble c k with
    | true => have := Nat.le_of_ble_eq_true h; show c ≤ k + 1; omega
    | false => exact Nat.le_refl c
theorem nextA_lt : ∀ {rw : List (Nat × Row)} {c k : Nat}, nextA rw c ≤ k → rowOf rw k = none
  | [], _, _, _ => rfl
  | (j, r) :: rw, c, k, h => by
    unfold nextA at h
    have h1 := nextA_le rw (bif Nat.ble c j then j + 1 else c)
    have hj : j < k := by
      cases hb : Nat.ble c j with
      | true => rw [hb] at h1 h; have h1 : j + 1 ≤ _ := h1; omega
      | false =>
        rw [hb] at h1 h
        have hb : ¬ c ≤ j := fun q => by rw [Nat.ble_eq_true_of_le q] at hb; cases hb
        have h1 : c ≤ _ := h1
        omega
    unfold rowOf
    have : Nat.beq k j = false := by rw [← Bool.not_eq_true, Nat.beq_eq]; omega
    rw [this]
    exact nextA_lt (rw := rw) h
theorem nextK_lt {rw : List (Nat × Row)} {k : Nat} (h : nextK rw ≤ k) : rowOf rw k = none := nextA_lt h
theorem namesB_of {m : Nat → Option Row} {rw : List (Nat × Row)} {ρ : Nat → Option Nat} (h : namesB m rw ρ = true) : injB (rw.map (·.1)) ρ = true ∧ passB m rw ρ = true ∧ freshB (rw.map (·.1)) ρ = true := by
  simp only [namesB, Bool.and_eq_true] at h
  exact ⟨h.1.1, h.1.2, h.2⟩
theorem passB_of {m : Nat → Option Row} {rw : List (Nat × Row)} {ρ : Nat → Option Nat} (h : passB m rw ρ = true) {j : Nat} {r : Row} (hj : j < 8) (hr : m j = some r) : (∃ r', rowOf rw j = some r') ∧ ρ j = some j := by
  have := List.all_eq_true.1 h j (List.mem_range.2 hj)
  rw [hr] at this
  simp only [Option.isSome_some, Bool.not_true, Bool.false_or, Bool.and_eq_true] at this
  refine ⟨Option.isSome_iff_exists.1 this.1, ?_⟩
  cases hρ : ρ j with
  | none => rw [hρ] at this; cases this.2
  | some k => rw [hρ] at this; rw [Nat.eq_of_beq_eq_true this.2]
/-- What the call was given is there still, whatever it is named. -/
theorem named_since {c c0 : Cx} {rw : List (Nat × Row)} {ρ : Nat → Option Nat} (hm : MemOK c) (h8 : ∀ k, 8 ≤ k → c0.m k = none) (hs : Stab c0 c) (hr : LeRw c.m c.ty rw ρ rw) {m0 : Nat → Option Row} (hm0 : ∀ k r, c0.m k = some r → ∃ r', m0 k = some r') (hp : passB m0 rw ρ = true) : Stab c0 (c.named rw ρ) := by
  have hlt : ∀ k r, c0.m k = some r → k < 8 := fun k r hk => by
    rcases Nat.lt_or_ge k 8 with h | h
    · exact h
    · rw [h8 k h] at hk; cases hk
  refine ⟨hs.ty, hs.base, hs.fb, fun k τ a hk => ?_, fun k e n f hk => ?_, fun k o hk => ?_, fun b hb hmu => ?_, hs.size⟩
  · obtain ⟨⟨a', h1⟩, h2⟩ := hs.var k τ a hk
    obtain ⟨_, h0⟩ := hm0 k _ hk
    obtain ⟨⟨r', h3⟩, h4⟩ := passB_of hp (hlt k _ hk) h0
    have hle := LeRw_mem hr (rowOf_mem h3)
    unfold LeRow at hle
    rw [h4] at hle; simp only [h1] at hle
    cases r' with
    | grow _ _ _ => exact hle.elim
    | ob _ => exact hle.elim
    | var τ' a'' =>
      obtain ⟨rfl, _⟩ := hle
      exact ⟨⟨a'', h3⟩, by simp [Cx.named, h4, h2]⟩
  · obtain ⟨n', f', h1, h2, h5⟩ := hs.grow k e n f hk
    obtain ⟨_, h0⟩ := hm0 k _ hk
    obtain ⟨⟨r', h3⟩, h4⟩ := passB_of hp (hlt k _ hk) h0
    have hle := LeRw_mem hr (rowOf_mem h3)
    unfold LeRow at hle
    rw [h4] at hle; simp only [h1] at hle
    cases r' with
    | var _ _ => exact hle.elim
    | ob _ => exact hle.elim
    | grow e' n'' f'' =>
      obtain ⟨rfl, rfl, _⟩ := hle
      exact ⟨n', f'', h3, h2, fun hh => by simp [Cx.named, h4, h5 hh]⟩
  · obtain ⟨⟨o', h1, hl⟩, h2⟩ := hs.ob k o hk
    obtain ⟨_, h0⟩ := hm0 k _ hk
    obtain ⟨⟨r', h3⟩, h4⟩ := passB_of hp (hlt k _ hk) h0
    have hle := LeRw_mem hr (rowOf_mem h3)
    unfold LeRow at hle
    rw [h4] at hle; simp only [h1] at hle
    cases r' with
    | ob o'' =>
      have hle : o' = o'' := hle
      subst hle
      exact ⟨⟨o', h3, hl⟩, by simp [Cx.named, h4, h2]⟩
    | _ => exact hle.elim
  · obtain ⟨h1, h2⟩ := hs.old b hb hmu
    exact ⟨fun h => h1 (mu_old hm hr h), h2⟩
theorem since_some {c0 c : Cx} (h : Stab c0 c) : ∀ k r, c0.m k = some r → ∃ r', c.m k = some r' := fun k r hk => by
  cases r with
  | var τ a => obtain ⟨⟨a', h1⟩, _⟩ := h.var k τ a hk; exact ⟨_, h1⟩
  | grow e n f => obtain ⟨n', f', h1, _⟩ := h.grow k e n f hk; exact ⟨_, h1⟩
  | ob o => obtain ⟨⟨o', h1, _⟩, _⟩ := h.ob k o hk; exact ⟨_, h1⟩
/-- At a loop's head. -/
theorem ent_ok (hP : PgOK P E) (h8 : ∀ k, 8 ≤ k → c0.m k = none) (hnk : ¬ c0.kp) {s : St} {c : Cx} {a : Act} {sl : List (Nat × AV)} {rw : List (Nat × Row)} {ρ : Nat → Option Nat} (h : Abs P E nt c0 s c a) (he : Ent E s sl rw ρ) :
    ∃ c', Abs P E nt c0 (stOf sl rw) c' a ∧ Fr (stOf sl rw) (stOf sl rw).c ∧ c'.w = c.w := by
  obtain ⟨hn, hr, hs⟩ := he
  replace hr := LeRwW_of hr
  replace hs := LeSlW_of hs
  rw [← h.m] at hn
  rw [← h.m, ← h.ty] at hr hs
  obtain ⟨hi, hp, hf⟩ := namesB_of hn
  refine ⟨c.named rw ρ, ⟨h.ty, named_mem h.mem hr hi hf, h.bs, h.base, h.fb, h.low, named_since h.mem h8 h.since hr (m0 := c.m) (since_some h.since) hp, rfl, fun i => Le_rv h.mem hr (LeSl_at hs) (h.t i), h.nt, h.dfr, fun g => RV_norow (c := c) (c' := c.named rw ρ) rfl (fun b hb => mu_old h.mem hr hb) (hP.flat g) (h.gl g), fun q => absurd q hnk⟩, fun k hk => nextK_lt hk, rfl⟩
/-- The text, walked. -/
theorem W_sound (hP : PgOK P E) (h8 : ∀ k, 8 ≤ k → c0.m k = none) (hm : P.follows .mixedOrders = true) {inv : Nat → Option LI} (hkp : c0.kp → ∀ i, inv i = none) : ∀ (x : Code) (s : St) (c : Cx) (a : Act) (N : St → Prop) (X : Exit → St → Prop) (Q : Exit → Act → World → Prop), W E nt inv x s N X → Abs P E nt c0 s c a → Fr s s.c →
    (∀ s' c' a', N s' → Abs P E nt c0 s' c' a' → Fr s' s'.c → Q .normal a' c'.w) → (∀ e s' c' a', X e s' → e ≠ .normal → Abs P E nt c0 s' c' a' → Fr s' s'.c → Q e a' c'.w) → x.wp P Q a c.w := by
  intro x
  induction x with
  | skip => intro s c a N X Q h ha hf hN hX; exact wp_skip (hN _ _ _ h ha hf)
  | region id ops dr =>
    intro s c a N X Q h ha hf hN hX
    obtain ⟨t, m, k⟩ := s
    obtain ⟨hr, h⟩ := h
    simp only [regOK, Bool.and_eq_true, Bool.or_eq_true] at hr
    have hl : ops.toList.length ≤ 128 := by simpa using hr.1
    refine region_ok hP hm (s := ⟨t, m, k⟩) (fun e => by subst e; simpa using hr.2) h ha hf fun s' c' a' hk hc ha' hf' => hN _ c' a' hk ⟨ha'.ty, ha'.mem, ha'.bs, ha'.base, ha'.fb, ha'.low, ha'.since, ha'.m, ha'.t, ha'.nt, ha'.dfr, ha'.gl, ha'.keep⟩ (fun j hj => hf' j ?_)
    have hj : k + 1024 ≤ j := hj
    show k + 8 * ops.toList.length ≤ j
    omega
  | seq x y ihx ihy =>
    intro s c a N X Q h ha hf hN hX
    rw [W_seq] at h
    have rest : ∀ (M : St → Prop), W E nt inv x s M X → (∀ s' c' a', M s' → Abs P E nt c0 s' c' a' → Fr s' s'.c → y.wp P Q a' c'.w) → (Code.seq x y).wp P Q a c.w := fun M hx hy => by
     refine wp_seq (ihx s c a M X _ hx ha hf (fun s' c' a' hn ha' hf' => hy s' c' a' hn ha' hf') fun e s' c' a' hq hne ha' hf' => ?_)
     cases e with
     | normal => exact absurd rfl hne
     | _ => exact hX _ _ _ _ hq hne ha' hf'
    cases hL : inv (100000 + firstReg y) with
    | none =>
      rw [hL] at h
      exact rest _ h fun s' c' a' hn ha' hf' => ihy s' c' a' N X Q hn ha' hf' hN hX
    | some L =>
      rw [hL] at h
      obtain ⟨J, h1, h2⟩ := h
      refine rest _ h1 fun s' c' a' hn ha' hf' => ?_
      obtain ⟨ρ, g, hok, hJ, he⟩ := hn.ex
      obtain ⟨c'', ha'', hf'', hw⟩ := ent_ok hP h8 (fun q => by rw [hkp q] at hL; cases hL) ha' he
      have := ihy _ c'' a' N X Q (h2 g hok hJ) ha'' hf'' hN hX
      rw [hw] at this; exact this
  | cond q x y ihx ihy =>
    intro s c a N X Q h ha hf hN hX
    rw [W_cond] at h
    cases hq : ev E s.t q with
    | bo v =>
      rw [hq] at h
      have hv := ha.ev q
      rw [hq] at hv
      refine wp_cond_split (rv_bo hv) (fun e => ihx s c a N X Q (h.1 e) ha hf hN hX) (fun e => ihy s c a N X Q (h.2 e) ha hf hN hX)
    | anyb =>
      rw [hq] at h
      have hv := ha.ev q
      rw [hq] at hv
      obtain ⟨b, hb⟩ : ∃ b, a.eval q = .bool b := by
        obtain ⟨b, hb⟩ := (show R c _ _ from hv)
        exact ⟨b, by simpa using hb⟩
      refine wp_cond_split hb (fun e => ihx s c a N X Q (h.1 rfl) ha hf hN hX) (fun e => ihy s c a N X Q (h.2 rfl) ha hf hN hX)
    | _ => rw [hq] at h; exact h.elim
  | block id x ih =>
    intro s c a N X Q h ha hf hN hX
    refine wp_block (ih s c a N (xb id N X) _ h ha hf (fun s' c' a' hn ha' hf' => hN _ _ _ hn ha' hf') fun e s' c' a' hq hne ha' hf' => ?_)
    cases e with
    | normal => exact absurd rfl hne
    | exit j =>
      show if j = id then _ else _
      simp only [xb] at hq
      by_cases e : j = id
      · subst e
        simp only [Nat.beq_refl] at hq
        rw [if_pos rfl]
        exact hN _ _ _ hq ha' hf'
      · have hb : Nat.beq j id = false := by rw [← Bool.not_eq_true, Nat.beq_eq]; exact e
        simp only [hb] at hq
        rw [if_neg e]
        exact hX _ _ _ _ hq (fun h => by cases h) ha' hf'
    | _ => exact hX _ _ _ _ hq hne ha' hf'
  | exit j => intro s c a N X Q h ha hf hN hX; exact wp_exit (hX _ _ _ _ h (fun h => by cases h) ha hf)
  | ret => intro s c a N X Q h ha hf hN hX; exact wp_ret (hX _ _ _ _ h (fun h => by cases h) ha hf)
  | loop x ih =>
    intro s c a N X Q h ha hf hN hX
    rw [W_loop] at h
    cases hL : inv (firstReg x) with
    | none => rw [hL] at h; exact h.elim
    | some L =>
      rw [hL] at h
      obtain ⟨J, hent, hround⟩ := h
      obtain ⟨ρ, g, hg, hJ, he⟩ := hent.ex
      have rounds : ∀ (M : Nat) (g : L.G), L.mu g < M → L.ok g → J g → ∀ (c : Cx) (a : Act), Abs P E nt c0 (stOf (L.sl g) (L.rw g)) c a → Fr (stOf (L.sl g) (L.rw g)) (stOf (L.sl g) (L.rw g)).c → Code.rounds P x Q M a c.w := by
        intro M
        induction M with
        | zero => intro g h; omega
        | succ M ihM =>
          intro g hlt hok hJ c a ha hf
          rw [rounds_succ]
          refine ih _ c a _ X _ (hround g hok hJ) ha hf (fun s' c' a' hn ha' hf' => ?_) fun e s' c' a' hq hne ha' hf' => ?_
          · obtain ⟨ρ', g', hok', hJ', hmu, he'⟩ := hn.ex
            obtain ⟨c'', ha'', hf'', hw⟩ := ent_ok hP h8 (fun q => by rw [hkp q] at hL; cases hL) ha' he'
            have := ihM g' (by omega) hok' hJ' c'' a' ha'' hf''
            rw [hw] at this; exact this
          · cases e with
            | normal => exact absurd rfl hne
            | _ => exact hX _ _ _ _ hq hne ha' hf'
      obtain ⟨c', ha', hf', hw⟩ := ent_ok hP h8 (fun q => by rw [hkp q] at hL; cases hL) ha he
      have := wp_loop_rounds (L.mu g + 1) (rounds (L.mu g + 1) g (by omega) hg hJ c' a ha' hf')
      rw [hw] at this; exact this
  | label l => intro s c a N X Q h ha hf hN hX; exact wp_label (hN _ _ _ h ha hf)
  | scope x ih =>
    intro s c a N X Q h ha hf hN hX
    refine wp_scope_straight (ih s c a N (xs X) _ h ha hf (fun s' c' a' hn ha' hf' => hN _ _ _ hn ha' hf') fun e s' c' a' hq hne ha' hf' => ?_)
    cases e with
    | normal => exact absurd rfl hne
    | goto l => exact hq.elim
    | _ => exact hX _ _ _ _ hq hne ha' hf'
  | _ => intro s c a N X Q h ha hf hN hX; exact h.elim
end
end Go.Proofs.YtldlleoabbcpdaaDoor
