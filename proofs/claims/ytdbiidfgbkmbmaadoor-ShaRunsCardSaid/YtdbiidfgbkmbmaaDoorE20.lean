/- The machine's state and the plain one; a statement's operations, one behind the other. -/
import Derived.Test.YtdbiidfgbkmbmaaDoorE19
import Derived.Orders
namespace Go.Proofs.YtdbiidfgbkmbmaaDoor
open Go.RowKit
/-- The plain state tells the machine's. c0: what the call was given. -/
structure Abs (P : Program) (E : Pg) (nt : Nat) (c0 : Cx) (s : St) (c : Cx) (a : Act) : Prop where
  ty : c.ty = E.ty
  mem : MemOK c
  bs : c.fb ≤ c.w.heap.size
  base : c.base = c0.base
  fb : c.fb = c0.fb
  low : Below c0.base c0.w c.w
  since : Stab c0 c
  m : c.m = s.m
  t : ∀ i, RV c (s.t i) (a.tmps.getD i undef)
  nt : a.tmps.size = nt
  dfr : a.defers = []
  gl : ∀ g, RV c (E.gl g) (.pointer (some ⟨g, 0, none⟩))
def Fr (s : St) (b : Nat) : Prop := ∀ k, b ≤ k → s.m k = none
theorem rv_const (c : Cx) (v : Value) : RV c (avOf v) v := by
  unfold avOf
  split
  · exact rfl
  · rename_i z
    by_cases h : 0 ≤ z
    · simp only [h, decide_true, cond_true]; show [_] = [_]; rw [Int.toNat_of_nonneg h]
    · simp only [h, decide_false, cond_false]; rfl
  · rename_i z
    by_cases h : 0 ≤ z ∧ z < 256
    · simp only [h.1, h.2, decide_true, Bool.and_self, cond_true]
      show [_] = [_]; congr 2; unfold U8; rw [BitVec.toNat_ofInt]; omega
    · have : (decide (0 ≤ z) && decide (z < 256)) = false := by simp; omega
      rw [this]; trivial
  · rename_i z
    by_cases h : 0 ≤ z ∧ z < 65536
    · simp only [h.1, h.2, decide_true, Bool.and_self, cond_true]
      show [_] = [_]; congr 2; unfold U16; rw [BitVec.toNat_ofInt]; omega
    · have : (decide (0 ≤ z) && decide (z < 65536)) = false := by simp; omega
      rw [this]; trivial
  · rename_i z
    by_cases h : 0 ≤ z ∧ z < 4294967296
    · simp only [h.1, h.2, decide_true, Bool.and_self, cond_true]
      show [_] = [_]; congr 2; unfold U32; rw [BitVec.toNat_ofInt]; omega
    · have : (decide (0 ≤ z) && decide (z < 4294967296)) = false := by simp; omega
      rw [this]; trivial
  · rename_i z
    by_cases h : 0 ≤ z ∧ z < 18446744073709551616
    · simp only [h.1, h.2, decide_true, Bool.and_self, cond_true]
      show [_] = [_]; congr 2; unfold U64; rw [BitVec.toNat_ofInt]; omega
    · have : (decide (0 ≤ z) && decide (z < 18446744073709551616)) = false := by simp; omega
      rw [this]; trivial
  · rename_i z
    by_cases h : -2147483648 ≤ z ∧ z < 2147483648
    · simp only [h.1, h.2, decide_true, Bool.and_self, cond_true]
      show [_] = [_]; congr 2; rw [BitVec.toInt_ofInt]; simp [Int.bmod]; omega
    · have : (decide (-2147483648 ≤ z) && decide (z < 2147483648)) = false := by simp; omega
      rw [this]; trivial
  · exact rfl
  · exact rfl
  · exact rfl
  · trivial
section
variable {P : Program} {E : Pg} {nt : Nat} {c0 : Cx} {s : St} {c : Cx} {a : Act}
theorem Abs.ev (h : Abs P E nt c0 s c a) (y : Operand) : RV c (ev E s.t y) (a.eval y) := by
  cases y with
  | tmp i => exact h.t i
  | const v => exact rv_const c v
  | global g => exact h.gl g
  | func f => trivial
theorem put_getD (a : Act) (d : Option Tmp) (v : Value) (i : Nat) : (a.put d v).tmps.getD i undef = if d = some i ∧ i < a.tmps.size then v else a.tmps.getD i undef := by
  cases d with
  | none => simp [Act.put]
  | some d =>
    simp only [Act.put, Option.some.injEq, Array.getD_eq_getD_getElem?, Array.getElem?_setIfInBounds]
    by_cases h1 : d = i
    · subst h1
      by_cases h2 : d < a.tmps.size
      · simp [h2]
      · simp [h2]
    · simp [h1]
theorem putO_at (nt : Nat) (t : Nat → AV) (d : Option Nat) (v : AV) (i : Nat) : putO nt t d v i = if d = some i ∧ i < nt then v else t i := by
  cases d with
  | none => simp [putO]
  | some d =>
    simp only [putO, Option.some.injEq]
    cases h : Nat.blt d nt with
    | true =>
      have hd : d < nt := by simpa [Nat.blt_eq] using h
      simp only [cond_true, put]
      by_cases e : d = i
      · subst e; simp [hd]
      · have : Nat.beq i d = false := by rw [← Bool.not_eq_true, Nat.beq_eq]; exact fun h => e h.symm
        rw [this]; simp [e]
    | false =>
      have hd : ¬ d < nt := by intro hh; rw [(by simpa [Nat.blt_eq] using hh : Nat.blt d nt = true)] at h; cases h
      simp only [cond_false]
      by_cases e : d = i
      · subst e; simp [hd]
      · simp [e]
theorem putW_not {m : Nat → Option Row} : ∀ {wr : List (Nat × Row)} {k : Nat}, (∀ q ∈ wr, q.1 ≠ k) → putW m wr k = m k
  | [], _, _ => rfl
  | (j, r) :: wr, k, h => by
    show putW (putM m j r) wr k = m k
    rw [putW_not (fun q hq => h q (by simp [hq])), putM_ne _ _ (fun e => h (j, r) (by simp) e.symm)]
/-- One operation. -/
def step1 (nt : Nat) (o : Oper) (q : Bool × Res) (s : St) : St := ⟨putO nt s.t o.dst q.2.v, putW s.m q.2.wr, s.c⟩
theorem Abs.step (h : Abs P E nt c0 s c a) {o : Oper} {q : Bool × Res} {c' : Cx} {v : Value} (hs : Step c q.2.wr c') (hv : RV c' q.2.v v) : Abs P E nt c0 (step1 nt o q s) c' (a.put o.dst v) := by
  refine ⟨hs.stab.ty.trans h.ty, hs.mem, ?_, hs.base.trans h.base, hs.fb.trans h.fb, h.low.trans (by rw [← h.base]; exact hs.low), h.since.trans hs.stab, ?_, fun i => ?_, ?_, ?_, fun g => RV_stab hs.stab (h.gl g)⟩
  · rw [hs.fb]; exact Nat.le_trans h.bs hs.stab.size
  · rw [hs.m, h.m]; rfl
  · show RV c' (putO nt s.t o.dst q.2.v i) _
    rw [put_getD, putO_at, h.nt]
    split
    · exact hv
    · exact RV_stab hs.stab (h.t i)
  · rw [← h.nt]; cases o.dst <;> simp [Act.put]
  · rw [← h.dfr]; cases o.dst <;> rfl
theorem Abs.skip (h : Abs P E nt c0 s c a) (o : Oper) : Abs P E nt c0 (step1 nt o (false, ⟨.und, [], []⟩) s) c (a.put o.dst undef) :=
  h.step (q := (false, ⟨.und, [], []⟩)) (Step.refl h.mem) rfl
/-- What an operation makes hangs on its operands alone. -/
theorem sem_congr {E : Pg} {m : Nat → Option Row} {key : Nat} {x x' : Operand → AV} {op : Op} {K : Res → Prop} (h : ∀ y ∈ op.operands.toList, x y = x' y) (hs : sem E m key x op K) : sem E m key x' op K := by
  cases op with
  | call c =>
    have ha : c.args.toList.map x = c.args.toList.map x' := List.map_congr_left fun y hy => h y (by
      simp only [Op.operands, Call.operands]
      cases c.callee <;> simp <;> first | exact Or.inr (by simpa using hy) | exact (by simpa using hy))
    have hx : ∀ y, y ∈ c.args.toList → x y = x' y := fun y hy => by
      have := List.map_inj_left.1 ha y hy; exact this
    simp only [sem, semG] at hs ⊢
    split at hs
    · rw [← ha]; exact hs
    · split at hs <;> first | exact hs.elim | skip
      rename_i y t ha' ht'
      have := hx y (by rw [ha']; simp)
      rw [← this]; exact hs
    · split at hs <;> first | exact hs.elim | skip
      rename_i y z ha'
      have h1 := hx y (by rw [ha']; simp)
      have h2 := hx z (by rw [ha']; simp)
      rw [← h1, ← h2]; exact hs
    · split at hs <;> first | exact hs.elim | skip
      rename_i y z ha'
      have h1 := hx y (by rw [ha']; simp)
      have h2 := hx z (by rw [ha']; simp)
      rw [← h1, ← h2]; exact hs
    · split at hs <;> first | exact hs.elim | skip
      rename_i y z t s ha' ht'
      have h1 := hx y (by rw [ha']; simp)
      have h2 := hx z (by rw [ha']; simp)
      rw [← h1, ← h2]; exact hs
    · split at hs <;> first | exact hs.elim | skip
      rename_i y z t s ha' ht'
      have h1 := hx y (by rw [ha']; simp)
      have h2 := hx z (by rw [ha']; simp)
      rw [← h1, ← h2]; exact hs
    · exact hs.elim
  | build t ps =>
    have ha : (ps.toList.map fun (i, y) => (i, x y)) = ps.toList.map fun (i, y) => (i, x' y) := List.map_congr_left fun q hq => by
      obtain ⟨i, y⟩ := q
      show (i, x y) = (i, x' y)
      rw [h y (by simp only [Op.operands]; simpa using ⟨i, by simpa using hq⟩)]
    simp only [sem, semG, ha] at hs ⊢; exact hs
  | buildSlice t l ps =>
    have ha : (ps.toList.map fun (i, y) => (i, x y)) = ps.toList.map fun (i, y) => (i, x' y) := List.map_congr_left fun q hq => by
      obtain ⟨i, y⟩ := q
      show (i, x y) = (i, x' y)
      rw [h y (by simp only [Op.operands]; simpa using ⟨i, by simpa using hq⟩)]
    simp only [sem, semG, ha] at hs ⊢; exact hs
  | slice t y lo hi mx =>
    cases mx with
    | some _ => exact hs.elim
    | none =>
      have h1 := h y (by simp [Op.operands])
      have h2 : lo.map x = lo.map x' := by cases lo <;> first | rfl | (simp only [Option.map_some]; rw [h _ (by simp [Op.operands])])
      have h3 : hi.map x = hi.map x' := by cases hi <;> first | rfl | (simp only [Option.map_some]; rw [h _ (by simp [Op.operands])])
      simp only [sem, semG, h1, h2, h3] at hs ⊢; exact hs
  | pick a b c =>
    have h1 := h a (by simp [Op.operands]); have h2 := h b (by simp [Op.operands]); have h3 := h c (by simp [Op.operands])
    simp only [sem, semG, h1, h2, h3] at hs ⊢; exact hs
  | alloc t => exact hs
  | move y => have h1 := h y (by simp [Op.operands]); simp only [sem, semG, h1] at hs ⊢; exact hs
  | assign y => have h1 := h y (by simp [Op.operands]); simp only [sem, semG, h1] at hs ⊢; exact hs
  | box t y => have h1 := h y (by simp [Op.operands]); simp only [sem, semG, h1] at hs ⊢; exact hs
  | load t y => have h1 := h y (by simp [Op.operands]); simp only [sem, semG, h1] at hs ⊢; exact hs
  | nilCheck y => have h1 := h y (by simp [Op.operands]); simp only [sem, semG, h1] at hs ⊢; exact hs
  | unOp p t y => have h1 := h y (by simp [Op.operands]); simp only [sem, semG, h1] at hs ⊢; exact hs
  | convert a b y => have h1 := h y (by simp [Op.operands]); simp only [sem, semG, h1] at hs ⊢; exact hs
  | sliceToArrayPointer t y => have h1 := h y (by simp [Op.operands]); simp only [sem, semG, h1] at hs ⊢; exact hs
  | fieldAddr t y i => have h1 := h y (by simp [Op.operands]); simp only [sem, semG, h1] at hs ⊢; exact hs
  | field t y i => have h1 := h y (by simp [Op.operands]); simp only [sem, semG, h1] at hs ⊢; exact hs
  | extract y i => have h1 := h y (by simp [Op.operands]); simp only [sem, semG, h1] at hs ⊢; exact hs
  | store t y z => have h1 := h y (by simp [Op.operands]); have h2 := h z (by simp [Op.operands]); simp only [sem, semG, h1, h2] at hs ⊢; exact hs
  | binOp p t y z u => have h1 := h y (by simp [Op.operands]); have h2 := h z (by simp [Op.operands]); simp only [sem, semG, h1, h2] at hs ⊢; exact hs
  | makeSlice t y z => have h1 := h y (by simp [Op.operands]); have h2 := h z (by simp [Op.operands]); simp only [sem, semG, h1, h2] at hs ⊢; exact hs
  | indexAddr t y z => have h1 := h y (by simp [Op.operands]); have h2 := h z (by simp [Op.operands]); simp only [sem, semG, h1, h2] at hs ⊢; exact hs
  | index t y z => have h1 := h y (by simp [Op.operands]); have h2 := h z (by simp [Op.operands]); simp only [sem, semG, h1, h2] at hs ⊢; exact hs
  | _ => exact hs.elim
open Classical in
/-- Of the operands alone. -/
noncomputable def mask (o : Oper) (x : Operand → AV) : Operand → AV := fun y => match y with
  | .tmp t => if .tmp t ∈ o.op.operands.toList then x (.tmp t) else .junk
  | y => x y
theorem mask_sem {E : Pg} {m : Nat → Option Row} {key : Nat} {x : Operand → AV} {o : Oper} {K : Res → Prop} (hs : sem E m key x o.op K) : sem E m key (mask o x) o.op K :=
  sem_congr (fun y hy => by unfold mask; cases y <;> first | rfl | (simp only []; rw [if_pos hy])) hs
theorem mask_rv {c : Cx} {x : Operand → AV} {o : Oper} {e : Operand → Value} (h : ∀ y ∈ o.op.operands.toList, RV c (x y) (e y)) (h' : ∀ y, (∀ t, y ≠ .tmp t) → RV c (x y) (e y)) (y : Operand) : RV c (mask o x y) (e y) := by
  unfold mask
  cases y with
  | tmp t =>
    simp only []
    split
    · rename_i hy; exact h _ hy
    · trivial
  | _ => exact h' _ (fun t e => by cases e)
def Ok1 (P : Program) (E : Pg) (l : List Oper) (base i : Nat) (o : Oper) (s : St) (q : Bool × Res) : Prop :=
  wrB (base + 8 * i) q.2.wr = true ∧
  ((q.1 = true ∧ (o.guard = none ∨ ∃ j want, o.guard = some (j, want) ∧ gval l s.t j = .bo want) ∧ Valid P E.ty o (mask o (ev E s.t)) (base + 8 * i) s.m q.2) ∨
   (q.1 = false ∧ q.2 = ⟨.und, [], []⟩ ∧ ∃ j want, o.guard = some (j, want) ∧ (gval l s.t j = .und ∨ gval l s.t j = .bo (!want))))
inductive Runs (P : Program) (E : Pg) (nt : Nat) (dr : Bool) (l : List Oper) (base : Nat) : Nat → List Oper → List (Bool × Res) → St → St → Prop where
  | nil (i s) : Runs P E nt dr l base i [] [] s s
  | cons {i o q s rest qs s'} (h : Ok1 P E l base i o s q) (hr : dr = true → okR l base i o q.2.rd (q.2.wr.map (·.1)) = true) (t : Runs P E nt dr l base (i + 1) rest qs (step1 nt o q s) s') : Runs P E nt dr l base i (o :: rest) (q :: qs) s s'
theorem thenR_of {dr : Bool} {l : List Oper} {base i : Nat} {o : Oper} {r : Res} {K : Prop} (h : thenR dr l base i o r K) : wrB (base + 8 * i) r.wr = true ∧ (dr = true → okR l base i o r.rd (r.wr.map (·.1)) = true) ∧ K := by
  unfold thenR at h
  split at h
  · exact h.elim
  · rename_i hw
    cases dr with
    | false => exact ⟨hw, (fun h => by cases h), h⟩
    | true => exact ⟨hw, fun _ => h.1, h.2⟩
theorem fk_of {g : Bool} {v : AV} {K : AV → Prop} (h : fk g v K) : K v := by
  cases g with
  | false => simp only [fk, fc_eq] at h; exact h
  | true =>
    simp only [fk] at h
    split at h
    · rename_i x
      cases x with
      | true => exact h.1 rfl
      | false => exact h.2 rfl
    · exact h.elim
theorem frc_eq {t : Nat → AV} : ∀ {is : List Nat} {acc : List (Nat × AV)} {K : List (Nat × AV) → Prop}, frc is t acc K → (∀ q ∈ acc, q.2 = t q.1) → ∃ l, K l ∧ (∀ q ∈ l, q.2 = t q.1) ∧ (∀ i, (i ∈ is ∨ ∃ q ∈ acc, q.1 = i) → ∃ q ∈ l, q.1 = i)
  | [], acc, K, h, ha => ⟨acc, h, ha, fun i hi => by simpa using hi⟩
  | i :: is, acc, K, h, ha => by
    simp only [frc, fc_eq] at h
    obtain ⟨l, h1, h2, h3⟩ := frc_eq h (fun q hq => by
      rcases List.mem_cons.1 hq with rfl | hq
      · rfl
      · exact ha q hq)
    refine ⟨l, h1, h2, fun j hj => h3 j ?_⟩
    rcases hj with hj | ⟨q, hq, hj⟩
    · rcases List.mem_cons.1 hj with rfl | hj
      · exact .inr ⟨(j, t j), by simp, rfl⟩
      · exact .inl hj
    · exact .inr ⟨q, by simp [hq], hj⟩
theorem look_of {t : Nat → AV} {z : AV} {i : Nat} : ∀ {l : List (Nat × AV)}, (∀ q ∈ l, q.2 = t q.1) → (∃ q ∈ l, q.1 = i) → look l z i = t i
  | [], _, ⟨q, hq, _⟩ => by cases hq
  | (j, v) :: l, h1, h2 => by
    unfold look
    by_cases e : i = j
    · subst e; simpa using h1 (i, v) (by simp)
    · have e1 : Nat.beq i j = false := by rw [← Bool.not_eq_true, Nat.beq_eq]; exact e
      rw [e1]
      refine look_of (l := l) (fun q hq => h1 q (by simp [hq])) ?_
      obtain ⟨q, hq, hqi⟩ := h2
      rcases List.mem_cons.1 hq with rfl | hq
      · exact absurd hqi.symm e
      · exact ⟨q, hq, hqi⟩
theorem skip_ok (nt base i : Nat) : wrB (base + 8 * i) ([] : List (Nat × Row)) = true := rfl
theorem okR_nil (l : List Oper) (base i : Nat) (o : Oper) : okR l base i o [] [] = true := by simp [okR]
theorem okT_imp {τ : Ty} {A B : Prop} (h : A → B) : okT τ A → okT τ B := by cases τ <;> first | exact h | exact id
theorem litOk_imp {S S' : Ty → AV → Prop} (hS : ∀ τ a, S τ a → S' τ a) {u : Bool} {l : Nat} {f : Nat → Ty} : ∀ {ps : List (Nat × AV)}, litOk S u l f ps → litOk S' u l f ps
  | [], _ => trivial
  | (_, _) :: _, h => ⟨h.1, hS _ _ h.2.1, h.2.2.1, litOk_imp hS h.2.2.2⟩
theorem semG_imp {S S' : Ty → AV → Prop} {C C' : AV → Prop} (hS : ∀ τ a, S τ a → S' τ a) (hC : ∀ a, C a → C' a) {E : Pg} {m : Nat → Option Row} {key : Nat} {x : Operand → AV} {op : Op} {K : Res → Prop} (h : semG S C E m key x op K) : semG S' C' E m key x op K := by
  cases op with
  | box t y => simp only [semG] at h ⊢; exact okT_imp (fun h => ⟨hS _ _ h.1, h.2⟩) h
  | build t ps =>
    simp only [semG] at h ⊢
    split at h
    · exact ⟨litOk_imp hS h.1, h.2⟩
    · exact ⟨litOk_imp hS h.1, h.2⟩
    · exact h.elim
  | buildSlice t l ps =>
    simp only [semG] at h ⊢
    split at h
    · exact ⟨h.1, litOk_imp hS h.2.1, h.2.2⟩
    · exact h.elim
  | store t y z =>
    simp only [semG] at h ⊢
    refine okT_imp (fun h => ?_) h
    split at h
    · split at h
      · exact ⟨h.1, hS _ _ h.2.1, h.2.2⟩
      · exact h.elim
    · split at h
      · exact ⟨h.1, h.2.1, hS _ _ h.2.2.1, h.2.2.2⟩
      · exact h.elim
    · exact h.elim
  | binOp p t y z t' =>
    simp only [semG] at h ⊢
    split at h
    · exact h
    · split at h
      · exact okT_imp (fun h => ⟨hC _ h.1, hS _ _ h.2.1, hS _ _ h.2.2.1, h.2.2.2⟩) h
      · exact h.elim
    · exact h
    · exact h
  | field t y i =>
    simp only [semG] at h ⊢
    split at h
    · split at h
      · exact ⟨hS _ _ h.1, h.2⟩
      · exact h.elim
    · exact h.elim
  | index t y i =>
    simp only [semG] at h ⊢
    obtain ⟨n, h1, h2⟩ := idx_det h
    refine h2 _ ?_
    split at h1
    · split at h1
      · exact ⟨hS _ _ h1.1, h1.2⟩
      · exact h1.elim
    · exact h1
    · exact h1.elim
  | slice t y lo hi mx => cases mx <;> exact h
  | _ => exact h
theorem frc_imp {t : Nat → AV} {K K' : List (Nat × AV) → Prop} (h : ∀ acc, K acc → K' acc) : ∀ {is : List Nat} {acc : List (Nat × AV)}, frc is t acc K → frc is t acc K'
  | [], _, hk => h _ hk
  | i :: is, acc, hk => by
    unfold frc at hk ⊢
    rw [fc_eq] at hk ⊢
    exact frc_imp h hk
theorem frc_sem {E : Pg} {m : Nat → Option Row} {key : Nat} {t : Nat → AV} {o : Oper} {K : Res → Prop} (h : frc (tmpsIn o.op) t [] fun vs => sem E m key (evL E vs) o.op K) : sem E m key (mask o (ev E t)) o.op K := by
  obtain ⟨l, h1, h2, h3⟩ := frc_eq h (fun q hq => by cases hq)
  refine sem_congr (fun y hy => ?_) h1
  cases y with
  | tmp i =>
    show look l .junk i = _
    unfold mask
    simp only []
    rw [if_pos hy]
    exact look_of h2 (h3 i (.inl (List.mem_filterMap.2 ⟨.tmp i, hy, rfl⟩)))
  | _ => rfl
theorem wOps_run (hP : PgOK P E) {dr : Bool} {l : List Oper} {base : Nat} : ∀ (rest : List Oper) (i : Nat) (s : St) (K : (Nat → AV) → (Nat → Option Row) → Prop), wOps E nt dr l base i rest s.t s.m K → ∃ qs s', Runs P E nt dr l base i rest qs s s' ∧ K s'.t s'.m
  | [], i, s, K, h => ⟨[], s, .nil i s, h⟩
  | o :: rest, i, s, K, h => by
    have exec : (o.guard = none ∨ ∃ j want, o.guard = some (j, want) ∧ gval l s.t j = .bo want) → (frc (tmpsIn o.op) s.t [] fun vs => semG ShW CmpW E s.m (base + 8 * i) (evL E vs) o.op fun r => thenR dr l base i o r (fk (gsrc l i) r.v fun v => nextT nt s.t o.dst v fun t => nextM s.m r.wr fun m => wOps E nt dr l base (i + 1) rest t m K)) → ∃ qs s', Runs P E nt dr l base i (o :: rest) qs s s' ∧ K s'.t s'.m := fun hg h => by
      obtain ⟨r, hr, hv⟩ := sem_sound hP (fun g => rfl) (frc_sem (frc_imp (fun _ => semG_imp (fun _ _ => ShW_of) (fun _ => CmpW_of)) h))
      obtain ⟨h1, h2, h3⟩ := thenR_of hr
      have h3 := fk_of h3
      rw [nextT_eq, nextM_eq] at h3
      obtain ⟨qs, s', h4, h5⟩ := wOps_run hP rest (i + 1) ⟨putO nt s.t o.dst r.v, putW s.m r.wr, s.c⟩ K h3
      exact ⟨(true, r) :: qs, s', .cons ⟨h1, .inl ⟨rfl, hg, hv⟩⟩ h2 h4, h5⟩
    have skip : (∃ j want, o.guard = some (j, want) ∧ (gval l s.t j = .und ∨ gval l s.t j = .bo (!want))) → (nextT nt s.t o.dst .und fun t => wOps E nt dr l base (i + 1) rest t s.m K) → ∃ qs s', Runs P E nt dr l base i (o :: rest) qs s s' ∧ K s'.t s'.m := fun hg h => by
      rw [nextT_eq] at h
      obtain ⟨qs, s', h4, h5⟩ := wOps_run hP rest (i + 1) ⟨putO nt s.t o.dst .und, s.m, s.c⟩ K h
      exact ⟨(false, ⟨.und, [], []⟩) :: qs, s', .cons ⟨rfl, .inr ⟨rfl, rfl, hg⟩⟩ (fun _ => okR_nil _ _ _ _) h4, h5⟩
    unfold wOps at h
    split at h
    · rename_i hg
      exact exec (.inl hg) h
    · rename_i j want hg
      split at h
      · rename_i b hb
        split at h
        · rename_i e
          have e : b = want := by simpa using e
          subst e
          exact exec (.inr ⟨j, b, hg, hb⟩) h
        · rename_i e
          refine skip ⟨j, want, hg, .inr ?_⟩ h
          rw [hb]; cases b <;> cases want <;> first | rfl | (simp at e)
      · rename_i hb
        exact skip ⟨j, want, hg, .inl hb⟩ h
      · exact h.elim
/-- What a guard says. -/
theorem guard_yields (h : Abs P E nt c0 s c a) {l : List Oper} {j : Nat} {b : Bool} (hg : gval l s.t j = .bo b) : yielded l.toArray a.tmps j = some b := by
  unfold gval at hg
  split at hg
  · rename_i o ho
    split at hg
    · rename_i d hd
      have hv := h.t d
      rw [hg] at hv
      have hv := rv_bo hv
      have : a.tmps[d]? = some (.bool b) := by
        rw [Array.getD_eq_getD_getElem?] at hv
        cases hq : a.tmps[d]? with
        | none => rw [hq] at hv; cases hv
        | some v => rw [hq] at hv; simp at hv; rw [hv]
      unfold yielded
      simp [ho, hd, this]
    · cases hg
  · cases hg
theorem guard_und (h : Abs P E nt c0 s c a) {l : List Oper} {j : Nat} (hg : gval l s.t j = .und) : yielded l.toArray a.tmps j = none := by
  unfold gval at hg
  split at hg
  · rename_i o ho
    split at hg
    · rename_i d hd
      have hv := h.t d
      rw [hg] at hv
      have hv : a.tmps.getD d undef = undef := by simpa [RV, R] using hv
      unfold yielded
      cases hq : a.tmps[d]? with
      | none => simp [ho, hd, hq]
      | some v =>
        rw [Array.getD_eq_getD_getElem?, hq] at hv
        simp only [Option.getD_some] at hv
        subst hv
        simp [ho, hd, hq, undef]
    · cases hg
  · cases hg
/-- One operation is carried out, or passed over. -/
theorem op_ok (h : Abs P E nt c0 s c a) {l : List Oper} {base i : Nat} {o : Oper} {q : Bool × Res} {K : Act → World → Prop} {Q : Exit → Act → World → Prop} (ho : l[i]? = some o) (hok : Ok1 P E l base i o s q) (hf : ∀ j, base + 8 * i ≤ j → j < base + 8 * i + 8 → s.m j = none)
    (hK : ∀ c' a', Abs P E nt c0 (step1 nt o q s) c' a' → K a' c'.w) : wpOp P l.toArray Q i K a c.w := by
  have ho' : l.toArray[i]? = some o := by simpa using ho
  unfold wpOp
  simp only [ho']
  obtain ⟨_, ⟨_, hg, hv⟩ | ⟨_, hq, j, want, hg, hb⟩⟩ := hok
  · have hw : Region.wanted o (yielded l.toArray a.tmps) = true := by
      rcases hg with hg | ⟨j, want, hg, hb⟩
      · simp [Region.wanted, hg]
      · simp [Region.wanted, hg, guard_yields h hb]
    rw [if_pos hw]
    left
    exact hv c a K Q h.ty h.mem h.bs (fun k _ => by rw [h.m]) (fun j h1 h2 => by rw [h.m]; exact hf j h1 h2) (mask_rv (fun y _ => h.ev y) fun y _ => h.ev y) (fun c' v hst hr => hK c' _ (h.step hst hr))
  · have hw : Region.wanted o (yielded l.toArray a.tmps) = false := by
      rcases hb with hb | hb
      · simp [Region.wanted, hg, guard_und h hb]
      · simp [Region.wanted, hg, guard_yields h hb]
    rw [hw]
    simp only [Bool.false_eq_true, if_false]
    have := hK c _ (by rw [show q = (q.1, q.2) from rfl, hq]; exact h.skip o)
    exact this
theorem fr_step {base i : Nat} {o : Oper} {q : Bool × Res} (hf : Fr s (base + 8 * i)) (hw : wrB (base + 8 * i) q.2.wr = true) : Fr (step1 nt o q s) (base + 8 * (i + 1)) := by
  intro k hk
  show putW s.m q.2.wr k = none
  rw [putW_not (fun r hr => ?_)]
  · exact hf k (by omega)
  · have := List.all_eq_true.1 hw r hr
    simp only [Nat.blt_eq] at this
    omega
/-- The operations in the text's order. -/
theorem seq_ok {l : List Oper} {base : Nat} {Q : Exit → Act → World → Prop} {dr : Bool} {s' : St} : ∀ {rest : List Oper} {i : Nat} {qs : List (Bool × Res)} {s : St} {c : Cx} {a : Act}, Runs P E nt dr l base i rest qs s s' → l.drop i = rest → i ≤ l.length → Abs P E nt c0 s c a → Fr s (base + 8 * i) →
    (∀ c' a', Abs P E nt c0 s' c' a' → Fr s' (base + 8 * l.length) → Q .normal a' c'.w) → wpOps P l.toArray Q (List.range' i rest.length) a c.w := by
  intro rest i qs s c a hr
  induction hr generalizing c a with
  | nil i s =>
    intro hl hi h hf hQ
    have : l.length ≤ i := by
      rcases Nat.lt_or_ge i l.length with hlt | hge
      · have := congrArg List.length hl; simp at this; omega
      · exact hge
    exact hQ c a h (fun k hk => hf k (by omega))
  | @cons i o q s rest qs s' hok _ _ ih =>
    intro hl hi h hf hQ
    have ho : l[i]? = some o := by
      have := congrArg (fun r => r[0]?) hl
      simpa using this
    have hi' : i + 1 ≤ l.length := (List.getElem?_eq_some_iff.1 ho).1
    have hl' : l.drop (i + 1) = rest := by
      have := congrArg List.tail hl
      simpa using this
    rw [List.length_cons, List.range'_succ, wpOps_cons]
    refine op_ok h ho hok (fun j h1 h2 => hf j h1) (fun c' a' h' => ?_)
    exact ih hl' hi' h' (fr_step hf hok.1) hQ
end
end Go.Proofs.YtdbiidfgbkmbmaaDoor
