/- Tables of types and of contracts. -/
import Derived.Test.YtdbiidfgbkmbmaaDoorE28
import Derived.KernelRfl
namespace Go.Proofs.YtdbiidfgbkmbmaaDoor
open Go.RowKit
def tyAt : List (Nat × Ty) → TypeId → Ty
  | [], _ => .no
  | (k, τ) :: l, t => bif Nat.beq t k then τ else tyAt l t
def nth {α : Type} (d : α) : List α → Nat → α
  | [], _ => d
  | a :: l, i => match i with
    | 0 => a
    | i + 1 => nth d l i
def AllP {α : Type} (p : α → Prop) : List α → Prop
  | [] => True
  | a :: l => p a ∧ AllP p l
theorem AllP_mem {α : Type} {p : α → Prop} {a : α} : ∀ {l : List α}, AllP p l → a ∈ l → p a
  | _ :: _, h, hm => by
    rcases List.mem_cons.1 hm with rfl | hm
    · exact h.1
    · exact AllP_mem h.2 hm
theorem tyAt_mem {t : TypeId} : ∀ {l : List (Nat × Ty)}, tyAt l t ≠ .no → ∃ q ∈ l, q.1 = t ∧ tyAt l t = q.2
  | [], h => absurd rfl h
  | (k, τ) :: l, h => by
    by_cases e : t = k
    · subst e; exact ⟨(t, τ), by simp, rfl, by simp [tyAt]⟩
    · have e1 : Nat.beq t k = false := by rw [← Bool.not_eq_true, Nat.beq_eq]; exact e
      have e2 : tyAt ((k, τ) :: l) t = tyAt l t := by simp [tyAt, e1]
      rw [e2] at h
      obtain ⟨q, h1, h2, h3⟩ := tyAt_mem h
      exact ⟨q, by simp [h1], h2, e2.trans h3⟩
theorem tysOK_of {P : Program} {ty : TypeId → Ty} {l : List (Nat × Ty)} (hty : ty = tyAt l) (h : AllP (fun q => TyOK P ty q.1) l) : TysOK P ty := by
  intro t ht
  rw [hty] at ht
  obtain ⟨q, h1, rfl, _⟩ := tyAt_mem ht
  exact AllP_mem (p := fun q : Nat × Ty => TyOK P ty q.1) h h1
def Ty.mxB : Ty → Bool
  | .agg true n _ => decide (n ≤ 9000000000000000000)
  | _ => true
theorem mx_of {ty : TypeId → Ty} {l : List (Nat × Ty)} (hty : ty = tyAt l) (h : (l.all fun q => q.2.mxB) = true) : ∀ t n f, ty t = .agg true n f → n ≤ maxLen := by
  intro t n f ht
  rw [hty] at ht
  obtain ⟨q, h1, rfl, h3⟩ := tyAt_mem (l := l) (t := t) (by rw [ht]; intro h; cases h)
  have := List.all_eq_true.1 h q h1
  rw [← h3, ht] at this
  simp only [Ty.mxB, decide_eq_true_eq] at this
  exact Nat.le_trans this (by decide)
def fieldsOf (P : Program) (t : TypeId) : Array Field := match P.underlying t with
  | some (.struct fs) => fs
  | _ => #[]
theorem TyOK.st' {P : Program} {ty : TypeId → Ty} {t n : Nat} {f : Nat → Ty} (L : List (TypeId × Nat)) (hu : P.underlying t = some (.struct (fieldsOf P t)))
    (hL : ((fieldsOf P t).toList.map fun x => (x.type, x.offset, x.name == "_")) = L.map fun q => (q.1, q.2, false)) (hn : L.length = n)
    (hf : AllP (fun q => TyOK P ty q.1) L) (hg : ∀ i q, L[i]? = some q → f i = ty q.1 ∧ q.2 = sumN (fun j => (f j).size) i ∧ 0 < (f i).size)
    (hi : Inf P t (.agg (ty t).zc.toArray) (ty t).size) (hr : (ty t).rank < 9000) (hq : P.eqGuardType P.depth t = false) (hh : P.stoodInHeld t = false) (hty : ty t = .agg false n f) : TyOK P ty t := by
  have hsz : (fieldsOf P t).size = L.length := by
    have := congrArg List.length hL; simpa using this
  have hat : ∀ (i : Nat) (h : i < (fieldsOf P t).size), ∃ q, L[i]? = some q ∧ (fieldsOf P t)[i].type = q.1 ∧ (fieldsOf P t)[i].offset = q.2 ∧ (fieldsOf P t)[i].name ≠ "_" := by
    intro i h
    have hq : L[i]? = some L[i] := List.getElem?_eq_getElem (by omega)
    refine ⟨L[i], hq, ?_⟩
    have h1 := congrArg (fun l => l[i]?) hL
    simp only [List.getElem?_map, Array.getElem?_toList, Array.getElem?_eq_getElem h, hq, Option.map_some, Option.some.injEq, Prod.mk.injEq] at h1
    exact ⟨h1.1, h1.2.1, by simpa using h1.2.2⟩
  refine .st t (fieldsOf P t) n f hu (by omega) (fun i h => ?_) (fun i h => ?_) hi hr hq hh (fun i h => ?_) hty
  · obtain ⟨q, h1, h2, _⟩ := hat i h
    rw [h2]; exact AllP_mem (p := fun q : TypeId × Nat => TyOK P ty q.1) hf (List.mem_of_getElem? h1)
  · obtain ⟨q, h1, h2, h3, _⟩ := hat i h
    rw [h2, h3]; exact hg i q h1
  · obtain ⟨q, h1, h2, h3, h4⟩ := hat i h
    exact h4

def FsOK (ty : TypeId → Ty) (f : Nat → Ty) : Nat → List (TypeId × Nat) → Prop
  | _, [] => True
  | i, q :: L => (f i = ty q.1 ∧ q.2 = sumN (fun j => (f j).size) i ∧ decide (0 < (f i).size) = true) ∧ FsOK ty f (i + 1) L
theorem FsOK_at {ty : TypeId → Ty} {f : Nat → Ty} : ∀ {L : List (TypeId × Nat)} {k : Nat}, FsOK ty f k L → ∀ i q, L[i]? = some q → f (k + i) = ty q.1 ∧ q.2 = sumN (fun j => (f j).size) (k + i) ∧ 0 < (f (k + i)).size
  | q0 :: L, k, h, 0, q, hq => by
    simp only [List.getElem?_cons_zero, Option.some.injEq] at hq
    subst hq
    exact ⟨h.1.1, h.1.2.1, of_decide_eq_true h.1.2.2⟩
  | q0 :: L, k, h, i + 1, q, hq => by
    have := FsOK_at h.2 i q (by simpa using hq)
    rwa [show k + 1 + i = k + (i + 1) by omega] at this
theorem TyOK.struct {P : Program} {ty : TypeId → Ty} {t n : Nat} {f : Nat → Ty} (L : List (TypeId × Nat)) (hty : ty t = .agg false n f) (hn : L.length = n) (hf : AllP (fun q => TyOK P ty q.1) L) (hg : FsOK ty f 0 L)
    (hu : P.underlying t = some (.struct (fieldsOf P t))) (hL : ((fieldsOf P t).toList.map fun x => (x.type, x.offset, x.name == "_")) = L.map fun q => (q.1, q.2, false))
    (hi : (P.info? t).map (fun i => (i.zero, i.size, decide (i.bytes ≤ 10000))) = some (some (.agg (ty t).zc.toArray), (ty t).size, true)) (hr : decide ((ty t).rank < 9000) = true) (hq : P.eqGuardType P.depth t = false) (hh : P.stoodInHeld t = false) : TyOK P ty t :=
  .st' L hu hL hn hf (fun i q h => by have := FsOK_at hg i q h; rwa [Nat.zero_add] at this) (.mk hi) (of_decide_eq_true hr) hq hh hty
theorem TyOK.array {P : Program} {ty : TypeId → Ty} {t : TypeId} (n e : Nat) (he : TyOK P ty e) (hty : ty t = .agg true n fun _ => ty e) (hp : decide (0 < (ty e).size) = true) (hu : P.underlying t = some (.array n e))
    (hi : (P.info? t).map (fun i => (i.zero, i.size, decide (i.bytes ≤ 10000))) = some (some (.agg (ty t).zc.toArray), (ty t).size, true)) (hr : decide ((ty t).rank < 9000) = true) (hq : P.eqGuardType P.depth t = false) : TyOK P ty t :=
  .arr t n e hu he (of_decide_eq_true hp) (.mk hi) (of_decide_eq_true hr) hq hty
theorem TyOK.slice {P : Program} {ty : TypeId → Ty} {t : TypeId} (e : Nat) (he : TyOK P ty e) (hty : ty t = .sl e) (hp : decide (0 < (ty e).size) = true) (hu : P.underlying t = some (.slice e))
    (hi : (P.info? t).map (fun i => (i.zero, i.size, decide (i.bytes ≤ 10000))) = some (some (.slice none 0 0), 1, true)) : TyOK P ty t :=
  .sl t e hu (.mk hi) he (of_decide_eq_true hp) hty

/-! ### Contracts -/
abbrev Ctr := List AV → (Nat → Option Row) → Nat → (Res → Prop) → Prop
def Good (P : Program) (ty : TypeId → Ty) (gl : Nat → AV) (f : FuncId) (C : Ctr) : Prop := ∀ args m key K, C args m key K → ∃ r, K r ∧ FnValid P ty gl f args m key r
def ctrOf : List (FuncId × Ctr) → FuncId → Ctr
  | [], _ => fun _ _ _ _ => False
  | (k, C) :: l, f => bif Nat.beq f k then C else ctrOf l f
theorem ctrOK_of {P : Program} {ty : TypeId → Ty} {gl : Nat → AV} : ∀ {l : List (FuncId × Ctr)}, AllP (fun q => Good P ty gl q.1 q.2) l → CtrOK P ⟨ty, gl, ctrOf l⟩
  | [], _ => fun _ _ _ _ _ h => h.elim
  | (k, C) :: l, hl => fun f args m key K h => by
    by_cases e : f = k
    · subst e
      refine hl.1 args m key K ?_
      have : ctrOf ((f, C) :: l) f = C := by simp [ctrOf]
      rw [← this]; exact h
    · have e1 : Nat.beq f k = false := by rw [← Bool.not_eq_true, Nat.beq_eq]; exact e
      have : ctrOf ((k, C) :: l) f = ctrOf l f := by simp [ctrOf, e1]
      refine ctrOK_of hl.2 f args m key K ?_
      have h' : ctrOf ((k, C) :: l) f args m key K := h
      rw [this] at h'; exact h'
def noK (_ : Nat) : Option Nat := none
def newB (rw1 : List (Nat × Row)) : Bool := (rw1.all fun q => Nat.ble 8 q.1 && Nat.blt q.1 16) && distinctB (rw1.map (·.1))
end Go.Proofs.YtdbiidfgbkmbmaaDoor
