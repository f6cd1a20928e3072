/- Calls that may write what stands behind what they are handed, however deep. -/
import Derived.Test.YtobilidppfmdkaaGG
namespace Go.Proofs.Ytobilidppfmdkaa
open Go.RowKit
def ddN : List Nat → List Nat
  | [] => []
  | k :: l => k :: (ddN l).filter fun j => !Nat.beq k j
/-- The rows that may be written: those that are handed in, and those behind them. -/
def keysD (ty : TypeId → Ty) (m : Nat → Option Row) : List Bool → List AV → List Nat
  | true :: ms, a :: l => rdM ty m 3 a ++ keysD ty m ms l
  | false :: ms, _ :: l => keysD ty m ms l
  | _, _ => []
def mutD0 (ty : TypeId → Ty) (mask : List Bool) (C : SpecM) : Ctr := fun args m key K =>
  C (fun vs rw0 => In ty (restr (rdA ty m args) m) args vs rw0 (rho (ddN (keysD ty m mask args)))) (fun b rw1 => K ⟨b.ren (sig (rho (ddN (keysD ty m mask args))) key), outW (sig (rho (ddN (keysD ty m mask args))) key) rw1, rdA ty m args⟩)
def mutD (ty : TypeId → Ty) (mask : List Bool) (C : SpecM) : Ctr := fun args m key K => frcN (rdA ty m args) fun rd => frcN (ddN (keysD ty m mask args)) fun ks =>
  C (fun vs rw0 => In ty (restr rd m) args vs rw0 (rho ks)) (fun b rw1 => K ⟨b.ren (sig (rho ks) key), outW (sig (rho ks) key) rw1, rd⟩)
theorem mutD_eq (ty : TypeId → Ty) (mask : List Bool) (C : SpecM) : mutD ty mask C = mutD0 ty mask C := by
  funext args m key K
  unfold mutD mutD0
  rw [frcN_eq, frcN_eq]
instance {ty : TypeId → Ty} {mask : List Bool} {C : SpecM} : Told (mutD ty mask C) (mutD0 ty mask C) := ⟨mutD_eq ty mask C⟩
theorem goodD {P : Program} {E : Pg} (hP : PgOK P E) (hmix : P.follows .mixedOrders = true) {f : FuncId} {fn : Func} {mask : List Bool} (hf : P.funcs[f]? = some fn) (hnm : (fn.name == "runtime.NumGoroutine") = false) (hb : fn.body.isSome = true) {C : SpecM} (h : KeepsM E fn C) :
    Good P E.ty E.gl f (mutD E.ty mask C) := by
  rw [mutD_eq]
  intro args m key K hc
  obtain ⟨code, hcode⟩ := Option.isSome_iff_exists.1 hb
  obtain ⟨vs, rw0, b, rw1, inv, hA, hK, hlen, hou, hle, hor, hob, hW⟩ := h _ _ hc
  rw [hcode] at hW
  exact ⟨_, hK, fn_valid hP hmix hf hnm hcode (by simpa using hlen) hA (outs_of hou hle hor) hob (fun s a h => h) hW⟩
/-! ### Names found by what is handed back -/
def nmK : List (Nat × Nat) → Nat → Option Nat
  | [], _ => none
  | (a, b) :: l, k => bif Nat.beq k a then some b else nmK l k
def fnd (m m' : Nat → Option Row) : Nat → AV → AV → List (Nat × Nat)
  | 0, _, _ => []
  | n + 1, a, b => match b with
    | .ptr _ k' _ => match a with
      | .ptr _ k _ => (k', k) :: (match m' k' with
        | some (.var _ b) => (match m k with
          | some (.var _ a) => fnd m m' n a b
          | _ => [])
        | _ => [])
      | _ => []
    | .gsl _ k' _ => match a with
      | .gsl _ k _ => [(k', k)]
      | _ => []
    | .cmt k' => match a with
      | .cmt k => [(k', k)]
      | _ => []
    | .gsub _ k' _ _ _ => match a with
      | .gsub _ k _ _ _ => [(k', k)]
      | .gsl _ k _ => [(k', k)]
      | _ => []
    | .agg false l f' => match a with
      | .agg _ _ f => (List.range l).flatMap fun i => fnd m m' n (f i) (f' i)
      | _ => []
    | .tup l f' => match a with
      | .tup _ f => (List.range l).flatMap fun i => fnd m m' n (f i) (f' i)
      | _ => []
    | _ => []
def nmO (m : Nat → Option Row) (rw1 : List (Nat × Row)) (a b : AV) (k : Nat) : Option Nat :=
  bif Nat.blt k 8 then some k else nmK (fnd m (rowOf rw1) 8 a b) k
theorem out_fnd {m m0 : Nat → Option Row} {ty : TypeId → Ty} {rw1 : List (Nat × Row)} {a b : AV} (h : namesB m0 rw1 (nmO m rw1 a b) = true ∧ LeRwW m ty rw1 (nmO m rw1 a b) rw1 ∧ LeW m ty rw1 (nmO m rw1 a b) a b) :
    ∃ ρ, namesB m0 rw1 ρ = true ∧ LeRwW m ty rw1 ρ rw1 ∧ LeW m ty rw1 ρ a b := ⟨_, h⟩
/-! ### Branches whose way is known -/
theorem brT {b : Bool} {A B : Prop} (hb : b = true) (a : A) : (b = true → A) ∧ (b = false → B) := ⟨fun _ => a, fun h => nomatch (hb.symm.trans h : true = false)⟩
theorem brF {b : Bool} {A B : Prop} (hb : b = false) (a : B) : (b = true → A) ∧ (b = false → B) := ⟨fun h => (nomatch (hb.symm.trans h : false = true)), fun _ => a⟩
theorem notT {b : Bool} (h : b = false) : (!b) = true := by rw [h]; rfl
theorem notF {b : Bool} (h : b = true) : (!b) = false := by rw [h]; rfl
/-! ### What the context tells -/
theorem goT {b : Bool} {A B : Prop} (a : A) (hb : b = true := by first | assumption | exact decide_eq_true (by first | assumption | omega | (simp only [Int.reduceToNat]; omega) | (with_reducible exact Eq.refl _)) | exact notT (decide_eq_false (by first | assumption | omega | exact fun q => q (by assumption) | (simp only [Int.reduceToNat]; omega))) | exact notT (by assumption)) : (b = true → A) ∧ (b = false → B) := brT hb a
theorem goF {b : Bool} {A B : Prop} (a : B) (hb : b = false := by first | assumption | exact decide_eq_false (by first | assumption | omega | exact fun q => q (by assumption) | (simp only [Int.reduceToNat]; omega)) | exact notF (decide_eq_true (by first | assumption | omega | (simp only [Int.reduceToNat]; omega))) | exact notF (by assumption)) : (b = true → A) ∧ (b = false → B) := brF hb a
theorem goL {p A B : Prop} (a : A) (h : p := by first | assumption | omega | decide | (dsimp only; omega)) : (p ∧ A) ∨ B := .inl ⟨h, a⟩
theorem goR {p A B : Prop} (a : A) (h : p := by first | assumption | omega | decide | (dsimp only; omega)) : B ∨ (p ∧ A) := .inr ⟨h, a⟩
theorem goRL {p A B C : Prop} (a : A) (h : p := by first | assumption | omega | decide | (dsimp only; omega)) : B ∨ ((p ∧ A) ∨ C) := .inr (.inl ⟨h, a⟩)
theorem goRR {p A B C : Prop} (a : A) (h : p := by first | assumption | omega | decide | (dsimp only; omega)) : B ∨ (C ∨ (p ∧ A)) := .inr (.inr ⟨h, a⟩)
end Go.Proofs.Ytobilidppfmdkaa
