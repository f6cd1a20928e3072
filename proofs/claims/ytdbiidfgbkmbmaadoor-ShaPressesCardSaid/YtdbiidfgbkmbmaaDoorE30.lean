/- Functions by what they are handed: contracts whose rows are told. -/
import Derived.Test.YtdbiidfgbkmbmaaDoorE29
namespace Go.Proofs.YtdbiidfgbkmbmaaDoor
open Go.RowKit
/-- The rows that a value names. -/
def rdOf : AV → List Nat
  | .ptr _ k _ => [k]
  | .gsl _ k _ => [k]
  | .gsub _ k _ _ _ => [k]
  | .sub _ k _ _ _ => [k]
  | .gpt _ _ k _ _ _ => [k]
  | .agg false n f => (List.range n).flatMap fun i => rdOf (f i)
  | _ => []
/-- .. and those that they name. -/
def rdM (ty : TypeId → Ty) (m : Nat → Option Row) : Nat → AV → List Nat
  | 0, a => rdOf a
  | n + 1, a => (rdOf a).flatMap fun k => k :: (match m k with
    | some (.grow e l f) => (match ty e with
      | .int _ => []
      | .str => []
      | .bo => []
      | _ => (List.range l).flatMap fun i => rdM ty m n (f i))
    | some (.var _ a) => rdM ty m n a
    | none => [])
def rdA (ty : TypeId → Ty) (m : Nat → Option Row) (l : List AV) : List Nat := l.flatMap (rdM ty m 3)
/-- The rows that may be written, in the order in which they are handed in. -/
def keysM : List Bool → List AV → List Nat
  | true :: ms, a :: l => rdOf a ++ keysM ms l
  | false :: ms, _ :: l => keysM ms l
  | _, _ => []
def rho (ks : List Nat) (j : Nat) : Option Nat := nth none (ks.map some) j
abbrev SpecM := (List AV → List (Nat × Row) → Prop) → (AV → List (Nat × Row) → Prop) → Prop
/-- A function that may write what it is handed where the mask says so. -/
def mutF (ty : TypeId → Ty) (mask : List Bool) (C : SpecM) : Ctr := fun args m key K =>
  C (fun vs rw0 => In ty (restr (rdA ty m args) m) args vs rw0 (rho (keysM mask args))) (fun b rw1 => K ⟨b.ren (sig (rho (keysM mask args)) key), outW (sig (rho (keysM mask args)) key) rw1, rdA ty m args⟩)
def outsB (rw0 rw1 : List (Nat × Row)) : Bool := distinctB (rw1.map (·.1)) && rw1.all fun q => Nat.blt q.1 16 && (Nat.ble 8 q.1 || (rowOf rw0 q.1).isSome)
def lenOK (rw0 : List (Nat × Row)) : List (Nat × Row) → Prop
  | [] => True
  | (k, r) :: l => (match r, rowOf rw0 k with
    | .grow _ n _, some (.grow _ n' _) => n = n'
    | _, _ => True) ∧ lenOK rw0 l
theorem lenOK_mem {rw0 : List (Nat × Row)} {k e n : Nat} {f : Nat → AV} {e' n' : Nat} {f' : Nat → AV} : ∀ {l : List (Nat × Row)}, lenOK rw0 l → (k, Row.grow e n f) ∈ l → rowOf rw0 k = some (.grow e' n' f') → n = n'
  | (j, r) :: l, h, hm, h0 => by
    simp only [List.mem_cons, Prod.mk.injEq] at hm
    rcases hm with ⟨rfl, rfl⟩ | hm
    · have := h.1; simp only [h0] at this; exact this
    · exact lenOK_mem h.2 hm h0
theorem outs_of {rw0 rw1 : List (Nat × Row)} (h : outsB rw0 rw1 = true) (hl : lenOK rw0 rw1) (ho : OwnRws rw1) : Outs rw0 rw1 := by
  simp only [outsB, Bool.and_eq_true, List.all_eq_true, Bool.or_eq_true] at h
  refine ⟨fun k r hm => ?_, fun k r hm h8 => ?_, fun k e n f e' n' f' h0 h1 => lenOK_mem hl (rowOf_mem h1) h0, h.1, ho⟩
  · have := (h.2 _ hm).1; simpa [Nat.blt_eq] using this
  · rcases (h.2 _ hm).2 with h1 | h1
    · simp only [Nat.ble_eq] at h1; omega
    · exact Option.isSome_iff_exists.1 h1
def KeepsM (E : Pg) (fn : Func) (C : SpecM) : Prop := ∀ A K, C A K → ∃ vs rw0 b rw1 inv, A vs rw0 ∧ K b rw1 ∧ Nat.ble vs.length fn.ntmps = true ∧ outsB rw0 rw1 = true ∧ lenOK rw0 rw1 ∧ OwnRws rw1 ∧ Own b ∧
  W E fn.ntmps inv (fn.body.getD .skip) ⟨argT vs, rowOf rw0, 8⟩ (fun s => wRes E s fn.results.toList fun a => Out E (rowOf rw0) s rw1 a b) (fin fun s => wRes E s fn.results.toList fun a => Out E (rowOf rw0) s rw1 a b)
theorem goodM {P : Program} {E : Pg} (hP : PgOK P E) (hmix : P.follows .mixedOrders = true) {f : FuncId} {fn : Func} {mask : List Bool} (hf : P.funcs[f]? = some fn) (hnm : (fn.name == "runtime.NumGoroutine") = false) (hb : fn.body.isSome = true) {C : SpecM} (h : KeepsM E fn C) :
    Good P E.ty E.gl f (mutF E.ty mask C) := by
  intro args m key K hc
  obtain ⟨code, hcode⟩ := Option.isSome_iff_exists.1 hb
  obtain ⟨vs, rw0, b, rw1, inv, hA, hK, hlen, hou, hle, hor, hob, hW⟩ := h _ _ hc
  rw [hcode] at hW
  exact ⟨_, hK, fn_valid hP hmix hf hnm hcode (by simpa using hlen) hA (outs_of hou hle hor) hob (fun s a h => h) hW⟩
/-- A function that writes nothing of its caller's: it hands back a value, and new rows. -/
abbrev SpecR := (List AV → Prop) → (AV → List (Nat × Row) → Prop) → Prop
def pureR (ty : TypeId → Ty) (C : SpecR) : Ctr := fun args m key K =>
  C (fun vs => LeLW (restr (rdA ty m args) m) ty [] noK args vs ∧ NoFrLW vs) (fun b rw1 => K ⟨b.ren (sig noK key), outW (sig noK key) rw1, rdA ty m args⟩)
def KeepsR (E : Pg) (fn : Func) (C : SpecR) : Prop := ∀ A K, C A K → ∃ vs b rw1 inv, A vs ∧ K b rw1 ∧ Nat.ble vs.length fn.ntmps = true ∧ newB rw1 = true ∧ OwnRws rw1 ∧ Own b ∧
  W E fn.ntmps inv (fn.body.getD .skip) ⟨argT vs, fun _ => none, 8⟩ (fun s => wRes E s fn.results.toList fun a => Out E (fun _ => none) s rw1 a b) (fin fun s => wRes E s fn.results.toList fun a => Out E (fun _ => none) s rw1 a b)
theorem goodR {P : Program} {E : Pg} (hP : PgOK P E) (hmix : P.follows .mixedOrders = true) {f : FuncId} {fn : Func} (hf : P.funcs[f]? = some fn) (hnm : (fn.name == "runtime.NumGoroutine") = false) (hb : fn.body.isSome = true) {C : SpecR} (h : KeepsR E fn C) :
    Good P E.ty E.gl f (pureR E.ty C) := by
  intro args m key K hc
  obtain ⟨code, hcode⟩ := Option.isSome_iff_exists.1 hb
  obtain ⟨vs, b, rw1, inv, hA, hK, hlen, hnew, hor, hob, hW⟩ := h _ _ hc
  rw [hcode] at hW
  simp only [newB, Bool.and_eq_true, List.all_eq_true] at hnew
  refine ⟨_, hK, fn_valid hP hmix hf hnm hcode (rw0 := []) (by simpa using hlen) ⟨rfl, trivial, hA.1, trivial, hA.2⟩ ⟨fun k r hm => ?_, fun k r hm h8 => ?_, fun k e n f e' n' f' h => (by cases h), hnew.2, hor⟩ hob (fun s a h => h) hW⟩
  · have := (hnew.1 _ hm).2; simpa [Nat.blt_eq] using this
  · have := (hnew.1 _ hm).1
    simp only [Nat.ble_eq] at this; omega
/-- .. that hands back a value alone. -/
abbrev SpecP := (List AV → Prop) → (AV → Prop) → Prop
def pureP (ty : TypeId → Ty) (C : SpecP) : Ctr := fun args m key K =>
  C (fun vs => LeLW (restr (rdA ty m args) m) ty [] noK args vs ∧ NoFrLW vs) (fun b => K ⟨b.ren (sig noK key), [], rdA ty m args⟩)
def KeepsP (E : Pg) (fn : Func) (C : SpecP) : Prop := ∀ A K, C A K → ∃ vs b inv, A vs ∧ K b ∧ Nat.ble vs.length fn.ntmps = true ∧ Own b ∧
  W E fn.ntmps inv (fn.body.getD .skip) ⟨argT vs, fun _ => none, 8⟩ (fun s => wRes E s fn.results.toList fun a => LeW s.m E.ty [] noK a b) (fin fun s => wRes E s fn.results.toList fun a => LeW s.m E.ty [] noK a b)
theorem goodP {P : Program} {E : Pg} (hP : PgOK P E) (hmix : P.follows .mixedOrders = true) {f : FuncId} {fn : Func} (hf : P.funcs[f]? = some fn) (hnm : (fn.name == "runtime.NumGoroutine") = false) (hb : fn.body.isSome = true) {C : SpecP} (h : KeepsP E fn C) :
    Good P E.ty E.gl f (pureP E.ty C) := by
  intro args m key K hc
  obtain ⟨code, hcode⟩ := Option.isSome_iff_exists.1 hb
  obtain ⟨vs, b, inv, hA, hK, hlen, hob, hW⟩ := h _ _ hc
  rw [hcode] at hW
  exact ⟨_, hK, fn_valid hP hmix hf hnm hcode (rw0 := []) (rw1 := []) (by simpa using hlen) ⟨rfl, trivial, hA.1, trivial, hA.2⟩ ⟨(fun k r hm => by cases hm), (fun k r hm h8 => by cases hm), (fun k e n f e' n' f' h => by cases h), rfl, trivial⟩ hob (fun s a h => ⟨noK, rfl, trivial, h⟩) hW⟩
/-- Of a loop: what holds at its head, in slots and rows. -/
def loops (l : List (Nat × LI)) (i : Nat) : Option LI :=
  match l with
  | [] => none
  | (k, L) :: l => bif Nat.beq i k then some L else loops l i
def LI.plain (G : Type) (ok : G → Prop) (sl : G → List (Nat × AV)) (mu : G → Nat) : LI := ⟨G, ok, sl, fun _ => [], mu, noK, noK⟩
theorem forall_lt1 {p : Nat → Prop} (h0 : p 0) : ∀ i, i < 1 → p i := fun i hi => by
  obtain rfl : i = 0 := by omega
  exact h0
theorem forall_lt2 {p : Nat → Prop} (h0 : p 0) (h1 : p 1) : ∀ i, i < 2 → p i := fun i hi => by
  rcases i with _ | _ | i
  · exact h0
  · exact h1
  · omega
theorem forall_lt3 {p : Nat → Prop} (h0 : p 0) (h1 : p 1) (h2 : p 2) : ∀ i, i < 3 → p i := fun i hi => by
  rcases i with _ | _ | _ | i
  · exact h0
  · exact h1
  · exact h2
  · omega
theorem forall_lt4 {p : Nat → Prop} (h0 : p 0) (h1 : p 1) (h2 : p 2) (h3 : p 3) : ∀ i, i < 4 → p i := fun i hi => by
  rcases i with _ | _ | _ | _ | i
  · exact h0
  · exact h1
  · exact h2
  · exact h3
  · omega
theorem rows_lt1 {e : TypeId} {f : Nat → AV} {q : Nat → Prop} (h0 : ShW (.sl e) (f 0) ∧ q 0) : ∀ i, i < 1 → ShW (.sl e) (f i) ∧ q i := forall_lt1 h0
theorem rows_lt2 {e : TypeId} {f : Nat → AV} {q : Nat → Prop} (h0 : ShW (.sl e) (f 0) ∧ q 0) (h1 : ShW (.sl e) (f 1) ∧ q 1) : ∀ i, i < 2 → ShW (.sl e) (f i) ∧ q i := forall_lt2 h0 h1
theorem rows_lt3 {e : TypeId} {f : Nat → AV} {q : Nat → Prop} (h0 : ShW (.sl e) (f 0) ∧ q 0) (h1 : ShW (.sl e) (f 1) ∧ q 1) (h2 : ShW (.sl e) (f 2) ∧ q 2) : ∀ i, i < 3 → ShW (.sl e) (f i) ∧ q i := forall_lt3 h0 h1 h2
theorem rows_lt4 {e : TypeId} {f : Nat → AV} {q : Nat → Prop} (h0 : ShW (.sl e) (f 0) ∧ q 0) (h1 : ShW (.sl e) (f 1) ∧ q 1) (h2 : ShW (.sl e) (f 2) ∧ q 2) (h3 : ShW (.sl e) (f 3) ∧ q 3) : ∀ i, i < 4 → ShW (.sl e) (f i) ∧ q i := forall_lt4 h0 h1 h2 h3
/-- One contract or another. -/
def orC (C D : Ctr) : Ctr := fun args m key K => C args m key K ∨ D args m key K
theorem good_or {P : Program} {ty : TypeId → Ty} {gl : Nat → AV} {f : FuncId} {C D : Ctr} (h1 : Good P ty gl f C) (h2 : Good P ty gl f D) : Good P ty gl f (orC C D) := fun args m key K h => h.elim (h1 args m key K) (h2 args m key K)
theorem good_imp {P : Program} {ty : TypeId → Ty} {gl : Nat → AV} {f : FuncId} {C D : Ctr} (h1 : Good P ty gl f C) (h : ∀ args m key K, D args m key K → C args m key K) : Good P ty gl f D := fun args m key K hd => h1 args m key K (h args m key K hd)
end Go.Proofs.YtdbiidfgbkmbmaaDoor
