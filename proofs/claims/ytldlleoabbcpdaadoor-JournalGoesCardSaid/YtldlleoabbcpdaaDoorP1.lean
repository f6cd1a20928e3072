/- The machine of this program: its tables and what it knows of functions. -/
import Derived.Test.YtldlleoabbcpdaaDoorT
import Derived.Test.YtldlleoabbcpdaaDoorGH
import Derived.Test.YtldlleoabbcpdaaDoorRows
import Derived.Test.YtldlleoabbcpdaaDoorM0
namespace Go.Proofs.YtldlleoabbcpdaaDoor
open Go.RowKit
def TU8 : Ty := .int .u8
def glT : List (Nat × AV) := [(0, .ipt (.agg true 8 fun _ => .int .u32) (.agg true 8 fun i => .u32 (at32 H0 i))), (2, .ipt (.agg true 64 fun _ => .int .u32) (.agg true 64 fun i => .u32 (at32 KK i)))]
def gl : Nat → AV := look glT .junk
abbrev PG (l : List (FuncId × Ctr)) : Pg := { ty := ty, gl := gl, ctr := ctrOf l }
abbrev Gd (f : FuncId) (C : Ctr) : Prop := Good Tryd.prog ty gl f C
theorem look_flat {l : List (Nat × AV)} (h : AllP (fun q => NoRow q.2) l) (g : Nat) : NoRow (look l .junk g) := by
  induction l with
  | nil => exact trivial
  | cons q l ih =>
    obtain ⟨k, v⟩ := q
    show NoRow (bif Nat.beq g k then v else look l .junk g)
    cases Nat.beq g k
    · exact ih h.2
    · exact h.1
theorem gl_flat (g : Nat) : NoRow (gl g) := look_flat (l := glT) (And.intro (fun _ _ => trivial) (And.intro (fun _ _ => trivial) trivial)) g
theorem pgOK {l : List (FuncId × Ctr)} (h : AllP (fun q => Gd q.1 q.2) l) : PgOK Tryd.prog (PG l) := ⟨gl_flat, tysOK, mxOK, ctrOK_of h, fun _ _ h => by cases h⟩
/-- Bytes in a row, and words. -/
abbrev bys (b : Nat → BitVec 8) : Nat → AV := fun i => .u8 (b i)
abbrev wds (b : Nat → BitVec 32) : Nat → AV := fun i => .u32 (b i)
abbrev bsl (l : Nat) (b : Nat → BitVec 8) : AV := .imm false (.int .u8) l (bys b)
abbrev bsf (l : Nat) (b : Nat → BitVec 8) : AV := .imm true (.int .u8) l (bys b)
abbrev arr8 (l : Nat) (b : Nat → BitVec 8) : AV := .agg true l (bys b)
abbrev arr32 (l : Nat) (b : Nat → BitVec 32) : AV := .agg true l (wds b)
end Go.Proofs.YtldlleoabbcpdaaDoor
/- Small functions. -/
namespace Go.Proofs.YtldlleoabbcpdaaDoor
open Go.RowKit
set_option maxRecDepth 100000
set_option maxHeartbeats 20000000
def wordAt (b : Nat → BitVec 8) (o : Nat) : BitVec 32 := ((b o).setWidth 32 <<< 24) ||| ((b (o+1)).setWidth 32 <<< 16) ||| ((b (o+2)).setWidth 32 <<< 8) ||| ((b (o+3)).setWidth 32)
def C_sha_word : SpecP := fun A K => ∃ l b, A [bsl l b] ∧ 4 ≤ l ∧ K (.u32 (wordAt b 0))
theorem g_sha_word : Gd 75 (pureP ty C_sha_word) := by
  refine goodP (E := PG []) (pgOK trivial) mixes Tryd.func75 (by kernel_rfl) (by kernel_rfl) ?_
  rintro A K ⟨l, b, hA, hl, hK⟩
  refine ⟨_, _, fun _ => none, hA, hK, by kernel_rfl, trivial, ?_⟩
  repeat ((conv => whnf); first | refine sdO ?_ | refine nlO ?_ | refine goA ?_ | refine goB ?_ | (apply Exists.intro; (repeat apply Exists.intro); refine caO ?_) | (refine Or.inl ?_; (conv => whnf); (repeat apply Exists.intro); refine caO ?_) | (refine Or.inr ?_; (conv => whnf); first | ((repeat apply Exists.intro); refine caO ?_) | (refine Or.inl ?_; (conv => whnf); (repeat apply Exists.intro); refine caO ?_) | (refine Or.inr ?_; (conv => whnf); (repeat apply Exists.intro); refine caO ?_)))
  all_goals try (conv => whnf)
  exact rfl
def valN (b : Nat → BitVec 8) : Nat → BitVec 64
  | 0 => 0
  | k + 1 => 256 * valN b k + (b k).setWidth 64
def C_r1_Value : SpecP := fun A K => ∃ l b, A [bsl l b] ∧ N63 l ∧ K (.u64 (valN b l))
def L_r1_Value (l : Nat) (b : Nat → BitVec 8) : LI := .plain Nat (· ≤ l) (fun k => [(3, .u64 (valN b k)), (6, bsl l b), (7, .nat l), (8, .nat k)]) (fun k => l - k)
theorem g_r1_Value : Gd 33 (pureP ty C_r1_Value) := by
  refine goodP (E := PG []) (pgOK trivial) mixes Tryd.func33 (by kernel_rfl) (by kernel_rfl) ?_
  rintro A K ⟨l, b, hA, hl, hK⟩
  refine ⟨_, _, loops [(3, L_r1_Value l b)], hA, hK, by kernel_rfl, trivial, ?_⟩
  repeat ((conv => whnf); first | refine sdO ?_ | refine nlO ?_ | refine goA ?_ | refine goB ?_ | (apply Exists.intro; (repeat apply Exists.intro); refine caO ?_) | (refine Or.inl ?_; (conv => whnf); (repeat apply Exists.intro); refine caO ?_) | (refine Or.inr ?_; (conv => whnf); first | ((repeat apply Exists.intro); refine caO ?_) | (refine Or.inl ?_; (conv => whnf); (repeat apply Exists.intro); refine caO ?_) | (refine Or.inr ?_; (conv => whnf); (repeat apply Exists.intro); refine caO ?_)))
  all_goals try (conv => whnf)
  refine Exists.intro (fun _ => True) (And.intro (Enter.mk (0 : Nat) (Nat.zero_le l) trivial ?_) (fun (k : Nat) (hk : k ≤ l) _ => ?_))
  · ((repeat' ((conv => whnf) <;> first | exact trivial | (with_reducible first | refine And.intro ?_ ?_ | refine rows_lt1 ?_ | refine rows_lt2 ?_ ?_ | refine rows_lt3 ?_ ?_ ?_ | refine rows_lt4 ?_ ?_ ?_ ?_ | refine rows_lt5 ?_ ?_ ?_ ?_ ?_ | refine ints_lt1 ?_ | refine ints_lt2 ?_ ?_ | refine ints_lt3 ?_ ?_ ?_ | refine rows_lt7 ?_ ?_ ?_ ?_ ?_ ?_ ?_ | refine aggs_lt1 ?_ | refine aggs_lt2 ?_ ?_ | refine aggs_lt3 ?_ ?_ ?_ | refine fun (_ : Nat) => ?_) | refine fun (_ : (_ : Nat) < _) => ?_ | exact rfl | exact Nat.le_of_ble_eq_true rfl | (change (_ : Nat) ≤ _; omega) | (change (_ : Nat) = _; omega) | (change (_ : Int) = _; omega))); (all_goals try (conv => whnf)))
  repeat ((conv => whnf); first | refine sdO ?_ | refine nlO ?_ | refine goA ?_ | refine goB ?_ | (apply Exists.intro; (repeat apply Exists.intro); refine caO ?_) | (refine Or.inl ?_; (conv => whnf); (repeat apply Exists.intro); refine caO ?_) | (refine Or.inr ?_; (conv => whnf); first | ((repeat apply Exists.intro); refine caO ?_) | (refine Or.inl ?_; (conv => whnf); (repeat apply Exists.intro); refine caO ?_) | (refine Or.inr ?_; (conv => whnf); (repeat apply Exists.intro); refine caO ?_)))
  all_goals try (conv => whnf)
  refine And.intro (fun h => ?_) (fun h => ?_)
  · have h := of_decide_eq_true h
    unfold N63 at hl
    repeat ((conv => whnf); first | refine sdO ?_ | refine nlO ?_ | refine goA ?_ | refine goB ?_ | (apply Exists.intro; (repeat apply Exists.intro); refine caO ?_) | (refine Or.inl ?_; (conv => whnf); (repeat apply Exists.intro); refine caO ?_) | (refine Or.inr ?_; (conv => whnf); first | ((repeat apply Exists.intro); refine caO ?_) | (refine Or.inl ?_; (conv => whnf); (repeat apply Exists.intro); refine caO ?_) | (refine Or.inr ?_; (conv => whnf); (repeat apply Exists.intro); refine caO ?_)))
    all_goals try (conv => whnf)
    refine Again.mk (k + 1 : Nat) (show k + 1 ≤ l by omega) trivial (show l - (k + 1) < l - k by omega) ?_
    ((repeat' ((conv => whnf) <;> first | exact trivial | (with_reducible first | refine And.intro ?_ ?_ | refine rows_lt1 ?_ | refine rows_lt2 ?_ ?_ | refine rows_lt3 ?_ ?_ ?_ | refine rows_lt4 ?_ ?_ ?_ ?_ | refine rows_lt5 ?_ ?_ ?_ ?_ ?_ | refine ints_lt1 ?_ | refine ints_lt2 ?_ ?_ | refine ints_lt3 ?_ ?_ ?_ | refine rows_lt7 ?_ ?_ ?_ ?_ ?_ ?_ ?_ | refine aggs_lt1 ?_ | refine aggs_lt2 ?_ ?_ | refine aggs_lt3 ?_ ?_ ?_ | refine fun (_ : Nat) => ?_) | refine fun (_ : (_ : Nat) < _) => ?_ | exact rfl | exact Nat.le_of_ble_eq_true rfl | (change (_ : Nat) ≤ _; omega) | (change (_ : Nat) = _; omega) | (change (_ : Int) = _; omega))); (all_goals try (conv => whnf)))
  · have h := of_decide_eq_false h
    obtain rfl : k = l := by omega
    repeat ((conv => whnf); first | refine sdO ?_ | refine nlO ?_ | refine goA ?_ | refine goB ?_ | (apply Exists.intro; (repeat apply Exists.intro); refine caO ?_) | (refine Or.inl ?_; (conv => whnf); (repeat apply Exists.intro); refine caO ?_) | (refine Or.inr ?_; (conv => whnf); first | ((repeat apply Exists.intro); refine caO ?_) | (refine Or.inl ?_; (conv => whnf); (repeat apply Exists.intro); refine caO ?_) | (refine Or.inr ?_; (conv => whnf); (repeat apply Exists.intro); refine caO ?_)))
    all_goals try (conv => whnf)
end Go.Proofs.YtldlleoabbcpdaaDoor
