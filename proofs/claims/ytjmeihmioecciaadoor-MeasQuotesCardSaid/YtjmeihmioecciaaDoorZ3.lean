/- Key slots: the reference's, acts. -/
import Derived.Test.YtjmeihmioecciaaDoorZ2
namespace Go.Proofs.YtjmeihmioecciaaDoor
open Go.RowKit
set_option maxRecDepth 100000
set_option maxHeartbeats 20000000
attribute [local irreducible] hsh rst sha256 press dig valN cat
abbrev TRs : Ty := ty 32
abbrev rsV (x : Sl) : AV := .agg false 4 (nth .junk [.agg true 8 (fun i => .int (x.kd i)), .agg true 8 (fun i => arr8 32 (x.ky i)), .bo x.lk, .bo x.dd])
abbrev rsI (x : Sl) : AV := .ipt TRs (rsV x)
abbrev rsR (x : Sl) : List (Nat × Row) := [(0, .var TRs (rsV x))]
theorem own_rsV (s : Sl) : Own (rsV s) := fun i hi => by
  rcases i with _ | _ | _ | _ | i
  · exact fun _ _ => trivial
  · exact fun _ _ _ _ => trivial
  · exact trivial
  · exact trivial
  · exact absurd hi (by show ¬ i + 4 < 4; omega)
structure Act15 where
  d : BitVec 8
  h : Int
  to : Int
  k : Int
  key : Nat → BitVec 8
  lab : List UInt8
  l : Nat
  b : Nat → BitVec 8
abbrev TAct : Ty := ty 36
abbrev actP (d : BitVec 8) (h to k : Int) (key : Nat → BitVec 8) (lab : List UInt8) (p : AV) : AV := .agg false 7 (nth .junk [.u8 d, .int h, .int to, .int k, arr8 32 key, .str lab, p])
def C_r15_in : SpecP := fun A K => ∃ h, A [.int h] ∧ (InH h ∧ K (.bo true) ∨ ¬ InH h ∧ K (.bo false))
theorem g_r15_in : Gd 31 (pureP ty C_r15_in) := by
  refine goodP (E := PG []) (pgOK trivial) mixes Tryd.func31 (by kernel_rfl) (by kernel_rfl) ?_
  rintro A K ⟨h, hA, ⟨hi, hK⟩ | ⟨hi, hK⟩⟩
  · refine ⟨_, _, fun _ => none, hA, hK, by kernel_rfl, trivial, ?_⟩
    repeat (first | ((conv => whnf); refine And.intro ?_ ?_; exact sideOf) | ((conv => whnf); refine NilE.some ?_ ?_; exact sideOf) | ((conv => whnf); refine And.intro (fun _ => ?_) (fun h => nomatch (show true = false from h))) | ((conv => whnf); refine And.intro (fun h => nomatch (show false = true from h)) (fun _ => ?_)) | ((conv => whnf); first | (apply Exists.intro; (repeat apply Exists.intro); refine And.intro ?_ ?_; exact leOf) | (refine Or.inl ?_; (conv => whnf); (repeat apply Exists.intro); refine And.intro ?_ ?_; exact leOf) | (refine Or.inr ?_; (conv => whnf); first | ((repeat apply Exists.intro); refine And.intro ?_ ?_; exact leOf) | (refine Or.inl ?_; (conv => whnf); (repeat apply Exists.intro); refine And.intro ?_ ?_; exact leOf) | (refine Or.inr ?_; (conv => whnf); (repeat apply Exists.intro); refine And.intro ?_ ?_; exact leOf))) | ((conv => whnf); first | refine And.intro (by assumption) ?_ | refine goT ?_ | refine goF ?_ | refine goL ?_ | refine goR ?_ | refine goRL ?_ | refine goRR ?_))
    all_goals try (conv => whnf)
    exact decide_eq_true hi.2
  · refine ⟨_, _, fun _ => none, hA, hK, by kernel_rfl, trivial, ?_⟩
    rcases Int.lt_or_le h 0 with h0 | h0
    · skip
      repeat (first | ((conv => whnf); refine And.intro ?_ ?_; exact sideOf) | ((conv => whnf); refine NilE.some ?_ ?_; exact sideOf) | ((conv => whnf); refine And.intro (fun _ => ?_) (fun h => nomatch (show true = false from h))) | ((conv => whnf); refine And.intro (fun h => nomatch (show false = true from h)) (fun _ => ?_)) | ((conv => whnf); first | (apply Exists.intro; (repeat apply Exists.intro); refine And.intro ?_ ?_; exact leOf) | (refine Or.inl ?_; (conv => whnf); (repeat apply Exists.intro); refine And.intro ?_ ?_; exact leOf) | (refine Or.inr ?_; (conv => whnf); first | ((repeat apply Exists.intro); refine And.intro ?_ ?_; exact leOf) | (refine Or.inl ?_; (conv => whnf); (repeat apply Exists.intro); refine And.intro ?_ ?_; exact leOf) | (refine Or.inr ?_; (conv => whnf); (repeat apply Exists.intro); refine And.intro ?_ ?_; exact leOf))) | ((conv => whnf); first | refine And.intro (by assumption) ?_ | refine goT ?_ | refine goF ?_ | refine goL ?_ | refine goR ?_ | refine goRL ?_ | refine goRR ?_))
      all_goals try (conv => whnf)
      ((repeat' ((conv => whnf) <;> first | exact trivial | (with_reducible first | refine And.intro ?_ ?_ | refine rows_lt1 ?_ | refine rows_lt2 ?_ ?_ | refine rows_lt3 ?_ ?_ ?_ | refine rows_lt4 ?_ ?_ ?_ ?_ | refine rows_lt5 ?_ ?_ ?_ ?_ ?_ | refine ints_lt1 ?_ | refine ints_lt2 ?_ ?_ | refine ints_lt3 ?_ ?_ ?_ | refine rows_lt7 ?_ ?_ ?_ ?_ ?_ ?_ ?_ | refine aggs_lt1 ?_ | refine aggs_lt2 ?_ ?_ | refine aggs_lt3 ?_ ?_ ?_ | refine fun (_ : Nat) => ?_) | refine fun (_ : (_ : Nat) < _) => ?_ | exact rfl | exact Nat.le_of_ble_eq_true rfl | (change (_ : Nat) ≤ _; omega) | (change (_ : Nat) = _; omega) | (change (_ : Int) = _; omega))); (all_goals try (conv => whnf)))
    · skip
      repeat (first | ((conv => whnf); refine And.intro ?_ ?_; exact sideOf) | ((conv => whnf); refine NilE.some ?_ ?_; exact sideOf) | ((conv => whnf); refine And.intro (fun _ => ?_) (fun h => nomatch (show true = false from h))) | ((conv => whnf); refine And.intro (fun h => nomatch (show false = true from h)) (fun _ => ?_)) | ((conv => whnf); first | (apply Exists.intro; (repeat apply Exists.intro); refine And.intro ?_ ?_; exact leOf) | (refine Or.inl ?_; (conv => whnf); (repeat apply Exists.intro); refine And.intro ?_ ?_; exact leOf) | (refine Or.inr ?_; (conv => whnf); first | ((repeat apply Exists.intro); refine And.intro ?_ ?_; exact leOf) | (refine Or.inl ?_; (conv => whnf); (repeat apply Exists.intro); refine And.intro ?_ ?_; exact leOf) | (refine Or.inr ?_; (conv => whnf); (repeat apply Exists.intro); refine And.intro ?_ ?_; exact leOf))) | ((conv => whnf); first | refine And.intro (by assumption) ?_ | refine goT ?_ | refine goF ?_ | refine goL ?_ | refine goR ?_ | refine goRL ?_ | refine goRR ?_))
      all_goals try (conv => whnf)
      exact decide_eq_false fun q => hi ⟨h0, q⟩
def C_r15_Has : SpecP := fun A K => ∃ kd ky lk dd h, A [rsI (Sl.mk kd ky lk dd), .int h] ∧ (dd = true ∧ K (tupOf [arr8 32 fun _ => 0, .nat 17]) ∨ dd = false ∧ (¬ InH h ∧ K (tupOf [arr8 32 fun _ => 0, .nat 1]) ∨ InH h ∧ (kd h.toNat = 0 ∧ K (tupOf [arr8 32 fun _ => 0, .nat 3]) ∨ ¬ kd h.toNat = 0 ∧ K (tupOf [arr8 32 (ky h.toNat), .nat 0]))))
theorem g_r15_Has : Gd 32 (pureP ty C_r15_Has) := by
  refine goodP (E := PG [(31, pureP ty C_r15_in)]) (pgOK ⟨g_r15_in, trivial⟩) mixes Tryd.func32 (by kernel_rfl) (by kernel_rfl) ?_
  rintro A K ⟨kd, ky, lk, dd, h, hA, ⟨hd, hK⟩ | ⟨hd, ⟨hx, hK⟩ | ⟨hx, ⟨h0, hK⟩ | ⟨h0, hK⟩⟩⟩⟩
  · refine ⟨_, _, fun _ => none, hA, hK, by kernel_rfl, own_res (fun _ _ => trivial) trivial, ?_⟩
    repeat (first | ((conv => whnf); refine And.intro ?_ ?_; exact sideOf) | ((conv => whnf); refine NilE.some ?_ ?_; exact sideOf) | ((conv => whnf); refine And.intro (fun _ => ?_) (fun h => nomatch (show true = false from h))) | ((conv => whnf); refine And.intro (fun h => nomatch (show false = true from h)) (fun _ => ?_)) | ((conv => whnf); first | (apply Exists.intro; (repeat apply Exists.intro); refine And.intro ?_ ?_; exact leOf) | (refine Or.inl ?_; (conv => whnf); (repeat apply Exists.intro); refine And.intro ?_ ?_; exact leOf) | (refine Or.inr ?_; (conv => whnf); first | ((repeat apply Exists.intro); refine And.intro ?_ ?_; exact leOf) | (refine Or.inl ?_; (conv => whnf); (repeat apply Exists.intro); refine And.intro ?_ ?_; exact leOf) | (refine Or.inr ?_; (conv => whnf); (repeat apply Exists.intro); refine And.intro ?_ ?_; exact leOf))) | ((conv => whnf); first | refine And.intro (by assumption) ?_ | refine goT ?_ | refine goF ?_ | refine goL ?_ | refine goR ?_ | refine goRL ?_ | refine goRR ?_))
    all_goals try (conv => whnf)
    ((repeat' ((conv => whnf) <;> first | exact trivial | (with_reducible first | refine And.intro ?_ ?_ | refine rows_lt1 ?_ | refine rows_lt2 ?_ ?_ | refine rows_lt3 ?_ ?_ ?_ | refine rows_lt4 ?_ ?_ ?_ ?_ | refine rows_lt5 ?_ ?_ ?_ ?_ ?_ | refine ints_lt1 ?_ | refine ints_lt2 ?_ ?_ | refine ints_lt3 ?_ ?_ ?_ | refine rows_lt7 ?_ ?_ ?_ ?_ ?_ ?_ ?_ | refine aggs_lt1 ?_ | refine aggs_lt2 ?_ ?_ | refine aggs_lt3 ?_ ?_ ?_ | refine fun (_ : Nat) => ?_) | refine fun (_ : (_ : Nat) < _) => ?_ | exact rfl | exact Nat.le_of_ble_eq_true rfl | (change (_ : Nat) ≤ _; omega) | (change (_ : Nat) = _; omega) | (change (_ : Int) = _; omega))); (all_goals try (conv => whnf)))
  · refine ⟨_, _, fun _ => none, hA, hK, by kernel_rfl, own_res (fun _ _ => trivial) trivial, ?_⟩
    repeat (first | ((conv => whnf); refine And.intro ?_ ?_; exact sideOf) | ((conv => whnf); refine NilE.some ?_ ?_; exact sideOf) | ((conv => whnf); refine And.intro (fun _ => ?_) (fun h => nomatch (show true = false from h))) | ((conv => whnf); refine And.intro (fun h => nomatch (show false = true from h)) (fun _ => ?_)) | ((conv => whnf); first | (apply Exists.intro; (repeat apply Exists.intro); refine And.intro ?_ ?_; exact leOf) | (refine Or.inl ?_; (conv => whnf); (repeat apply Exists.intro); refine And.intro ?_ ?_; exact leOf) | (refine Or.inr ?_; (conv => whnf); first | ((repeat apply Exists.intro); refine And.intro ?_ ?_; exact leOf) | (refine Or.inl ?_; (conv => whnf); (repeat apply Exists.intro); refine And.intro ?_ ?_; exact leOf) | (refine Or.inr ?_; (conv => whnf); (repeat apply Exists.intro); refine And.intro ?_ ?_; exact leOf))) | ((conv => whnf); first | refine And.intro (by assumption) ?_ | refine goT ?_ | refine goF ?_ | refine goL ?_ | refine goR ?_ | refine goRL ?_ | refine goRR ?_))
    all_goals try (conv => whnf)
    ((repeat' ((conv => whnf) <;> first | exact trivial | (with_reducible first | refine And.intro ?_ ?_ | refine rows_lt1 ?_ | refine rows_lt2 ?_ ?_ | refine rows_lt3 ?_ ?_ ?_ | refine rows_lt4 ?_ ?_ ?_ ?_ | refine rows_lt5 ?_ ?_ ?_ ?_ ?_ | refine ints_lt1 ?_ | refine ints_lt2 ?_ ?_ | refine ints_lt3 ?_ ?_ ?_ | refine rows_lt7 ?_ ?_ ?_ ?_ ?_ ?_ ?_ | refine aggs_lt1 ?_ | refine aggs_lt2 ?_ ?_ | refine aggs_lt3 ?_ ?_ ?_ | refine fun (_ : Nat) => ?_) | refine fun (_ : (_ : Nat) < _) => ?_ | exact rfl | exact Nat.le_of_ble_eq_true rfl | (change (_ : Nat) ≤ _; omega) | (change (_ : Nat) = _; omega) | (change (_ : Int) = _; omega))); (all_goals try (conv => whnf)))
  · refine ⟨_, _, fun _ => none, hA, hK, by kernel_rfl, own_res (fun _ _ => trivial) trivial, ?_⟩
    repeat (first | ((conv => whnf); refine And.intro ?_ ?_; exact sideOf) | ((conv => whnf); refine NilE.some ?_ ?_; exact sideOf) | ((conv => whnf); refine And.intro (fun _ => ?_) (fun h => nomatch (show true = false from h))) | ((conv => whnf); refine And.intro (fun h => nomatch (show false = true from h)) (fun _ => ?_)) | ((conv => whnf); first | (apply Exists.intro; (repeat apply Exists.intro); refine And.intro ?_ ?_; exact leOf) | (refine Or.inl ?_; (conv => whnf); (repeat apply Exists.intro); refine And.intro ?_ ?_; exact leOf) | (refine Or.inr ?_; (conv => whnf); first | ((repeat apply Exists.intro); refine And.intro ?_ ?_; exact leOf) | (refine Or.inl ?_; (conv => whnf); (repeat apply Exists.intro); refine And.intro ?_ ?_; exact leOf) | (refine Or.inr ?_; (conv => whnf); (repeat apply Exists.intro); refine And.intro ?_ ?_; exact leOf))) | ((conv => whnf); first | refine And.intro (by assumption) ?_ | refine goT ?_ | refine goF ?_ | refine goL ?_ | refine goR ?_ | refine goRL ?_ | refine goRR ?_))
    all_goals try (conv => whnf)
    ((repeat' ((conv => whnf) <;> first | exact trivial | (with_reducible first | refine And.intro ?_ ?_ | refine rows_lt1 ?_ | refine rows_lt2 ?_ ?_ | refine rows_lt3 ?_ ?_ ?_ | refine rows_lt4 ?_ ?_ ?_ ?_ | refine rows_lt5 ?_ ?_ ?_ ?_ ?_ | refine ints_lt1 ?_ | refine ints_lt2 ?_ ?_ | refine ints_lt3 ?_ ?_ ?_ | refine rows_lt7 ?_ ?_ ?_ ?_ ?_ ?_ ?_ | refine aggs_lt1 ?_ | refine aggs_lt2 ?_ ?_ | refine aggs_lt3 ?_ ?_ ?_ | refine fun (_ : Nat) => ?_) | refine fun (_ : (_ : Nat) < _) => ?_ | exact rfl | exact Nat.le_of_ble_eq_true rfl | (change (_ : Nat) ≤ _; omega) | (change (_ : Nat) = _; omega) | (change (_ : Int) = _; omega))); (all_goals try (conv => whnf)))
  · refine ⟨_, _, fun _ => none, hA, hK, by kernel_rfl, own_res (fun _ _ => trivial) trivial, ?_⟩
    repeat (first | ((conv => whnf); refine And.intro ?_ ?_; exact sideOf) | ((conv => whnf); refine NilE.some ?_ ?_; exact sideOf) | ((conv => whnf); refine And.intro (fun _ => ?_) (fun h => nomatch (show true = false from h))) | ((conv => whnf); refine And.intro (fun h => nomatch (show false = true from h)) (fun _ => ?_)) | ((conv => whnf); first | (apply Exists.intro; (repeat apply Exists.intro); refine And.intro ?_ ?_; exact leOf) | (refine Or.inl ?_; (conv => whnf); (repeat apply Exists.intro); refine And.intro ?_ ?_; exact leOf) | (refine Or.inr ?_; (conv => whnf); first | ((repeat apply Exists.intro); refine And.intro ?_ ?_; exact leOf) | (refine Or.inl ?_; (conv => whnf); (repeat apply Exists.intro); refine And.intro ?_ ?_; exact leOf) | (refine Or.inr ?_; (conv => whnf); (repeat apply Exists.intro); refine And.intro ?_ ?_; exact leOf))) | ((conv => whnf); first | refine And.intro (by assumption) ?_ | refine goT ?_ | refine goF ?_ | refine goL ?_ | refine goR ?_ | refine goRL ?_ | refine goRR ?_))
    all_goals try (conv => whnf)
    ((repeat' ((conv => whnf) <;> first | exact trivial | (with_reducible first | refine And.intro ?_ ?_ | refine rows_lt1 ?_ | refine rows_lt2 ?_ ?_ | refine rows_lt3 ?_ ?_ ?_ | refine rows_lt4 ?_ ?_ ?_ ?_ | refine rows_lt5 ?_ ?_ ?_ ?_ ?_ | refine ints_lt1 ?_ | refine ints_lt2 ?_ ?_ | refine ints_lt3 ?_ ?_ ?_ | refine rows_lt7 ?_ ?_ ?_ ?_ ?_ ?_ ?_ | refine aggs_lt1 ?_ | refine aggs_lt2 ?_ ?_ | refine aggs_lt3 ?_ ?_ ?_ | refine fun (_ : Nat) => ?_) | refine fun (_ : (_ : Nat) < _) => ?_ | exact rfl | exact Nat.le_of_ble_eq_true rfl | (change (_ : Nat) ≤ _; omega) | (change (_ : Nat) = _; omega) | (change (_ : Int) = _; omega))); (all_goals try (conv => whnf)))
/-! ### What an act does -/
def rw1 (x : Sl) (h : Int) : Sl := if kdF x h = 0 then x else ⟨fun i => if i = h.toNat then 0 else x.kd i, x.ky, x.lk, x.dd⟩
def rwS (x : Sl) (l : List Int) : Nat → Sl
  | 0 => x
  | k + 1 => rw1 (rwS x l k) (nth 0 l k)
def rwN (x : Sl) (l : List Int) : Nat → Nat
  | 0 => 0
  | k + 1 => rwN x l k + if kdF (rwS x l k) (nth 0 l k) = 0 then 0 else 1
/-- Which act: 2 Derive, 3 Mac, 4 Wipe, 5 Lock, 6 Kill, otherwise Lay. -/
def dk (a : Act15) : Nat := a.d.toNat % 7
def doE (x : Sl) (a : Act15) : Nat := match dk a with
  | 2 => derE x a.h a.to
  | 3 => keyE x a.h
  | 4 => rwN x [a.h, a.to] 2
  | 5 => 0
  | 6 => 0
  | _ => layE x a.h a.k
def doX (x : Sl) (a : Act15) : Sl := match dk a with
  | 2 => derS x a.h a.to a.lab [(a.l, a.b)]
  | 3 => x
  | 4 => rwS x [a.h, a.to] 2
  | 5 => ⟨x.kd, x.ky, true, x.dd⟩
  | 6 => ⟨fun _ => 0, x.ky, x.lk, true⟩
  | _ => layS x a.h a.k a.key
def doD (x : Sl) (a : Act15) : Nat → BitVec 8 := match dk a with
  | 3 => macD x a.h [(a.l, a.b)]
  | _ => fun _ => 0
def apE (s : Sl) (a : Act15) : Nat := match dk a with
  | 2 => derE s a.h a.to
  | 3 => keyE s a.h
  | 4 => wpN s [a.h, a.to] 2
  | 5 => 0
  | 6 => 0
  | _ => layE s a.h a.k
def apS (s : Sl) (a : Act15) : Sl := match dk a with
  | 2 => derS s a.h a.to a.lab [(a.l, a.b)]
  | 3 => s
  | 4 => wpS s [a.h, a.to] 2
  | 5 => ⟨s.kd, s.ky, true, s.dd⟩
  | 6 => ⟨fun _ => 0, fun _ _ => 0, s.lk, true⟩
  | _ => layS s a.h a.k a.key
abbrev apD := doD
theorem dkOf {a : Act15} {k : Nat} (h : a.d % BitVec.ofInt 8 7 = BitVec.ofNat 8 k) (hk : k < 7) : dk a = k := by
  have := congrArg BitVec.toNat h
  rw [BitVec.toNat_umod, BitVec.toNat_ofNat, Nat.mod_eq_of_lt (show k < 2 ^ 8 by omega)] at this
  exact this
theorem dkIs {a : Act15} {k : Nat} (h : dk a = k) : a.d % BitVec.ofInt 8 7 = BitVec.ofNat 8 k := by
  apply BitVec.eq_of_toNat_eq
  have : dk a < 7 := Nat.mod_lt _ (by decide)
  rw [BitVec.toNat_umod, BitVec.toNat_ofNat, Nat.mod_eq_of_lt (show k < 2 ^ 8 by omega), ← h]
  rfl
theorem dkNot {a : Act15} {k : Nat} (hk : k < 7) (h : ¬ dk a = k) : ¬ a.d % BitVec.ofInt 8 7 = BitVec.ofNat 8 k := fun q => h (dkOf q hk)
theorem dk_lt (a : Act15) : dk a < 7 := Nat.mod_lt _ (by decide)
theorem ap_2 {s : Sl} {a : Act15} (e : dk a = 2) : apE s a = derE s a.h a.to ∧ apS s a = derS s a.h a.to a.lab [(a.l, a.b)] ∧ doD s a = fun _ => 0 := by unfold apE apS doD; rw [e]; exact ⟨rfl, rfl, rfl⟩
theorem ap_3 {s : Sl} {a : Act15} (e : dk a = 3) : apE s a = keyE s a.h ∧ apS s a = s ∧ doD s a = macD s a.h [(a.l, a.b)] := by unfold apE apS doD; rw [e]; exact ⟨rfl, rfl, rfl⟩
theorem ap_4 {s : Sl} {a : Act15} (e : dk a = 4) : apE s a = wpN s [a.h, a.to] 2 ∧ apS s a = wpS s [a.h, a.to] 2 ∧ doD s a = fun _ => 0 := by unfold apE apS doD; rw [e]; exact ⟨rfl, rfl, rfl⟩
theorem ap_5 {s : Sl} {a : Act15} (e : dk a = 5) : apE s a = 0 ∧ apS s a = ⟨s.kd, s.ky, true, s.dd⟩ ∧ doD s a = fun _ => 0 := by unfold apE apS doD; rw [e]; exact ⟨rfl, rfl, rfl⟩
theorem ap_6 {s : Sl} {a : Act15} (e : dk a = 6) : apE s a = 0 ∧ apS s a = ⟨fun _ => 0, fun _ _ => 0, s.lk, true⟩ ∧ doD s a = fun _ => 0 := by unfold apE apS doD; rw [e]; exact ⟨rfl, rfl, rfl⟩
theorem ap_0 {s : Sl} {a : Act15} (e : dk a < 2) : apE s a = layE s a.h a.k ∧ apS s a = layS s a.h a.k a.key ∧ doD s a = fun _ => 0 := by
  rcases (show dk a = 0 ∨ dk a = 1 by omega) with e | e <;> (unfold apE apS doD; rw [e]; exact ⟨rfl, rfl, rfl⟩)
theorem do_2 {s : Sl} {a : Act15} (e : dk a = 2) : doE s a = derE s a.h a.to ∧ doX s a = derS s a.h a.to a.lab [(a.l, a.b)] ∧ doD s a = fun _ => 0 := by unfold doE doX doD; rw [e]; exact ⟨rfl, rfl, rfl⟩
theorem do_3 {s : Sl} {a : Act15} (e : dk a = 3) : doE s a = keyE s a.h ∧ doX s a = s ∧ doD s a = macD s a.h [(a.l, a.b)] := by unfold doE doX doD; rw [e]; exact ⟨rfl, rfl, rfl⟩
theorem do_4 {s : Sl} {a : Act15} (e : dk a = 4) : doE s a = rwN s [a.h, a.to] 2 ∧ doX s a = rwS s [a.h, a.to] 2 ∧ doD s a = fun _ => 0 := by unfold doE doX doD; rw [e]; exact ⟨rfl, rfl, rfl⟩
theorem do_5 {s : Sl} {a : Act15} (e : dk a = 5) : doE s a = 0 ∧ doX s a = ⟨s.kd, s.ky, true, s.dd⟩ ∧ doD s a = fun _ => 0 := by unfold doE doX doD; rw [e]; exact ⟨rfl, rfl, rfl⟩
theorem do_6 {s : Sl} {a : Act15} (e : dk a = 6) : doE s a = 0 ∧ doX s a = ⟨fun _ => 0, s.ky, s.lk, true⟩ ∧ doD s a = fun _ => 0 := by unfold doE doX doD; rw [e]; exact ⟨rfl, rfl, rfl⟩
theorem do_0 {s : Sl} {a : Act15} (e : dk a < 2) : doE s a = layE s a.h a.k ∧ doX s a = layS s a.h a.k a.key ∧ doD s a = fun _ => 0 := by
  rcases (show dk a = 0 ∨ dk a = 1 by omega) with e | e <;> (unfold doE doX doD; rw [e]; exact ⟨rfl, rfl, rfl⟩)
def C_sl_Derive_0 : SpecM := fun A K => ∃ kd ky lk dd a b lab, A [.ptr TSl 0 [], .int a, .int b, .str lab, prs [] []] (slR (Sl.mk kd ky lk dd)) ∧ lab.length ≤ 1000000 ∧ K (.nat (derE (Sl.mk kd ky lk dd) a b)) (slR (derS (Sl.mk kd ky lk dd) a b lab []))
theorem g_sl_Derive_0 : Gd 14 (mutD ty [true, false, false, false, false] C_sl_Derive_0) := good_imp g_sl_Derive fun args m key K ⟨kd, ky, lk, dd, a, b, lab, hA, h, hK⟩ =>
  ⟨kd, ky, lk, dd, a, b, lab, [], hA, h, fun i => Nat.zero_le _, Nat.zero_le _, hK⟩
def C_sl_Derive_1 : SpecM := fun A K => ∃ kd ky lk dd a b lab l0 b0, A [.ptr TSl 0 [], .int a, .int b, .str lab, prs [l0] [b0]] (slR (Sl.mk kd ky lk dd)) ∧ lab.length ≤ 1000000 ∧ l0 ≤ 1000000 ∧ K (.nat (derE (Sl.mk kd ky lk dd) a b)) (slR (derS (Sl.mk kd ky lk dd) a b lab [(l0, b0)]))
theorem g_sl_Derive_1 : Gd 14 (mutD ty [true, false, false, false, false] C_sl_Derive_1) := good_imp g_sl_Derive fun args m key K ⟨kd, ky, lk, dd, a, b, lab, l0, b0, hA, h, h0, hK⟩ =>
  ⟨kd, ky, lk, dd, a, b, lab, [(l0, b0)], (by rw [prt1]; exact hA), h, fun i => (by rcases i with _ | i <;> first | exact Nat.le_trans h0 (by omega) | exact Nat.zero_le _), (show 1 ≤ 1000000 by omega), hK⟩
def C_sl_Mac_1 : SpecP := fun A K => ∃ kd ky lk dd h l0 b0, A [slI (Sl.mk kd ky lk dd), .int h, prs [l0] [b0]] ∧ l0 ≤ 1000000 ∧ K (tupOf [arr8 32 (macD (Sl.mk kd ky lk dd) h [(l0, b0)]), .nat (keyE (Sl.mk kd ky lk dd) h)])
theorem g_sl_Mac_1 : Gd 16 (pureP ty C_sl_Mac_1) := good_imp g_sl_Mac fun args m key K ⟨kd, ky, lk, dd, h, l0, b0, hA, h0, hK⟩ =>
  ⟨kd, ky, lk, dd, h, [(l0, b0)], (by rw [prt1]; exact hA), fun i => (by rcases i with _ | i <;> first | exact Nat.le_trans h0 (by omega) | exact Nat.zero_le _), (show 1 ≤ 1000000 by omega), hK⟩
def C_sl_Wipe_2 : SpecM := fun A K => ∃ kd ky lk dd h h', A [.ptr TSl 0 [], int2 h h'] (slR (Sl.mk kd ky lk dd)) ∧ K (.nat (wpN (Sl.mk kd ky lk dd) [h, h'] 2)) (slR (wpS (Sl.mk kd ky lk dd) [h, h'] 2))
theorem g_sl_Wipe_2 : Gd 19 (mutD ty [true, false] C_sl_Wipe_2) := good_imp g_sl_Wipe fun args m key K ⟨kd, ky, lk, dd, h, h', hA, hK⟩ =>
  ⟨kd, ky, lk, dd, [h, h'], hA, (by show 2 ≤ 10; omega), hK⟩
theorem cat1 (l : Nat) (b : Nat → BitVec 8) : cat [(l, b)] = lw l b := by unfold cat; simp
def C_l15_apply : SpecM := fun A K => ∃ kd ky lk dd d h to k key lab l b, A [.ptr TSl 0 [], actP d h to k key lab (bsl l b)] (slR (Sl.mk kd ky lk dd)) ∧ lab.length ≤ 1000000 ∧ l ≤ 1000000 ∧ K (tupOf [arr8 32 (doD (Sl.mk kd ky lk dd) (Act15.mk d h to k key lab l b)), .nat (apE (Sl.mk kd ky lk dd) (Act15.mk d h to k key lab l b))]) (slR (apS (Sl.mk kd ky lk dd) (Act15.mk d h to k key lab l b)))
theorem g_l15_apply : Gd 10 (mutD ty [true, false] C_l15_apply) := by
  refine goodD (E := PG [(12, mutD ty [true, false, false, false] C_sl_Lay), (14, mutD ty [true, false, false, false, false] C_sl_Derive_1), (16, pureP ty C_sl_Mac_1), (19, mutD ty [true, false] C_sl_Wipe_2), (33, mutD ty [true] C_sl_Lock), (34, mutD ty [true] C_sl_Kill)]) (pgOK ⟨g_sl_Lay, g_sl_Derive_1, g_sl_Mac_1, g_sl_Wipe_2, g_sl_Lock, g_sl_Kill, trivial⟩) mixes Tryd.func10 (by kernel_rfl) (by kernel_rfl) ?_
  rintro A K ⟨kd, ky, lk, dd, d, h, to, k, key, lab, l, b, hA, hlab, hl, hK⟩
  rcases (show dk (Act15.mk d h to k key lab l b) = 2 ∨ dk (Act15.mk d h to k key lab l b) = 3 ∨ dk (Act15.mk d h to k key lab l b) = 4 ∨ dk (Act15.mk d h to k key lab l b) = 5 ∨ dk (Act15.mk d h to k key lab l b) = 6 ∨ dk (Act15.mk d h to k key lab l b) < 2 by have := dk_lt (Act15.mk d h to k key lab l b); omega) with e | e | e | e | e | e
  · obtain ⟨e1, e2, e3⟩ := ap_2 (s := Sl.mk kd ky lk dd) e
    rw [e1, e2, e3] at hK
    have q : d % BitVec.ofInt 8 7 = BitVec.ofInt 8 2 := dkIs e
    refine ⟨_, _, _, _, fun _ => none, hA, hK, by kernel_rfl, by kernel_rfl, ⟨trivial, trivial⟩, ⟨own_slV _, trivial⟩, own_res (fun _ _ => trivial) trivial, ?_⟩
    repeat (first | ((conv => whnf); refine And.intro ?_ ?_; exact sideOf) | ((conv => whnf); refine NilE.some ?_ ?_; exact sideOf) | ((conv => whnf); refine And.intro (fun _ => ?_) (fun h => nomatch (show true = false from h))) | ((conv => whnf); refine And.intro (fun h => nomatch (show false = true from h)) (fun _ => ?_)) | ((conv => whnf); first | (apply Exists.intro; (repeat apply Exists.intro); refine And.intro ?_ ?_; exact leOf) | (refine Or.inl ?_; (conv => whnf); (repeat apply Exists.intro); refine And.intro ?_ ?_; exact leOf) | (refine Or.inr ?_; (conv => whnf); first | ((repeat apply Exists.intro); refine And.intro ?_ ?_; exact leOf) | (refine Or.inl ?_; (conv => whnf); (repeat apply Exists.intro); refine And.intro ?_ ?_; exact leOf) | (refine Or.inr ?_; (conv => whnf); (repeat apply Exists.intro); refine And.intro ?_ ?_; exact leOf))) | ((conv => whnf); first | refine And.intro (by assumption) ?_ | refine goT ?_ | refine goF ?_ | refine goL ?_ | refine goR ?_ | refine goRL ?_ | refine goRR ?_))
    all_goals try (conv => whnf)
    (refine out_fnd ?_; (repeat' ((conv => whnf) <;> first | exact trivial | (with_reducible first | refine And.intro ?_ ?_ | refine rows_lt1 ?_ | refine rows_lt2 ?_ ?_ | refine rows_lt3 ?_ ?_ ?_ | refine rows_lt4 ?_ ?_ ?_ ?_ | refine rows_lt5 ?_ ?_ ?_ ?_ ?_ | refine ints_lt1 ?_ | refine ints_lt2 ?_ ?_ | refine ints_lt3 ?_ ?_ ?_ | refine rows_lt7 ?_ ?_ ?_ ?_ ?_ ?_ ?_ | refine aggs_lt1 ?_ | refine aggs_lt2 ?_ ?_ | refine aggs_lt3 ?_ ?_ ?_ | refine fun (_ : Nat) => ?_) | refine fun (_ : (_ : Nat) < _) => ?_ | exact rfl | exact Nat.le_of_ble_eq_true rfl | (change (_ : Nat) ≤ _; omega) | (change (_ : Nat) = _; omega) | (change (_ : Int) = _; omega))); (all_goals try (conv => whnf)))
  · obtain ⟨e1, e2, e3⟩ := ap_3 (s := Sl.mk kd ky lk dd) e
    rw [e1, e2, e3] at hK
    have q : d % BitVec.ofInt 8 7 = BitVec.ofInt 8 3 := dkIs e
    have q2 : ¬ d % BitVec.ofInt 8 7 = BitVec.ofInt 8 2 := by rw [q]; decide
    refine ⟨_, _, _, _, fun _ => none, hA, hK, by kernel_rfl, by kernel_rfl, ⟨trivial, trivial⟩, ⟨own_slV _, trivial⟩, own_res (fun _ _ => trivial) trivial, ?_⟩
    repeat (first | ((conv => whnf); refine And.intro ?_ ?_; exact sideOf) | ((conv => whnf); refine NilE.some ?_ ?_; exact sideOf) | ((conv => whnf); refine And.intro (fun _ => ?_) (fun h => nomatch (show true = false from h))) | ((conv => whnf); refine And.intro (fun h => nomatch (show false = true from h)) (fun _ => ?_)) | ((conv => whnf); first | (apply Exists.intro; (repeat apply Exists.intro); refine And.intro ?_ ?_; exact leOf) | (refine Or.inl ?_; (conv => whnf); (repeat apply Exists.intro); refine And.intro ?_ ?_; exact leOf) | (refine Or.inr ?_; (conv => whnf); first | ((repeat apply Exists.intro); refine And.intro ?_ ?_; exact leOf) | (refine Or.inl ?_; (conv => whnf); (repeat apply Exists.intro); refine And.intro ?_ ?_; exact leOf) | (refine Or.inr ?_; (conv => whnf); (repeat apply Exists.intro); refine And.intro ?_ ?_; exact leOf))) | ((conv => whnf); first | refine And.intro (by assumption) ?_ | refine goT ?_ | refine goF ?_ | refine goL ?_ | refine goR ?_ | refine goRL ?_ | refine goRR ?_))
    all_goals try (conv => whnf)
    (refine out_fnd ?_; (repeat' ((conv => whnf) <;> first | exact trivial | (with_reducible first | refine And.intro ?_ ?_ | refine rows_lt1 ?_ | refine rows_lt2 ?_ ?_ | refine rows_lt3 ?_ ?_ ?_ | refine rows_lt4 ?_ ?_ ?_ ?_ | refine rows_lt5 ?_ ?_ ?_ ?_ ?_ | refine ints_lt1 ?_ | refine ints_lt2 ?_ ?_ | refine ints_lt3 ?_ ?_ ?_ | refine rows_lt7 ?_ ?_ ?_ ?_ ?_ ?_ ?_ | refine aggs_lt1 ?_ | refine aggs_lt2 ?_ ?_ | refine aggs_lt3 ?_ ?_ ?_ | refine fun (_ : Nat) => ?_) | refine fun (_ : (_ : Nat) < _) => ?_ | exact rfl | exact Nat.le_of_ble_eq_true rfl | (change (_ : Nat) ≤ _; omega) | (change (_ : Nat) = _; omega) | (change (_ : Int) = _; omega))); (all_goals try (conv => whnf)))
  · obtain ⟨e1, e2, e3⟩ := ap_4 (s := Sl.mk kd ky lk dd) e
    rw [e1, e2, e3] at hK
    have q : d % BitVec.ofInt 8 7 = BitVec.ofInt 8 4 := dkIs e
    have q2 : ¬ d % BitVec.ofInt 8 7 = BitVec.ofInt 8 2 := by rw [q]; decide
    have q3 : ¬ d % BitVec.ofInt 8 7 = BitVec.ofInt 8 3 := by rw [q]; decide
    refine ⟨_, _, _, _, fun _ => none, hA, hK, by kernel_rfl, by kernel_rfl, ⟨trivial, trivial⟩, ⟨own_slV _, trivial⟩, own_res (fun _ _ => trivial) trivial, ?_⟩
    repeat (first | ((conv => whnf); refine And.intro ?_ ?_; exact sideOf) | ((conv => whnf); refine NilE.some ?_ ?_; exact sideOf) | ((conv => whnf); refine And.intro (fun _ => ?_) (fun h => nomatch (show true = false from h))) | ((conv => whnf); refine And.intro (fun h => nomatch (show false = true from h)) (fun _ => ?_)) | ((conv => whnf); first | (apply Exists.intro; (repeat apply Exists.intro); refine And.intro ?_ ?_; exact leOf) | (refine Or.inl ?_; (conv => whnf); (repeat apply Exists.intro); refine And.intro ?_ ?_; exact leOf) | (refine Or.inr ?_; (conv => whnf); first | ((repeat apply Exists.intro); refine And.intro ?_ ?_; exact leOf) | (refine Or.inl ?_; (conv => whnf); (repeat apply Exists.intro); refine And.intro ?_ ?_; exact leOf) | (refine Or.inr ?_; (conv => whnf); (repeat apply Exists.intro); refine And.intro ?_ ?_; exact leOf))) | ((conv => whnf); first | refine And.intro (by assumption) ?_ | refine goT ?_ | refine goF ?_ | refine goL ?_ | refine goR ?_ | refine goRL ?_ | refine goRR ?_))
    all_goals try (conv => whnf)
    (refine out_fnd ?_; (repeat' ((conv => whnf) <;> first | exact trivial | (with_reducible first | refine And.intro ?_ ?_ | refine rows_lt1 ?_ | refine rows_lt2 ?_ ?_ | refine rows_lt3 ?_ ?_ ?_ | refine rows_lt4 ?_ ?_ ?_ ?_ | refine rows_lt5 ?_ ?_ ?_ ?_ ?_ | refine ints_lt1 ?_ | refine ints_lt2 ?_ ?_ | refine ints_lt3 ?_ ?_ ?_ | refine rows_lt7 ?_ ?_ ?_ ?_ ?_ ?_ ?_ | refine aggs_lt1 ?_ | refine aggs_lt2 ?_ ?_ | refine aggs_lt3 ?_ ?_ ?_ | refine fun (_ : Nat) => ?_) | refine fun (_ : (_ : Nat) < _) => ?_ | exact rfl | exact Nat.le_of_ble_eq_true rfl | (change (_ : Nat) ≤ _; omega) | (change (_ : Nat) = _; omega) | (change (_ : Int) = _; omega))); (all_goals try (conv => whnf)))
  · obtain ⟨e1, e2, e3⟩ := ap_5 (s := Sl.mk kd ky lk dd) e
    rw [e1, e2, e3] at hK
    have q : d % BitVec.ofInt 8 7 = BitVec.ofInt 8 5 := dkIs e
    have q2 : ¬ d % BitVec.ofInt 8 7 = BitVec.ofInt 8 2 := by rw [q]; decide
    have q3 : ¬ d % BitVec.ofInt 8 7 = BitVec.ofInt 8 3 := by rw [q]; decide
    have q4 : ¬ d % BitVec.ofInt 8 7 = BitVec.ofInt 8 4 := by rw [q]; decide
    refine ⟨_, _, _, _, fun _ => none, hA, hK, by kernel_rfl, by kernel_rfl, ⟨trivial, trivial⟩, ⟨own_slV _, trivial⟩, own_res (fun _ _ => trivial) trivial, ?_⟩
    repeat (first | ((conv => whnf); refine And.intro ?_ ?_; exact sideOf) | ((conv => whnf); refine NilE.some ?_ ?_; exact sideOf) | ((conv => whnf); refine And.intro (fun _ => ?_) (fun h => nomatch (show true = false from h))) | ((conv => whnf); refine And.intro (fun h => nomatch (show false = true from h)) (fun _ => ?_)) | ((conv => whnf); first | (apply Exists.intro; (repeat apply Exists.intro); refine And.intro ?_ ?_; exact leOf) | (refine Or.inl ?_; (conv => whnf); (repeat apply Exists.intro); refine And.intro ?_ ?_; exact leOf) | (refine Or.inr ?_; (conv => whnf); first | ((repeat apply Exists.intro); refine And.intro ?_ ?_; exact leOf) | (refine Or.inl ?_; (conv => whnf); (repeat apply Exists.intro); refine And.intro ?_ ?_; exact leOf) | (refine Or.inr ?_; (conv => whnf); (repeat apply Exists.intro); refine And.intro ?_ ?_; exact leOf))) | ((conv => whnf); first | refine And.intro (by assumption) ?_ | refine goT ?_ | refine goF ?_ | refine goL ?_ | refine goR ?_ | refine goRL ?_ | refine goRR ?_))
    all_goals try (conv => whnf)
    (refine out_fnd ?_; (repeat' ((conv => whnf) <;> first | exact trivial | (with_reducible first | refine And.intro ?_ ?_ | refine rows_lt1 ?_ | refine rows_lt2 ?_ ?_ | refine rows_lt3 ?_ ?_ ?_ | refine rows_lt4 ?_ ?_ ?_ ?_ | refine rows_lt5 ?_ ?_ ?_ ?_ ?_ | refine ints_lt1 ?_ | refine ints_lt2 ?_ ?_ | refine ints_lt3 ?_ ?_ ?_ | refine rows_lt7 ?_ ?_ ?_ ?_ ?_ ?_ ?_ | refine aggs_lt1 ?_ | refine aggs_lt2 ?_ ?_ | refine aggs_lt3 ?_ ?_ ?_ | refine fun (_ : Nat) => ?_) | refine fun (_ : (_ : Nat) < _) => ?_ | exact rfl | exact Nat.le_of_ble_eq_true rfl | (change (_ : Nat) ≤ _; omega) | (change (_ : Nat) = _; omega) | (change (_ : Int) = _; omega))); (all_goals try (conv => whnf)))
  · obtain ⟨e1, e2, e3⟩ := ap_6 (s := Sl.mk kd ky lk dd) e
    rw [e1, e2, e3] at hK
    have q : d % BitVec.ofInt 8 7 = BitVec.ofInt 8 6 := dkIs e
    have q2 : ¬ d % BitVec.ofInt 8 7 = BitVec.ofInt 8 2 := by rw [q]; decide
    have q3 : ¬ d % BitVec.ofInt 8 7 = BitVec.ofInt 8 3 := by rw [q]; decide
    have q4 : ¬ d % BitVec.ofInt 8 7 = BitVec.ofInt 8 4 := by rw [q]; decide
    have q5 : ¬ d % BitVec.ofInt 8 7 = BitVec.ofInt 8 5 := by rw [q]; decide
    refine ⟨_, _, _, _, fun _ => none, hA, hK, by kernel_rfl, by kernel_rfl, ⟨trivial, trivial⟩, ⟨own_slV _, trivial⟩, own_res (fun _ _ => trivial) trivial, ?_⟩
    repeat (first | ((conv => whnf); refine And.intro ?_ ?_; exact sideOf) | ((conv => whnf); refine NilE.some ?_ ?_; exact sideOf) | ((conv => whnf); refine And.intro (fun _ => ?_) (fun h => nomatch (show true = false from h))) | ((conv => whnf); refine And.intro (fun h => nomatch (show false = true from h)) (fun _ => ?_)) | ((conv => whnf); first | (apply Exists.intro; (repeat apply Exists.intro); refine And.intro ?_ ?_; exact leOf) | (refine Or.inl ?_; (conv => whnf); (repeat apply Exists.intro); refine And.intro ?_ ?_; exact leOf) | (refine Or.inr ?_; (conv => whnf); first | ((repeat apply Exists.intro); refine And.intro ?_ ?_; exact leOf) | (refine Or.inl ?_; (conv => whnf); (repeat apply Exists.intro); refine And.intro ?_ ?_; exact leOf) | (refine Or.inr ?_; (conv => whnf); (repeat apply Exists.intro); refine And.intro ?_ ?_; exact leOf))) | ((conv => whnf); first | refine And.intro (by assumption) ?_ | refine goT ?_ | refine goF ?_ | refine goL ?_ | refine goR ?_ | refine goRL ?_ | refine goRR ?_))
    all_goals try (conv => whnf)
    (refine out_fnd ?_; (repeat' ((conv => whnf) <;> first | exact trivial | (with_reducible first | refine And.intro ?_ ?_ | refine rows_lt1 ?_ | refine rows_lt2 ?_ ?_ | refine rows_lt3 ?_ ?_ ?_ | refine rows_lt4 ?_ ?_ ?_ ?_ | refine rows_lt5 ?_ ?_ ?_ ?_ ?_ | refine ints_lt1 ?_ | refine ints_lt2 ?_ ?_ | refine ints_lt3 ?_ ?_ ?_ | refine rows_lt7 ?_ ?_ ?_ ?_ ?_ ?_ ?_ | refine aggs_lt1 ?_ | refine aggs_lt2 ?_ ?_ | refine aggs_lt3 ?_ ?_ ?_ | refine fun (_ : Nat) => ?_) | refine fun (_ : (_ : Nat) < _) => ?_ | exact rfl | exact Nat.le_of_ble_eq_true rfl | (change (_ : Nat) ≤ _; omega) | (change (_ : Nat) = _; omega) | (change (_ : Int) = _; omega))); (all_goals try (conv => whnf)))
  · obtain ⟨e1, e2, e3⟩ := ap_0 (s := Sl.mk kd ky lk dd) e
    rw [e1, e2, e3] at hK
    have q2 : ¬ d % BitVec.ofInt 8 7 = BitVec.ofInt 8 2 := dkNot (a := Act15.mk d h to k key lab l b) (k := 2) (by decide) (by omega)
    have q3 : ¬ d % BitVec.ofInt 8 7 = BitVec.ofInt 8 3 := dkNot (a := Act15.mk d h to k key lab l b) (k := 3) (by decide) (by omega)
    have q4 : ¬ d % BitVec.ofInt 8 7 = BitVec.ofInt 8 4 := dkNot (a := Act15.mk d h to k key lab l b) (k := 4) (by decide) (by omega)
    have q5 : ¬ d % BitVec.ofInt 8 7 = BitVec.ofInt 8 5 := dkNot (a := Act15.mk d h to k key lab l b) (k := 5) (by decide) (by omega)
    have q6 : ¬ d % BitVec.ofInt 8 7 = BitVec.ofInt 8 6 := dkNot (a := Act15.mk d h to k key lab l b) (k := 6) (by decide) (by omega)
    refine ⟨_, _, _, _, fun _ => none, hA, hK, by kernel_rfl, by kernel_rfl, ⟨trivial, trivial⟩, ⟨own_slV _, trivial⟩, own_res (fun _ _ => trivial) trivial, ?_⟩
    repeat (first | ((conv => whnf); refine And.intro ?_ ?_; exact sideOf) | ((conv => whnf); refine NilE.some ?_ ?_; exact sideOf) | ((conv => whnf); refine And.intro (fun _ => ?_) (fun h => nomatch (show true = false from h))) | ((conv => whnf); refine And.intro (fun h => nomatch (show false = true from h)) (fun _ => ?_)) | ((conv => whnf); first | (apply Exists.intro; (repeat apply Exists.intro); refine And.intro ?_ ?_; exact leOf) | (refine Or.inl ?_; (conv => whnf); (repeat apply Exists.intro); refine And.intro ?_ ?_; exact leOf) | (refine Or.inr ?_; (conv => whnf); first | ((repeat apply Exists.intro); refine And.intro ?_ ?_; exact leOf) | (refine Or.inl ?_; (conv => whnf); (repeat apply Exists.intro); refine And.intro ?_ ?_; exact leOf) | (refine Or.inr ?_; (conv => whnf); (repeat apply Exists.intro); refine And.intro ?_ ?_; exact leOf))) | ((conv => whnf); first | refine And.intro (by assumption) ?_ | refine goT ?_ | refine goF ?_ | refine goL ?_ | refine goR ?_ | refine goRL ?_ | refine goRR ?_))
    all_goals try (conv => whnf)
    (refine out_fnd ?_; (repeat' ((conv => whnf) <;> first | exact trivial | (with_reducible first | refine And.intro ?_ ?_ | refine rows_lt1 ?_ | refine rows_lt2 ?_ ?_ | refine rows_lt3 ?_ ?_ ?_ | refine rows_lt4 ?_ ?_ ?_ ?_ | refine rows_lt5 ?_ ?_ ?_ ?_ ?_ | refine ints_lt1 ?_ | refine ints_lt2 ?_ ?_ | refine ints_lt3 ?_ ?_ ?_ | refine rows_lt7 ?_ ?_ ?_ ?_ ?_ ?_ ?_ | refine aggs_lt1 ?_ | refine aggs_lt2 ?_ ?_ | refine aggs_lt3 ?_ ?_ ?_ | refine fun (_ : Nat) => ?_) | refine fun (_ : (_ : Nat) < _) => ?_ | exact rfl | exact Nat.le_of_ble_eq_true rfl | (change (_ : Nat) ≤ _; omega) | (change (_ : Nat) = _; omega) | (change (_ : Int) = _; omega))); (all_goals try (conv => whnf)))
end Go.Proofs.YtjmeihmioecciaaDoor
