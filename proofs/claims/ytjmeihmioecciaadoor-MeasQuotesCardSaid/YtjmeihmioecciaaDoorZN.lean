/- Measurement registers: quotes. -/
import Derived.Test.YtjmeihmioecciaaDoorZM
namespace Go.Proofs.YtjmeihmioecciaaDoor
open Go.RowKit
set_option maxRecDepth 100000
set_option maxHeartbeats 20000000
attribute [local irreducible] hsh rst sha256 press dig valN cat at8
theorem prt7 (l0 l1 l2 l3 l4 l5 l6 : Nat) (b0 b1 b2 b3 b4 b5 b6 : Nat → BitVec 8) : prt [(l0, b0), (l1, b1), (l2, b2), (l3, b3), (l4, b4), (l5, b5), (l6, b6)] = prs [l0, l1, l2, l3, l4, l5, l6] [b0, b1, b2, b3, b4, b5, b6] := by
  have : (fun i => bsl (pl [(l0, b0), (l1, b1), (l2, b2), (l3, b3), (l4, b4), (l5, b5), (l6, b6)] i) (pb [(l0, b0), (l1, b1), (l2, b2), (l3, b3), (l4, b4), (l5, b5), (l6, b6)] i)) = fun i => bsl (nth 0 [l0, l1, l2, l3, l4, l5, l6] i) (nth (fun _ => 0) [b0, b1, b2, b3, b4, b5, b6] i) := by
    funext i
    rcases i with _ | _ | _ | _ | _ | _ | _ | i <;> rfl
  show AV.imm false _ 7 _ = AV.imm false _ 7 _
  rw [this]
abbrev prs7 (l0 l1 l2 l3 l4 l5 l6 : Nat) (b0 b1 b2 b3 b4 b5 b6 : Nat → BitVec 8) : AV := .imm false (.sl 5) 7 (fun i => bsl (nth 0 [l0, l1, l2, l3, l4, l5, l6] i) (nth (fun _ => 0) [b0, b1, b2, b3, b4, b5, b6] i))
theorem pl7 (l0 l1 l2 l3 l4 l5 l6 N : Nat) (b0 b1 b2 b3 b4 b5 b6 : Nat → BitVec 8) (h0 : l0 ≤ N) (h1 : l1 ≤ N) (h2 : l2 ≤ N) (h3 : l3 ≤ N) (h4 : l4 ≤ N) (h5 : l5 ≤ N) (h6 : l6 ≤ N) (i : Nat) : pl [(l0, b0), (l1, b1), (l2, b2), (l3, b3), (l4, b4), (l5, b5), (l6, b6)] i ≤ N := by
  rcases i with _ | _ | _ | _ | _ | _ | _ | i
  · exact h0
  · exact h1
  · exact h2
  · exact h3
  · exact h4
  · exact h5
  · exact h6
  · exact Nat.zero_le _
def C_sl_Mac_7 : SpecP := fun A K => ∃ kd ky lk dd h l0 l1 l2 l3 l4 l5 l6 b0 b1 b2 b3 b4 b5 b6, A [slI (Sl.mk kd ky lk dd), .int h, prs7 l0 l1 l2 l3 l4 l5 l6 b0 b1 b2 b3 b4 b5 b6] ∧ (l0 ≤ 1000 ∧ l1 ≤ 1000 ∧ l2 ≤ 1000 ∧ l3 ≤ 1000 ∧ l4 ≤ 1000 ∧ l5 ≤ 1000 ∧ l6 ≤ 1000) ∧ K (tupOf [arr8 32 (macD (Sl.mk kd ky lk dd) h [(l0, b0), (l1, b1), (l2, b2), (l3, b3), (l4, b4), (l5, b5), (l6, b6)]), .nat (keyE (Sl.mk kd ky lk dd) h)])
theorem g_sl_Mac_7 : Gd 16 (pureP ty C_sl_Mac_7) := good_imp g_sl_Mac fun args m key K ⟨kd, ky, lk, dd, h, l0, l1, l2, l3, l4, l5, l6, b0, b1, b2, b3, b4, b5, b6, hA, ⟨h0, h1, h2, h3, h4, h5, h6⟩, hK⟩ =>
  ⟨kd, ky, lk, dd, h, [(l0, b0), (l1, b1), (l2, b2), (l3, b3), (l4, b4), (l5, b5), (l6, b6)], (by rw [prt7]; exact hA), pl7 _ _ _ _ _ _ _ _ _ _ _ _ _ _ _ (by omega) (by omega) (by omega) (by omega) (by omega) (by omega) (by omega), (show 7 ≤ 1000000 by omega), hK⟩
def C_mac_Sum_7 : SpecP := fun A K => ∃ l b l0 l1 l2 l3 l4 l5 l6 b0 b1 b2 b3 b4 b5 b6, A [bsl l b, prs7 l0 l1 l2 l3 l4 l5 l6 b0 b1 b2 b3 b4 b5 b6] ∧ (l ≤ 1000 ∧ l0 ≤ 1000 ∧ l1 ≤ 1000 ∧ l2 ≤ 1000 ∧ l3 ≤ 1000 ∧ l4 ≤ 1000 ∧ l5 ≤ 1000 ∧ l6 ≤ 1000) ∧ K (arr8 32 (at8 (hmac (lw l b) (cat [(l0, b0), (l1, b1), (l2, b2), (l3, b3), (l4, b4), (l5, b5), (l6, b6)]))))
theorem g_mac_Sum_7 : Gd 38 (pureP ty C_mac_Sum_7) := good_imp g_mac_Sum fun args m key K ⟨l, b, l0, l1, l2, l3, l4, l5, l6, b0, b1, b2, b3, b4, b5, b6, hA, ⟨h, h0, h1, h2, h3, h4, h5, h6⟩, hK⟩ =>
  ⟨l, b, [(l0, b0), (l1, b1), (l2, b2), (l3, b3), (l4, b4), (l5, b5), (l6, b6)], (by rw [prt7]; exact hA), by omega, pl7 _ _ _ _ _ _ _ _ _ _ _ _ _ _ _ (by omega) (by omega) (by omega) (by omega) (by omega) (by omega) (by omega), (show 7 ≤ 1000000 by omega), hK⟩
theorem cat7_len (l0 l1 l2 l3 l4 l5 l6 : Nat) (b0 b1 b2 b3 b4 b5 b6 : Nat → BitVec 8) : (cat [(l0, b0), (l1, b1), (l2, b2), (l3, b3), (l4, b4), (l5, b5), (l6, b6)]).length = l0 + l1 + l2 + l3 + l4 + l5 + l6 := by
  unfold cat
  simp only [List.flatMap_cons, List.flatMap_nil, List.length_append, lw_len, List.length_nil]
  omega
def C_r1_Join_7 : SpecR := fun A K => ∃ l0 l1 l2 l3 l4 l5 l6 b0 b1 b2 b3 b4 b5 b6, A [prs7 l0 l1 l2 l3 l4 l5 l6 b0 b1 b2 b3 b4 b5 b6] ∧ l0 + l1 + l2 + l3 + l4 + l5 + l6 ≤ 1000000000 ∧ K (.gsl 5 8 (l0 + l1 + l2 + l3 + l4 + l5 + l6)) [(8, .grow 5 (l0 + l1 + l2 + l3 + l4 + l5 + l6) (bys (at8 (cat [(l0, b0), (l1, b1), (l2, b2), (l3, b3), (l4, b4), (l5, b5), (l6, b6)]))))]
theorem g_r1_Join_7 : Gd 26 (pureR ty C_r1_Join_7) := good_imp g_r1_Join fun args m key K ⟨l0, l1, l2, l3, l4, l5, l6, b0, b1, b2, b3, b4, b5, b6, hA, h0, hK⟩ => by
  have el := cat7_len l0 l1 l2 l3 l4 l5 l6 b0 b1 b2 b3 b4 b5 b6
  refine ⟨[(l0, b0), (l1, b1), (l2, b2), (l3, b3), (l4, b4), (l5, b5), (l6, b6)], (by rw [prt7]; exact hA), by rw [el]; exact h0, (show 7 ≤ 1000000 by omega), ?_⟩
  rw [el]
  exact hK
/-! ### A quote -/
def qtP (l : Nat) (b : Nat → BitVec 8) (r : Nat → Nat → BitVec 8) : Parts := [(4, qtF), (4, szF l), (l, b), (32, r 0), (32, r 1), (32, r 2), (32, r 3)]
def QM (key : Nat → BitVec 8) (l : Nat) (b : Nat → BitVec 8) (r : Nat → Nat → BitVec 8) : Nat → BitVec 8 := at8 (hmac (lw 32 key) (cat (qtP l b r)))
theorem qtZ' (l : Nat) (b : Nat → BitVec 8) (r : Nat → Nat → BitVec 8) : [(4, qtF), (4, szF l), (l, b), (32, fun x => r 0 (0 + x)), (32, fun x => r 1 (0 + x)), (32, fun x => r 2 (0 + x)), (32, fun x => r 3 (0 + x))] = qtP l b r := by
  have fz : ∀ f : Nat → BitVec 8, (fun x => f (0 + x)) = f := fun f => funext fun x => congrArg f (Nat.zero_add x)
  simp only [fz]; rfl
theorem qt_mac (s : Sl) (h : Int) (l : Nat) (b : Nat → BitVec 8) (r : Nat → Nat → BitVec 8) (x : Nat) : macD s h [(4, qtF), (4, szF l), (l, b), (32, fun x => r 0 (0 + x)), (32, fun x => r 1 (0 + x)), (32, fun x => r 2 (0 + x)), (32, fun x => r 3 (0 + x))] x = macD s h (qtP l b r) x := by rw [qtZ']
theorem qt_chk (key : Nat → BitVec 8) (l : Nat) (b : Nat → BitVec 8) (r : Nat → Nat → BitVec 8) (q : AV) : eqB (arr8 32 (at8 (hmac (lw 32 key) (cat [(4, qtF), (4, szF l), (l, b), (32, fun x => r 0 (0 + x)), (32, fun x => r 1 (0 + x)), (32, fun x => r 2 (0 + x)), (32, fun x => r 3 (0 + x))])))) q = eqB (arr8 32 (QM key l b r)) q := by rw [qtZ']; rfl
theorem qt_sum (key : Nat → BitVec 8) (l : Nat) (b : Nat → BitVec 8) (r : Nat → Nat → BitVec 8) (x : Nat) : at8 (hmac (lw (32 - 0) fun x => key (0 + x)) (lw (4 + 4 + l + 32 + 32 + 32 + 32) (at8 (cat [(4, qtF), (4, szF l), (l, b), (32, fun x => r 0 (0 + x)), (32, fun x => r 1 (0 + x)), (32, fun x => r 2 (0 + x)), (32, fun x => r 3 (0 + x))])))) x = QM key l b r x := by
  rw [lw320 key, lw_at8 _ _ (cat7_len _ _ _ _ _ _ _ _ _ _ _ _ _ _), qtZ']; rfl
theorem ex_next (v : Nat → BitVec 8) (l : Nat) (b : Nat → BitVec 8) (x : Nat) : at8 (sha256 (lw (32 - 0 + (32 - 0)) (at8 ((lw (32 - 0) fun x => v (0 + x)) ++ lw (32 - 0) fun x => at8 (sha256 (lw l b)) (0 + x))))) x = exV v l b x := by
  rw [lw_at8 _ _ (by rw [List.length_append, lw_len, lw_len]), lw320 v, lw320 (at8 (sha256 (lw l b)))]; rfl
theorem ex_at (r : Nat → Nat → BitVec 8) (l : Nat) (b : Nat → BitVec 8) (i x : Nat) : exF r i l b i x = exV (r i) l b x := congrFun (if_pos rfl) x
theorem fz (f : Nat → BitVec 8) : (fun x => f (0 + x)) = f := funext fun x => congrArg f (Nat.zero_add x)
def C_me_Quote : SpecM := fun A K => ∃ r kd ky lk dd h l b, A [meA r, slI (Sl.mk kd ky lk dd), .int h, .gsl 5 0 l] [(0, .grow 5 l (bys b))] ∧ l ≤ 1000 ∧ K (tupOf [arr8 32 (macD (Sl.mk kd ky lk dd) h (qtP l b r)), .nat (keyE (Sl.mk kd ky lk dd) h)]) [(0, .grow 5 l (bys b))]
theorem g_me_Quote : Gd 24 (mutD ty [false, false, false, true] C_me_Quote) := by
  refine goodD (E := PG [(45, mutD ty [true, false] C_me_quoted), (16, pureP ty C_sl_Mac_7)]) (pgOK ⟨g_me_quoted, g_sl_Mac_7, trivial⟩) mixes Tryd.func24 (by kernel_rfl) (by kernel_rfl) ?_
  rintro A K ⟨r, kd, ky, lk, dd, h, l, b, hA, hl, hK⟩
  refine ⟨_, _, _, _, fun _ => none, hA, hK, by kernel_rfl, by kernel_rfl, ⟨rfl, trivial⟩, ⟨fun _ _ => trivial, trivial⟩, own_res (fun _ _ => trivial) trivial, ?_⟩
  repeat (first | ((conv => whnf); refine And.intro ?_ ?_; exact sideOf) | ((conv => whnf); refine NilE.some ?_ ?_; exact sideOf) | ((conv => whnf); refine And.intro (fun _ => ?_) (fun h => nomatch (show true = false from h))) | ((conv => whnf); refine And.intro (fun h => nomatch (show false = true from h)) (fun _ => ?_)) | ((conv => whnf); first | (apply Exists.intro; (repeat apply Exists.intro); refine And.intro ?_ ?_; exact leOf) | (refine Or.inl ?_; (conv => whnf); (repeat apply Exists.intro); refine And.intro ?_ ?_; exact leOf) | (refine Or.inr ?_; (conv => whnf); first | ((repeat apply Exists.intro); refine And.intro ?_ ?_; exact leOf) | (refine Or.inl ?_; (conv => whnf); (repeat apply Exists.intro); refine And.intro ?_ ?_; exact leOf) | (refine Or.inr ?_; (conv => whnf); (repeat apply Exists.intro); refine And.intro ?_ ?_; exact leOf))) | ((conv => whnf); first | refine And.intro (by assumption) ?_ | refine goT ?_ | refine goF ?_ | refine goL ?_ | refine goR ?_ | refine goRL ?_ | refine goRR ?_))
  all_goals try (conv => whnf)
  (refine out_fnd ?_; (repeat' ((conv => whnf) <;> first | exact trivial | (with_reducible first | refine And.intro ?_ ?_ | refine rows_lt1 ?_ | refine rows_lt2 ?_ ?_ | refine rows_lt3 ?_ ?_ ?_ | refine rows_lt4 ?_ ?_ ?_ ?_ | refine rows_lt5 ?_ ?_ ?_ ?_ ?_ | refine ints_lt1 ?_ | refine ints_lt2 ?_ ?_ | refine ints_lt3 ?_ ?_ ?_ | refine rows_lt7 ?_ ?_ ?_ ?_ ?_ ?_ ?_ | refine aggs_lt1 ?_ | refine aggs_lt2 ?_ ?_ | refine aggs_lt3 ?_ ?_ ?_ | refine fun (_ : Nat) => ?_) | refine fun (_ : (_ : Nat) < _) => ?_ | exact rfl | exact Nat.le_of_ble_eq_true rfl | (change (_ : Nat) ≤ _; omega) | (change (_ : Nat) = _; omega) | (change (_ : Int) = _; omega))); (all_goals try (conv => whnf)))
  exact qt_mac _ _ _ _ _ _
def C_sl_check_n : SpecP := fun A K => ∃ l, A [.nilp, intS l] ∧ K (.nat 3)
theorem g_sl_check_n : Gd 35 (pureP ty C_sl_check_n) := by
  refine goodP (E := PG []) (pgOK trivial) mixes Tryd.func35 (by kernel_rfl) (by kernel_rfl) ?_
  rintro A K ⟨l, hA, hK⟩
  refine ⟨_, _, fun _ => none, hA, hK, by kernel_rfl, trivial, ?_⟩
  repeat (first | ((conv => whnf); refine And.intro ?_ ?_; exact sideOf) | ((conv => whnf); refine NilE.some ?_ ?_; exact sideOf) | ((conv => whnf); refine And.intro (fun _ => ?_) (fun h => nomatch (show true = false from h))) | ((conv => whnf); refine And.intro (fun h => nomatch (show false = true from h)) (fun _ => ?_)) | ((conv => whnf); first | (apply Exists.intro; (repeat apply Exists.intro); refine And.intro ?_ ?_; exact leOf) | (refine Or.inl ?_; (conv => whnf); (repeat apply Exists.intro); refine And.intro ?_ ?_; exact leOf) | (refine Or.inr ?_; (conv => whnf); first | ((repeat apply Exists.intro); refine And.intro ?_ ?_; exact leOf) | (refine Or.inl ?_; (conv => whnf); (repeat apply Exists.intro); refine And.intro ?_ ?_; exact leOf) | (refine Or.inr ?_; (conv => whnf); (repeat apply Exists.intro); refine And.intro ?_ ?_; exact leOf))) | ((conv => whnf); first | refine And.intro (by assumption) ?_ | refine goT ?_ | refine goF ?_ | refine goL ?_ | refine goR ?_ | refine goRL ?_ | refine goRR ?_))
  all_goals try (conv => whnf)
  ((repeat' ((conv => whnf) <;> first | exact trivial | (with_reducible first | refine And.intro ?_ ?_ | refine rows_lt1 ?_ | refine rows_lt2 ?_ ?_ | refine rows_lt3 ?_ ?_ ?_ | refine rows_lt4 ?_ ?_ ?_ ?_ | refine rows_lt5 ?_ ?_ ?_ ?_ ?_ | refine ints_lt1 ?_ | refine ints_lt2 ?_ ?_ | refine ints_lt3 ?_ ?_ ?_ | refine rows_lt7 ?_ ?_ ?_ ?_ ?_ ?_ ?_ | refine aggs_lt1 ?_ | refine aggs_lt2 ?_ ?_ | refine aggs_lt3 ?_ ?_ ?_ | refine fun (_ : Nat) => ?_) | refine fun (_ : (_ : Nat) < _) => ?_ | exact rfl | exact Nat.le_of_ble_eq_true rfl | (change (_ : Nat) ≤ _; omega) | (change (_ : Nat) = _; omega) | (change (_ : Int) = _; omega))); (all_goals try (conv => whnf)))
def C_sl_check_n1 : SpecP := fun A K => ∃ h, A [.nilp, int1 h] ∧ K (.nat 3)
theorem g_sl_check_n1 : Gd 35 (pureP ty C_sl_check_n1) := good_imp g_sl_check_n fun args m key K ⟨h, hA, hK⟩ => ⟨[h], hA, hK⟩
def C_sl_checkKey_n : SpecP := fun A K => ∃ h, A [.nilp, .int h] ∧ K (.nat 3)
theorem g_sl_checkKey_n : Gd 37 (pureP ty C_sl_checkKey_n) := by
  refine goodP (E := PG [(35, pureP ty C_sl_check_n1)]) (pgOK ⟨g_sl_check_n1, trivial⟩) mixes Tryd.func37 (by kernel_rfl) (by kernel_rfl) ?_
  rintro A K ⟨l, hA, hK⟩
  refine ⟨_, _, fun _ => none, hA, hK, by kernel_rfl, trivial, ?_⟩
  repeat (first | ((conv => whnf); refine And.intro ?_ ?_; exact sideOf) | ((conv => whnf); refine NilE.some ?_ ?_; exact sideOf) | ((conv => whnf); refine And.intro (fun _ => ?_) (fun h => nomatch (show true = false from h))) | ((conv => whnf); refine And.intro (fun h => nomatch (show false = true from h)) (fun _ => ?_)) | ((conv => whnf); first | (apply Exists.intro; (repeat apply Exists.intro); refine And.intro ?_ ?_; exact leOf) | (refine Or.inl ?_; (conv => whnf); (repeat apply Exists.intro); refine And.intro ?_ ?_; exact leOf) | (refine Or.inr ?_; (conv => whnf); first | ((repeat apply Exists.intro); refine And.intro ?_ ?_; exact leOf) | (refine Or.inl ?_; (conv => whnf); (repeat apply Exists.intro); refine And.intro ?_ ?_; exact leOf) | (refine Or.inr ?_; (conv => whnf); (repeat apply Exists.intro); refine And.intro ?_ ?_; exact leOf))) | ((conv => whnf); first | refine And.intro (by assumption) ?_ | refine goT ?_ | refine goF ?_ | refine goL ?_ | refine goR ?_ | refine goRL ?_ | refine goRR ?_))
  all_goals try (conv => whnf)
  ((repeat' ((conv => whnf) <;> first | exact trivial | (with_reducible first | refine And.intro ?_ ?_ | refine rows_lt1 ?_ | refine rows_lt2 ?_ ?_ | refine rows_lt3 ?_ ?_ ?_ | refine rows_lt4 ?_ ?_ ?_ ?_ | refine rows_lt5 ?_ ?_ ?_ ?_ ?_ | refine ints_lt1 ?_ | refine ints_lt2 ?_ ?_ | refine ints_lt3 ?_ ?_ ?_ | refine rows_lt7 ?_ ?_ ?_ ?_ ?_ ?_ ?_ | refine aggs_lt1 ?_ | refine aggs_lt2 ?_ ?_ | refine aggs_lt3 ?_ ?_ ?_ | refine fun (_ : Nat) => ?_) | refine fun (_ : (_ : Nat) < _) => ?_ | exact rfl | exact Nat.le_of_ble_eq_true rfl | (change (_ : Nat) ≤ _; omega) | (change (_ : Nat) = _; omega) | (change (_ : Int) = _; omega))); (all_goals try (conv => whnf)))
def C_sl_Mac_n7 : SpecP := fun A K => ∃ h l0 l1 l2 l3 l4 l5 l6 b0 b1 b2 b3 b4 b5 b6, A [.nilp, .int h, prs7 l0 l1 l2 l3 l4 l5 l6 b0 b1 b2 b3 b4 b5 b6] ∧ K (tupOf [arr8 32 fun _ => 0, .nat 3])
theorem g_sl_Mac_n7 : Gd 16 (pureP ty C_sl_Mac_n7) := by
  refine goodP (E := PG [(37, pureP ty C_sl_checkKey_n)]) (pgOK ⟨g_sl_checkKey_n, trivial⟩) mixes Tryd.func16 (by kernel_rfl) (by kernel_rfl) ?_
  rintro A K ⟨h, l0, l1, l2, l3, l4, l5, l6, b0, b1, b2, b3, b4, b5, b6, hA, hK⟩
  refine ⟨_, _, fun _ => none, hA, hK, by kernel_rfl, own_res (fun _ _ => trivial) trivial, ?_⟩
  repeat (first | ((conv => whnf); refine And.intro ?_ ?_; exact sideOf) | ((conv => whnf); refine NilE.some ?_ ?_; exact sideOf) | ((conv => whnf); refine And.intro (fun _ => ?_) (fun h => nomatch (show true = false from h))) | ((conv => whnf); refine And.intro (fun h => nomatch (show false = true from h)) (fun _ => ?_)) | ((conv => whnf); first | (apply Exists.intro; (repeat apply Exists.intro); refine And.intro ?_ ?_; exact leOf) | (refine Or.inl ?_; (conv => whnf); (repeat apply Exists.intro); refine And.intro ?_ ?_; exact leOf) | (refine Or.inr ?_; (conv => whnf); first | ((repeat apply Exists.intro); refine And.intro ?_ ?_; exact leOf) | (refine Or.inl ?_; (conv => whnf); (repeat apply Exists.intro); refine And.intro ?_ ?_; exact leOf) | (refine Or.inr ?_; (conv => whnf); (repeat apply Exists.intro); refine And.intro ?_ ?_; exact leOf))) | ((conv => whnf); first | refine And.intro (by assumption) ?_ | refine goT ?_ | refine goF ?_ | refine goL ?_ | refine goR ?_ | refine goRL ?_ | refine goRR ?_))
  all_goals try (conv => whnf)
  ((repeat' ((conv => whnf) <;> first | exact trivial | (with_reducible first | refine And.intro ?_ ?_ | refine rows_lt1 ?_ | refine rows_lt2 ?_ ?_ | refine rows_lt3 ?_ ?_ ?_ | refine rows_lt4 ?_ ?_ ?_ ?_ | refine rows_lt5 ?_ ?_ ?_ ?_ ?_ | refine ints_lt1 ?_ | refine ints_lt2 ?_ ?_ | refine ints_lt3 ?_ ?_ ?_ | refine rows_lt7 ?_ ?_ ?_ ?_ ?_ ?_ ?_ | refine aggs_lt1 ?_ | refine aggs_lt2 ?_ ?_ | refine aggs_lt3 ?_ ?_ ?_ | refine fun (_ : Nat) => ?_) | refine fun (_ : (_ : Nat) < _) => ?_ | exact rfl | exact Nat.le_of_ble_eq_true rfl | (change (_ : Nat) ≤ _; omega) | (change (_ : Nat) = _; omega) | (change (_ : Int) = _; omega))); (all_goals try (conv => whnf)))
def C_me_Quote_n : SpecM := fun A K => ∃ r h l b, A [meA r, .nilp, .int h, .gsl 5 0 l] [(0, .grow 5 l (bys b))] ∧ l ≤ 1000 ∧ K (tupOf [arr8 32 fun _ => 0, .nat 3]) [(0, .grow 5 l (bys b))]
theorem g_me_Quote_n : Gd 24 (mutD ty [false, false, false, true] C_me_Quote_n) := by
  refine goodD (E := PG [(45, mutD ty [true, false] C_me_quoted), (16, pureP ty C_sl_Mac_n7)]) (pgOK ⟨g_me_quoted, g_sl_Mac_n7, trivial⟩) mixes Tryd.func24 (by kernel_rfl) (by kernel_rfl) ?_
  rintro A K ⟨r, h, l, b, hA, hl, hK⟩
  refine ⟨_, _, _, _, fun _ => none, hA, hK, by kernel_rfl, by kernel_rfl, ⟨rfl, trivial⟩, ⟨fun _ _ => trivial, trivial⟩, own_res (fun _ _ => trivial) trivial, ?_⟩
  repeat (first | ((conv => whnf); refine And.intro ?_ ?_; exact sideOf) | ((conv => whnf); refine NilE.some ?_ ?_; exact sideOf) | ((conv => whnf); refine And.intro (fun _ => ?_) (fun h => nomatch (show true = false from h))) | ((conv => whnf); refine And.intro (fun h => nomatch (show false = true from h)) (fun _ => ?_)) | ((conv => whnf); first | (apply Exists.intro; (repeat apply Exists.intro); refine And.intro ?_ ?_; exact leOf) | (refine Or.inl ?_; (conv => whnf); (repeat apply Exists.intro); refine And.intro ?_ ?_; exact leOf) | (refine Or.inr ?_; (conv => whnf); first | ((repeat apply Exists.intro); refine And.intro ?_ ?_; exact leOf) | (refine Or.inl ?_; (conv => whnf); (repeat apply Exists.intro); refine And.intro ?_ ?_; exact leOf) | (refine Or.inr ?_; (conv => whnf); (repeat apply Exists.intro); refine And.intro ?_ ?_; exact leOf))) | ((conv => whnf); first | refine And.intro (by assumption) ?_ | refine goT ?_ | refine goF ?_ | refine goL ?_ | refine goR ?_ | refine goRL ?_ | refine goRR ?_))
  all_goals try (conv => whnf)
  (refine out_fnd ?_; (repeat' ((conv => whnf) <;> first | exact trivial | (with_reducible first | refine And.intro ?_ ?_ | refine rows_lt1 ?_ | refine rows_lt2 ?_ ?_ | refine rows_lt3 ?_ ?_ ?_ | refine rows_lt4 ?_ ?_ ?_ ?_ | refine rows_lt5 ?_ ?_ ?_ ?_ ?_ | refine ints_lt1 ?_ | refine ints_lt2 ?_ ?_ | refine ints_lt3 ?_ ?_ ?_ | refine rows_lt7 ?_ ?_ ?_ ?_ ?_ ?_ ?_ | refine aggs_lt1 ?_ | refine aggs_lt2 ?_ ?_ | refine aggs_lt3 ?_ ?_ ?_ | refine fun (_ : Nat) => ?_) | refine fun (_ : (_ : Nat) < _) => ?_ | exact rfl | exact Nat.le_of_ble_eq_true rfl | (change (_ : Nat) ≤ _; omega) | (change (_ : Nat) = _; omega) | (change (_ : Int) = _; omega))); (all_goals try (conv => whnf)))
attribute [local irreducible] QM
def C_me_Check : SpecM := fun A K => ∃ key l b r q, A [bsl 32 key, .gsl 5 0 l, d4A r, arr8 32 q] [(0, .grow 5 l (bys b))] ∧ l ≤ 1000 ∧ K (.bo (eqB (arr8 32 (QM key l b r)) (arr8 32 q))) [(0, .grow 5 l (bys b))]
theorem g_me_Check : Gd 28 (mutD ty [false, true, false, false] C_me_Check) := by
  refine goodD (E := PG [(45, mutD ty [true, false] C_me_quoted), (38, pureP ty C_mac_Sum_7), (46, pureP ty C_mac_Equal)]) (pgOK ⟨g_me_quoted, g_mac_Sum_7, g_mac_Equal, trivial⟩) mixes Tryd.func28 (by kernel_rfl) (by kernel_rfl) ?_
  rintro A K ⟨key, l, b, r, q, hA, hl, hK⟩
  refine ⟨_, _, _, _, fun _ => none, hA, hK, by kernel_rfl, by kernel_rfl, ⟨rfl, trivial⟩, ⟨fun _ _ => trivial, trivial⟩, trivial, ?_⟩
  repeat (first | ((conv => whnf); refine And.intro ?_ ?_; exact sideOf) | ((conv => whnf); refine NilE.some ?_ ?_; exact sideOf) | ((conv => whnf); refine And.intro (fun _ => ?_) (fun h => nomatch (show true = false from h))) | ((conv => whnf); refine And.intro (fun h => nomatch (show false = true from h)) (fun _ => ?_)) | ((conv => whnf); first | (apply Exists.intro; (repeat apply Exists.intro); refine And.intro ?_ ?_; exact leOf) | (refine Or.inl ?_; (conv => whnf); (repeat apply Exists.intro); refine And.intro ?_ ?_; exact leOf) | (refine Or.inr ?_; (conv => whnf); first | ((repeat apply Exists.intro); refine And.intro ?_ ?_; exact leOf) | (refine Or.inl ?_; (conv => whnf); (repeat apply Exists.intro); refine And.intro ?_ ?_; exact leOf) | (refine Or.inr ?_; (conv => whnf); (repeat apply Exists.intro); refine And.intro ?_ ?_; exact leOf))) | ((conv => whnf); first | refine And.intro (by assumption) ?_ | refine goT ?_ | refine goF ?_ | refine goL ?_ | refine goR ?_ | refine goRL ?_ | refine goRR ?_))
  all_goals try (conv => whnf)
  (refine out_fnd ?_; (repeat' ((conv => whnf) <;> first | exact trivial | (with_reducible first | refine And.intro ?_ ?_ | refine rows_lt1 ?_ | refine rows_lt2 ?_ ?_ | refine rows_lt3 ?_ ?_ ?_ | refine rows_lt4 ?_ ?_ ?_ ?_ | refine rows_lt5 ?_ ?_ ?_ ?_ ?_ | refine ints_lt1 ?_ | refine ints_lt2 ?_ ?_ | refine ints_lt3 ?_ ?_ ?_ | refine rows_lt7 ?_ ?_ ?_ ?_ ?_ ?_ ?_ | refine aggs_lt1 ?_ | refine aggs_lt2 ?_ ?_ | refine aggs_lt3 ?_ ?_ ?_ | refine fun (_ : Nat) => ?_) | refine fun (_ : (_ : Nat) < _) => ?_ | exact rfl | exact Nat.le_of_ble_eq_true rfl | (change (_ : Nat) ≤ _; omega) | (change (_ : Nat) = _; omega) | (change (_ : Int) = _; omega))); (all_goals try (conv => whnf)))
  exact qt_chk _ _ _ _ _
def C_l16_sum : SpecP := fun A K => ∃ key l b r, A [arr8 32 key, bsl l b, d4A r] ∧ l ≤ 1000 ∧ K (arr8 32 (QM key l b r))
theorem g_l16_sum : Gd 29 (pureP ty C_l16_sum) := by
  refine goodP (E := PG [(27, pureP ty C_r1_Num), (26, pureR ty C_r1_Join_7), (17, pureP ty C_r2_Sum)]) (pgOK ⟨g_r1_Num, g_r1_Join_7, g_r2_Sum, trivial⟩) mixes Tryd.func29 (by kernel_rfl) (by kernel_rfl) ?_
  rintro A K ⟨key, l, b, r, hA, hl, hK⟩
  refine ⟨_, _, fun _ => none, hA, hK, by kernel_rfl, fun _ _ => trivial, ?_⟩
  repeat (first | ((conv => whnf); refine And.intro ?_ ?_; exact sideOf) | ((conv => whnf); refine NilE.some ?_ ?_; exact sideOf) | ((conv => whnf); refine And.intro (fun _ => ?_) (fun h => nomatch (show true = false from h))) | ((conv => whnf); refine And.intro (fun h => nomatch (show false = true from h)) (fun _ => ?_)) | ((conv => whnf); first | (apply Exists.intro; (repeat apply Exists.intro); refine And.intro ?_ ?_; exact leOf) | (refine Or.inl ?_; (conv => whnf); (repeat apply Exists.intro); refine And.intro ?_ ?_; exact leOf) | (refine Or.inr ?_; (conv => whnf); first | ((repeat apply Exists.intro); refine And.intro ?_ ?_; exact leOf) | (refine Or.inl ?_; (conv => whnf); (repeat apply Exists.intro); refine And.intro ?_ ?_; exact leOf) | (refine Or.inr ?_; (conv => whnf); (repeat apply Exists.intro); refine And.intro ?_ ?_; exact leOf))) | ((conv => whnf); first | refine And.intro (by assumption) ?_ | refine goT ?_ | refine goF ?_ | refine goL ?_ | refine goR ?_ | refine goRL ?_ | refine goRR ?_))
  all_goals try (conv => whnf)
  ((repeat' ((conv => whnf) <;> first | exact trivial | (with_reducible first | refine And.intro ?_ ?_ | refine rows_lt1 ?_ | refine rows_lt2 ?_ ?_ | refine rows_lt3 ?_ ?_ ?_ | refine rows_lt4 ?_ ?_ ?_ ?_ | refine rows_lt5 ?_ ?_ ?_ ?_ ?_ | refine ints_lt1 ?_ | refine ints_lt2 ?_ ?_ | refine ints_lt3 ?_ ?_ ?_ | refine rows_lt7 ?_ ?_ ?_ ?_ ?_ ?_ ?_ | refine aggs_lt1 ?_ | refine aggs_lt2 ?_ ?_ | refine aggs_lt3 ?_ ?_ ?_ | refine fun (_ : Nat) => ?_) | refine fun (_ : (_ : Nat) < _) => ?_ | exact rfl | exact Nat.le_of_ble_eq_true rfl | (change (_ : Nat) ≤ _; omega) | (change (_ : Nat) = _; omega) | (change (_ : Int) = _; omega))); (all_goals try (conv => whnf)))
  exact qt_sum _ _ _ _ _
def C_l16_next : SpecP := fun A K => ∃ v l b, A [arr8 32 v, bsl l b] ∧ l ≤ 1000 ∧ K (arr8 32 (exV v l b))
theorem g_l16_next : Gd 42 (pureP ty C_l16_next) := by
  refine goodP (E := PG [(39, pureP ty C_r1_Sum), (26, pureR ty C_r1_Join_2)]) (pgOK ⟨g_r1_Sum, g_r1_Join_2, trivial⟩) mixes Tryd.func42 (by kernel_rfl) (by kernel_rfl) ?_
  rintro A K ⟨v, l, b, hA, hl, hK⟩
  refine ⟨_, _, fun _ => none, hA, hK, by kernel_rfl, fun _ _ => trivial, ?_⟩
  repeat (first | ((conv => whnf); refine And.intro ?_ ?_; exact sideOf) | ((conv => whnf); refine NilE.some ?_ ?_; exact sideOf) | ((conv => whnf); refine And.intro (fun _ => ?_) (fun h => nomatch (show true = false from h))) | ((conv => whnf); refine And.intro (fun h => nomatch (show false = true from h)) (fun _ => ?_)) | ((conv => whnf); first | (apply Exists.intro; (repeat apply Exists.intro); refine And.intro ?_ ?_; exact leOf) | (refine Or.inl ?_; (conv => whnf); (repeat apply Exists.intro); refine And.intro ?_ ?_; exact leOf) | (refine Or.inr ?_; (conv => whnf); first | ((repeat apply Exists.intro); refine And.intro ?_ ?_; exact leOf) | (refine Or.inl ?_; (conv => whnf); (repeat apply Exists.intro); refine And.intro ?_ ?_; exact leOf) | (refine Or.inr ?_; (conv => whnf); (repeat apply Exists.intro); refine And.intro ?_ ?_; exact leOf))) | ((conv => whnf); first | refine And.intro (by assumption) ?_ | refine goT ?_ | refine goF ?_ | refine goL ?_ | refine goR ?_ | refine goRL ?_ | refine goRR ?_))
  all_goals try (conv => whnf)
  ((repeat' ((conv => whnf) <;> first | exact trivial | (with_reducible first | refine And.intro ?_ ?_ | refine rows_lt1 ?_ | refine rows_lt2 ?_ ?_ | refine rows_lt3 ?_ ?_ ?_ | refine rows_lt4 ?_ ?_ ?_ ?_ | refine rows_lt5 ?_ ?_ ?_ ?_ ?_ | refine ints_lt1 ?_ | refine ints_lt2 ?_ ?_ | refine ints_lt3 ?_ ?_ ?_ | refine rows_lt7 ?_ ?_ ?_ ?_ ?_ ?_ ?_ | refine aggs_lt1 ?_ | refine aggs_lt2 ?_ ?_ | refine aggs_lt3 ?_ ?_ ?_ | refine fun (_ : Nat) => ?_) | refine fun (_ : (_ : Nat) < _) => ?_ | exact rfl | exact Nat.le_of_ble_eq_true rfl | (change (_ : Nat) ≤ _; omega) | (change (_ : Nat) = _; omega) | (change (_ : Int) = _; omega))); (all_goals try (conv => whnf)))
  exact ex_next _ _ _ _
def C_l16_awake : SpecP := fun A K => A [] ∧ K (.bo true)
theorem g_l16_awake : Gd 20 (pureP ty C_l16_awake) := by
  refine goodP (E := PG [(21, pureP ty C_me_New), (22, pureP ty C_me_Extend), (41, pureP ty C_me_Get), (42, pureP ty C_l16_next)]) (pgOK ⟨g_me_New, g_me_Extend, g_me_Get, g_l16_next, trivial⟩) mixes Tryd.func20 (by kernel_rfl) (by kernel_rfl) ?_
  rintro A K ⟨hA, hK⟩
  refine ⟨_, _, fun _ => none, hA, hK, by kernel_rfl, trivial, ?_⟩
  repeat (first | ((conv => whnf); refine And.intro ?_ ?_; exact sideOf) | ((conv => whnf); refine NilE.some ?_ ?_; exact sideOf) | ((conv => whnf); refine And.intro (fun _ => ?_) (fun h => nomatch (show true = false from h))) | ((conv => whnf); refine And.intro (fun h => nomatch (show false = true from h)) (fun _ => ?_)) | ((conv => whnf); first | (apply Exists.intro; (repeat apply Exists.intro); refine And.intro ?_ ?_; exact leOf) | (refine Or.inl ?_; (conv => whnf); (repeat apply Exists.intro); refine And.intro ?_ ?_; exact leOf) | (refine Or.inr ?_; (conv => whnf); first | ((repeat apply Exists.intro); refine And.intro ?_ ?_; exact leOf) | (refine Or.inl ?_; (conv => whnf); (repeat apply Exists.intro); refine And.intro ?_ ?_; exact leOf) | (refine Or.inr ?_; (conv => whnf); (repeat apply Exists.intro); refine And.intro ?_ ?_; exact leOf))) | ((conv => whnf); first | refine And.intro (by assumption) ?_ | refine goT ?_ | refine goF ?_ | refine goL ?_ | refine goR ?_ | refine goRL ?_ | refine goRR ?_))
  all_goals try (conv => whnf)
  refine eqB_agg fun i hi => ?_
  exact ex_at (fun _ _ => 0) _ _ 0 i
/-! ### The law -/
/-- What comes in: lengths. -/
theorem lenM_of {c : Cx} {fr : Bool} {et : Ty} {l : Nat} {f : Nat → AV} {v : Value} (h : RV c (.imm fr et l f) v) : l ≤ maxLen := by
  obtain ⟨A, q, _, h1, h2, _⟩ := (show R c _ _ from h)
  exact Nat.le_trans h1 h2
theorem inM2 {c : Cx} {fr fr' u : Bool} {et et' : Ty} {l l' n i : Nat} {f f' g : Nat → AV} {v : Value} (h : RV c (.imm fr et l f) v) {k : Nat} (hk : k < l) (e : f k = .agg u n g) (hin : i < n) (e' : g i = .imm fr' et' l' f') : l' ≤ maxLen := by
  obtain ⟨A, q, _, h1, h2, h3⟩ := (show R c _ _ from h)
  obtain ⟨b, o, _, _, _, _, hi⟩ := h3 (by omega)
  obtain ⟨_, ds, hr, _⟩ := hi k hk
  rw [e] at hr
  obtain ⟨w, hw, _⟩ := hr
  have hr := hw i hin
  rw [e'] at hr
  obtain ⟨A, q, _, h1, h2, _⟩ := hr
  exact Nat.le_trans h1 h2
structure Acts16 where
  i : Nat → Int
  l : Nat → Nat
  b : Nat → Nat → BitVec 8
abbrev TA16 : Ty := ty 61
abbrev act16 (n : Nat) (g : Acts16) : AV := .imm false TA16 n (fun k => .agg false 2 (nth .junk [.int (g.i k), bsl (g.l k) (g.b k)]))
structure GM where
  k : Nat
  r : Nat → Nat → BitVec 8
def L_MQ (key : Nat → BitVec 8) (n : Nat) (g : Acts16) (l : Nat) (b : Nat → BitVec 8) (l' : Nat) (b' : Nat → BitVec 8) (at' tn : BitVec 8) : LI := ⟨GM, fun p => p.k ≤ n, fun p => [(2, bsl l b), (3, bsl l' b'), (4, .u8 at'), (5, .u8 tn), (6, .ptr TD 8 []), (13, .ptr TMe 2064 []), (29, act16 n g), (30, .nat n), (31, .nat p.k)],
  fun p => [(8, .var TD (arr8 32 key)), (2064, .var TMe (meA p.r))], fun p => n - p.k, some, some⟩
def bentF (r : Nat → Nat → BitVec 8) (a c : Nat) (tn : BitVec 8) (j x : Nat) : BitVec 8 := if j = a then (if x = c then r a c ^^^ tn else r a x) else r j x
def L_MQ20 (key : Nat → BitVec 8) (l : Nat) (b : Nat → BitVec 8) (l' : Nat) (b' : Nat → BitVec 8) (at' tn : BitVec 8) : LI := ⟨GM, fun _ => True, fun p => [(2, .gsl 5 3097 (min l 40)), (3, .gsl 5 3113 (min l' 40)), (5, .u8 tn), (6, .ptr TD 8 []), (17, .ptr TD 6217 []), (18, .nat 0), (20, .nat 3), (22, .nat 3), (23, .ptr T4D 9249 []), (24, .ptr TD 10409 []), (25, .ptr T4D 11289 [])],
  fun p => [(8, .var TD (arr8 32 key)), (3097, .grow 5 (min l 40) (bys b)), (3113, .grow 5 (min l' 40) (bys b')), (6217, .var TD (arr8 32 (QM key (min l 40) b p.r))), (9249, .var T4D (d4A p.r)), (10409, .var TD (arr8 32 (QM key (min l 40) b p.r))), (11289, .var T4D (d4A (bentF p.r (at' % BitVec.ofInt 8 4).toNat (at' / BitVec.ofInt 8 4 % BitVec.ofInt 8 32).toNat tn)))], fun _ => 0, some, some⟩
def C_l16_MeasQuotes : SpecP := fun A K => ∃ key n g l b l' b' at' tn, A [arr8 32 key, act16 n g, bsl l b, bsl l' b', .u8 at', .u8 tn] ∧ n ≤ maxLen ∧ (∀ k, k < n → g.l k ≤ maxLen) ∧ l ≤ maxLen ∧ l' ≤ maxLen ∧ K (.bo true)
theorem qm_same (key : Nat → BitVec 8) {l l' : Nat} {b b' : Nat → BitVec 8} (r : Nat → Nat → BitVec 8) (h : lw l b = lw l' b') : QM key l' b' r = QM key l b r := by
  have e : l = l' := by have := congrArg List.length h; rwa [lw_len, lw_len] at this
  subst e
  unfold QM qtP cat
  simp only [List.flatMap_cons, h]
theorem bent_same (r : Nat → Nat → BitVec 8) (a c : Nat) {tn : BitVec 8} (h : tn = BitVec.ofInt 8 0) : bentF r a c tn = r := by
  funext j x
  unfold bentF
  subst h
  by_cases e : j = a
  · rw [if_pos e]
    by_cases e2 : x = c
    · rw [if_pos e2, e, e2]; exact BitVec.xor_zero
    · rw [if_neg e2, e]
  · rw [if_neg e]
theorem eqBr (f g : Nat → BitVec 8) (h : f = g) : eqB (AV.agg true 32 (bys f)) (AV.agg true 32 (bys g)) = true := by rw [h]; exact eqB_agg fun _ _ => rfl
theorem m2k (key : Nat → BitVec 8) : keyE (layS sl0 2 2 key) 2 = 0 := rfl
theorem m2n (key : Nat → BitVec 8) : keyE (layS sl0 2 2 key) 1 = 3 := rfl
theorem m2d (key : Nat → BitVec 8) (l : Nat) (b : Nat → BitVec 8) (r : Nat → Nat → BitVec 8) (x : Nat) : macD (layS sl0 2 2 key) 2 (qtP l b r) x = QM key l b r x := by
  unfold QM macD
  rw [if_pos (m2k key)]
  rfl
theorem g_l16_MeasQuotes : Gd 5 (pureP ty C_l16_MeasQuotes) := by
  refine goodP (E := PG [(20, pureP ty C_l16_awake), (21, pureP ty C_me_New), (23, pureR ty C_r1_Cut), (22, pureP ty C_me_Extend), (7, pureR ty C_sl_New), (12, mutD ty [true, false, false, false] C_sl_Lay), (24, orC (mutD ty [false, false, false, true] C_me_Quote) (mutD ty [false, false, false, true] C_me_Quote_n)), (25, pureP ty C_me_All), (27, pureP ty C_r1_Num), (26, pureR ty C_r1_Join_7), (17, pureP ty C_r2_Sum), (28, mutD ty [false, true, false, false] C_me_Check), (29, pureP ty C_l16_sum), (30, pureP ty C_r1_Same)]) (pgOK ⟨g_l16_awake, g_me_New, g_r1_Cut, g_me_Extend, g_sl_New, g_sl_Lay, (good_or g_me_Quote g_me_Quote_n), g_me_All, g_r1_Num, g_r1_Join_7, g_r2_Sum, g_me_Check, g_l16_sum, g_r1_Same, trivial⟩) mixes Tryd.func5 (by kernel_rfl) (by kernel_rfl) ?_
  rintro A K ⟨key, n, g, l, b, l', b', at', tn, hA, hn, hg, hl, hl', hK⟩
  have hm : maxLen = 9223372036854775807 := by decide
  refine ⟨_, _, loops [(5, L_MQ key n g l b l' b' at' tn), (100020, L_MQ20 key l b l' b' at' tn)], hA, hK, by kernel_rfl, trivial, ?_⟩
  repeat (first | ((conv => whnf); refine And.intro ?_ ?_; exact sideOf) | ((conv => whnf); refine NilE.some ?_ ?_; exact sideOf) | ((conv => whnf); refine And.intro (fun _ => ?_) (fun h => nomatch (show true = false from h))) | ((conv => whnf); refine And.intro (fun h => nomatch (show false = true from h)) (fun _ => ?_)) | ((conv => whnf); first | (apply Exists.intro; (repeat apply Exists.intro); refine And.intro ?_ ?_; exact leOf) | (refine Or.inl ?_; (conv => whnf); (repeat apply Exists.intro); refine And.intro ?_ ?_; exact leOf) | (refine Or.inr ?_; (conv => whnf); first | ((repeat apply Exists.intro); refine And.intro ?_ ?_; exact leOf) | (refine Or.inl ?_; (conv => whnf); (repeat apply Exists.intro); refine And.intro ?_ ?_; exact leOf) | (refine Or.inr ?_; (conv => whnf); (repeat apply Exists.intro); refine And.intro ?_ ?_; exact leOf))) | ((conv => whnf); first | refine And.intro (by assumption) ?_ | refine goT ?_ | refine goF ?_ | refine goL ?_ | refine goR ?_ | refine goRL ?_ | refine goRR ?_))
  all_goals try (conv => whnf)
  refine Exists.intro (fun _ => True) (And.intro (Enter.mk (⟨0, fun _ _ => 0⟩ : GM) (Nat.zero_le _) trivial ?_) (fun (p : GM) (hp : p.k ≤ n) _ => ?_))
  · ((repeat' ((conv => whnf) <;> first | exact trivial | (with_reducible first | refine And.intro ?_ ?_ | refine rows_lt1 ?_ | refine rows_lt2 ?_ ?_ | refine rows_lt3 ?_ ?_ ?_ | refine rows_lt4 ?_ ?_ ?_ ?_ | refine rows_lt5 ?_ ?_ ?_ ?_ ?_ | refine ints_lt1 ?_ | refine ints_lt2 ?_ ?_ | refine ints_lt3 ?_ ?_ ?_ | refine rows_lt7 ?_ ?_ ?_ ?_ ?_ ?_ ?_ | refine aggs_lt1 ?_ | refine aggs_lt2 ?_ ?_ | refine aggs_lt3 ?_ ?_ ?_ | refine fun (_ : Nat) => ?_) | refine fun (_ : (_ : Nat) < _) => ?_ | exact rfl | exact Nat.le_of_ble_eq_true rfl | (change (_ : Nat) ≤ _; omega) | (change (_ : Nat) = _; omega) | (change (_ : Int) = _; omega))); (all_goals try (conv => whnf)))
  rcases Nat.lt_or_ge p.k n with h | h
  · have hgk := hg p.k h
    rcases Nat.lt_or_ge p.k 6 with h6 | h6
    · by_cases hi : InR (g.i p.k)
      · skip
        repeat (first | ((conv => whnf); refine And.intro ?_ ?_; exact sideOf) | ((conv => whnf); refine NilE.some ?_ ?_; exact sideOf) | ((conv => whnf); refine And.intro (fun _ => ?_) (fun h => nomatch (show true = false from h))) | ((conv => whnf); refine And.intro (fun h => nomatch (show false = true from h)) (fun _ => ?_)) | ((conv => whnf); first | (apply Exists.intro; (repeat apply Exists.intro); refine And.intro ?_ ?_; exact leOf) | (refine Or.inl ?_; (conv => whnf); (repeat apply Exists.intro); refine And.intro ?_ ?_; exact leOf) | (refine Or.inr ?_; (conv => whnf); first | ((repeat apply Exists.intro); refine And.intro ?_ ?_; exact leOf) | (refine Or.inl ?_; (conv => whnf); (repeat apply Exists.intro); refine And.intro ?_ ?_; exact leOf) | (refine Or.inr ?_; (conv => whnf); (repeat apply Exists.intro); refine And.intro ?_ ?_; exact leOf))) | ((conv => whnf); first | refine And.intro (by assumption) ?_ | refine goT ?_ | refine goF ?_ | refine goL ?_ | refine goR ?_ | refine goRL ?_ | refine goRR ?_))
        all_goals try (conv => whnf)
        refine Again.mk (⟨p.k + 1, exF p.r (g.i p.k).toNat (min (g.l p.k) 40) (g.b p.k)⟩ : GM) h trivial (show n - (p.k + 1) < n - p.k by omega) ?_
        ((repeat' ((conv => whnf) <;> first | exact trivial | (with_reducible first | refine And.intro ?_ ?_ | refine rows_lt1 ?_ | refine rows_lt2 ?_ ?_ | refine rows_lt3 ?_ ?_ ?_ | refine rows_lt4 ?_ ?_ ?_ ?_ | refine rows_lt5 ?_ ?_ ?_ ?_ ?_ | refine ints_lt1 ?_ | refine ints_lt2 ?_ ?_ | refine ints_lt3 ?_ ?_ ?_ | refine rows_lt7 ?_ ?_ ?_ ?_ ?_ ?_ ?_ | refine aggs_lt1 ?_ | refine aggs_lt2 ?_ ?_ | refine aggs_lt3 ?_ ?_ ?_ | refine fun (_ : Nat) => ?_) | refine fun (_ : (_ : Nat) < _) => ?_ | exact rfl | exact Nat.le_of_ble_eq_true rfl | (change (_ : Nat) ≤ _; omega) | (change (_ : Nat) = _; omega) | (change (_ : Int) = _; omega))); (all_goals try (conv => whnf)))
      · skip
        repeat (first | ((conv => whnf); refine And.intro ?_ ?_; exact sideOf) | ((conv => whnf); refine NilE.some ?_ ?_; exact sideOf) | ((conv => whnf); refine And.intro (fun _ => ?_) (fun h => nomatch (show true = false from h))) | ((conv => whnf); refine And.intro (fun h => nomatch (show false = true from h)) (fun _ => ?_)) | ((conv => whnf); first | (apply Exists.intro; (repeat apply Exists.intro); refine And.intro ?_ ?_; exact leOf) | (refine Or.inl ?_; (conv => whnf); (repeat apply Exists.intro); refine And.intro ?_ ?_; exact leOf) | (refine Or.inr ?_; (conv => whnf); first | ((repeat apply Exists.intro); refine And.intro ?_ ?_; exact leOf) | (refine Or.inl ?_; (conv => whnf); (repeat apply Exists.intro); refine And.intro ?_ ?_; exact leOf) | (refine Or.inr ?_; (conv => whnf); (repeat apply Exists.intro); refine And.intro ?_ ?_; exact leOf))) | ((conv => whnf); first | refine And.intro (by assumption) ?_ | refine goT ?_ | refine goF ?_ | refine goL ?_ | refine goR ?_ | refine goRL ?_ | refine goRR ?_))
        all_goals try (conv => whnf)
        refine Again.mk (⟨p.k + 1, p.r⟩ : GM) h trivial (show n - (p.k + 1) < n - p.k by omega) ?_
        ((repeat' ((conv => whnf) <;> first | exact trivial | (with_reducible first | refine And.intro ?_ ?_ | refine rows_lt1 ?_ | refine rows_lt2 ?_ ?_ | refine rows_lt3 ?_ ?_ ?_ | refine rows_lt4 ?_ ?_ ?_ ?_ | refine rows_lt5 ?_ ?_ ?_ ?_ ?_ | refine ints_lt1 ?_ | refine ints_lt2 ?_ ?_ | refine ints_lt3 ?_ ?_ ?_ | refine rows_lt7 ?_ ?_ ?_ ?_ ?_ ?_ ?_ | refine aggs_lt1 ?_ | refine aggs_lt2 ?_ ?_ | refine aggs_lt3 ?_ ?_ ?_ | refine fun (_ : Nat) => ?_) | refine fun (_ : (_ : Nat) < _) => ?_ | exact rfl | exact Nat.le_of_ble_eq_true rfl | (change (_ : Nat) ≤ _; omega) | (change (_ : Nat) = _; omega) | (change (_ : Int) = _; omega))); (all_goals try (conv => whnf)))
    · skip
      repeat (first | ((conv => whnf); refine And.intro ?_ ?_; exact sideOf) | ((conv => whnf); refine NilE.some ?_ ?_; exact sideOf) | ((conv => whnf); refine And.intro (fun _ => ?_) (fun h => nomatch (show true = false from h))) | ((conv => whnf); refine And.intro (fun h => nomatch (show false = true from h)) (fun _ => ?_)) | ((conv => whnf); first | (apply Exists.intro; (repeat apply Exists.intro); refine And.intro ?_ ?_; exact leOf) | (refine Or.inl ?_; (conv => whnf); (repeat apply Exists.intro); refine And.intro ?_ ?_; exact leOf) | (refine Or.inr ?_; (conv => whnf); first | ((repeat apply Exists.intro); refine And.intro ?_ ?_; exact leOf) | (refine Or.inl ?_; (conv => whnf); (repeat apply Exists.intro); refine And.intro ?_ ?_; exact leOf) | (refine Or.inr ?_; (conv => whnf); (repeat apply Exists.intro); refine And.intro ?_ ?_; exact leOf))) | ((conv => whnf); first | refine And.intro (by assumption) ?_ | refine goT ?_ | refine goF ?_ | refine goL ?_ | refine goR ?_ | refine goRL ?_ | refine goRR ?_))
      all_goals try (conv => whnf)
      refine Again.mk (⟨p.k + 1, p.r⟩ : GM) h trivial (show n - (p.k + 1) < n - p.k by omega) ?_
      ((repeat' ((conv => whnf) <;> first | exact trivial | (with_reducible first | refine And.intro ?_ ?_ | refine rows_lt1 ?_ | refine rows_lt2 ?_ ?_ | refine rows_lt3 ?_ ?_ ?_ | refine rows_lt4 ?_ ?_ ?_ ?_ | refine rows_lt5 ?_ ?_ ?_ ?_ ?_ | refine ints_lt1 ?_ | refine ints_lt2 ?_ ?_ | refine ints_lt3 ?_ ?_ ?_ | refine rows_lt7 ?_ ?_ ?_ ?_ ?_ ?_ ?_ | refine aggs_lt1 ?_ | refine aggs_lt2 ?_ ?_ | refine aggs_lt3 ?_ ?_ ?_ | refine fun (_ : Nat) => ?_) | refine fun (_ : (_ : Nat) < _) => ?_ | exact rfl | exact Nat.le_of_ble_eq_true rfl | (change (_ : Nat) ≤ _; omega) | (change (_ : Nat) = _; omega) | (change (_ : Int) = _; omega))); (all_goals try (conv => whnf)))
  have h : p.k = n := by omega
  have e1 := m2k key
  have e2 := m2n key
  have a1 : (at' % BitVec.ofInt 8 4).toNat < 4 := by rw [BitVec.toNat_umod]; exact Nat.mod_lt _ (by decide)
  have a2 : (at' / BitVec.ofInt 8 4 % BitVec.ofInt 8 32).toNat < 32 := by rw [BitVec.toNat_umod]; exact Nat.mod_lt _ (by decide)
  repeat (first | ((conv => whnf); refine And.intro ?_ ?_; exact sideOf) | ((conv => whnf); refine NilE.some ?_ ?_; exact sideOf) | ((conv => whnf); refine And.intro (fun _ => ?_) (fun h => nomatch (show true = false from h))) | ((conv => whnf); refine And.intro (fun h => nomatch (show false = true from h)) (fun _ => ?_)) | ((conv => whnf); first | (apply Exists.intro; (repeat apply Exists.intro); refine And.intro ?_ ?_; exact leOf) | (refine Or.inl ?_; (conv => whnf); (repeat apply Exists.intro); refine And.intro ?_ ?_; exact leOf) | (refine Or.inr ?_; (conv => whnf); first | ((repeat apply Exists.intro); refine And.intro ?_ ?_; exact leOf) | (refine Or.inl ?_; (conv => whnf); (repeat apply Exists.intro); refine And.intro ?_ ?_; exact leOf) | (refine Or.inr ?_; (conv => whnf); (repeat apply Exists.intro); refine And.intro ?_ ?_; exact leOf))) | ((conv => whnf); first | refine And.intro (by assumption) ?_ | refine goT ?_ | refine goF ?_ | refine goL ?_ | refine goR ?_ | refine goRL ?_ | refine goRR ?_))
  all_goals try (conv => whnf)
  refine Exists.intro (fun q => q = p) (And.intro ?_ ?_)
  · skip
    repeat (first | ((conv => whnf); refine And.intro ?_ ?_; exact sideOf) | ((conv => whnf); refine NilE.some ?_ ?_; exact sideOf) | ((conv => whnf); refine And.intro (fun _ => ?_) (fun h => nomatch (show true = false from h))) | ((conv => whnf); refine And.intro (fun h => nomatch (show false = true from h)) (fun _ => ?_)) | ((conv => whnf); first | (apply Exists.intro; (repeat apply Exists.intro); refine And.intro ?_ ?_; exact leOf) | (refine Or.inl ?_; (conv => whnf); (repeat apply Exists.intro); refine And.intro ?_ ?_; exact leOf) | (refine Or.inr ?_; (conv => whnf); first | ((repeat apply Exists.intro); refine And.intro ?_ ?_; exact leOf) | (refine Or.inl ?_; (conv => whnf); (repeat apply Exists.intro); refine And.intro ?_ ?_; exact leOf) | (refine Or.inr ?_; (conv => whnf); (repeat apply Exists.intro); refine And.intro ?_ ?_; exact leOf))) | ((conv => whnf); first | refine And.intro (by assumption) ?_ | refine goT ?_ | refine goF ?_ | refine goL ?_ | refine goR ?_ | refine goRL ?_ | refine goRR ?_))
    all_goals try (conv => whnf)
    refine Enter.mk p trivial rfl ?_
    ((repeat' ((conv => whnf) <;> first | exact trivial | (with_reducible first | refine And.intro ?_ ?_ | refine rows_lt1 ?_ | refine rows_lt2 ?_ ?_ | refine rows_lt3 ?_ ?_ ?_ | refine rows_lt4 ?_ ?_ ?_ ?_ | refine rows_lt5 ?_ ?_ ?_ ?_ ?_ | refine ints_lt1 ?_ | refine ints_lt2 ?_ ?_ | refine ints_lt3 ?_ ?_ ?_ | refine rows_lt7 ?_ ?_ ?_ ?_ ?_ ?_ ?_ | refine aggs_lt1 ?_ | refine aggs_lt2 ?_ ?_ | refine aggs_lt3 ?_ ?_ ?_ | refine fun (_ : Nat) => ?_) | refine fun (_ : (_ : Nat) < _) => ?_ | exact rfl | exact Nat.le_of_ble_eq_true rfl | (change (_ : Nat) ≤ _; omega) | (change (_ : Nat) = _; omega) | (change (_ : Int) = _; omega))); (all_goals try (conv => whnf)))
    · exact m2d key _ _ _ _
    · exact qt_sum key _ b p.r _
    · refine LeW_upZ (fun _ => rfl) (fun e => ?_) (fun e => ?_)
      · ((repeat' ((conv => whnf) <;> first | exact trivial | (with_reducible first | refine And.intro ?_ ?_ | refine rows_lt1 ?_ | refine rows_lt2 ?_ ?_ | refine rows_lt3 ?_ ?_ ?_ | refine rows_lt4 ?_ ?_ ?_ ?_ | refine rows_lt5 ?_ ?_ ?_ ?_ ?_ | refine ints_lt1 ?_ | refine ints_lt2 ?_ ?_ | refine ints_lt3 ?_ ?_ ?_ | refine rows_lt7 ?_ ?_ ?_ ?_ ?_ ?_ ?_ | refine aggs_lt1 ?_ | refine aggs_lt2 ?_ ?_ | refine aggs_lt3 ?_ ?_ ?_ | refine fun (_ : Nat) => ?_) | refine fun (_ : (_ : Nat) < _) => ?_ | exact rfl | exact Nat.le_of_ble_eq_true rfl | (change (_ : Nat) ≤ _; omega) | (change (_ : Nat) = _; omega) | (change (_ : Int) = _; omega))); (all_goals try (conv => whnf)))
        unfold bentF
        rw [if_pos e]
        exact rfl
      · ((repeat' ((conv => whnf) <;> first | exact trivial | (with_reducible first | refine And.intro ?_ ?_ | refine rows_lt1 ?_ | refine rows_lt2 ?_ ?_ | refine rows_lt3 ?_ ?_ ?_ | refine rows_lt4 ?_ ?_ ?_ ?_ | refine rows_lt5 ?_ ?_ ?_ ?_ ?_ | refine ints_lt1 ?_ | refine ints_lt2 ?_ ?_ | refine ints_lt3 ?_ ?_ ?_ | refine rows_lt7 ?_ ?_ ?_ ?_ ?_ ?_ ?_ | refine aggs_lt1 ?_ | refine aggs_lt2 ?_ ?_ | refine aggs_lt3 ?_ ?_ ?_ | refine fun (_ : Nat) => ?_) | refine fun (_ : (_ : Nat) < _) => ?_ | exact rfl | exact Nat.le_of_ble_eq_true rfl | (change (_ : Nat) ≤ _; omega) | (change (_ : Nat) = _; omega) | (change (_ : Int) = _; omega))); (all_goals try (conv => whnf)))
        unfold bentF
        rw [if_neg e]
  rintro p' _ rfl
  have hR := eqBr (QM key (min l 40) b p'.r) _ rfl
  have hR' := eqBr (QM (fun x => key (0 + x)) (min l 40) b p'.r) (QM key (min l 40) b p'.r) (by rw [fz])
  have hN : (eqB (AV.agg true 32 (bys (QM (fun x => key (0 + x)) (min l' 40) b' p'.r))) (AV.agg true 32 (bys (QM key (min l 40) b p'.r))) == eqB (AV.agg true 32 (bys (QM key (min l' 40) b' p'.r))) (AV.agg true 32 (bys (QM key (min l 40) b p'.r)))) = true := by rw [fz]; exact beq_self_eq_true _
  by_cases ht : tn = BitVec.ofInt 8 0
  · have hB := eqBr (QM (fun x => key (0 + x)) (min l 40) b (bentF p'.r (at' % BitVec.ofInt 8 4).toNat (at' / BitVec.ofInt 8 4 % BitVec.ofInt 8 32).toNat tn)) (QM key (min l 40) b p'.r) (by rw [bent_same _ _ _ ht, fz])
    have hB' : (eqB (AV.agg true 32 (bys (QM (fun x => key (0 + x)) (min l 40) b (bentF p'.r (at' % BitVec.ofInt 8 4).toNat (at' / BitVec.ofInt 8 4 % BitVec.ofInt 8 32).toNat tn)))) (AV.agg true 32 (bys (QM key (min l 40) b p'.r))) == true) = true := by rw [hB]; rfl
    by_cases hs : lw (min l 40) b = lw (min l' 40) b'
    · have hO := eqBr (QM (fun x => key (0 + x)) (min l' 40) b' p'.r) (QM key (min l 40) b p'.r) (by rw [fz]; exact qm_same key p'.r hs)
      repeat (first | ((conv => whnf); refine And.intro ?_ ?_; exact sideOf) | ((conv => whnf); refine NilE.some ?_ ?_; exact sideOf) | ((conv => whnf); refine And.intro (fun _ => ?_) (fun h => nomatch (show true = false from h))) | ((conv => whnf); refine And.intro (fun h => nomatch (show false = true from h)) (fun _ => ?_)) | ((conv => whnf); first | (apply Exists.intro; (repeat apply Exists.intro); refine And.intro ?_ ?_; exact leOf) | (refine Or.inl ?_; (conv => whnf); (repeat apply Exists.intro); refine And.intro ?_ ?_; exact leOf) | (refine Or.inr ?_; (conv => whnf); first | ((repeat apply Exists.intro); refine And.intro ?_ ?_; exact leOf) | (refine Or.inl ?_; (conv => whnf); (repeat apply Exists.intro); refine And.intro ?_ ?_; exact leOf) | (refine Or.inr ?_; (conv => whnf); (repeat apply Exists.intro); refine And.intro ?_ ?_; exact leOf))) | ((conv => whnf); first | refine And.intro (by assumption) ?_ | refine goT ?_ | refine goF ?_ | refine goL ?_ | refine goR ?_ | refine goRL ?_ | refine goRR ?_))
      all_goals try (conv => whnf)
      exact beq_iff_eq.2 hO
    · skip
      repeat (first | ((conv => whnf); refine And.intro ?_ ?_; exact sideOf) | ((conv => whnf); refine NilE.some ?_ ?_; exact sideOf) | ((conv => whnf); refine And.intro (fun _ => ?_) (fun h => nomatch (show true = false from h))) | ((conv => whnf); refine And.intro (fun h => nomatch (show false = true from h)) (fun _ => ?_)) | ((conv => whnf); first | (apply Exists.intro; (repeat apply Exists.intro); refine And.intro ?_ ?_; exact leOf) | (refine Or.inl ?_; (conv => whnf); (repeat apply Exists.intro); refine And.intro ?_ ?_; exact leOf) | (refine Or.inr ?_; (conv => whnf); first | ((repeat apply Exists.intro); refine And.intro ?_ ?_; exact leOf) | (refine Or.inl ?_; (conv => whnf); (repeat apply Exists.intro); refine And.intro ?_ ?_; exact leOf) | (refine Or.inr ?_; (conv => whnf); (repeat apply Exists.intro); refine And.intro ?_ ?_; exact leOf))) | ((conv => whnf); first | refine And.intro (by assumption) ?_ | refine goT ?_ | refine goF ?_ | refine goL ?_ | refine goR ?_ | refine goRL ?_ | refine goRR ?_))
      all_goals try (conv => whnf)
      exact hN
  · have hZ : (eqB (AV.agg true 32 (bys (QM (fun x => key (0 + x)) (min l 40) b (bentF p'.r (at' % BitVec.ofInt 8 4).toNat (at' / BitVec.ofInt 8 4 % BitVec.ofInt 8 32).toNat tn)))) (AV.agg true 32 (bys (QM key (min l 40) b p'.r))) == eqB (AV.agg true 32 (bys (QM key (min l 40) b (bentF p'.r (at' % BitVec.ofInt 8 4).toNat (at' / BitVec.ofInt 8 4 % BitVec.ofInt 8 32).toNat tn)))) (AV.agg true 32 (bys (QM key (min l 40) b p'.r)))) = true := by rw [fz]; exact beq_self_eq_true _
    by_cases hs : lw (min l 40) b = lw (min l' 40) b'
    · have hO := eqBr (QM (fun x => key (0 + x)) (min l' 40) b' p'.r) (QM key (min l 40) b p'.r) (by rw [fz]; exact qm_same key p'.r hs)
      repeat (first | ((conv => whnf); refine And.intro ?_ ?_; exact sideOf) | ((conv => whnf); refine NilE.some ?_ ?_; exact sideOf) | ((conv => whnf); refine And.intro (fun _ => ?_) (fun h => nomatch (show true = false from h))) | ((conv => whnf); refine And.intro (fun h => nomatch (show false = true from h)) (fun _ => ?_)) | ((conv => whnf); first | (apply Exists.intro; (repeat apply Exists.intro); refine And.intro ?_ ?_; exact leOf) | (refine Or.inl ?_; (conv => whnf); (repeat apply Exists.intro); refine And.intro ?_ ?_; exact leOf) | (refine Or.inr ?_; (conv => whnf); first | ((repeat apply Exists.intro); refine And.intro ?_ ?_; exact leOf) | (refine Or.inl ?_; (conv => whnf); (repeat apply Exists.intro); refine And.intro ?_ ?_; exact leOf) | (refine Or.inr ?_; (conv => whnf); (repeat apply Exists.intro); refine And.intro ?_ ?_; exact leOf))) | ((conv => whnf); first | refine And.intro (by assumption) ?_ | refine goT ?_ | refine goF ?_ | refine goL ?_ | refine goR ?_ | refine goRL ?_ | refine goRR ?_))
      all_goals try (conv => whnf)
      exact beq_iff_eq.2 hO
    · skip
      repeat (first | ((conv => whnf); refine And.intro ?_ ?_; exact sideOf) | ((conv => whnf); refine NilE.some ?_ ?_; exact sideOf) | ((conv => whnf); refine And.intro (fun _ => ?_) (fun h => nomatch (show true = false from h))) | ((conv => whnf); refine And.intro (fun h => nomatch (show false = true from h)) (fun _ => ?_)) | ((conv => whnf); first | (apply Exists.intro; (repeat apply Exists.intro); refine And.intro ?_ ?_; exact leOf) | (refine Or.inl ?_; (conv => whnf); (repeat apply Exists.intro); refine And.intro ?_ ?_; exact leOf) | (refine Or.inr ?_; (conv => whnf); first | ((repeat apply Exists.intro); refine And.intro ?_ ?_; exact leOf) | (refine Or.inl ?_; (conv => whnf); (repeat apply Exists.intro); refine And.intro ?_ ?_; exact leOf) | (refine Or.inr ?_; (conv => whnf); (repeat apply Exists.intro); refine And.intro ?_ ?_; exact leOf))) | ((conv => whnf); first | refine And.intro (by assumption) ?_ | refine goT ?_ | refine goF ?_ | refine goL ?_ | refine goR ?_ | refine goRL ?_ | refine goRR ?_))
      all_goals try (conv => whnf)
      exact hN
end Go.Proofs.YtjmeihmioecciaaDoor
