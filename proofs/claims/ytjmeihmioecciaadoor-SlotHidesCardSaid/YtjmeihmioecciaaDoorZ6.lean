/- Key slots: the example; scripts on two that are alike but for the chip's keys. -/
import Derived.Test.YtjmeihmioecciaaDoorZ4
import Derived.Test.YtjmeihmioecciaaDoorZ5
namespace Go.Proofs.YtjmeihmioecciaaDoor
open Go.RowKit
set_option maxRecDepth 100000
set_option maxHeartbeats 20000000
attribute [local irreducible] hsh rst sha256 press dig valN cat
def k5 : Nat → BitVec 8 := fun j => if j = 0 then 5 else 0
def C_l15_few : SpecR := fun A K => ∃ d h to k key lab l b, A [actP d h to k key lab (bsl l b)] ∧ lab.length ≤ maxLen ∧ l ≤ maxLen ∧ K (actP d h to k key (lab.take 30) (.gsl 5 8 (min l 60))) [(8, .grow 5 (min l 60) (bys b))]
theorem g_l15_few : Gd 8 (pureR ty C_l15_few) := by
  refine goodR (E := PG [(13, pureP ty C_r1_Text), (23, pureR ty C_r1_Cut)]) (pgOK ⟨g_r1_Text, g_r1_Cut, trivial⟩) mixes Tryd.func8 (by kernel_rfl) (by kernel_rfl) ?_
  rintro A K ⟨d, h, to, k, key, lab, l, b, hA, hlab, hl, hK⟩
  refine ⟨_, _, _, fun _ => none, hA, hK, by kernel_rfl, by kernel_rfl, ⟨fun _ _ => trivial, trivial⟩, ?_, ?_⟩
  · intro i hi
    rcases i with _ | _ | _ | _ | _ | _ | _ | i
    · exact trivial
    · exact trivial
    · exact trivial
    · exact trivial
    · exact fun _ _ => trivial
    · exact trivial
    · exact trivial
    · exact absurd hi (by show ¬ i + 7 < 7; omega)
  repeat (first | ((conv => whnf); refine And.intro ?_ ?_; exact sideOf) | ((conv => whnf); refine NilE.some ?_ ?_; exact sideOf) | ((conv => whnf); refine And.intro (fun _ => ?_) (fun h => nomatch (show true = false from h))) | ((conv => whnf); refine And.intro (fun h => nomatch (show false = true from h)) (fun _ => ?_)) | ((conv => whnf); first | (apply Exists.intro; (repeat apply Exists.intro); refine And.intro ?_ ?_; exact leOf) | (refine Or.inl ?_; (conv => whnf); (repeat apply Exists.intro); refine And.intro ?_ ?_; exact leOf) | (refine Or.inr ?_; (conv => whnf); first | ((repeat apply Exists.intro); refine And.intro ?_ ?_; exact leOf) | (refine Or.inl ?_; (conv => whnf); (repeat apply Exists.intro); refine And.intro ?_ ?_; exact leOf) | (refine Or.inr ?_; (conv => whnf); (repeat apply Exists.intro); refine And.intro ?_ ?_; exact leOf))) | ((conv => whnf); first | refine And.intro (by assumption) ?_ | refine goT ?_ | refine goF ?_ | refine goL ?_ | refine goR ?_ | refine goRL ?_ | refine goRR ?_))
  all_goals try (conv => whnf)
  (refine out_fnd ?_; (repeat' ((conv => whnf) <;> first | exact trivial | (with_reducible first | refine And.intro ?_ ?_ | refine rows_lt1 ?_ | refine rows_lt2 ?_ ?_ | refine rows_lt3 ?_ ?_ ?_ | refine rows_lt4 ?_ ?_ ?_ ?_ | refine rows_lt5 ?_ ?_ ?_ ?_ ?_ | refine ints_lt1 ?_ | refine ints_lt2 ?_ ?_ | refine ints_lt3 ?_ ?_ ?_ | refine rows_lt7 ?_ ?_ ?_ ?_ ?_ ?_ ?_ | refine aggs_lt1 ?_ | refine aggs_lt2 ?_ ?_ | refine aggs_lt3 ?_ ?_ ?_ | refine fun (_ : Nat) => ?_) | refine fun (_ : (_ : Nat) < _) => ?_ | exact rfl | exact Nat.le_of_ble_eq_true rfl | (change (_ : Nat) ≤ _; omega) | (change (_ : Nat) = _; omega) | (change (_ : Int) = _; omega))); (all_goals try (conv => whnf)))
theorem cn0 (key : Nat → BitVec 8) : Cn (layS sl0 0 1 key) 0 := ⟨by omega, rfl, fun j => by
  show (if j = 0 then 1 else (0 : Int)) = cK 0 j
  unfold cK
  by_cases e : j = 0
  · rw [if_pos e, if_pos e]
  · rw [if_neg e, if_neg e, if_neg (by omega)]⟩
theorem awk (key : Nat → BitVec 8) (lab : List UInt8) (l0 : Nat) (b0 : Nat → BitVec 8) : macD (derS (layS sl0 0 1 key) (0 : Nat) (0 + 1 : Nat) lab []) (0 + 1 : Nat) [(l0, b0)] = at8 (hmac (lw 32 (at8 (hmac (lw 32 key) (dtext lab [])))) (lw l0 b0)) := by
  rw [cn_macD (cn_step (cn0 key) (by decide) lab []), cn_ky (cn0 key) (by decide), cat1]
  rfl
theorem awk' (key : Nat → BitVec 8) (lab : List UInt8) (l0 : Nat) (b0 : Nat → BitVec 8) (i : Nat) : macD (derS (layS sl0 0 1 key) (0 : Nat) (0 + 1 : Nat) lab []) (0 + 1 : Nat) [(l0, b0)] i = at8 (hmac (lw (32 - 0) fun x => at8 (hmac (lw (32 - 0) fun x => key (0 + x)) (dtext lab [])) (0 + x)) (lw l0 b0)) i := by
  rw [lw320 key, lw320 (at8 (hmac (lw 32 key) (dtext lab []))), awk]
def C_l15_awake : SpecP := fun A K => A [] ∧ K (.bo true)
theorem g_l15_awake : Gd 6 (pureP ty C_l15_awake) := by
  refine goodP (E := PG [(7, pureR ty C_sl_New), (12, mutD ty [true, false, false, false] C_sl_Lay), (14, mutD ty [true, false, false, false, false] C_sl_Derive_0), (16, pureP ty C_sl_Mac_1), (15, pureP ty C_r2_Derive_0), (17, pureP ty C_r2_Sum)]) (pgOK ⟨g_sl_New, g_sl_Lay, g_sl_Derive_0, g_sl_Mac_1, g_r2_Derive_0, g_r2_Sum, trivial⟩) mixes Tryd.func6 (by kernel_rfl) (by kernel_rfl) ?_
  rintro A K ⟨hA, hK⟩
  refine ⟨_, _, fun _ => none, hA, hK, by kernel_rfl, trivial, ?_⟩
  repeat (first | ((conv => whnf); refine And.intro ?_ ?_; exact sideOf) | ((conv => whnf); refine NilE.some ?_ ?_; exact sideOf) | ((conv => whnf); refine And.intro (fun _ => ?_) (fun h => nomatch (show true = false from h))) | ((conv => whnf); refine And.intro (fun h => nomatch (show false = true from h)) (fun _ => ?_)) | ((conv => whnf); first | (apply Exists.intro; (repeat apply Exists.intro); refine And.intro ?_ ?_; exact leOf) | (refine Or.inl ?_; (conv => whnf); (repeat apply Exists.intro); refine And.intro ?_ ?_; exact leOf) | (refine Or.inr ?_; (conv => whnf); first | ((repeat apply Exists.intro); refine And.intro ?_ ?_; exact leOf) | (refine Or.inl ?_; (conv => whnf); (repeat apply Exists.intro); refine And.intro ?_ ?_; exact leOf) | (refine Or.inr ?_; (conv => whnf); (repeat apply Exists.intro); refine And.intro ?_ ?_; exact leOf))) | ((conv => whnf); first | refine And.intro (by assumption) ?_ | refine goT ?_ | refine goF ?_ | refine goL ?_ | refine goR ?_ | refine goRL ?_ | refine goRR ?_))
  all_goals try (conv => whnf)
  refine eqB_agg fun i hi => ?_
  exact awk' _ _ _ _ i
/-- What several ways come to is proved once. -/
structure Hold (X : Prop) : Prop where
  x : X
/-- What comes in: lengths. -/
theorem lenZ_of {c : Cx} {fr : Bool} {et : Ty} {l : Nat} {f : Nat → AV} {v : Value} (h : RV c (.imm fr et l f) v) : l ≤ maxLen := by
  obtain ⟨A, q, _, h1, h2, _⟩ := (show R c _ _ from h)
  exact Nat.le_trans h1 h2
theorem inZ2 {c : Cx} {fr fr' u : Bool} {et et' : Ty} {l l' n i : Nat} {f f' g : Nat → AV} {v : Value} (h : RV c (.imm fr et l f) v) {k : Nat} (hk : k < l) (e : f k = .agg u n g) (hin : i < n) (e' : g i = .imm fr' et' l' f') : l' ≤ maxLen := by
  obtain ⟨A, q, _, h1, h2, h3⟩ := (show R c _ _ from h)
  obtain ⟨b, o, _, _, _, _, hi⟩ := h3 (by omega)
  obtain ⟨_, ds, hr, _⟩ := hi k hk
  rw [e] at hr
  obtain ⟨w, hw, _⟩ := hr
  have hr := hw i hin
  rw [e'] at hr
  obtain ⟨A, q, _, h1, h2, _⟩ := hr
  exact Nat.le_trans h1 h2
theorem share {X P : Prop} (main : Hold X → P) (pf : X) : P := main ⟨pf⟩
structure Acts15 where
  d : Nat → BitVec 8
  h : Nat → Int
  to : Nat → Int
  k : Nat → Int
  key : Nat → Nat → BitVec 8
  lab : Nat → List UInt8
  l : Nat → Nat
  b : Nat → Nat → BitVec 8
abbrev actsA (n : Nat) (g : Acts15) : AV := .imm false TAct n (fun i => actP (g.d i) (g.h i) (g.to i) (g.k i) (g.key i) (g.lab i) (bsl (g.l i) (g.b i)))
abbrev acK (g : Acts15) (a : Nat → BitVec 8) (k : Nat) : Act15 := ⟨g.d k, g.h k, g.to k, g.k k, a, (g.lab k).take 30, min (g.l k) 60, g.b k⟩
structure G15 where
  k : Nat
  s : Sl
  t : Sl
  x : Sl
  sec : Nat → Bool
def okG (p : G15) : Prop := Lk p.s p.t ∧ Lk p.x p.s ∧ Kn p.s p.t p.sec
abbrev TB8 : Ty := ty 33
abbrev bosA (f : Nat → Bool) : AV := .agg true 8 (fun i => .bo (f i))
def L_SH (n : Nat) (g : Acts15) (a b : Nat → BitVec 8) : LI := ⟨G15, fun p => p.k ≤ n ∧ okG p, fun p => [(4, .ptr TD 8 []), (5, .ptr TD 16 []), (7, .ptr TSl 2056 []), (8, .ptr TSl 2064 []), (9, .ptr TRs 3088 []), (10, .ptr TB8 4104 []), (29, actsA n g), (30, .nat n), (31, .nat p.k)],
  fun p => [(8, .var TD (arr8 32 a)), (16, .var TD (arr8 32 b)), (2056, .var TSl (slV p.s)), (2064, .var TSl (slV p.t)), (3088, .var TRs (rsV p.x)), (4104, .var TB8 (bosA p.sec))], fun p => n - p.k, some, some⟩
theorem der_in {s : Sl} {a b : Int} (e : derE s a b = 0) : InH a ∧ InH b := by
  unfold derE at e
  split at e
  · cases e
  split at e
  · cases e
  · rename_i q; exact Decidable.of_not_not q
theorem sec1_set {x : Sl} {c : Act15} {sec : Nat → Bool} (h2 : dk c = 2) (h0 : derE x c.h c.to = 0) (hs : sec c.h.toNat = true) (j : Nat) : (if j = c.to.toNat then true else sec j) = sec1 x c sec j := by
  unfold sec1
  by_cases e : j = c.to.toNat
  · rw [if_pos e, if_pos ⟨h2, h0, hs, e⟩]
  · rw [if_neg e, if_neg fun q => e q.2.2.2]
theorem sec1_no {x : Sl} {c : Act15} {sec : Nat → Bool} (h : ¬ (dk c = 2 ∧ derE x c.h c.to = 0 ∧ sec c.h.toNat = true)) (j : Nat) : sec j = sec1 x c sec j := by
  unfold sec1
  rw [if_neg fun q => h ⟨q.1, q.2.1, q.2.2.1⟩]
theorem sec2_lk {x s : Sl} (h : Lk x s) (c : Act15) (sec : Nat → Bool) : sec2 x (doX x c) c sec = sec2 s (apS s c) c sec := by
  funext i
  unfold sec2 sec1
  rw [(lk_doX h c).1, h.1, lk_derE h]
theorem lab30 (l : List UInt8) : (l.take 30).length ≤ 10000 := Nat.le_trans (List.length_take_le _ _) (by decide)
/-- The act's rows: what few hands back, and the act itself. -/
abbrev rowsH (a b : Nat → BitVec 8) (s t x : Sl) (sec : Nat → Bool) : List (Nat × Row) := [(8, .var TD (arr8 32 a)), (16, .var TD (arr8 32 b)), (2056, .var TSl (slV s)), (2064, .var TSl (slV t)), (3088, .var TRs (rsV x)), (4104, .var TB8 (bosA sec))]
abbrev slotsH (n : Nat) (g : Acts15) (k : Nat) : List (Nat × AV) := [(4, .ptr TD 8 []), (5, .ptr TD 16 []), (7, .ptr TSl 2056 []), (8, .ptr TSl 2064 []), (9, .ptr TRs 3088 []), (10, .ptr TB8 4104 []), (29, actsA n g), (30, .nat n), (31, .nat k), (12, .ptr TAct 5153 [])]
abbrev actG (d : BitVec 8) (h to k : Int) (key : Nat → BitVec 8) (lab : List UInt8) (l : Nat) : AV := actP d h to k key (lab.take 30) (.gsl 5 7185 (min l 60))
def L_SH13 (n : Nat) (g : Acts15) (a b : Nat → BitVec 8) : LI := ⟨G15, fun p => (p.k < n ∧ p.k < 30 ∧ okG p) ∧ ¬ (dk (acK g a p.k) = 3 ∧ InH (g.h p.k) ∧ p.sec (g.h p.k).toNat = true), fun p => slotsH n g p.k,
  fun p => rowsH a b p.s p.t p.x p.sec ++ [(5153, .var TAct (actG (g.d p.k) (g.h p.k) (g.to p.k) (g.k p.k) (g.key p.k) (g.lab p.k) (g.l p.k))), (7185, .grow 5 (min (g.l p.k) 60) (bys (g.b p.k)))], fun _ => 0, some, some⟩
abbrev TI8 : Ty := ty 29
abbrev i8A (f : Nat → Int) : AV := .agg true 8 (fun i => .int (f i))
def L_SH18 (n : Nat) (g : Acts15) (a b : Nat → BitVec 8) : LI := ⟨G15, fun p => (p.k < n ∧ p.k < 30 ∧ okG p) ∧ ¬ (dk (acK g a p.k) = 3 ∧ InH (g.h p.k) ∧ p.sec (g.h p.k).toNat = true), fun p => slotsH n g p.k ++ [(14, .ptr TI8 8242 [])],
  fun p => rowsH a b p.s p.t (doX p.x (acK g a p.k)) (sec1 p.x (acK g a p.k) p.sec) ++ [(5153, .var TAct (actG (g.d p.k) (g.h p.k) (g.to p.k) (g.k p.k) a (g.lab p.k) (g.l p.k))), (7185, .grow 5 (min (g.l p.k) 60) (bys (g.b p.k))), (8242, .var TI8 (i8A p.x.kd))], fun _ => 0, some, some⟩
def secM (x x' : Sl) (c : Act15) (sec : Nat → Bool) (m i : Nat) : Bool := if i < m then sec2 x x' c sec i else sec1 x c sec i
theorem secM_zero (x x' : Sl) (c : Act15) (sec : Nat → Bool) (i : Nat) : sec1 x c sec i = secM x x' c sec 0 i := by
  unfold secM; rw [if_neg (by omega)]
theorem secM_same {x x' : Sl} {c : Act15} {sec : Nat → Bool} {m : Nat} (h : sec2 x x' c sec m = sec1 x c sec m) (i : Nat) : secM x x' c sec m i = secM x x' c sec (m + 1) i := by
  unfold secM
  by_cases e : i = m
  · subst e; rw [if_neg (by omega), if_pos (by omega), h]
  · by_cases e1 : i < m
    · rw [if_pos e1, if_pos (by omega)]
    · rw [if_neg e1, if_neg (by omega)]
theorem secM_set {x x' : Sl} {c : Act15} {sec : Nat → Bool} {m : Nat} {v : Bool} (h : sec2 x x' c sec m = v) (i : Nat) : (if i = m then v else secM x x' c sec m i) = secM x x' c sec (m + 1) i := by
  by_cases e : i = m
  · rw [if_pos e]; unfold secM; rw [if_pos (by omega), e, h]
  · rw [if_neg e]
    unfold secM
    by_cases e1 : i < m
    · rw [if_pos e1, if_pos (by omega)]
    · rw [if_neg e1, if_neg (by omega)]
theorem secM_all (x x' : Sl) (c : Act15) (sec : Nat → Bool) {i : Nat} (hi : i < 8) : secM x x' c sec 8 i = sec2 x x' c sec i := by
  unfold secM; rw [if_pos hi]
theorem dlt2 {c : Act15} (h : c.d % BitVec.ofInt 8 7 < BitVec.ofInt 8 2) : dk c < 2 := by
  have h : (c.d % BitVec.ofInt 8 7).toNat < (BitVec.ofInt 8 2).toNat := h
  rw [BitVec.toNat_umod] at h
  exact h
theorem dge2 {c : Act15} (h : ¬ c.d % BitVec.ofInt 8 7 < BitVec.ofInt 8 2) : ¬ dk c < 2 := fun q => h (by
  show (c.d % BitVec.ofInt 8 7).toNat < (BitVec.ofInt 8 2).toNat
  rw [BitVec.toNat_umod]
  exact q)
def L_SH19 (n : Nat) (g : Acts15) (a b : Nat → BitVec 8) : LI := ⟨G15 × Nat, fun p => p.2 ≤ 8, fun p => slotsH n g p.1.k ++ [(14, .ptr TI8 8242 []), (93, i8A (doX p.1.x (acK g a p.1.k)).kd), (94, .nat p.2)],
  fun p => rowsH a b p.1.s p.1.t (doX p.1.x (acK g a p.1.k)) (secM p.1.x (doX p.1.x (acK g a p.1.k)) (acK g a p.1.k) p.1.sec p.2) ++ [(5153, .var TAct (actG (g.d p.1.k) (g.h p.1.k) (g.to p.1.k) (g.k p.1.k) a (g.lab p.1.k) (g.l p.1.k))), (7185, .grow 5 (min (g.l p.1.k) 60) (bys (g.b p.1.k))), (8242, .var TI8 (i8A p.1.x.kd))], fun p => 8 - p.2, some, some⟩
def C_l15_SlotHides : SpecP := fun A K => ∃ n g a b, A [actsA n g, arr8 32 a, arr8 32 b] ∧ n ≤ maxLen ∧ (∀ k, k < n → (g.lab k).length ≤ maxLen ∧ g.l k ≤ maxLen) ∧ K (.bo true)
theorem g_l15_SlotHides : Gd 3 (pureP ty C_l15_SlotHides) := by
  refine goodP (E := PG [(6, pureP ty C_l15_awake), (8, pureR ty C_l15_few), (7, pureR ty C_sl_New), (9, mutD ty [true, false] C_r15_Do), (10, mutD ty [true, false] C_l15_apply), (11, pureP ty C_sl_Count)]) (pgOK ⟨g_l15_awake, g_l15_few, g_sl_New, g_r15_Do, g_l15_apply, g_sl_Count, trivial⟩) mixes Tryd.func3 (by kernel_rfl) (by kernel_rfl) ?_
  rintro A K ⟨n, g, a, b, hA, hn, hg, hK⟩
  refine ⟨_, _, loops [(7, L_SH n g a b), (100013, L_SH13 n g a b), (100018, L_SH18 n g a b), (19, L_SH19 n g a b)], hA, hK, by kernel_rfl, trivial, ?_⟩
  repeat (first | ((conv => whnf); refine And.intro ?_ ?_; exact sideOf) | ((conv => whnf); refine NilE.some ?_ ?_; exact sideOf) | ((conv => whnf); refine And.intro (fun _ => ?_) (fun h => nomatch (show true = false from h))) | ((conv => whnf); refine And.intro (fun h => nomatch (show false = true from h)) (fun _ => ?_)) | ((conv => whnf); first | (apply Exists.intro; (repeat apply Exists.intro); refine And.intro ?_ ?_; exact leOf) | (refine Or.inl ?_; (conv => whnf); (repeat apply Exists.intro); refine And.intro ?_ ?_; exact leOf) | (refine Or.inr ?_; (conv => whnf); first | ((repeat apply Exists.intro); refine And.intro ?_ ?_; exact leOf) | (refine Or.inl ?_; (conv => whnf); (repeat apply Exists.intro); refine And.intro ?_ ?_; exact leOf) | (refine Or.inr ?_; (conv => whnf); (repeat apply Exists.intro); refine And.intro ?_ ?_; exact leOf))) | ((conv => whnf); first | refine And.intro (by assumption) ?_ | refine goT ?_ | refine goF ?_ | refine goL ?_ | refine goR ?_ | refine goRL ?_ | refine goRR ?_))
  all_goals try (conv => whnf)
  refine Exists.intro (fun _ => True) (And.intro (Enter.mk (⟨0, sl0, sl0, sl0, fun _ => false⟩ : G15) ⟨Nat.zero_le _, ⟨rfl, rfl, rfl⟩, ⟨rfl, rfl, rfl⟩, fun _ _ _ => rfl⟩ trivial ?_) (fun (p : G15) (hp : p.k ≤ n ∧ okG p) _ => ?_))
  · ((repeat' ((conv => whnf) <;> first | exact trivial | (with_reducible first | refine And.intro ?_ ?_ | refine rows_lt1 ?_ | refine rows_lt2 ?_ ?_ | refine rows_lt3 ?_ ?_ ?_ | refine rows_lt4 ?_ ?_ ?_ ?_ | refine rows_lt5 ?_ ?_ ?_ ?_ ?_ | refine ints_lt1 ?_ | refine ints_lt2 ?_ ?_ | refine ints_lt3 ?_ ?_ ?_ | refine rows_lt7 ?_ ?_ ?_ ?_ ?_ ?_ ?_ | refine aggs_lt1 ?_ | refine aggs_lt2 ?_ ?_ | refine aggs_lt3 ?_ ?_ ?_ | refine fun (_ : Nat) => ?_) | refine fun (_ : (_ : Nat) < _) => ?_ | exact rfl | exact Nat.le_of_ble_eq_true rfl | (change (_ : Nat) ≤ _; omega) | (change (_ : Nat) = _; omega) | (change (_ : Int) = _; omega))); (all_goals try (conv => whnf)))
  obtain ⟨hk, hst, hxs, hkn⟩ := hp
  have hc : cntN p.s.kd 8 = cntN p.t.kd 8 := by rw [hst.1]
  rcases Nat.lt_or_ge p.k n with h | h
  rotate_left
  · have h : p.k = n := by omega
    repeat (first | ((conv => whnf); refine And.intro ?_ ?_; exact sideOf) | ((conv => whnf); refine NilE.some ?_ ?_; exact sideOf) | ((conv => whnf); refine And.intro (fun _ => ?_) (fun h => nomatch (show true = false from h))) | ((conv => whnf); refine And.intro (fun h => nomatch (show false = true from h)) (fun _ => ?_)) | ((conv => whnf); first | (apply Exists.intro; (repeat apply Exists.intro); refine And.intro ?_ ?_; exact leOf) | (refine Or.inl ?_; (conv => whnf); (repeat apply Exists.intro); refine And.intro ?_ ?_; exact leOf) | (refine Or.inr ?_; (conv => whnf); first | ((repeat apply Exists.intro); refine And.intro ?_ ?_; exact leOf) | (refine Or.inl ?_; (conv => whnf); (repeat apply Exists.intro); refine And.intro ?_ ?_; exact leOf) | (refine Or.inr ?_; (conv => whnf); (repeat apply Exists.intro); refine And.intro ?_ ?_; exact leOf))) | ((conv => whnf); first | refine And.intro (by assumption) ?_ | refine goT ?_ | refine goF ?_ | refine goL ?_ | refine goR ?_ | refine goRL ?_ | refine goRR ?_))
    all_goals try (conv => whnf)
    exact decide_eq_true hc
  have hgk := hg p.k h
  obtain ⟨hg1, hg2⟩ := hgk
  rcases Nat.lt_or_ge p.k 30 with h30 | h30
  rotate_left
  · skip
    repeat (first | ((conv => whnf); refine And.intro ?_ ?_; exact sideOf) | ((conv => whnf); refine NilE.some ?_ ?_; exact sideOf) | ((conv => whnf); refine And.intro (fun _ => ?_) (fun h => nomatch (show true = false from h))) | ((conv => whnf); refine And.intro (fun h => nomatch (show false = true from h)) (fun _ => ?_)) | ((conv => whnf); first | (apply Exists.intro; (repeat apply Exists.intro); refine And.intro ?_ ?_; exact leOf) | (refine Or.inl ?_; (conv => whnf); (repeat apply Exists.intro); refine And.intro ?_ ?_; exact leOf) | (refine Or.inr ?_; (conv => whnf); first | ((repeat apply Exists.intro); refine And.intro ?_ ?_; exact leOf) | (refine Or.inl ?_; (conv => whnf); (repeat apply Exists.intro); refine And.intro ?_ ?_; exact leOf) | (refine Or.inr ?_; (conv => whnf); (repeat apply Exists.intro); refine And.intro ?_ ?_; exact leOf))) | ((conv => whnf); first | refine And.intro (by assumption) ?_ | refine goT ?_ | refine goF ?_ | refine goL ?_ | refine goR ?_ | refine goRL ?_ | refine goRR ?_))
    all_goals try (conv => whnf)
    exact decide_eq_true hc
  have h7 : dk (acK g a p.k) = 3 ↔ g.d p.k % BitVec.ofInt 8 7 = BitVec.ofInt 8 3 := ⟨fun q => dkIs q, fun q => dkOf (k := 3) q (by decide)⟩
  apply share
  · intro hr
    rcases Int.lt_or_le (g.h p.k) 0 with hh | hh
    · have hno : ¬ (dk (acK g a p.k) = 3 ∧ InH (g.h p.k) ∧ p.sec (g.h p.k).toNat = true) := fun q => by have := q.2.1.1; omega
      repeat (first | ((conv => whnf); refine And.intro ?_ ?_; exact sideOf) | ((conv => whnf); refine NilE.some ?_ ?_; exact sideOf) | ((conv => whnf); refine And.intro (fun _ => ?_) (fun h => nomatch (show true = false from h))) | ((conv => whnf); refine And.intro (fun h => nomatch (show false = true from h)) (fun _ => ?_)) | ((conv => whnf); first | (apply Exists.intro; (repeat apply Exists.intro); refine And.intro ?_ ?_; exact leOf) | (refine Or.inl ?_; (conv => whnf); (repeat apply Exists.intro); refine And.intro ?_ ?_; exact leOf) | (refine Or.inr ?_; (conv => whnf); first | ((repeat apply Exists.intro); refine And.intro ?_ ?_; exact leOf) | (refine Or.inl ?_; (conv => whnf); (repeat apply Exists.intro); refine And.intro ?_ ?_; exact leOf) | (refine Or.inr ?_; (conv => whnf); (repeat apply Exists.intro); refine And.intro ?_ ?_; exact leOf))) | ((conv => whnf); first | refine And.intro (by assumption) ?_ | refine goT ?_ | refine goF ?_ | refine goL ?_ | refine goR ?_ | refine goRL ?_ | refine goRR ?_))
      all_goals try (conv => whnf)
      refine Exists.intro (fun q => q = p) (And.intro ?_ hr.x)
      by_cases h3 : g.d p.k % BitVec.ofInt 8 7 = BitVec.ofInt 8 3
      · skip
        repeat (first | ((conv => whnf); refine And.intro ?_ ?_; exact sideOf) | ((conv => whnf); refine NilE.some ?_ ?_; exact sideOf) | ((conv => whnf); refine And.intro (fun _ => ?_) (fun h => nomatch (show true = false from h))) | ((conv => whnf); refine And.intro (fun h => nomatch (show false = true from h)) (fun _ => ?_)) | ((conv => whnf); first | (apply Exists.intro; (repeat apply Exists.intro); refine And.intro ?_ ?_; exact leOf) | (refine Or.inl ?_; (conv => whnf); (repeat apply Exists.intro); refine And.intro ?_ ?_; exact leOf) | (refine Or.inr ?_; (conv => whnf); first | ((repeat apply Exists.intro); refine And.intro ?_ ?_; exact leOf) | (refine Or.inl ?_; (conv => whnf); (repeat apply Exists.intro); refine And.intro ?_ ?_; exact leOf) | (refine Or.inr ?_; (conv => whnf); (repeat apply Exists.intro); refine And.intro ?_ ?_; exact leOf))) | ((conv => whnf); first | refine And.intro (by assumption) ?_ | refine goT ?_ | refine goF ?_ | refine goL ?_ | refine goR ?_ | refine goRL ?_ | refine goRR ?_))
        all_goals try (conv => whnf)
        refine Enter.mk p ⟨⟨h, h30, hst, hxs, hkn⟩, hno⟩ rfl ?_
        ((repeat' ((conv => whnf) <;> first | exact trivial | (with_reducible first | refine And.intro ?_ ?_ | refine rows_lt1 ?_ | refine rows_lt2 ?_ ?_ | refine rows_lt3 ?_ ?_ ?_ | refine rows_lt4 ?_ ?_ ?_ ?_ | refine rows_lt5 ?_ ?_ ?_ ?_ ?_ | refine ints_lt1 ?_ | refine ints_lt2 ?_ ?_ | refine ints_lt3 ?_ ?_ ?_ | refine rows_lt7 ?_ ?_ ?_ ?_ ?_ ?_ ?_ | refine aggs_lt1 ?_ | refine aggs_lt2 ?_ ?_ | refine aggs_lt3 ?_ ?_ ?_ | refine fun (_ : Nat) => ?_) | refine fun (_ : (_ : Nat) < _) => ?_ | exact rfl | exact Nat.le_of_ble_eq_true rfl | (change (_ : Nat) ≤ _; omega) | (change (_ : Nat) = _; omega) | (change (_ : Int) = _; omega))); (all_goals try (conv => whnf)))
      · skip
        repeat (first | ((conv => whnf); refine And.intro ?_ ?_; exact sideOf) | ((conv => whnf); refine NilE.some ?_ ?_; exact sideOf) | ((conv => whnf); refine And.intro (fun _ => ?_) (fun h => nomatch (show true = false from h))) | ((conv => whnf); refine And.intro (fun h => nomatch (show false = true from h)) (fun _ => ?_)) | ((conv => whnf); first | (apply Exists.intro; (repeat apply Exists.intro); refine And.intro ?_ ?_; exact leOf) | (refine Or.inl ?_; (conv => whnf); (repeat apply Exists.intro); refine And.intro ?_ ?_; exact leOf) | (refine Or.inr ?_; (conv => whnf); first | ((repeat apply Exists.intro); refine And.intro ?_ ?_; exact leOf) | (refine Or.inl ?_; (conv => whnf); (repeat apply Exists.intro); refine And.intro ?_ ?_; exact leOf) | (refine Or.inr ?_; (conv => whnf); (repeat apply Exists.intro); refine And.intro ?_ ?_; exact leOf))) | ((conv => whnf); first | refine And.intro (by assumption) ?_ | refine goT ?_ | refine goF ?_ | refine goL ?_ | refine goR ?_ | refine goRL ?_ | refine goRR ?_))
        all_goals try (conv => whnf)
        refine Enter.mk p ⟨⟨h, h30, hst, hxs, hkn⟩, hno⟩ rfl ?_
        ((repeat' ((conv => whnf) <;> first | exact trivial | (with_reducible first | refine And.intro ?_ ?_ | refine rows_lt1 ?_ | refine rows_lt2 ?_ ?_ | refine rows_lt3 ?_ ?_ ?_ | refine rows_lt4 ?_ ?_ ?_ ?_ | refine rows_lt5 ?_ ?_ ?_ ?_ ?_ | refine ints_lt1 ?_ | refine ints_lt2 ?_ ?_ | refine ints_lt3 ?_ ?_ ?_ | refine rows_lt7 ?_ ?_ ?_ ?_ ?_ ?_ ?_ | refine aggs_lt1 ?_ | refine aggs_lt2 ?_ ?_ | refine aggs_lt3 ?_ ?_ ?_ | refine fun (_ : Nat) => ?_) | refine fun (_ : (_ : Nat) < _) => ?_ | exact rfl | exact Nat.le_of_ble_eq_true rfl | (change (_ : Nat) ≤ _; omega) | (change (_ : Nat) = _; omega) | (change (_ : Int) = _; omega))); (all_goals try (conv => whnf)))
    rcases Int.lt_or_le (g.h p.k) 8 with hh2 | hh2
    rotate_left
    · have hno : ¬ (dk (acK g a p.k) = 3 ∧ InH (g.h p.k) ∧ p.sec (g.h p.k).toNat = true) := fun q => by have := q.2.1.2; omega
      repeat (first | ((conv => whnf); refine And.intro ?_ ?_; exact sideOf) | ((conv => whnf); refine NilE.some ?_ ?_; exact sideOf) | ((conv => whnf); refine And.intro (fun _ => ?_) (fun h => nomatch (show true = false from h))) | ((conv => whnf); refine And.intro (fun h => nomatch (show false = true from h)) (fun _ => ?_)) | ((conv => whnf); first | (apply Exists.intro; (repeat apply Exists.intro); refine And.intro ?_ ?_; exact leOf) | (refine Or.inl ?_; (conv => whnf); (repeat apply Exists.intro); refine And.intro ?_ ?_; exact leOf) | (refine Or.inr ?_; (conv => whnf); first | ((repeat apply Exists.intro); refine And.intro ?_ ?_; exact leOf) | (refine Or.inl ?_; (conv => whnf); (repeat apply Exists.intro); refine And.intro ?_ ?_; exact leOf) | (refine Or.inr ?_; (conv => whnf); (repeat apply Exists.intro); refine And.intro ?_ ?_; exact leOf))) | ((conv => whnf); first | refine And.intro (by assumption) ?_ | refine goT ?_ | refine goF ?_ | refine goL ?_ | refine goR ?_ | refine goRL ?_ | refine goRR ?_))
      all_goals try (conv => whnf)
      refine Exists.intro (fun q => q = p) (And.intro ?_ hr.x)
      by_cases h3 : g.d p.k % BitVec.ofInt 8 7 = BitVec.ofInt 8 3
      · skip
        repeat (first | ((conv => whnf); refine And.intro ?_ ?_; exact sideOf) | ((conv => whnf); refine NilE.some ?_ ?_; exact sideOf) | ((conv => whnf); refine And.intro (fun _ => ?_) (fun h => nomatch (show true = false from h))) | ((conv => whnf); refine And.intro (fun h => nomatch (show false = true from h)) (fun _ => ?_)) | ((conv => whnf); first | (apply Exists.intro; (repeat apply Exists.intro); refine And.intro ?_ ?_; exact leOf) | (refine Or.inl ?_; (conv => whnf); (repeat apply Exists.intro); refine And.intro ?_ ?_; exact leOf) | (refine Or.inr ?_; (conv => whnf); first | ((repeat apply Exists.intro); refine And.intro ?_ ?_; exact leOf) | (refine Or.inl ?_; (conv => whnf); (repeat apply Exists.intro); refine And.intro ?_ ?_; exact leOf) | (refine Or.inr ?_; (conv => whnf); (repeat apply Exists.intro); refine And.intro ?_ ?_; exact leOf))) | ((conv => whnf); first | refine And.intro (by assumption) ?_ | refine goT ?_ | refine goF ?_ | refine goL ?_ | refine goR ?_ | refine goRL ?_ | refine goRR ?_))
        all_goals try (conv => whnf)
        refine Enter.mk p ⟨⟨h, h30, hst, hxs, hkn⟩, hno⟩ rfl ?_
        ((repeat' ((conv => whnf) <;> first | exact trivial | (with_reducible first | refine And.intro ?_ ?_ | refine rows_lt1 ?_ | refine rows_lt2 ?_ ?_ | refine rows_lt3 ?_ ?_ ?_ | refine rows_lt4 ?_ ?_ ?_ ?_ | refine rows_lt5 ?_ ?_ ?_ ?_ ?_ | refine ints_lt1 ?_ | refine ints_lt2 ?_ ?_ | refine ints_lt3 ?_ ?_ ?_ | refine rows_lt7 ?_ ?_ ?_ ?_ ?_ ?_ ?_ | refine aggs_lt1 ?_ | refine aggs_lt2 ?_ ?_ | refine aggs_lt3 ?_ ?_ ?_ | refine fun (_ : Nat) => ?_) | refine fun (_ : (_ : Nat) < _) => ?_ | exact rfl | exact Nat.le_of_ble_eq_true rfl | (change (_ : Nat) ≤ _; omega) | (change (_ : Nat) = _; omega) | (change (_ : Int) = _; omega))); (all_goals try (conv => whnf)))
      · skip
        repeat (first | ((conv => whnf); refine And.intro ?_ ?_; exact sideOf) | ((conv => whnf); refine NilE.some ?_ ?_; exact sideOf) | ((conv => whnf); refine And.intro (fun _ => ?_) (fun h => nomatch (show true = false from h))) | ((conv => whnf); refine And.intro (fun h => nomatch (show false = true from h)) (fun _ => ?_)) | ((conv => whnf); first | (apply Exists.intro; (repeat apply Exists.intro); refine And.intro ?_ ?_; exact leOf) | (refine Or.inl ?_; (conv => whnf); (repeat apply Exists.intro); refine And.intro ?_ ?_; exact leOf) | (refine Or.inr ?_; (conv => whnf); first | ((repeat apply Exists.intro); refine And.intro ?_ ?_; exact leOf) | (refine Or.inl ?_; (conv => whnf); (repeat apply Exists.intro); refine And.intro ?_ ?_; exact leOf) | (refine Or.inr ?_; (conv => whnf); (repeat apply Exists.intro); refine And.intro ?_ ?_; exact leOf))) | ((conv => whnf); first | refine And.intro (by assumption) ?_ | refine goT ?_ | refine goF ?_ | refine goL ?_ | refine goR ?_ | refine goRL ?_ | refine goRR ?_))
        all_goals try (conv => whnf)
        refine Enter.mk p ⟨⟨h, h30, hst, hxs, hkn⟩, hno⟩ rfl ?_
        ((repeat' ((conv => whnf) <;> first | exact trivial | (with_reducible first | refine And.intro ?_ ?_ | refine rows_lt1 ?_ | refine rows_lt2 ?_ ?_ | refine rows_lt3 ?_ ?_ ?_ | refine rows_lt4 ?_ ?_ ?_ ?_ | refine rows_lt5 ?_ ?_ ?_ ?_ ?_ | refine ints_lt1 ?_ | refine ints_lt2 ?_ ?_ | refine ints_lt3 ?_ ?_ ?_ | refine rows_lt7 ?_ ?_ ?_ ?_ ?_ ?_ ?_ | refine aggs_lt1 ?_ | refine aggs_lt2 ?_ ?_ | refine aggs_lt3 ?_ ?_ ?_ | refine fun (_ : Nat) => ?_) | refine fun (_ : (_ : Nat) < _) => ?_ | exact rfl | exact Nat.le_of_ble_eq_true rfl | (change (_ : Nat) ≤ _; omega) | (change (_ : Nat) = _; omega) | (change (_ : Int) = _; omega))); (all_goals try (conv => whnf)))
    repeat (first | ((conv => whnf); refine And.intro ?_ ?_; exact sideOf) | ((conv => whnf); refine NilE.some ?_ ?_; exact sideOf) | ((conv => whnf); refine And.intro (fun _ => ?_) (fun h => nomatch (show true = false from h))) | ((conv => whnf); refine And.intro (fun h => nomatch (show false = true from h)) (fun _ => ?_)) | ((conv => whnf); first | (apply Exists.intro; (repeat apply Exists.intro); refine And.intro ?_ ?_; exact leOf) | (refine Or.inl ?_; (conv => whnf); (repeat apply Exists.intro); refine And.intro ?_ ?_; exact leOf) | (refine Or.inr ?_; (conv => whnf); first | ((repeat apply Exists.intro); refine And.intro ?_ ?_; exact leOf) | (refine Or.inl ?_; (conv => whnf); (repeat apply Exists.intro); refine And.intro ?_ ?_; exact leOf) | (refine Or.inr ?_; (conv => whnf); (repeat apply Exists.intro); refine And.intro ?_ ?_; exact leOf))) | ((conv => whnf); first | refine And.intro (by assumption) ?_ | refine goT ?_ | refine goF ?_ | refine goL ?_ | refine goR ?_ | refine goRL ?_ | refine goRR ?_))
    all_goals try (conv => whnf)
    refine Exists.intro (fun q => q = p) (And.intro ?_ hr.x)
    by_cases h3 : g.d p.k % BitVec.ofInt 8 7 = BitVec.ofInt 8 3
    rotate_left
    · have hno : ¬ (dk (acK g a p.k) = 3 ∧ InH (g.h p.k) ∧ p.sec (g.h p.k).toNat = true) := fun q => h3 (h7.1 q.1)
      repeat (first | ((conv => whnf); refine And.intro ?_ ?_; exact sideOf) | ((conv => whnf); refine NilE.some ?_ ?_; exact sideOf) | ((conv => whnf); refine And.intro (fun _ => ?_) (fun h => nomatch (show true = false from h))) | ((conv => whnf); refine And.intro (fun h => nomatch (show false = true from h)) (fun _ => ?_)) | ((conv => whnf); first | (apply Exists.intro; (repeat apply Exists.intro); refine And.intro ?_ ?_; exact leOf) | (refine Or.inl ?_; (conv => whnf); (repeat apply Exists.intro); refine And.intro ?_ ?_; exact leOf) | (refine Or.inr ?_; (conv => whnf); first | ((repeat apply Exists.intro); refine And.intro ?_ ?_; exact leOf) | (refine Or.inl ?_; (conv => whnf); (repeat apply Exists.intro); refine And.intro ?_ ?_; exact leOf) | (refine Or.inr ?_; (conv => whnf); (repeat apply Exists.intro); refine And.intro ?_ ?_; exact leOf))) | ((conv => whnf); first | refine And.intro (by assumption) ?_ | refine goT ?_ | refine goF ?_ | refine goL ?_ | refine goR ?_ | refine goRL ?_ | refine goRR ?_))
      all_goals try (conv => whnf)
      refine Enter.mk p ⟨⟨h, h30, hst, hxs, hkn⟩, hno⟩ rfl ?_
      ((repeat' ((conv => whnf) <;> first | exact trivial | (with_reducible first | refine And.intro ?_ ?_ | refine rows_lt1 ?_ | refine rows_lt2 ?_ ?_ | refine rows_lt3 ?_ ?_ ?_ | refine rows_lt4 ?_ ?_ ?_ ?_ | refine rows_lt5 ?_ ?_ ?_ ?_ ?_ | refine ints_lt1 ?_ | refine ints_lt2 ?_ ?_ | refine ints_lt3 ?_ ?_ ?_ | refine rows_lt7 ?_ ?_ ?_ ?_ ?_ ?_ ?_ | refine aggs_lt1 ?_ | refine aggs_lt2 ?_ ?_ | refine aggs_lt3 ?_ ?_ ?_ | refine fun (_ : Nat) => ?_) | refine fun (_ : (_ : Nat) < _) => ?_ | exact rfl | exact Nat.le_of_ble_eq_true rfl | (change (_ : Nat) ≤ _; omega) | (change (_ : Nat) = _; omega) | (change (_ : Int) = _; omega))); (all_goals try (conv => whnf)))
    by_cases hs : p.sec (g.h p.k).toNat = true
    · skip
      repeat (first | ((conv => whnf); refine And.intro ?_ ?_; exact sideOf) | ((conv => whnf); refine NilE.some ?_ ?_; exact sideOf) | ((conv => whnf); refine And.intro (fun _ => ?_) (fun h => nomatch (show true = false from h))) | ((conv => whnf); refine And.intro (fun h => nomatch (show false = true from h)) (fun _ => ?_)) | ((conv => whnf); first | (apply Exists.intro; (repeat apply Exists.intro); refine And.intro ?_ ?_; exact leOf) | (refine Or.inl ?_; (conv => whnf); (repeat apply Exists.intro); refine And.intro ?_ ?_; exact leOf) | (refine Or.inr ?_; (conv => whnf); first | ((repeat apply Exists.intro); refine And.intro ?_ ?_; exact leOf) | (refine Or.inl ?_; (conv => whnf); (repeat apply Exists.intro); refine And.intro ?_ ?_; exact leOf) | (refine Or.inr ?_; (conv => whnf); (repeat apply Exists.intro); refine And.intro ?_ ?_; exact leOf))) | ((conv => whnf); first | refine And.intro (by assumption) ?_ | refine goT ?_ | refine goF ?_ | refine goL ?_ | refine goR ?_ | refine goRL ?_ | refine goRR ?_))
      all_goals try (conv => whnf)
      refine Again.mk (⟨p.k + 1, p.s, p.t, p.x, p.sec⟩ : G15) ⟨h, hst, hxs, hkn⟩ trivial (show n - (p.k + 1) < n - p.k by omega) ?_
      ((repeat' ((conv => whnf) <;> first | exact trivial | (with_reducible first | refine And.intro ?_ ?_ | refine rows_lt1 ?_ | refine rows_lt2 ?_ ?_ | refine rows_lt3 ?_ ?_ ?_ | refine rows_lt4 ?_ ?_ ?_ ?_ | refine rows_lt5 ?_ ?_ ?_ ?_ ?_ | refine ints_lt1 ?_ | refine ints_lt2 ?_ ?_ | refine ints_lt3 ?_ ?_ ?_ | refine rows_lt7 ?_ ?_ ?_ ?_ ?_ ?_ ?_ | refine aggs_lt1 ?_ | refine aggs_lt2 ?_ ?_ | refine aggs_lt3 ?_ ?_ ?_ | refine fun (_ : Nat) => ?_) | refine fun (_ : (_ : Nat) < _) => ?_ | exact rfl | exact Nat.le_of_ble_eq_true rfl | (change (_ : Nat) ≤ _; omega) | (change (_ : Nat) = _; omega) | (change (_ : Int) = _; omega))); (all_goals try (conv => whnf)))
    · have hno : ¬ (dk (acK g a p.k) = 3 ∧ InH (g.h p.k) ∧ p.sec (g.h p.k).toNat = true) := fun q => hs q.2.2
      have hs := boF hs
      repeat (first | ((conv => whnf); refine And.intro ?_ ?_; exact sideOf) | ((conv => whnf); refine NilE.some ?_ ?_; exact sideOf) | ((conv => whnf); refine And.intro (fun _ => ?_) (fun h => nomatch (show true = false from h))) | ((conv => whnf); refine And.intro (fun h => nomatch (show false = true from h)) (fun _ => ?_)) | ((conv => whnf); first | (apply Exists.intro; (repeat apply Exists.intro); refine And.intro ?_ ?_; exact leOf) | (refine Or.inl ?_; (conv => whnf); (repeat apply Exists.intro); refine And.intro ?_ ?_; exact leOf) | (refine Or.inr ?_; (conv => whnf); first | ((repeat apply Exists.intro); refine And.intro ?_ ?_; exact leOf) | (refine Or.inl ?_; (conv => whnf); (repeat apply Exists.intro); refine And.intro ?_ ?_; exact leOf) | (refine Or.inr ?_; (conv => whnf); (repeat apply Exists.intro); refine And.intro ?_ ?_; exact leOf))) | ((conv => whnf); first | refine And.intro (by assumption) ?_ | refine goT ?_ | refine goF ?_ | refine goL ?_ | refine goR ?_ | refine goRL ?_ | refine goRR ?_))
      all_goals try (conv => whnf)
      refine Enter.mk p ⟨⟨h, h30, hst, hxs, hkn⟩, hno⟩ rfl ?_
      ((repeat' ((conv => whnf) <;> first | exact trivial | (with_reducible first | refine And.intro ?_ ?_ | refine rows_lt1 ?_ | refine rows_lt2 ?_ ?_ | refine rows_lt3 ?_ ?_ ?_ | refine rows_lt4 ?_ ?_ ?_ ?_ | refine rows_lt5 ?_ ?_ ?_ ?_ ?_ | refine ints_lt1 ?_ | refine ints_lt2 ?_ ?_ | refine ints_lt3 ?_ ?_ ?_ | refine rows_lt7 ?_ ?_ ?_ ?_ ?_ ?_ ?_ | refine aggs_lt1 ?_ | refine aggs_lt2 ?_ ?_ | refine aggs_lt3 ?_ ?_ ?_ | refine fun (_ : Nat) => ?_) | refine fun (_ : (_ : Nat) < _) => ?_ | exact rfl | exact Nat.le_of_ble_eq_true rfl | (change (_ : Nat) ≤ _; omega) | (change (_ : Nat) = _; omega) | (change (_ : Int) = _; omega))); (all_goals try (conv => whnf)))
  clear hk hst hxs hkn hc h hg1 hg2 h30 h7
  rintro p' hp rfl
  obtain ⟨⟨h, h30, hst, hxs, hkn⟩, hno⟩ := hp
  have hlab := lab30 (g.lab p'.k)
  repeat (first | ((conv => whnf); refine And.intro ?_ ?_; exact sideOf) | ((conv => whnf); refine NilE.some ?_ ?_; exact sideOf) | ((conv => whnf); refine And.intro (fun _ => ?_) (fun h => nomatch (show true = false from h))) | ((conv => whnf); refine And.intro (fun h => nomatch (show false = true from h)) (fun _ => ?_)) | ((conv => whnf); first | (apply Exists.intro; (repeat apply Exists.intro); refine And.intro ?_ ?_; exact leOf) | (refine Or.inl ?_; (conv => whnf); (repeat apply Exists.intro); refine And.intro ?_ ?_; exact leOf) | (refine Or.inr ?_; (conv => whnf); first | ((repeat apply Exists.intro); refine And.intro ?_ ?_; exact leOf) | (refine Or.inl ?_; (conv => whnf); (repeat apply Exists.intro); refine And.intro ?_ ?_; exact leOf) | (refine Or.inr ?_; (conv => whnf); (repeat apply Exists.intro); refine And.intro ?_ ?_; exact leOf))) | ((conv => whnf); first | refine And.intro (by assumption) ?_ | refine goT ?_ | refine goF ?_ | refine goL ?_ | refine goR ?_ | refine goRL ?_ | refine goRR ?_))
  all_goals try (conv => whnf)
  refine Exists.intro (fun q => q = p') (And.intro ?_ ?_)
  · by_cases h2 : g.d p'.k % BitVec.ofInt 8 7 = BitVec.ofInt 8 2
    · have hd2 : dk (acK g a p'.k) = 2 := dkOf (k := 2) h2 (by decide)
      by_cases e0 : doE p'.x (acK g a p'.k) = 0
      · have e0' : derE p'.x (g.h p'.k) (g.to p'.k) = 0 := (do_2 hd2).1.symm.trans e0
        obtain ⟨⟨i1, i2⟩, i3, i4⟩ := der_in e0'
        by_cases hs : p'.sec (g.h p'.k).toNat = true
        · skip
          repeat (first | ((conv => whnf); refine And.intro ?_ ?_; exact sideOf) | ((conv => whnf); refine NilE.some ?_ ?_; exact sideOf) | ((conv => whnf); refine And.intro (fun _ => ?_) (fun h => nomatch (show true = false from h))) | ((conv => whnf); refine And.intro (fun h => nomatch (show false = true from h)) (fun _ => ?_)) | ((conv => whnf); first | (apply Exists.intro; (repeat apply Exists.intro); refine And.intro ?_ ?_; exact leOf) | (refine Or.inl ?_; (conv => whnf); (repeat apply Exists.intro); refine And.intro ?_ ?_; exact leOf) | (refine Or.inr ?_; (conv => whnf); first | ((repeat apply Exists.intro); refine And.intro ?_ ?_; exact leOf) | (refine Or.inl ?_; (conv => whnf); (repeat apply Exists.intro); refine And.intro ?_ ?_; exact leOf) | (refine Or.inr ?_; (conv => whnf); (repeat apply Exists.intro); refine And.intro ?_ ?_; exact leOf))) | ((conv => whnf); first | refine And.intro (by assumption) ?_ | refine goT ?_ | refine goF ?_ | refine goL ?_ | refine goR ?_ | refine goRL ?_ | refine goRR ?_))
          all_goals try (conv => whnf)
          refine Enter.mk p' ⟨⟨h, h30, hst, hxs, hkn⟩, hno⟩ rfl ?_
          ((repeat' ((conv => whnf) <;> first | exact trivial | (with_reducible first | refine And.intro ?_ ?_ | refine rows_lt1 ?_ | refine rows_lt2 ?_ ?_ | refine rows_lt3 ?_ ?_ ?_ | refine rows_lt4 ?_ ?_ ?_ ?_ | refine rows_lt5 ?_ ?_ ?_ ?_ ?_ | refine ints_lt1 ?_ | refine ints_lt2 ?_ ?_ | refine ints_lt3 ?_ ?_ ?_ | refine rows_lt7 ?_ ?_ ?_ ?_ ?_ ?_ ?_ | refine aggs_lt1 ?_ | refine aggs_lt2 ?_ ?_ | refine aggs_lt3 ?_ ?_ ?_ | refine fun (_ : Nat) => ?_) | refine fun (_ : (_ : Nat) < _) => ?_ | exact rfl | exact Nat.le_of_ble_eq_true rfl | (change (_ : Nat) ≤ _; omega) | (change (_ : Nat) = _; omega) | (change (_ : Int) = _; omega))); (all_goals try (conv => whnf)))
          exact sec1_set hd2 e0' hs _
        · have hs := boF hs
          repeat (first | ((conv => whnf); refine And.intro ?_ ?_; exact sideOf) | ((conv => whnf); refine NilE.some ?_ ?_; exact sideOf) | ((conv => whnf); refine And.intro (fun _ => ?_) (fun h => nomatch (show true = false from h))) | ((conv => whnf); refine And.intro (fun h => nomatch (show false = true from h)) (fun _ => ?_)) | ((conv => whnf); first | (apply Exists.intro; (repeat apply Exists.intro); refine And.intro ?_ ?_; exact leOf) | (refine Or.inl ?_; (conv => whnf); (repeat apply Exists.intro); refine And.intro ?_ ?_; exact leOf) | (refine Or.inr ?_; (conv => whnf); first | ((repeat apply Exists.intro); refine And.intro ?_ ?_; exact leOf) | (refine Or.inl ?_; (conv => whnf); (repeat apply Exists.intro); refine And.intro ?_ ?_; exact leOf) | (refine Or.inr ?_; (conv => whnf); (repeat apply Exists.intro); refine And.intro ?_ ?_; exact leOf))) | ((conv => whnf); first | refine And.intro (by assumption) ?_ | refine goT ?_ | refine goF ?_ | refine goL ?_ | refine goR ?_ | refine goRL ?_ | refine goRR ?_))
          all_goals try (conv => whnf)
          refine Enter.mk p' ⟨⟨h, h30, hst, hxs, hkn⟩, hno⟩ rfl ?_
          ((repeat' ((conv => whnf) <;> first | exact trivial | (with_reducible first | refine And.intro ?_ ?_ | refine rows_lt1 ?_ | refine rows_lt2 ?_ ?_ | refine rows_lt3 ?_ ?_ ?_ | refine rows_lt4 ?_ ?_ ?_ ?_ | refine rows_lt5 ?_ ?_ ?_ ?_ ?_ | refine ints_lt1 ?_ | refine ints_lt2 ?_ ?_ | refine ints_lt3 ?_ ?_ ?_ | refine rows_lt7 ?_ ?_ ?_ ?_ ?_ ?_ ?_ | refine aggs_lt1 ?_ | refine aggs_lt2 ?_ ?_ | refine aggs_lt3 ?_ ?_ ?_ | refine fun (_ : Nat) => ?_) | refine fun (_ : (_ : Nat) < _) => ?_ | exact rfl | exact Nat.le_of_ble_eq_true rfl | (change (_ : Nat) ≤ _; omega) | (change (_ : Nat) = _; omega) | (change (_ : Int) = _; omega))); (all_goals try (conv => whnf)))
          exact sec1_no (fun q => absurd q.2.2 (by show ¬ p'.sec (g.h p'.k).toNat = true; rw [hs]; decide)) _
      · skip
        repeat (first | ((conv => whnf); refine And.intro ?_ ?_; exact sideOf) | ((conv => whnf); refine NilE.some ?_ ?_; exact sideOf) | ((conv => whnf); refine And.intro (fun _ => ?_) (fun h => nomatch (show true = false from h))) | ((conv => whnf); refine And.intro (fun h => nomatch (show false = true from h)) (fun _ => ?_)) | ((conv => whnf); first | (apply Exists.intro; (repeat apply Exists.intro); refine And.intro ?_ ?_; exact leOf) | (refine Or.inl ?_; (conv => whnf); (repeat apply Exists.intro); refine And.intro ?_ ?_; exact leOf) | (refine Or.inr ?_; (conv => whnf); first | ((repeat apply Exists.intro); refine And.intro ?_ ?_; exact leOf) | (refine Or.inl ?_; (conv => whnf); (repeat apply Exists.intro); refine And.intro ?_ ?_; exact leOf) | (refine Or.inr ?_; (conv => whnf); (repeat apply Exists.intro); refine And.intro ?_ ?_; exact leOf))) | ((conv => whnf); first | refine And.intro (by assumption) ?_ | refine goT ?_ | refine goF ?_ | refine goL ?_ | refine goR ?_ | refine goRL ?_ | refine goRR ?_))
        all_goals try (conv => whnf)
        refine Enter.mk p' ⟨⟨h, h30, hst, hxs, hkn⟩, hno⟩ rfl ?_
        ((repeat' ((conv => whnf) <;> first | exact trivial | (with_reducible first | refine And.intro ?_ ?_ | refine rows_lt1 ?_ | refine rows_lt2 ?_ ?_ | refine rows_lt3 ?_ ?_ ?_ | refine rows_lt4 ?_ ?_ ?_ ?_ | refine rows_lt5 ?_ ?_ ?_ ?_ ?_ | refine ints_lt1 ?_ | refine ints_lt2 ?_ ?_ | refine ints_lt3 ?_ ?_ ?_ | refine rows_lt7 ?_ ?_ ?_ ?_ ?_ ?_ ?_ | refine aggs_lt1 ?_ | refine aggs_lt2 ?_ ?_ | refine aggs_lt3 ?_ ?_ ?_ | refine fun (_ : Nat) => ?_) | refine fun (_ : (_ : Nat) < _) => ?_ | exact rfl | exact Nat.le_of_ble_eq_true rfl | (change (_ : Nat) ≤ _; omega) | (change (_ : Nat) = _; omega) | (change (_ : Int) = _; omega))); (all_goals try (conv => whnf)))
        exact sec1_no (fun q => e0 ((do_2 hd2).1.trans q.2.1)) _
    · by_cases e0 : doE p'.x (acK g a p'.k) = 0
      · skip
        repeat (first | ((conv => whnf); refine And.intro ?_ ?_; exact sideOf) | ((conv => whnf); refine NilE.some ?_ ?_; exact sideOf) | ((conv => whnf); refine And.intro (fun _ => ?_) (fun h => nomatch (show true = false from h))) | ((conv => whnf); refine And.intro (fun h => nomatch (show false = true from h)) (fun _ => ?_)) | ((conv => whnf); first | (apply Exists.intro; (repeat apply Exists.intro); refine And.intro ?_ ?_; exact leOf) | (refine Or.inl ?_; (conv => whnf); (repeat apply Exists.intro); refine And.intro ?_ ?_; exact leOf) | (refine Or.inr ?_; (conv => whnf); first | ((repeat apply Exists.intro); refine And.intro ?_ ?_; exact leOf) | (refine Or.inl ?_; (conv => whnf); (repeat apply Exists.intro); refine And.intro ?_ ?_; exact leOf) | (refine Or.inr ?_; (conv => whnf); (repeat apply Exists.intro); refine And.intro ?_ ?_; exact leOf))) | ((conv => whnf); first | refine And.intro (by assumption) ?_ | refine goT ?_ | refine goF ?_ | refine goL ?_ | refine goR ?_ | refine goRL ?_ | refine goRR ?_))
        all_goals try (conv => whnf)
        refine Enter.mk p' ⟨⟨h, h30, hst, hxs, hkn⟩, hno⟩ rfl ?_
        ((repeat' ((conv => whnf) <;> first | exact trivial | (with_reducible first | refine And.intro ?_ ?_ | refine rows_lt1 ?_ | refine rows_lt2 ?_ ?_ | refine rows_lt3 ?_ ?_ ?_ | refine rows_lt4 ?_ ?_ ?_ ?_ | refine rows_lt5 ?_ ?_ ?_ ?_ ?_ | refine ints_lt1 ?_ | refine ints_lt2 ?_ ?_ | refine ints_lt3 ?_ ?_ ?_ | refine rows_lt7 ?_ ?_ ?_ ?_ ?_ ?_ ?_ | refine aggs_lt1 ?_ | refine aggs_lt2 ?_ ?_ | refine aggs_lt3 ?_ ?_ ?_ | refine fun (_ : Nat) => ?_) | refine fun (_ : (_ : Nat) < _) => ?_ | exact rfl | exact Nat.le_of_ble_eq_true rfl | (change (_ : Nat) ≤ _; omega) | (change (_ : Nat) = _; omega) | (change (_ : Int) = _; omega))); (all_goals try (conv => whnf)))
        exact sec1_no (fun q => h2 (dkIs q.1)) _
      · skip
        repeat (first | ((conv => whnf); refine And.intro ?_ ?_; exact sideOf) | ((conv => whnf); refine NilE.some ?_ ?_; exact sideOf) | ((conv => whnf); refine And.intro (fun _ => ?_) (fun h => nomatch (show true = false from h))) | ((conv => whnf); refine And.intro (fun h => nomatch (show false = true from h)) (fun _ => ?_)) | ((conv => whnf); first | (apply Exists.intro; (repeat apply Exists.intro); refine And.intro ?_ ?_; exact leOf) | (refine Or.inl ?_; (conv => whnf); (repeat apply Exists.intro); refine And.intro ?_ ?_; exact leOf) | (refine Or.inr ?_; (conv => whnf); first | ((repeat apply Exists.intro); refine And.intro ?_ ?_; exact leOf) | (refine Or.inl ?_; (conv => whnf); (repeat apply Exists.intro); refine And.intro ?_ ?_; exact leOf) | (refine Or.inr ?_; (conv => whnf); (repeat apply Exists.intro); refine And.intro ?_ ?_; exact leOf))) | ((conv => whnf); first | refine And.intro (by assumption) ?_ | refine goT ?_ | refine goF ?_ | refine goL ?_ | refine goR ?_ | refine goRL ?_ | refine goRR ?_))
        all_goals try (conv => whnf)
        refine Enter.mk p' ⟨⟨h, h30, hst, hxs, hkn⟩, hno⟩ rfl ?_
        ((repeat' ((conv => whnf) <;> first | exact trivial | (with_reducible first | refine And.intro ?_ ?_ | refine rows_lt1 ?_ | refine rows_lt2 ?_ ?_ | refine rows_lt3 ?_ ?_ ?_ | refine rows_lt4 ?_ ?_ ?_ ?_ | refine rows_lt5 ?_ ?_ ?_ ?_ ?_ | refine ints_lt1 ?_ | refine ints_lt2 ?_ ?_ | refine ints_lt3 ?_ ?_ ?_ | refine rows_lt7 ?_ ?_ ?_ ?_ ?_ ?_ ?_ | refine aggs_lt1 ?_ | refine aggs_lt2 ?_ ?_ | refine aggs_lt3 ?_ ?_ ?_ | refine fun (_ : Nat) => ?_) | refine fun (_ : (_ : Nat) < _) => ?_ | exact rfl | exact Nat.le_of_ble_eq_true rfl | (change (_ : Nat) ≤ _; omega) | (change (_ : Nat) = _; omega) | (change (_ : Int) = _; omega))); (all_goals try (conv => whnf)))
        exact sec1_no (fun q => h2 (dkIs q.1)) _
  rintro p'' hp rfl
  obtain ⟨⟨h, h30, hst, hxs, hkn⟩, hno⟩ := hp
  repeat (first | ((conv => whnf); refine And.intro ?_ ?_; exact sideOf) | ((conv => whnf); refine NilE.some ?_ ?_; exact sideOf) | ((conv => whnf); refine And.intro (fun _ => ?_) (fun h => nomatch (show true = false from h))) | ((conv => whnf); refine And.intro (fun h => nomatch (show false = true from h)) (fun _ => ?_)) | ((conv => whnf); first | (apply Exists.intro; (repeat apply Exists.intro); refine And.intro ?_ ?_; exact leOf) | (refine Or.inl ?_; (conv => whnf); (repeat apply Exists.intro); refine And.intro ?_ ?_; exact leOf) | (refine Or.inr ?_; (conv => whnf); first | ((repeat apply Exists.intro); refine And.intro ?_ ?_; exact leOf) | (refine Or.inl ?_; (conv => whnf); (repeat apply Exists.intro); refine And.intro ?_ ?_; exact leOf) | (refine Or.inr ?_; (conv => whnf); (repeat apply Exists.intro); refine And.intro ?_ ?_; exact leOf))) | ((conv => whnf); first | refine And.intro (by assumption) ?_ | refine goT ?_ | refine goF ?_ | refine goL ?_ | refine goR ?_ | refine goRL ?_ | refine goRR ?_))
  all_goals try (conv => whnf)
  refine Exists.intro (fun q => q.1 = p'') (And.intro (Enter.mk ((p'', 0) : G15 × Nat) (Nat.zero_le _) rfl ?_) (fun (q : G15 × Nat) (hm : q.2 ≤ 8) (hq : q.1 = p'') => ?_))
  · ((repeat' ((conv => whnf) <;> first | exact trivial | (with_reducible first | refine And.intro ?_ ?_ | refine rows_lt1 ?_ | refine rows_lt2 ?_ ?_ | refine rows_lt3 ?_ ?_ ?_ | refine rows_lt4 ?_ ?_ ?_ ?_ | refine rows_lt5 ?_ ?_ ?_ ?_ ?_ | refine ints_lt1 ?_ | refine ints_lt2 ?_ ?_ | refine ints_lt3 ?_ ?_ ?_ | refine rows_lt7 ?_ ?_ ?_ ?_ ?_ ?_ ?_ | refine aggs_lt1 ?_ | refine aggs_lt2 ?_ ?_ | refine aggs_lt3 ?_ ?_ ?_ | refine fun (_ : Nat) => ?_) | refine fun (_ : (_ : Nat) < _) => ?_ | exact rfl | exact Nat.le_of_ble_eq_true rfl | (change (_ : Nat) ≤ _; omega) | (change (_ : Nat) = _; omega) | (change (_ : Int) = _; omega))); (all_goals try (conv => whnf)))
  obtain ⟨q1, m⟩ := q
  have hm : m ≤ 8 := hm
  have hq : q1 = p'' := hq
  subst hq
  rcases Nat.lt_or_ge m 8 with hm8 | hm8
  · by_cases z : (doX q1.x (acK g a q1.k)).kd m = 0
    · skip
      repeat (first | ((conv => whnf); refine And.intro ?_ ?_; exact sideOf) | ((conv => whnf); refine NilE.some ?_ ?_; exact sideOf) | ((conv => whnf); refine And.intro (fun _ => ?_) (fun h => nomatch (show true = false from h))) | ((conv => whnf); refine And.intro (fun h => nomatch (show false = true from h)) (fun _ => ?_)) | ((conv => whnf); first | (apply Exists.intro; (repeat apply Exists.intro); refine And.intro ?_ ?_; exact leOf) | (refine Or.inl ?_; (conv => whnf); (repeat apply Exists.intro); refine And.intro ?_ ?_; exact leOf) | (refine Or.inr ?_; (conv => whnf); first | ((repeat apply Exists.intro); refine And.intro ?_ ?_; exact leOf) | (refine Or.inl ?_; (conv => whnf); (repeat apply Exists.intro); refine And.intro ?_ ?_; exact leOf) | (refine Or.inr ?_; (conv => whnf); (repeat apply Exists.intro); refine And.intro ?_ ?_; exact leOf))) | ((conv => whnf); first | refine And.intro (by assumption) ?_ | refine goT ?_ | refine goF ?_ | refine goL ?_ | refine goR ?_ | refine goRL ?_ | refine goRR ?_))
      all_goals try (conv => whnf)
      refine Again.mk ((q1, m + 1) : G15 × Nat) (show m + 1 ≤ 8 from hm8) rfl (show 8 - (m + 1) < 8 - m by omega) ?_
      ((repeat' ((conv => whnf) <;> first | exact trivial | (with_reducible first | refine And.intro ?_ ?_ | refine rows_lt1 ?_ | refine rows_lt2 ?_ ?_ | refine rows_lt3 ?_ ?_ ?_ | refine rows_lt4 ?_ ?_ ?_ ?_ | refine rows_lt5 ?_ ?_ ?_ ?_ ?_ | refine ints_lt1 ?_ | refine ints_lt2 ?_ ?_ | refine ints_lt3 ?_ ?_ ?_ | refine rows_lt7 ?_ ?_ ?_ ?_ ?_ ?_ ?_ | refine aggs_lt1 ?_ | refine aggs_lt2 ?_ ?_ | refine aggs_lt3 ?_ ?_ ?_ | refine fun (_ : Nat) => ?_) | refine fun (_ : (_ : Nat) < _) => ?_ | exact rfl | exact Nat.le_of_ble_eq_true rfl | (change (_ : Nat) ≤ _; omega) | (change (_ : Nat) = _; omega) | (change (_ : Int) = _; omega))); (all_goals try (conv => whnf)))
      exact secM_set (if_pos z) _
    · by_cases w1 : q1.x.kd m = 0
      · by_cases w2 : g.d q1.k % BitVec.ofInt 8 7 < BitVec.ofInt 8 2
        · skip
          repeat (first | ((conv => whnf); refine And.intro ?_ ?_; exact sideOf) | ((conv => whnf); refine NilE.some ?_ ?_; exact sideOf) | ((conv => whnf); refine And.intro (fun _ => ?_) (fun h => nomatch (show true = false from h))) | ((conv => whnf); refine And.intro (fun h => nomatch (show false = true from h)) (fun _ => ?_)) | ((conv => whnf); first | (apply Exists.intro; (repeat apply Exists.intro); refine And.intro ?_ ?_; exact leOf) | (refine Or.inl ?_; (conv => whnf); (repeat apply Exists.intro); refine And.intro ?_ ?_; exact leOf) | (refine Or.inr ?_; (conv => whnf); first | ((repeat apply Exists.intro); refine And.intro ?_ ?_; exact leOf) | (refine Or.inl ?_; (conv => whnf); (repeat apply Exists.intro); refine And.intro ?_ ?_; exact leOf) | (refine Or.inr ?_; (conv => whnf); (repeat apply Exists.intro); refine And.intro ?_ ?_; exact leOf))) | ((conv => whnf); first | refine And.intro (by assumption) ?_ | refine goT ?_ | refine goF ?_ | refine goL ?_ | refine goR ?_ | refine goRL ?_ | refine goRR ?_))
          all_goals try (conv => whnf)
          refine Again.mk ((q1, m + 1) : G15 × Nat) (show m + 1 ≤ 8 from hm8) rfl (show 8 - (m + 1) < 8 - m by omega) ?_
          ((repeat' ((conv => whnf) <;> first | exact trivial | (with_reducible first | refine And.intro ?_ ?_ | refine rows_lt1 ?_ | refine rows_lt2 ?_ ?_ | refine rows_lt3 ?_ ?_ ?_ | refine rows_lt4 ?_ ?_ ?_ ?_ | refine rows_lt5 ?_ ?_ ?_ ?_ ?_ | refine ints_lt1 ?_ | refine ints_lt2 ?_ ?_ | refine ints_lt3 ?_ ?_ ?_ | refine rows_lt7 ?_ ?_ ?_ ?_ ?_ ?_ ?_ | refine aggs_lt1 ?_ | refine aggs_lt2 ?_ ?_ | refine aggs_lt3 ?_ ?_ ?_ | refine fun (_ : Nat) => ?_) | refine fun (_ : (_ : Nat) < _) => ?_ | exact rfl | exact Nat.le_of_ble_eq_true rfl | (change (_ : Nat) ≤ _; omega) | (change (_ : Nat) = _; omega) | (change (_ : Int) = _; omega))); (all_goals try (conv => whnf)))
          exact secM_set ((if_neg z).trans (if_pos ⟨w1, dlt2 w2⟩)) _
        · skip
          repeat (first | ((conv => whnf); refine And.intro ?_ ?_; exact sideOf) | ((conv => whnf); refine NilE.some ?_ ?_; exact sideOf) | ((conv => whnf); refine And.intro (fun _ => ?_) (fun h => nomatch (show true = false from h))) | ((conv => whnf); refine And.intro (fun h => nomatch (show false = true from h)) (fun _ => ?_)) | ((conv => whnf); first | (apply Exists.intro; (repeat apply Exists.intro); refine And.intro ?_ ?_; exact leOf) | (refine Or.inl ?_; (conv => whnf); (repeat apply Exists.intro); refine And.intro ?_ ?_; exact leOf) | (refine Or.inr ?_; (conv => whnf); first | ((repeat apply Exists.intro); refine And.intro ?_ ?_; exact leOf) | (refine Or.inl ?_; (conv => whnf); (repeat apply Exists.intro); refine And.intro ?_ ?_; exact leOf) | (refine Or.inr ?_; (conv => whnf); (repeat apply Exists.intro); refine And.intro ?_ ?_; exact leOf))) | ((conv => whnf); first | refine And.intro (by assumption) ?_ | refine goT ?_ | refine goF ?_ | refine goL ?_ | refine goR ?_ | refine goRL ?_ | refine goRR ?_))
          all_goals try (conv => whnf)
          refine Again.mk ((q1, m + 1) : G15 × Nat) (show m + 1 ≤ 8 from hm8) rfl (show 8 - (m + 1) < 8 - m by omega) ?_
          ((repeat' ((conv => whnf) <;> first | exact trivial | (with_reducible first | refine And.intro ?_ ?_ | refine rows_lt1 ?_ | refine rows_lt2 ?_ ?_ | refine rows_lt3 ?_ ?_ ?_ | refine rows_lt4 ?_ ?_ ?_ ?_ | refine rows_lt5 ?_ ?_ ?_ ?_ ?_ | refine ints_lt1 ?_ | refine ints_lt2 ?_ ?_ | refine ints_lt3 ?_ ?_ ?_ | refine rows_lt7 ?_ ?_ ?_ ?_ ?_ ?_ ?_ | refine aggs_lt1 ?_ | refine aggs_lt2 ?_ ?_ | refine aggs_lt3 ?_ ?_ ?_ | refine fun (_ : Nat) => ?_) | refine fun (_ : (_ : Nat) < _) => ?_ | exact rfl | exact Nat.le_of_ble_eq_true rfl | (change (_ : Nat) ≤ _; omega) | (change (_ : Nat) = _; omega) | (change (_ : Int) = _; omega))); (all_goals try (conv => whnf)))
          exact secM_same ((if_neg z).trans (if_neg fun q => dge2 (c := acK g a q1.k) w2 q.2)) _
      · skip
        repeat (first | ((conv => whnf); refine And.intro ?_ ?_; exact sideOf) | ((conv => whnf); refine NilE.some ?_ ?_; exact sideOf) | ((conv => whnf); refine And.intro (fun _ => ?_) (fun h => nomatch (show true = false from h))) | ((conv => whnf); refine And.intro (fun h => nomatch (show false = true from h)) (fun _ => ?_)) | ((conv => whnf); first | (apply Exists.intro; (repeat apply Exists.intro); refine And.intro ?_ ?_; exact leOf) | (refine Or.inl ?_; (conv => whnf); (repeat apply Exists.intro); refine And.intro ?_ ?_; exact leOf) | (refine Or.inr ?_; (conv => whnf); first | ((repeat apply Exists.intro); refine And.intro ?_ ?_; exact leOf) | (refine Or.inl ?_; (conv => whnf); (repeat apply Exists.intro); refine And.intro ?_ ?_; exact leOf) | (refine Or.inr ?_; (conv => whnf); (repeat apply Exists.intro); refine And.intro ?_ ?_; exact leOf))) | ((conv => whnf); first | refine And.intro (by assumption) ?_ | refine goT ?_ | refine goF ?_ | refine goL ?_ | refine goR ?_ | refine goRL ?_ | refine goRR ?_))
        all_goals try (conv => whnf)
        refine Again.mk ((q1, m + 1) : G15 × Nat) (show m + 1 ≤ 8 from hm8) rfl (show 8 - (m + 1) < 8 - m by omega) ?_
        ((repeat' ((conv => whnf) <;> first | exact trivial | (with_reducible first | refine And.intro ?_ ?_ | refine rows_lt1 ?_ | refine rows_lt2 ?_ ?_ | refine rows_lt3 ?_ ?_ ?_ | refine rows_lt4 ?_ ?_ ?_ ?_ | refine rows_lt5 ?_ ?_ ?_ ?_ ?_ | refine ints_lt1 ?_ | refine ints_lt2 ?_ ?_ | refine ints_lt3 ?_ ?_ ?_ | refine rows_lt7 ?_ ?_ ?_ ?_ ?_ ?_ ?_ | refine aggs_lt1 ?_ | refine aggs_lt2 ?_ ?_ | refine aggs_lt3 ?_ ?_ ?_ | refine fun (_ : Nat) => ?_) | refine fun (_ : (_ : Nat) < _) => ?_ | exact rfl | exact Nat.le_of_ble_eq_true rfl | (change (_ : Nat) ≤ _; omega) | (change (_ : Nat) = _; omega) | (change (_ : Int) = _; omega))); (all_goals try (conv => whnf)))
        exact secM_same ((if_neg z).trans (if_neg fun q => w1 q.1)) _
  obtain rfl : m = 8 := by omega
  by_cases k1 : g.k q1.k = 1
  · skip
    have eD : doD q1.s (acK g a q1.k) = doD q1.t (acK g b q1.k) := doD_kn hst hkn (acK g a q1.k) b hno
    have eE : apE q1.s (acK g a q1.k) = apE q1.t (acK g b q1.k) := lk_apE hst (acK g a q1.k) b
    repeat (first | ((conv => whnf); refine And.intro ?_ ?_; exact sideOf) | ((conv => whnf); refine NilE.some ?_ ?_; exact sideOf) | ((conv => whnf); refine And.intro (fun _ => ?_) (fun h => nomatch (show true = false from h))) | ((conv => whnf); refine And.intro (fun h => nomatch (show false = true from h)) (fun _ => ?_)) | ((conv => whnf); first | (apply Exists.intro; (repeat apply Exists.intro); refine And.intro ?_ ?_; exact leOf) | (refine Or.inl ?_; (conv => whnf); (repeat apply Exists.intro); refine And.intro ?_ ?_; exact leOf) | (refine Or.inr ?_; (conv => whnf); first | ((repeat apply Exists.intro); refine And.intro ?_ ?_; exact leOf) | (refine Or.inl ?_; (conv => whnf); (repeat apply Exists.intro); refine And.intro ?_ ?_; exact leOf) | (refine Or.inr ?_; (conv => whnf); (repeat apply Exists.intro); refine And.intro ?_ ?_; exact leOf))) | ((conv => whnf); first | refine And.intro (by assumption) ?_ | refine goT ?_ | refine goF ?_ | refine goL ?_ | refine goR ?_ | refine goRL ?_ | refine goRR ?_))
    all_goals try (conv => whnf)
    refine And.intro (fun h => nbang h (eqB_agg fun i hi => congrFun eD i)) (fun _ => ?_)
    repeat (first | ((conv => whnf); refine And.intro ?_ ?_; exact sideOf) | ((conv => whnf); refine NilE.some ?_ ?_; exact sideOf) | ((conv => whnf); refine And.intro (fun _ => ?_) (fun h => nomatch (show true = false from h))) | ((conv => whnf); refine And.intro (fun h => nomatch (show false = true from h)) (fun _ => ?_)) | ((conv => whnf); first | (apply Exists.intro; (repeat apply Exists.intro); refine And.intro ?_ ?_; exact leOf) | (refine Or.inl ?_; (conv => whnf); (repeat apply Exists.intro); refine And.intro ?_ ?_; exact leOf) | (refine Or.inr ?_; (conv => whnf); first | ((repeat apply Exists.intro); refine And.intro ?_ ?_; exact leOf) | (refine Or.inl ?_; (conv => whnf); (repeat apply Exists.intro); refine And.intro ?_ ?_; exact leOf) | (refine Or.inr ?_; (conv => whnf); (repeat apply Exists.intro); refine And.intro ?_ ?_; exact leOf))) | ((conv => whnf); first | refine And.intro (by assumption) ?_ | refine goT ?_ | refine goF ?_ | refine goL ?_ | refine goR ?_ | refine goRL ?_ | refine goRR ?_))
    all_goals try (conv => whnf)
    refine Again.mk (⟨q1.k + 1, apS q1.s (acK g a q1.k), apS q1.t (acK g b q1.k), doX q1.x (acK g a q1.k), sec2 q1.x (doX q1.x (acK g a q1.k)) (acK g a q1.k) q1.sec⟩ : G15) ⟨h, lk_apS hst (acK g a q1.k) b, lk_doX hxs (acK g a q1.k), ?_⟩ trivial (show n - (q1.k + 1) < n - q1.k by omega) ?_
    · show Kn _ _ (sec2 q1.x (doX q1.x (acK g a q1.k)) (acK g a q1.k) q1.sec)
      rw [sec2_lk hxs]
      exact kn_step hst hkn (acK g a q1.k) b (fun q => absurd k1 q)
    ((repeat' ((conv => whnf) <;> first | exact trivial | (with_reducible first | refine And.intro ?_ ?_ | refine rows_lt1 ?_ | refine rows_lt2 ?_ ?_ | refine rows_lt3 ?_ ?_ ?_ | refine rows_lt4 ?_ ?_ ?_ ?_ | refine rows_lt5 ?_ ?_ ?_ ?_ ?_ | refine ints_lt1 ?_ | refine ints_lt2 ?_ ?_ | refine ints_lt3 ?_ ?_ ?_ | refine rows_lt7 ?_ ?_ ?_ ?_ ?_ ?_ ?_ | refine aggs_lt1 ?_ | refine aggs_lt2 ?_ ?_ | refine aggs_lt3 ?_ ?_ ?_ | refine fun (_ : Nat) => ?_) | refine fun (_ : (_ : Nat) < _) => ?_ | exact rfl | exact Nat.le_of_ble_eq_true rfl | (change (_ : Nat) ≤ _; omega) | (change (_ : Nat) = _; omega) | (change (_ : Int) = _; omega))); (all_goals try (conv => whnf)))
    all_goals (rename_i hx; exact secM_all _ _ _ _ hx)
  · skip
    have eD : doD q1.s (acK g a q1.k) = doD q1.t (acK g a q1.k) := doD_kn hst hkn (acK g a q1.k) a hno
    have eE : apE q1.s (acK g a q1.k) = apE q1.t (acK g a q1.k) := lk_apE hst (acK g a q1.k) a
    repeat (first | ((conv => whnf); refine And.intro ?_ ?_; exact sideOf) | ((conv => whnf); refine NilE.some ?_ ?_; exact sideOf) | ((conv => whnf); refine And.intro (fun _ => ?_) (fun h => nomatch (show true = false from h))) | ((conv => whnf); refine And.intro (fun h => nomatch (show false = true from h)) (fun _ => ?_)) | ((conv => whnf); first | (apply Exists.intro; (repeat apply Exists.intro); refine And.intro ?_ ?_; exact leOf) | (refine Or.inl ?_; (conv => whnf); (repeat apply Exists.intro); refine And.intro ?_ ?_; exact leOf) | (refine Or.inr ?_; (conv => whnf); first | ((repeat apply Exists.intro); refine And.intro ?_ ?_; exact leOf) | (refine Or.inl ?_; (conv => whnf); (repeat apply Exists.intro); refine And.intro ?_ ?_; exact leOf) | (refine Or.inr ?_; (conv => whnf); (repeat apply Exists.intro); refine And.intro ?_ ?_; exact leOf))) | ((conv => whnf); first | refine And.intro (by assumption) ?_ | refine goT ?_ | refine goF ?_ | refine goL ?_ | refine goR ?_ | refine goRL ?_ | refine goRR ?_))
    all_goals try (conv => whnf)
    refine And.intro (fun h => nbang h (eqB_agg fun i hi => congrFun eD i)) (fun _ => ?_)
    repeat (first | ((conv => whnf); refine And.intro ?_ ?_; exact sideOf) | ((conv => whnf); refine NilE.some ?_ ?_; exact sideOf) | ((conv => whnf); refine And.intro (fun _ => ?_) (fun h => nomatch (show true = false from h))) | ((conv => whnf); refine And.intro (fun h => nomatch (show false = true from h)) (fun _ => ?_)) | ((conv => whnf); first | (apply Exists.intro; (repeat apply Exists.intro); refine And.intro ?_ ?_; exact leOf) | (refine Or.inl ?_; (conv => whnf); (repeat apply Exists.intro); refine And.intro ?_ ?_; exact leOf) | (refine Or.inr ?_; (conv => whnf); first | ((repeat apply Exists.intro); refine And.intro ?_ ?_; exact leOf) | (refine Or.inl ?_; (conv => whnf); (repeat apply Exists.intro); refine And.intro ?_ ?_; exact leOf) | (refine Or.inr ?_; (conv => whnf); (repeat apply Exists.intro); refine And.intro ?_ ?_; exact leOf))) | ((conv => whnf); first | refine And.intro (by assumption) ?_ | refine goT ?_ | refine goF ?_ | refine goL ?_ | refine goR ?_ | refine goRL ?_ | refine goRR ?_))
    all_goals try (conv => whnf)
    refine Again.mk (⟨q1.k + 1, apS q1.s (acK g a q1.k), apS q1.t (acK g a q1.k), doX q1.x (acK g a q1.k), sec2 q1.x (doX q1.x (acK g a q1.k)) (acK g a q1.k) q1.sec⟩ : G15) ⟨h, lk_apS hst (acK g a q1.k) a, lk_doX hxs (acK g a q1.k), ?_⟩ trivial (show n - (q1.k + 1) < n - q1.k by omega) ?_
    · show Kn _ _ (sec2 q1.x (doX q1.x (acK g a q1.k)) (acK g a q1.k) q1.sec)
      rw [sec2_lk hxs]
      exact kn_step hst hkn (acK g a q1.k) a (fun _ => rfl)
    ((repeat' ((conv => whnf) <;> first | exact trivial | (with_reducible first | refine And.intro ?_ ?_ | refine rows_lt1 ?_ | refine rows_lt2 ?_ ?_ | refine rows_lt3 ?_ ?_ ?_ | refine rows_lt4 ?_ ?_ ?_ ?_ | refine rows_lt5 ?_ ?_ ?_ ?_ ?_ | refine ints_lt1 ?_ | refine ints_lt2 ?_ ?_ | refine ints_lt3 ?_ ?_ ?_ | refine rows_lt7 ?_ ?_ ?_ ?_ ?_ ?_ ?_ | refine aggs_lt1 ?_ | refine aggs_lt2 ?_ ?_ | refine aggs_lt3 ?_ ?_ ?_ | refine fun (_ : Nat) => ?_) | refine fun (_ : (_ : Nat) < _) => ?_ | exact rfl | exact Nat.le_of_ble_eq_true rfl | (change (_ : Nat) ≤ _; omega) | (change (_ : Nat) = _; omega) | (change (_ : Int) = _; omega))); (all_goals try (conv => whnf)))
    all_goals (rename_i hx; exact secM_all _ _ _ _ hx)
end Go.Proofs.YtjmeihmioecciaaDoor
