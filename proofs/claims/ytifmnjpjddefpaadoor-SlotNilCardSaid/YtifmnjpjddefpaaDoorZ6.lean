/- Key slots: the example; scripts on two that are alike but for the chip's keys. -/
import Derived.Test.YtifmnjpjddefpaaDoorZ4
import Derived.Test.YtifmnjpjddefpaaDoorZ5
namespace Go.Proofs.YtifmnjpjddefpaaDoor
open Go.RowKit
set_option maxRecDepth 100000
set_option maxHeartbeats 20000000
attribute [local irreducible] hsh rst sha256 press dig valN cat
def k5 : Nat → BitVec 8 := fun j => if j = 0 then 5 else 0
def C_l15_few : SpecR := fun A K => ∃ d h to k key lab l b, A [actP d h to k key lab (bsl l b)] ∧ lab.length ≤ maxLen ∧ l ≤ maxLen ∧ K (actP d h to k key (lab.take 30) (.gsl 5 8 (min l 60))) [(8, .grow 5 (min l 60) (bys b))]
theorem cn0 (key : Nat → BitVec 8) : Cn (layS sl0 0 1 key) 0 := ⟨by omega, rfl, fun j => by
  show (if j = 0 then 1 else (0 : Int)) = cK 0 j
  unfold cK
  by_cases e : j = 0
  · rw [if_pos e, if_pos e]
  · rw [if_neg e, if_neg e, if_neg (by omega)]⟩
theorem awk (key : Nat → BitVec 8) (lab : List UInt8) (l0 : Nat) (b0 : Nat → BitVec 8) : macD (derS (layS sl0 0 1 key) (0 : Nat) (0 + 1 : Nat) lab []) (0 + 1 : Nat) [(l0, b0)] = at8 (hmac (lw 32 (at8 (hmac (lw 32 key) (dtext lab [])))) (lw l0 b0)) := by
  rw [cn_macD (cn_step (cn0 key) (by decide) lab []), cn_ky (cn0 key) (by decide), cat1]
  rfl
theorem awk' (key : Nat → BitVec 8) (lab : List UInt8) (l0 : Nat) (b0 : Nat → BitVec 8) (i : Nat) : macD (derS (layS sl0 0 1 key) (0 : Nat) (0 + 1 : Nat) lab []) (0 + 1 : Nat) [(l0, b0)] i = at8 (hmac (lw (32 - 0) fun x => at8 (hmac (lw (32 - 0) fun x => key (0 + x)) (dtext lab [])) (0 + x)) (lw l0 b0)) i := by
  rw [lw320 key, lw320 (at8 (hmac (lw 32 key) (dtext lab []))), awk]
def C_l15_awake : SpecP := fun A K => A [] ∧ K (.bo true)
theorem g_l15_awake : Gd 5 (pureP ty C_l15_awake) := by
  refine goodP (E := PG [(7, pureR ty C_sl_New), (8, mutD ty [true, false, false, false] C_sl_Lay), (16, mutD ty [true, false, false, false, false] C_sl_Derive_0), (13, pureP ty C_sl_Mac_1), (22, pureP ty C_r2_Derive_0), (23, pureP ty C_r2_Sum)]) (pgOK ⟨g_sl_New, g_sl_Lay, g_sl_Derive_0, g_sl_Mac_1, g_r2_Derive_0, g_r2_Sum, trivial⟩) mixes Tryd.func5 (by kernel_rfl) (by kernel_rfl) ?_
  rintro A K ⟨hA, hK⟩
  refine ⟨_, _, fun _ => none, hA, hK, by kernel_rfl, trivial, ?_⟩
  repeat (first | ((conv => whnf); refine And.intro ?_ ?_; exact sideOf) | ((conv => whnf); refine NilE.some ?_ ?_; exact sideOf) | ((conv => whnf); refine And.intro (fun _ => ?_) (fun h => nomatch (show true = false from h))) | ((conv => whnf); refine And.intro (fun h => nomatch (show false = true from h)) (fun _ => ?_)) | ((conv => whnf); first | (apply Exists.intro; (repeat apply Exists.intro); refine And.intro ?_ ?_; exact leOf) | (refine Or.inl ?_; (conv => whnf); (repeat apply Exists.intro); refine And.intro ?_ ?_; exact leOf) | (refine Or.inr ?_; (conv => whnf); first | ((repeat apply Exists.intro); refine And.intro ?_ ?_; exact leOf) | (refine Or.inl ?_; (conv => whnf); (repeat apply Exists.intro); refine And.intro ?_ ?_; exact leOf) | (refine Or.inr ?_; (conv => whnf); (repeat apply Exists.intro); refine And.intro ?_ ?_; exact leOf))) | ((conv => whnf); first | refine And.intro (by assumption) ?_ | refine goT ?_ | refine goF ?_ | refine goL ?_ | refine goR ?_ | refine goRL ?_ | refine goRR ?_))
  all_goals try (conv => whnf)
  refine eqB_agg fun i hi => ?_
  exact awk' _ _ _ _ i
/-- What several ways come to is proved once. -/
structure Hold (X : Prop) : Prop where
  x : X
/-- What comes in: lengths. -/
theorem lenZ_of {c : Cx} {fr : Bool} {et : Ty} {l : Nat} {f : Nat → AV} {v : Value} (h : RV c (.imm fr et l f) v) : l ≤ maxLen := by
  obtain ⟨A, q, _, h1, h2, _⟩ := (show R c _ _ from h)
  exact Nat.le_trans h1 h2
theorem inZ2 {c : Cx} {fr fr' u : Bool} {et et' : Ty} {l l' n i : Nat} {f f' g : Nat → AV} {v : Value} (h : RV c (.imm fr et l f) v) {k : Nat} (hk : k < l) (e : f k = .agg u n g) (hin : i < n) (e' : g i = .imm fr' et' l' f') : l' ≤ maxLen := by
  obtain ⟨A, q, _, h1, h2, h3⟩ := (show R c _ _ from h)
  obtain ⟨b, o, _, _, _, _, hi⟩ := h3 (by omega)
  obtain ⟨_, ds, hr, _⟩ := hi k hk
  rw [e] at hr
  obtain ⟨w, hw, _⟩ := hr
  have hr := hw i hin
  rw [e'] at hr
  obtain ⟨A, q, _, h1, h2, _⟩ := hr
  exact Nat.le_trans h1 h2
theorem share {X P : Prop} (main : Hold X → P) (pf : X) : P := main ⟨pf⟩
structure Acts15 where
  d : Nat → BitVec 8
  h : Nat → Int
  to : Nat → Int
  k : Nat → Int
  key : Nat → Nat → BitVec 8
  lab : Nat → List UInt8
  l : Nat → Nat
  b : Nat → Nat → BitVec 8
abbrev acK (g : Acts15) (a : Nat → BitVec 8) (k : Nat) : Act15 := ⟨g.d k, g.h k, g.to k, g.k k, a, (g.lab k).take 30, min (g.l k) 60, g.b k⟩
structure G15 where
  k : Nat
  s : Sl
  t : Sl
  x : Sl
  sec : Nat → Bool
def okG (p : G15) : Prop := Lk p.s p.t ∧ Lk p.x p.s ∧ Kn p.s p.t p.sec
abbrev bosA (f : Nat → Bool) : AV := .agg true 8 (fun i => .bo (f i))
theorem der_in {s : Sl} {a b : Int} (e : derE s a b = 0) : InH a ∧ InH b := by
  unfold derE at e
  split at e
  · cases e
  split at e
  · cases e
  · rename_i q; exact Decidable.of_not_not q
theorem sec1_set {x : Sl} {c : Act15} {sec : Nat → Bool} (h2 : dk c = 2) (h0 : derE x c.h c.to = 0) (hs : sec c.h.toNat = true) (j : Nat) : (if j = c.to.toNat then true else sec j) = sec1 x c sec j := by
  unfold sec1
  by_cases e : j = c.to.toNat
  · rw [if_pos e, if_pos ⟨h2, h0, hs, e⟩]
  · rw [if_neg e, if_neg fun q => e q.2.2.2]
theorem sec1_no {x : Sl} {c : Act15} {sec : Nat → Bool} (h : ¬ (dk c = 2 ∧ derE x c.h c.to = 0 ∧ sec c.h.toNat = true)) (j : Nat) : sec j = sec1 x c sec j := by
  unfold sec1
  rw [if_neg fun q => h ⟨q.1, q.2.1, q.2.2.1⟩]
theorem sec2_lk {x s : Sl} (h : Lk x s) (c : Act15) (sec : Nat → Bool) : sec2 x (doX x c) c sec = sec2 s (apS s c) c sec := by
  funext i
  unfold sec2 sec1
  rw [(lk_doX h c).1, h.1, lk_derE h]
theorem lab30 (l : List UInt8) : (l.take 30).length ≤ 10000 := Nat.le_trans (List.length_take_le _ _) (by decide)
/-- The act's rows: what few hands back, and the act itself. -/
abbrev actG (d : BitVec 8) (h to k : Int) (key : Nat → BitVec 8) (lab : List UInt8) (l : Nat) : AV := actP d h to k key (lab.take 30) (.gsl 5 7185 (min l 60))
abbrev i8A (f : Nat → Int) : AV := .agg true 8 (fun i => .int (f i))
def secM (x x' : Sl) (c : Act15) (sec : Nat → Bool) (m i : Nat) : Bool := if i < m then sec2 x x' c sec i else sec1 x c sec i
theorem secM_zero (x x' : Sl) (c : Act15) (sec : Nat → Bool) (i : Nat) : sec1 x c sec i = secM x x' c sec 0 i := by
  unfold secM; rw [if_neg (by omega)]
theorem secM_same {x x' : Sl} {c : Act15} {sec : Nat → Bool} {m : Nat} (h : sec2 x x' c sec m = sec1 x c sec m) (i : Nat) : secM x x' c sec m i = secM x x' c sec (m + 1) i := by
  unfold secM
  by_cases e : i = m
  · subst e; rw [if_neg (by omega), if_pos (by omega), h]
  · by_cases e1 : i < m
    · rw [if_pos e1, if_pos (by omega)]
    · rw [if_neg e1, if_neg (by omega)]
theorem secM_set {x x' : Sl} {c : Act15} {sec : Nat → Bool} {m : Nat} {v : Bool} (h : sec2 x x' c sec m = v) (i : Nat) : (if i = m then v else secM x x' c sec m i) = secM x x' c sec (m + 1) i := by
  by_cases e : i = m
  · rw [if_pos e]; unfold secM; rw [if_pos (by omega), e, h]
  · rw [if_neg e]
    unfold secM
    by_cases e1 : i < m
    · rw [if_pos e1, if_pos (by omega)]
    · rw [if_neg e1, if_neg (by omega)]
theorem secM_all (x x' : Sl) (c : Act15) (sec : Nat → Bool) {i : Nat} (hi : i < 8) : secM x x' c sec 8 i = sec2 x x' c sec i := by
  unfold secM; rw [if_pos hi]
theorem dlt2 {c : Act15} (h : c.d % BitVec.ofInt 8 7 < BitVec.ofInt 8 2) : dk c < 2 := by
  have h : (c.d % BitVec.ofInt 8 7).toNat < (BitVec.ofInt 8 2).toNat := h
  rw [BitVec.toNat_umod] at h
  exact h
theorem dge2 {c : Act15} (h : ¬ c.d % BitVec.ofInt 8 7 < BitVec.ofInt 8 2) : ¬ dk c < 2 := fun q => h (by
  show (c.d % BitVec.ofInt 8 7).toNat < (BitVec.ofInt 8 2).toNat
  rw [BitVec.toNat_umod]
  exact q)
end Go.Proofs.YtifmnjpjddefpaaDoor
