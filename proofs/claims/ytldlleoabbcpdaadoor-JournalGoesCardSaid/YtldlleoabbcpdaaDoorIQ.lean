/- The journal: JournalGoes. -/
import Derived.Test.YtldlleoabbcpdaaDoorIN
import Derived.Test.YtldlleoabbcpdaaDoorIO
namespace Go.Proofs.YtldlleoabbcpdaaDoor
open Go.RowKit
set_option maxRecDepth 100000
set_option maxHeartbeats 20000000
attribute [local irreducible] at8 be rcF rcH lw hsh rst sha256 press dig isR rgt w4 rdN bQ bA bT bR setF badB opW opM doM opK nxM nxP lyM byL byF
theorem nbang2 {b : Bool} {p : Prop} (h2 : (!b) = true) (h1 : b = true) : p := by rw [h1] at h2; cases h2
structure GoS where
  k : Nat
  c : Nat
  m : Nat → BitVec 8
  s : JS
/-- The page that the c-th state stands in. -/
def pgc (c : Nat) : Int := if c = 0 then -1 else if c % 2 = 1 then 32 else 33
def GoI (n : Nat) (g : GoS) : Prop := g.k ≤ n ∧ g.c ≤ g.k ∧ rdN g.m 2 = (g.s, pgc g.c) ∧ g.s.q = BitVec.ofNat 32 g.c
theorem pgc_s (c : Nat) : (if pgc c = 32 then (33 : Int) else 32) = pgc (c + 1) := by
  unfold pgc
  by_cases h0 : c = 0
  · subst h0; rfl
  · rw [if_neg h0, if_neg (show ¬ c + 1 = 0 by omega)]
    by_cases h1 : c % 2 = 1
    · rw [if_pos h1, if_pos rfl, if_neg (by omega)]
    · rw [if_neg h1, if_neg (by decide), if_pos (by omega)]
theorem go_nxt {n : Nat} {g : GoS} (h : GoI n g) : nxP g.m = pgc (g.c + 1) := by
  unfold nxP
  rw [h.2.2.1]
  exact pgc_s g.c
theorem pgc_at (c : Nat) : (pgc (c + 1) = 32 ∨ pgc (c + 1) = 33) ∧ pgc (c + 1) = 33 - ((c + 1) % 2 : Nat) := by
  unfold pgc
  rw [if_neg (by omega)]
  by_cases h1 : (c + 1) % 2 = 1
  · rw [if_pos h1, h1]; exact ⟨Or.inl rfl, rfl⟩
  · have h2 : (c + 1) % 2 = 0 := by omega
    rw [if_neg h1, h2]; exact ⟨Or.inr rfl, rfl⟩
theorem q_c {c : Nat} (h : c < 100) : ¬ BitVec.ofNat 32 c = qL := fun e => by
  have := congrArg BitVec.toNat e
  rw [BitVec.toNat_ofNat, show qL.toNat = 4294967295 by decide] at this
  omega
theorem q_s (c : Nat) : BitVec.ofNat 32 c + BitVec.ofInt 32 1 = BitVec.ofNat 32 (c + 1) := by
  rw [show BitVec.ofInt 32 1 = BitVec.ofNat 32 1 from rfl, ← BitVec.ofNat_add]
/-- The page that isn't written: what stood there is the record ahead, or none. -/
theorem go_old {n : Nat} {g : GoS} (h : GoI n g) : (g.c = 0 ∧ ¬ isR 32 (pgF g.m (65 - (nxP g.m).toNat))) ∨ (1 ≤ g.c ∧ isR 32 (pgF g.m (65 - (nxP g.m).toNat)) ∧ recJ (pgF g.m (65 - (nxP g.m).toNat)) = g.s) := by
  rw [go_nxt h]
  obtain ⟨k, c, m, s⟩ := g
  obtain ⟨_, _, h3, _⟩ := h
  have h3 : rdN m 2 = (s, pgc c) := h3
  show (c = 0 ∧ ¬ isR 32 (pgF m (65 - (pgc (c + 1)).toNat))) ∨ (1 ≤ c ∧ isR 32 (pgF m (65 - (pgc (c + 1)).toNat)) ∧ recJ (pgF m (65 - (pgc (c + 1)).toNat)) = s)
  rcases rd_cases m with ⟨⟨h0, _⟩, e⟩ | ⟨⟨h0, _⟩, e⟩ | ⟨⟨h0, h1⟩, e⟩
  · rw [h3] at e
    have e1 : s = recJ (pgF m 32) := congrArg Prod.fst e
    have e2 : pgc c = 32 := congrArg Prod.snd e
    have hc : 1 ≤ c := Nat.pos_of_ne_zero fun q => by subst q; exact absurd e2 (by decide)
    have e3 : pgc (c + 1) = 33 := by rw [← pgc_s, e2]; rfl
    rw [e3]
    exact Or.inr ⟨hc, h0, e1.symm⟩
  · rw [h3] at e
    have e1 : s = recJ (pgF m 33) := congrArg Prod.fst e
    have e2 : pgc c = 33 := congrArg Prod.snd e
    have hc : 1 ≤ c := Nat.pos_of_ne_zero fun q => by subst q; exact absurd e2 (by decide)
    have e3 : pgc (c + 1) = 32 := by rw [← pgc_s, e2]; rfl
    rw [e3]
    exact Or.inr ⟨hc, h0, e1.symm⟩
  · rw [h3] at e
    have e2 : pgc c = -1 := congrArg Prod.snd e
    have hc : c = 0 := by
      rcases Nat.eq_zero_or_pos c with q | q
      · exact q
      · obtain ⟨d, rfl⟩ : ∃ d, c = d + 1 := ⟨c - 1, by omega⟩
        have := (pgc_at d).1
        omega
    have e3 : pgc (c + 1) = 32 := by rw [← pgc_s, e2]; rfl
    rw [e3]
    exact Or.inl ⟨hc, h1⟩
theorem go_new {n : Nat} {g : GoS} (h : GoI n g) (hk : g.k < n) (h10 : g.k < 10) {s : JS} (hr : rgt s.a s.t s.r) : GoI n ⟨g.k + 1, g.c + 1, nxM g.m (nxP g.m) (rcF ((rdN g.m 2).1.q + BitVec.ofInt 32 1) s.a s.t s.r) 2, ⟨BitVec.ofNat 32 (g.c + 1), s.a, s.t, s.r⟩⟩ := by
  have hc := h.2.1
  have e1 : (rdN g.m 2).1.q = BitVec.ofNat 32 g.c := by rw [h.2.2.1]; exact h.2.2.2
  refine ⟨hk, Nat.succ_le_succ hc, ?_, rfl⟩
  have := nx_read (m := g.m) hr (by rw [e1]; exact q_c (by omega))
  show rdN (nxM g.m (nxP g.m) (rcF ((rdN g.m 2).1.q + BitVec.ofInt 32 1) s.a s.t s.r) 2) 2 = _
  rw [this, e1, q_s, go_nxt h]
def L_Go (n : Nat) (S : Nat → JS) : LI := ⟨GoS, GoI n, fun g => [(3, .ptr TFl 2056 []), (5, .u32 (BitVec.ofNat 32 g.c)), (6, .ptr TJs 4112 []), (22, .imm false TJs n fun i => jsJ (S i)), (23, .nat n), (24, .nat g.k)],
  fun g => flR 2056 2057 40 g.m ++ [(4112, .var TJs (jsJ g.s))], fun g => n - g.k, some, some⟩
def C_l22_JournalGoes : SpecP := fun A K => ∃ (n : Nat) (S : Nat → JS), A [.imm false TJs n fun i => jsJ (S i)] ∧ n ≤ maxLen ∧ K (.bo true)
theorem g_l22_JournalGoes : Gd 7 (pureP ty C_l22_JournalGoes) := by
  refine goodP (E := PG [(8, pureP ty C_l22_awake), (27, pureR ty C_fl_New), (22, pureP ty C_jn_First), (23, pureR ty C_jn_NextX), (11, pureP ty C_jn_Right), (24, mutD ty [true, false, false] C_jn_Do), (19, pureP ty C_jn_Read), (26, pureR ty C_fl_Page1), (16, pureP ty C_jn_Parse)]) (pgOK ⟨g_l22_awake, g_fl_New, g_jn_First, g_jn_NextX, g_r22_Right, g_jn_Do, g_jn_Read, g_fl_Page1, g_jn_Parse, trivial⟩) mixes Tryd.func7 (by kernel_rfl) (by kernel_rfl) ?_
  rintro A K ⟨n, S, hA, hn, hK⟩
  refine ⟨_, _, loops [(7, L_Go n S)], hA, hK, by kernel_rfl, trivial, ?_⟩
  repeat ((conv => whnf); first | refine sdO ?_ | refine nlO ?_ | refine goA ?_ | refine goB ?_ | (apply Exists.intro; (repeat apply Exists.intro); refine caO ?_) | (refine Or.inl ?_; (conv => whnf); (repeat apply Exists.intro); refine caO ?_) | (refine Or.inr ?_; (conv => whnf); first | ((repeat apply Exists.intro); refine caO ?_) | (refine Or.inl ?_; (conv => whnf); (repeat apply Exists.intro); refine caO ?_) | (refine Or.inr ?_; (conv => whnf); (repeat apply Exists.intro); refine caO ?_)) | refine And.intro (by assumption) ?_ | refine goT ?_ | refine goF ?_ | refine goL ?_ | refine goR ?_ | refine goRL ?_ | refine goRR ?_)
  all_goals try (conv => whnf)
  refine Exists.intro (fun _ => True) (And.intro ?_ (fun (g : GoS) (hg : GoI n g) _ => ?_))
  · refine Enter.mk (⟨0, 0, fun _ => 255, jsF⟩ : GoS) ⟨Nat.zero_le _, Nat.le_refl 0, bl_read, rfl⟩ trivial ?_
    ((repeat' ((conv => whnf) <;> first | exact trivial | (with_reducible first | refine And.intro ?_ ?_ | refine rows_lt1 ?_ | refine rows_lt2 ?_ ?_ | refine rows_lt3 ?_ ?_ ?_ | refine rows_lt4 ?_ ?_ ?_ ?_ | refine rows_lt5 ?_ ?_ ?_ ?_ ?_ | refine ints_lt1 ?_ | refine ints_lt2 ?_ ?_ | refine ints_lt3 ?_ ?_ ?_ | refine rows_lt7 ?_ ?_ ?_ ?_ ?_ ?_ ?_ | refine aggs_lt1 ?_ | refine aggs_lt2 ?_ ?_ | refine aggs_lt3 ?_ ?_ ?_ | refine fun (_ : Nat) => ?_) | refine fun (_ : (_ : Nat) < _) => ?_ | exact rfl | exact Nat.le_of_ble_eq_true rfl | (change (_ : Nat) ≤ _; omega) | (change (_ : Nat) = _; omega) | (change (_ : Int) = _; omega))); (all_goals try (conv => whnf)))
    all_goals skip
  have hold := go_old hg
  have hnxt := go_nxt hg
  have hnew := fun hk h10 s hr => go_new (s := s) hg hk h10 hr
  obtain ⟨k, c, M, s⟩ := g
  have hk0 : k ≤ n := hg.1
  have hck : c ≤ k := hg.2.1
  have hrd : rdN M 2 = (s, pgc c) := hg.2.2.1
  have hsq : s.q = BitVec.ofNat 32 c := hg.2.2.2
  rcases Nat.lt_or_ge k n with hk | hk
  · rcases Nat.lt_or_ge k 10 with h10 | h10
    · have hzM : (fun x => M (0 + x)) = M := funext fun x => congrArg _ (Nat.zero_add x)
      rcases Decidable.em (rgt (S k).a (S k).t (S k).r) with hr | hr
      · have hq : ¬ (rdN M 2).1.q = qL := by rw [hrd]; exact fun q => q_c (show c < 100 by omega) (hsq.symm.trans q)
        have hq' : rgt (S k).a (S k).t (S k).r ∧ ¬ (rdN (fun x => M (0 + x)) 2).1.q = qL := by rw [hzM]; exact ⟨hr, hq⟩
        have hp0 : 0 ≤ nxP (fun x => M (0 + x)) ∧ nxP (fun x => M (0 + x)) < 40 := by rw [hzM]; rcases nxP_in M with e | e <;> rw [e] <;> decide
        repeat ((conv => whnf); first | refine sdO ?_ | refine nlO ?_ | refine goA ?_ | refine goB ?_ | (apply Exists.intro; (repeat apply Exists.intro); refine caO ?_) | (refine Or.inl ?_; (conv => whnf); (repeat apply Exists.intro); refine caO ?_) | (refine Or.inr ?_; (conv => whnf); first | ((repeat apply Exists.intro); refine caO ?_) | (refine Or.inl ?_; (conv => whnf); (repeat apply Exists.intro); refine caO ?_) | (refine Or.inr ?_; (conv => whnf); (repeat apply Exists.intro); refine caO ?_)) | refine And.intro (by assumption) ?_ | refine goT ?_ | refine goF ?_ | refine goL ?_ | refine goR ?_ | refine goRL ?_ | refine goRR ?_)
        all_goals try (conv => whnf)
        refine ⟨2, nxK, fun _ => nxP (fun x => M (0 + x)), nxL, nxB (rcF ((rdN (fun x => M (0 + x)) 2).1.q + BitVec.ofInt 32 1) (S k).a (S k).t (S k).r), M, ?_, by decide, nxo_ok M hp0 _, ?_⟩
        · ((repeat' ((conv => whnf) <;> first | exact trivial | (with_reducible first | refine And.intro ?_ ?_ | refine rows_lt1 ?_ | refine rows_lt2 ?_ ?_ | refine rows_lt3 ?_ ?_ ?_ | refine rows_lt4 ?_ ?_ ?_ ?_ | refine rows_lt5 ?_ ?_ ?_ ?_ ?_ | refine ints_lt1 ?_ | refine ints_lt2 ?_ ?_ | refine ints_lt3 ?_ ?_ ?_ | refine rows_lt7 ?_ ?_ ?_ ?_ ?_ ?_ ?_ | refine aggs_lt1 ?_ | refine aggs_lt2 ?_ ?_ | refine aggs_lt3 ?_ ?_ ?_ | refine fun (_ : Nat) => ?_) | refine fun (_ : (_ : Nat) < _) => ?_ | exact rfl | exact Nat.le_of_ble_eq_true rfl | (change (_ : Nat) ≤ _; omega) | (change (_ : Nat) = _; omega) | (change (_ : Int) = _; omega))); (all_goals try (conv => whnf)))
          all_goals (rename_i x hx; rcases x with _ | _ | x <;> first | (exfalso; omega) | ((repeat' ((conv => whnf) <;> first | exact trivial | (with_reducible first | refine And.intro ?_ ?_ | refine rows_lt1 ?_ | refine rows_lt2 ?_ ?_ | refine rows_lt3 ?_ ?_ ?_ | refine rows_lt4 ?_ ?_ ?_ ?_ | refine rows_lt5 ?_ ?_ ?_ ?_ ?_ | refine ints_lt1 ?_ | refine ints_lt2 ?_ ?_ | refine ints_lt3 ?_ ?_ ?_ | refine rows_lt7 ?_ ?_ ?_ ?_ ?_ ?_ ?_ | refine aggs_lt1 ?_ | refine aggs_lt2 ?_ ?_ | refine aggs_lt3 ?_ ?_ ?_ | refine fun (_ : Nat) => ?_) | refine fun (_ : (_ : Nat) < _) => ?_ | exact rfl | exact Nat.le_of_ble_eq_true rfl | (change (_ : Nat) ≤ _; omega) | (change (_ : Nat) = _; omega) | (change (_ : Int) = _; omega))); (all_goals try (conv => whnf))))
        obtain ⟨N, hN⟩ : ∃ N, N = doM nxK (fun _ => nxP fun x => M (0 + x)) nxL (nxB (rcF ((rdN (fun x => M (0 + x)) 2).1.q + BitVec.ofInt 32 1) (S k).a (S k).t (S k).r)) M 2 := ⟨_, rfl⟩
        rw [← hN]
        have hN' : N = nxM M (nxP M) (rcF ((rdN M 2).1.q + BitVec.ofInt 32 1) (S k).a (S k).t (S k).r) 2 := by rw [hN, hzM]; unfold nxM; rfl
        have hI := hnew hk h10 (S k) hr
        have hI : GoI n ⟨k + 1, c + 1, N, ⟨BitVec.ofNat 32 (c + 1), (S k).a, (S k).t, (S k).r⟩⟩ := by rw [hN']; exact hI
        have hrN : rdN N 2 = (⟨BitVec.ofNat 32 (c + 1), (S k).a, (S k).t, (S k).r⟩, pgc (c + 1)) := hI.2.2.1
        have hzN : (fun x => N (0 + x)) = N := funext fun x => congrArg _ (Nat.zero_add x)
        have hX : (rdN (fun x => N (0 + x)) 2).2 = pgc (c + 1) := by rw [hzN, hrN]
        have hS1 : (rdN (fun x => N (0 + x)) 2).1 = ⟨BitVec.ofNat 32 (c + 1), (S k).a, (S k).t, (S k).r⟩ := by rw [hzN, hrN]
        have hpc := (pgc_at c).1
        have hpq := (pgc_at c).2
        have hnx : nxP M = pgc (c + 1) := hnxt
        have hat : (rdN (fun x => N (0 + x)) 2).2 = 33 - (((BitVec.ofNat 32 c + BitVec.ofInt 32 1) % BitVec.ofInt 32 2).toNat : Int) := by
          rw [hX, hpq, q_s, BitVec.toNat_umod, BitVec.toNat_ofNat, show (BitVec.ofInt 32 2).toNat = 2 by decide, Nat.mod_eq_of_lt (show c + 1 < 2 ^ 32 by omega)]
        obtain ⟨X, hXX⟩ : ∃ X, X = (rdN (fun x => N (0 + x)) 2).2 := ⟨_, rfl⟩
        have hXv : X = pgc (c + 1) := hXX.trans hX
        have hpg : 40 ≤ 1024 ∧ 0 ≤ 65 - (rdN (fun x => N (0 + x)) 2).2 ∧ 65 - (rdN (fun x => N (0 + x)) 2).2 < ((40 : Nat) : Int) := by rw [hX]; exact ⟨by decide, by omega, by omega⟩
        have hf : ∀ x, x < 32 → (fun x => N (0 + ((65 - (rdN (fun x => N (0 + x)) 2).2).toNat * 256 + (0 + x)))) x = pgF M (65 - (nxP M).toNat) x := fun x hx => by
          show N (0 + ((65 - (rdN (fun x => N (0 + x)) 2).2).toNat * 256 + (0 + x))) = M ((65 - (nxP M).toNat) * 256 + x)
          rw [hX, ← hnx, Nat.zero_add, Nat.zero_add, show (65 - nxP M).toNat = 65 - (nxP M).toNat by omega, hN']
          exact nx_oth _ (by omega) x (by omega)
        obtain ⟨f1, f2, _⟩ := rec_old hf
        rcases hold with ⟨hc0, ho⟩ | ⟨hc1, ho, hos⟩
        · have hni : ¬ isR (32 - 0) (fun x => N (0 + ((65 - (rdN (fun x => N (0 + x)) 2).2).toNat * 256 + (0 + x)))) := fun q => ho (f1.1 q)
          have hc0 : c = 0 := hc0
          have hgt : ¬ BitVec.ofInt 32 1 < BitVec.ofNat 32 c + BitVec.ofInt 32 1 := by rw [hc0]; decide
          repeat ((conv => whnf); first | refine sdO ?_ | refine nlO ?_ | refine goA ?_ | refine goB ?_ | (apply Exists.intro; (repeat apply Exists.intro); refine caO ?_) | (refine Or.inl ?_; (conv => whnf); (repeat apply Exists.intro); refine caO ?_) | (refine Or.inr ?_; (conv => whnf); first | ((repeat apply Exists.intro); refine caO ?_) | (refine Or.inl ?_; (conv => whnf); (repeat apply Exists.intro); refine caO ?_) | (refine Or.inr ?_; (conv => whnf); (repeat apply Exists.intro); refine caO ?_)) | refine And.intro (by assumption) ?_ | refine goT ?_ | refine goF ?_ | refine goL ?_ | refine goR ?_ | refine goRL ?_ | refine goRR ?_)
          all_goals try (conv => whnf)
          refine And.intro (fun q => nbang2 q (eqB_agg fun i hi => ?_)) (fun _ => ?_)
          · rcases i with _ | _ | _ | _ | i
            · exact (congrArg JS.q hS1).trans (q_s c).symm
            · show (rdN (fun x => N (0 + x)) 2).1.a = (S k).a
              rw [hS1]
            · show (rdN (fun x => N (0 + x)) 2).1.t = (S k).t
              rw [hS1]
            · show (rdN (fun x => N (0 + x)) 2).1.r = (S k).r
              rw [hS1]
            · exfalso; omega
          have hb : (false == decide (BitVec.ofInt 32 1 < BitVec.ofNat 32 c + BitVec.ofInt 32 1)) = true := by rw [decide_eq_false hgt]; rfl
          repeat ((conv => whnf); first | refine sdO ?_ | refine nlO ?_ | refine goA ?_ | refine goB ?_ | (apply Exists.intro; (repeat apply Exists.intro); refine caO ?_) | (refine Or.inl ?_; (conv => whnf); (repeat apply Exists.intro); refine caO ?_) | (refine Or.inr ?_; (conv => whnf); first | ((repeat apply Exists.intro); refine caO ?_) | (refine Or.inl ?_; (conv => whnf); (repeat apply Exists.intro); refine caO ?_) | (refine Or.inr ?_; (conv => whnf); (repeat apply Exists.intro); refine caO ?_)) | refine And.intro (by assumption) ?_ | refine goT ?_ | refine goF ?_ | refine goL ?_ | refine goR ?_ | refine goRL ?_ | refine goRR ?_)
          all_goals try (conv => whnf)
          refine Again.mk (⟨k + 1, c + 1, N, ⟨BitVec.ofNat 32 (c + 1), (S k).a, (S k).t, (S k).r⟩⟩ : GoS) hI trivial (show n - (k + 1) < n - k by omega) ?_
          ((repeat' ((conv => whnf) <;> first | exact trivial | (with_reducible first | refine And.intro ?_ ?_ | refine rows_lt1 ?_ | refine rows_lt2 ?_ ?_ | refine rows_lt3 ?_ ?_ ?_ | refine rows_lt4 ?_ ?_ ?_ ?_ | refine rows_lt5 ?_ ?_ ?_ ?_ ?_ | refine ints_lt1 ?_ | refine ints_lt2 ?_ ?_ | refine ints_lt3 ?_ ?_ ?_ | refine rows_lt7 ?_ ?_ ?_ ?_ ?_ ?_ ?_ | refine aggs_lt1 ?_ | refine aggs_lt2 ?_ ?_ | refine aggs_lt3 ?_ ?_ ?_ | refine fun (_ : Nat) => ?_) | refine fun (_ : (_ : Nat) < _) => ?_ | exact rfl | exact Nat.le_of_ble_eq_true rfl | (change (_ : Nat) ≤ _; omega) | (change (_ : Nat) = _; omega) | (change (_ : Int) = _; omega))); (all_goals try (conv => whnf)))
          all_goals first | exact congrArg JS.q hS1 | exact congrArg JS.a hS1 | exact congrArg JS.t hS1 | exact congrArg JS.r hS1 | exact q_s c
        · have hyi : isR (32 - 0) (fun x => N (0 + ((65 - (rdN (fun x => N (0 + x)) 2).2).toNat * 256 + (0 + x)))) := f1.2 ho
          have hyr : recJ (fun x => N (0 + ((65 - (rdN (fun x => N (0 + x)) 2).2).toNat * 256 + (0 + x)))) = s := f2.trans hos
          have hc1 : 1 ≤ c := hc1
          have hgt : BitVec.ofInt 32 1 < BitVec.ofNat 32 c + BitVec.ofInt 32 1 := by
            rw [q_s, BitVec.lt_def, BitVec.toNat_ofNat, show (BitVec.ofInt 32 1).toNat = 1 by decide]
            omega
          repeat ((conv => whnf); first | refine sdO ?_ | refine nlO ?_ | refine goA ?_ | refine goB ?_ | (apply Exists.intro; (repeat apply Exists.intro); refine caO ?_) | (refine Or.inl ?_; (conv => whnf); (repeat apply Exists.intro); refine caO ?_) | (refine Or.inr ?_; (conv => whnf); first | ((repeat apply Exists.intro); refine caO ?_) | (refine Or.inl ?_; (conv => whnf); (repeat apply Exists.intro); refine caO ?_) | (refine Or.inr ?_; (conv => whnf); (repeat apply Exists.intro); refine caO ?_)) | refine And.intro (by assumption) ?_ | refine goT ?_ | refine goF ?_ | refine goL ?_ | refine goR ?_ | refine goRL ?_ | refine goRR ?_)
          all_goals try (conv => whnf)
          refine And.intro (fun q => nbang2 q (eqB_agg fun i hi => ?_)) (fun _ => ?_)
          · rcases i with _ | _ | _ | _ | i
            · exact (congrArg JS.q hS1).trans (q_s c).symm
            · show (rdN (fun x => N (0 + x)) 2).1.a = (S k).a
              rw [hS1]
            · show (rdN (fun x => N (0 + x)) 2).1.t = (S k).t
              rw [hS1]
            · show (rdN (fun x => N (0 + x)) 2).1.r = (S k).r
              rw [hS1]
            · exfalso; omega
          have hb : (true == decide (BitVec.ofInt 32 1 < BitVec.ofNat 32 c + BitVec.ofInt 32 1)) = true := by rw [decide_eq_true hgt]; rfl
          repeat ((conv => whnf); first | refine sdO ?_ | refine nlO ?_ | refine goA ?_ | refine goB ?_ | (apply Exists.intro; (repeat apply Exists.intro); refine caO ?_) | (refine Or.inl ?_; (conv => whnf); (repeat apply Exists.intro); refine caO ?_) | (refine Or.inr ?_; (conv => whnf); first | ((repeat apply Exists.intro); refine caO ?_) | (refine Or.inl ?_; (conv => whnf); (repeat apply Exists.intro); refine caO ?_) | (refine Or.inr ?_; (conv => whnf); (repeat apply Exists.intro); refine caO ?_)) | refine And.intro (by assumption) ?_ | refine goT ?_ | refine goF ?_ | refine goL ?_ | refine goR ?_ | refine goRL ?_ | refine goRR ?_)
          all_goals try (conv => whnf)
          refine And.intro (fun q => nbang2 q (eqB_agg fun i hi => ?_)) (fun _ => ?_)
          · rcases i with _ | _ | _ | _ | i
            · exact congrArg JS.q hyr
            · exact congrArg JS.a hyr
            · exact congrArg JS.t hyr
            · exact congrArg JS.r hyr
            · exfalso; omega
          repeat ((conv => whnf); first | refine sdO ?_ | refine nlO ?_ | refine goA ?_ | refine goB ?_ | (apply Exists.intro; (repeat apply Exists.intro); refine caO ?_) | (refine Or.inl ?_; (conv => whnf); (repeat apply Exists.intro); refine caO ?_) | (refine Or.inr ?_; (conv => whnf); first | ((repeat apply Exists.intro); refine caO ?_) | (refine Or.inl ?_; (conv => whnf); (repeat apply Exists.intro); refine caO ?_) | (refine Or.inr ?_; (conv => whnf); (repeat apply Exists.intro); refine caO ?_)) | refine And.intro (by assumption) ?_ | refine goT ?_ | refine goF ?_ | refine goL ?_ | refine goR ?_ | refine goRL ?_ | refine goRR ?_)
          all_goals try (conv => whnf)
          refine Again.mk (⟨k + 1, c + 1, N, ⟨BitVec.ofNat 32 (c + 1), (S k).a, (S k).t, (S k).r⟩⟩ : GoS) hI trivial (show n - (k + 1) < n - k by omega) ?_
          ((repeat' ((conv => whnf) <;> first | exact trivial | (with_reducible first | refine And.intro ?_ ?_ | refine rows_lt1 ?_ | refine rows_lt2 ?_ ?_ | refine rows_lt3 ?_ ?_ ?_ | refine rows_lt4 ?_ ?_ ?_ ?_ | refine rows_lt5 ?_ ?_ ?_ ?_ ?_ | refine ints_lt1 ?_ | refine ints_lt2 ?_ ?_ | refine ints_lt3 ?_ ?_ ?_ | refine rows_lt7 ?_ ?_ ?_ ?_ ?_ ?_ ?_ | refine aggs_lt1 ?_ | refine aggs_lt2 ?_ ?_ | refine aggs_lt3 ?_ ?_ ?_ | refine fun (_ : Nat) => ?_) | refine fun (_ : (_ : Nat) < _) => ?_ | exact rfl | exact Nat.le_of_ble_eq_true rfl | (change (_ : Nat) ≤ _; omega) | (change (_ : Nat) = _; omega) | (change (_ : Int) = _; omega))); (all_goals try (conv => whnf)))
          all_goals first | exact congrArg JS.q hS1 | exact congrArg JS.a hS1 | exact congrArg JS.t hS1 | exact congrArg JS.r hS1 | exact q_s c
      · have hq' : ¬ rgt (S k).a (S k).t (S k).r ∨ (rdN (fun x => M (0 + x)) 2).1.q = qL := Or.inl hr
        repeat ((conv => whnf); first | refine sdO ?_ | refine nlO ?_ | refine goA ?_ | refine goB ?_ | (apply Exists.intro; (repeat apply Exists.intro); refine caO ?_) | (refine Or.inl ?_; (conv => whnf); (repeat apply Exists.intro); refine caO ?_) | (refine Or.inr ?_; (conv => whnf); first | ((repeat apply Exists.intro); refine caO ?_) | (refine Or.inl ?_; (conv => whnf); (repeat apply Exists.intro); refine caO ?_) | (refine Or.inr ?_; (conv => whnf); (repeat apply Exists.intro); refine caO ?_)) | refine And.intro (by assumption) ?_ | refine goT ?_ | refine goF ?_ | refine goL ?_ | refine goR ?_ | refine goRL ?_ | refine goRR ?_)
        all_goals try (conv => whnf)
        refine Again.mk (⟨k + 1, c, M, s⟩ : GoS) ⟨hk, Nat.le_trans hck (Nat.le_succ k), hrd, hsq⟩ trivial (show n - (k + 1) < n - k by omega) ?_
        ((repeat' ((conv => whnf) <;> first | exact trivial | (with_reducible first | refine And.intro ?_ ?_ | refine rows_lt1 ?_ | refine rows_lt2 ?_ ?_ | refine rows_lt3 ?_ ?_ ?_ | refine rows_lt4 ?_ ?_ ?_ ?_ | refine rows_lt5 ?_ ?_ ?_ ?_ ?_ | refine ints_lt1 ?_ | refine ints_lt2 ?_ ?_ | refine ints_lt3 ?_ ?_ ?_ | refine rows_lt7 ?_ ?_ ?_ ?_ ?_ ?_ ?_ | refine aggs_lt1 ?_ | refine aggs_lt2 ?_ ?_ | refine aggs_lt3 ?_ ?_ ?_ | refine fun (_ : Nat) => ?_) | refine fun (_ : (_ : Nat) < _) => ?_ | exact rfl | exact Nat.le_of_ble_eq_true rfl | (change (_ : Nat) ≤ _; omega) | (change (_ : Nat) = _; omega) | (change (_ : Int) = _; omega))); (all_goals try (conv => whnf)))
    · skip
      repeat ((conv => whnf); first | refine sdO ?_ | refine nlO ?_ | refine goA ?_ | refine goB ?_ | (apply Exists.intro; (repeat apply Exists.intro); refine caO ?_) | (refine Or.inl ?_; (conv => whnf); (repeat apply Exists.intro); refine caO ?_) | (refine Or.inr ?_; (conv => whnf); first | ((repeat apply Exists.intro); refine caO ?_) | (refine Or.inl ?_; (conv => whnf); (repeat apply Exists.intro); refine caO ?_) | (refine Or.inr ?_; (conv => whnf); (repeat apply Exists.intro); refine caO ?_)) | refine And.intro (by assumption) ?_ | refine goT ?_ | refine goF ?_ | refine goL ?_ | refine goR ?_ | refine goRL ?_ | refine goRR ?_)
      all_goals try (conv => whnf)
      ((repeat' ((conv => whnf) <;> first | exact trivial | (with_reducible first | refine And.intro ?_ ?_ | refine rows_lt1 ?_ | refine rows_lt2 ?_ ?_ | refine rows_lt3 ?_ ?_ ?_ | refine rows_lt4 ?_ ?_ ?_ ?_ | refine rows_lt5 ?_ ?_ ?_ ?_ ?_ | refine ints_lt1 ?_ | refine ints_lt2 ?_ ?_ | refine ints_lt3 ?_ ?_ ?_ | refine rows_lt7 ?_ ?_ ?_ ?_ ?_ ?_ ?_ | refine aggs_lt1 ?_ | refine aggs_lt2 ?_ ?_ | refine aggs_lt3 ?_ ?_ ?_ | refine fun (_ : Nat) => ?_) | refine fun (_ : (_ : Nat) < _) => ?_ | exact rfl | exact Nat.le_of_ble_eq_true rfl | (change (_ : Nat) ≤ _; omega) | (change (_ : Nat) = _; omega) | (change (_ : Int) = _; omega))); (all_goals try (conv => whnf)))
  · obtain rfl : k = n := by omega
    repeat ((conv => whnf); first | refine sdO ?_ | refine nlO ?_ | refine goA ?_ | refine goB ?_ | (apply Exists.intro; (repeat apply Exists.intro); refine caO ?_) | (refine Or.inl ?_; (conv => whnf); (repeat apply Exists.intro); refine caO ?_) | (refine Or.inr ?_; (conv => whnf); first | ((repeat apply Exists.intro); refine caO ?_) | (refine Or.inl ?_; (conv => whnf); (repeat apply Exists.intro); refine caO ?_) | (refine Or.inr ?_; (conv => whnf); (repeat apply Exists.intro); refine caO ?_)) | refine And.intro (by assumption) ?_ | refine goT ?_ | refine goF ?_ | refine goL ?_ | refine goR ?_ | refine goRL ?_ | refine goRR ?_)
    all_goals try (conv => whnf)
    ((repeat' ((conv => whnf) <;> first | exact trivial | (with_reducible first | refine And.intro ?_ ?_ | refine rows_lt1 ?_ | refine rows_lt2 ?_ ?_ | refine rows_lt3 ?_ ?_ ?_ | refine rows_lt4 ?_ ?_ ?_ ?_ | refine rows_lt5 ?_ ?_ ?_ ?_ ?_ | refine ints_lt1 ?_ | refine ints_lt2 ?_ ?_ | refine ints_lt3 ?_ ?_ ?_ | refine rows_lt7 ?_ ?_ ?_ ?_ ?_ ?_ ?_ | refine aggs_lt1 ?_ | refine aggs_lt2 ?_ ?_ | refine aggs_lt3 ?_ ?_ ?_ | refine fun (_ : Nat) => ?_) | refine fun (_ : (_ : Nat) < _) => ?_ | exact rfl | exact Nat.le_of_ble_eq_true rfl | (change (_ : Nat) ≤ _; omega) | (change (_ : Nat) = _; omega) | (change (_ : Int) = _; omega))); (all_goals try (conv => whnf)))
end Go.Proofs.YtldlleoabbcpdaaDoor
