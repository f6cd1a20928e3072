/- The journal: JournalTorn. -/
import Derived.Test.YtldlleoabbcpdaaDoorIN
import Derived.Test.YtldlleoabbcpdaaDoorIO
namespace Go.Proofs.YtldlleoabbcpdaaDoor
open Go.RowKit
set_option maxRecDepth 100000
set_option maxHeartbeats 20000000
theorem opK_1 {m : Nat → BitVec 8} {pg : Int} {l : Nat} {b : Nat → BitVec 8} (h : 0 ≤ pg ∧ pg < 40) : opK m k1 pg l b := ⟨h, Or.inl rfl⟩
attribute [local irreducible] at8 be rcF rcH lw hsh rst sha256 press dig isR rgt w4 rdN bQ bA bT bR setF badB opW opM doM opK nxM nxP lyM byL byF
def C_jn_Tear0 : SpecM := fun A K => ∃ m pg n k, A [.ptr TFl 0 [], .nilp, opA k1 pg 0 (fun _ => 0), bsl n k] (flR 0 1 40 m) ∧ (0 ≤ pg ∧ pg < 40) ∧ n ≤ maxLen ∧ K (.nat 0) (flR 0 1 40 (opM m k1 pg 0 (fun _ => 0) n k))
theorem g_jn_Tear0 : Gd 25 (mutD ty [true, false, false, false] C_jn_Tear0) := good_imp g_jn_Tear fun args m' key K ⟨m, pg, n, k, hA, hp, hn, hK⟩ => ⟨m, k1, pg, 0, fun _ => 0, n, k, hA, opK_1 hp, hn, hK⟩
structure TnS where
  k : Nat
  m : Nat → BitVec 8
def L_To (n nw : Nat) (L : Nat → Nat) (B : Nat → Nat → BitVec 8) (w : Nat → Bool) (s : JS) : LI := ⟨TnS, fun g => g.k ≤ n, fun g => [(4, .imm false .bo nw fun i => .bo (w i)), (7, .ptr TJs 24 []), (11, .ptr TFl 2088 []), (32, .imm false (.sl 5) n fun i => bsl (L i) (B i)), (33, .nat n), (34, .nat g.k)],
  fun g => [(24, .var TJs (jsJ s))] ++ flR 2088 2089 40 g.m, fun g => n - g.k, some, some⟩
def C_l22_JournalTorn : SpecP := fun A K => ∃ (o u s : JS) (n : Nat) (L : Nat → Nat) (B : Nat → Nat → BitVec 8) (nw : Nat) (w : Nat → Bool), A [jsJ o, jsJ u, jsJ s, .imm false (.sl 5) n (fun i => bsl (L i) (B i)), .imm false .bo nw (fun i => .bo (w i))] ∧ n ≤ maxLen ∧ (∀ k, k < n → L k ≤ maxLen) ∧ nw ≤ maxLen ∧ K (.bo true)
theorem g_l22_JournalTorn : Gd 6 (pureP ty C_l22_JournalTorn) := by
  refine goodP (E := PG [(8, pureP ty C_l22_awake), (10, pureP ty C_jn_BytesV), (18, pureR ty C_l22_lay), (21, pureP ty C_l22_all), (20, pureP ty C_r22_Read), (23, pureR ty C_jn_NextX), (9, pureR ty C_r1_Cut), (24, mutD ty [true, false, false] C_jn_Do), (25, orC (mutD ty [true, false, false, false] C_jn_Tear0) (mutD ty [true, false, false, false] C_jn_Tear)), (26, pureR ty C_fl_Page1), (17, pureP ty C_r22_Parse)]) (pgOK ⟨g_l22_awake, g_jn_BytesV, g_l22_lay, g_l22_all, g_r22_Read, g_jn_NextX, g_r1_Cut, g_jn_Do, (good_or g_jn_Tear0 g_jn_Tear), g_fl_Page1, g_r22_Parse, trivial⟩) mixes Tryd.func6 (by kernel_rfl) (by kernel_rfl) ?_
  rintro A K ⟨o, u, s, n, L, B, nw, w, hA, hn, hL, hnw, hK⟩
  refine ⟨_, _, loops [(5, L_To n nw L B w s)], hA, hK, by kernel_rfl, trivial, ?_⟩
  have b1 := byL_le o.a o.t o.r
  have b2 := byL_le u.a u.t u.r
  repeat ((conv => whnf); first | refine sdO ?_ | refine nlO ?_ | refine goA ?_ | refine goB ?_ | (apply Exists.intro; (repeat apply Exists.intro); refine caO ?_) | (refine Or.inl ?_; (conv => whnf); (repeat apply Exists.intro); refine caO ?_) | (refine Or.inr ?_; (conv => whnf); first | ((repeat apply Exists.intro); refine caO ?_) | (refine Or.inl ?_; (conv => whnf); (repeat apply Exists.intro); refine caO ?_) | (refine Or.inr ?_; (conv => whnf); (repeat apply Exists.intro); refine caO ?_)) | refine And.intro (by assumption) ?_ | refine goT ?_ | refine goF ?_ | refine goL ?_ | refine goR ?_ | refine goRL ?_ | refine goRR ?_)
  all_goals try (conv => whnf)
  refine Exists.intro (fun _ => True) (And.intro ?_ (fun (g : TnS) (hg : g.k ≤ n) _ => ?_))
  · refine Enter.mk (⟨0, lyM (byL o.a o.t o.r) (byF o.q o.a o.t o.r) (byL u.a u.t u.r) (byF u.q u.a u.t u.r)⟩ : TnS) (Nat.zero_le _) trivial ?_
    ((repeat' ((conv => whnf) <;> first | exact trivial | (with_reducible first | refine And.intro ?_ ?_ | refine rows_lt1 ?_ | refine rows_lt2 ?_ ?_ | refine rows_lt3 ?_ ?_ ?_ | refine rows_lt4 ?_ ?_ ?_ ?_ | refine rows_lt5 ?_ ?_ ?_ ?_ ?_ | refine ints_lt1 ?_ | refine ints_lt2 ?_ ?_ | refine ints_lt3 ?_ ?_ ?_ | refine rows_lt7 ?_ ?_ ?_ ?_ ?_ ?_ ?_ | refine aggs_lt1 ?_ | refine aggs_lt2 ?_ ?_ | refine aggs_lt3 ?_ ?_ ?_ | refine fun (_ : Nat) => ?_) | refine fun (_ : (_ : Nat) < _) => ?_ | exact rfl | exact Nat.le_of_ble_eq_true rfl | (change (_ : Nat) ≤ _; omega) | (change (_ : Nat) = _; omega) | (change (_ : Int) = _; omega))); (all_goals try (conv => whnf)))
    all_goals skip
  obtain ⟨k, M⟩ := g
  have hg : k ≤ n := hg
  rcases Nat.lt_or_ge k n with hk | hk
  · have hLk := hL k hk
    have hm256 : min (L k) 256 ≤ maxLen := Nat.le_trans (show min (L k) 256 ≤ 256 by omega) (by decide)
    rcases Nat.lt_or_ge k 8 with h8 | h8
    · have hzM : (fun x => M (0 + x)) = M := funext fun x => congrArg _ (Nat.zero_add x)
      rcases Decidable.em (rgt s.a s.t s.r ∧ ¬ (rdN M 2).1.q = qL) with hq | hq
      · have hq' : rgt s.a s.t s.r ∧ ¬ (rdN (fun x => M (0 + x)) 2).1.q = qL := by rw [hzM]; exact hq
        have hp0 : 0 ≤ nxP (fun x => M (0 + x)) ∧ nxP (fun x => M (0 + x)) < 40 := by rw [hzM]; rcases nxP_in M with e | e <;> rw [e] <;> decide
        rcases Nat.lt_or_ge k nw with hkw | hkw
        · cases hwk : w k with
          | true =>
            obtain ⟨F, hF⟩ : ∃ F, F = rcF ((rdN (fun x => M (0 + x)) 2).1.q + BitVec.ofInt 32 1) s.a s.t s.r := ⟨_, rfl⟩
            repeat ((conv => whnf); first | refine sdO ?_ | refine nlO ?_ | refine goA ?_ | refine goB ?_ | (apply Exists.intro; (repeat apply Exists.intro); refine caO ?_) | (refine Or.inl ?_; (conv => whnf); (repeat apply Exists.intro); refine caO ?_) | (refine Or.inr ?_; (conv => whnf); first | ((repeat apply Exists.intro); refine caO ?_) | (refine Or.inl ?_; (conv => whnf); (repeat apply Exists.intro); refine caO ?_) | (refine Or.inr ?_; (conv => whnf); (repeat apply Exists.intro); refine caO ?_)) | refine And.intro (by assumption) ?_ | refine goT ?_ | refine goF ?_ | refine goL ?_ | refine goR ?_ | refine goRL ?_ | refine goRR ?_)
            all_goals try (conv => whnf)
            refine ⟨1, nxK, fun _ => nxP (fun x => M (0 + x)), nxL, nxB F, M, ?_, by decide, ero_ok M hp0 F, ?_⟩
            · ((repeat' ((conv => whnf) <;> first | exact trivial | (with_reducible first | refine And.intro ?_ ?_ | refine rows_lt1 ?_ | refine rows_lt2 ?_ ?_ | refine rows_lt3 ?_ ?_ ?_ | refine rows_lt4 ?_ ?_ ?_ ?_ | refine rows_lt5 ?_ ?_ ?_ ?_ ?_ | refine ints_lt1 ?_ | refine ints_lt2 ?_ ?_ | refine ints_lt3 ?_ ?_ ?_ | refine rows_lt7 ?_ ?_ ?_ ?_ ?_ ?_ ?_ | refine aggs_lt1 ?_ | refine aggs_lt2 ?_ ?_ | refine aggs_lt3 ?_ ?_ ?_ | refine fun (_ : Nat) => ?_) | refine fun (_ : (_ : Nat) < _) => ?_ | exact rfl | exact Nat.le_of_ble_eq_true rfl | (change (_ : Nat) ≤ _; omega) | (change (_ : Nat) = _; omega) | (change (_ : Int) = _; omega))); (all_goals try (conv => whnf)))
              all_goals (rename_i x hx; rcases x with _ | x <;> first | (exfalso; omega) | ((repeat' ((conv => whnf) <;> first | exact trivial | (with_reducible first | refine And.intro ?_ ?_ | refine rows_lt1 ?_ | refine rows_lt2 ?_ ?_ | refine rows_lt3 ?_ ?_ ?_ | refine rows_lt4 ?_ ?_ ?_ ?_ | refine rows_lt5 ?_ ?_ ?_ ?_ ?_ | refine ints_lt1 ?_ | refine ints_lt2 ?_ ?_ | refine ints_lt3 ?_ ?_ ?_ | refine rows_lt7 ?_ ?_ ?_ ?_ ?_ ?_ ?_ | refine aggs_lt1 ?_ | refine aggs_lt2 ?_ ?_ | refine aggs_lt3 ?_ ?_ ?_ | refine fun (_ : Nat) => ?_) | refine fun (_ : (_ : Nat) < _) => ?_ | exact rfl | exact Nat.le_of_ble_eq_true rfl | (change (_ : Nat) ≤ _; omega) | (change (_ : Nat) = _; omega) | (change (_ : Int) = _; omega))); (all_goals try (conv => whnf))))
            obtain ⟨E, hE⟩ : ∃ E, E = doM nxK (fun _ => nxP fun x => M (0 + x)) nxL (nxB F) M 1 := ⟨_, rfl⟩
            rw [← hE]
            have hopE : opK E k2 (nxP fun x => M (0 + x)) 32 F := by rw [hE]; exact (nxo_ok M hp0 F 1 (by decide)).2
            rw [hF] at hopE
            have h32 : (32 : Nat) ≤ maxLen := by decide
            repeat ((conv => whnf); first | refine sdO ?_ | refine nlO ?_ | refine goA ?_ | refine goB ?_ | (apply Exists.intro; (repeat apply Exists.intro); refine caO ?_) | (refine Or.inl ?_; (conv => whnf); (repeat apply Exists.intro); refine caO ?_) | (refine Or.inr ?_; (conv => whnf); first | ((repeat apply Exists.intro); refine caO ?_) | (refine Or.inl ?_; (conv => whnf); (repeat apply Exists.intro); refine caO ?_) | (refine Or.inr ?_; (conv => whnf); (repeat apply Exists.intro); refine caO ?_)) | refine And.intro (by assumption) ?_ | refine goT ?_ | refine goF ?_ | refine goL ?_ | refine goR ?_ | refine goRL ?_ | refine goRR ?_)
            all_goals try (conv => whnf)
            obtain ⟨T, hT⟩ : ∃ T, T = opM E k2 (nxP fun x => M (0 + x)) 32 (rcF ((rdN (fun x => M (0 + x)) 2).1.q + BitVec.ofInt 32 1) s.a s.t s.r) (min (L k) (Int.toNat 256)) (B k) := ⟨_, rfl⟩
            rw [← hT]
            have hE' : E = nxM M (nxP M) F 1 := by rw [hE, hzM]; unfold nxM; rfl
            rw [hzM] at hT
            have hzT : (fun x => T (0 + x)) = T := funext fun x => congrArg _ (Nat.zero_add x)
            have hto := torn (M := M) (T := T) (fun x hx => by rw [hT]; exact (opm_out (by rcases nxP_in M with e | e <;> rw [e] <;> simp only [Int.reduceToNat] <;> omega)).trans (by rw [hE']; exact er_out (by rcases nxP_in M with e | e <;> rw [e] <;> simp only [Int.reduceToNat] <;> omega)))
            by_cases hw : (rdN T 2).1 = (rdN M 2).1
            · have hw' : (rdN (fun x => T (0 + x)) 2).1 = (rdN (fun x => M (0 + x)) 2).1 := by rw [hzT, hzM]; exact hw
              refine And.intro (fun _ => ?_) (bad (eqB_agg fun i hi => ?_))
              · skip
                repeat ((conv => whnf); first | refine sdO ?_ | refine nlO ?_ | refine goA ?_ | refine goB ?_ | (apply Exists.intro; (repeat apply Exists.intro); refine caO ?_) | (refine Or.inl ?_; (conv => whnf); (repeat apply Exists.intro); refine caO ?_) | (refine Or.inr ?_; (conv => whnf); first | ((repeat apply Exists.intro); refine caO ?_) | (refine Or.inl ?_; (conv => whnf); (repeat apply Exists.intro); refine caO ?_) | (refine Or.inr ?_; (conv => whnf); (repeat apply Exists.intro); refine caO ?_)) | refine And.intro (by assumption) ?_ | refine goT ?_ | refine goF ?_ | refine goL ?_ | refine goR ?_ | refine goRL ?_ | refine goRR ?_)
                all_goals try (conv => whnf)
                refine Again.mk (⟨k + 1, T⟩ : TnS) hk trivial (show n - (k + 1) < n - k by omega) ?_
                ((repeat' ((conv => whnf) <;> first | exact trivial | (with_reducible first | refine And.intro ?_ ?_ | refine rows_lt1 ?_ | refine rows_lt2 ?_ ?_ | refine rows_lt3 ?_ ?_ ?_ | refine rows_lt4 ?_ ?_ ?_ ?_ | refine rows_lt5 ?_ ?_ ?_ ?_ ?_ | refine ints_lt1 ?_ | refine ints_lt2 ?_ ?_ | refine ints_lt3 ?_ ?_ ?_ | refine rows_lt7 ?_ ?_ ?_ ?_ ?_ ?_ ?_ | refine aggs_lt1 ?_ | refine aggs_lt2 ?_ ?_ | refine aggs_lt3 ?_ ?_ ?_ | refine fun (_ : Nat) => ?_) | refine fun (_ : (_ : Nat) < _) => ?_ | exact rfl | exact Nat.le_of_ble_eq_true rfl | (change (_ : Nat) ≤ _; omega) | (change (_ : Nat) = _; omega) | (change (_ : Int) = _; omega))); (all_goals try (conv => whnf)))
              · rcases i with _ | _ | _ | _ | i
                · exact congrArg JS.q hw'
                · exact congrArg JS.a hw'
                · exact congrArg JS.t hw'
                · exact congrArg JS.r hw'
                · exfalso; omega
            · refine And.intro (fun h => absurd (show (rdN (fun x => T (0 + x)) 2).1 = (rdN (fun x => M (0 + x)) 2).1 from js_ext (eqB_iff.1 h 0 (by decide)) (eqB_iff.1 h 1 (by decide)) (eqB_iff.1 h 2 (by decide)) (eqB_iff.1 h 3 (by decide))) (by rw [hzT, hzM]; exact hw)) (fun _ => ?_)
              repeat ((conv => whnf); first | refine sdO ?_ | refine nlO ?_ | refine goA ?_ | refine goB ?_ | (apply Exists.intro; (repeat apply Exists.intro); refine caO ?_) | (refine Or.inl ?_; (conv => whnf); (repeat apply Exists.intro); refine caO ?_) | (refine Or.inr ?_; (conv => whnf); first | ((repeat apply Exists.intro); refine caO ?_) | (refine Or.inl ?_; (conv => whnf); (repeat apply Exists.intro); refine caO ?_) | (refine Or.inr ?_; (conv => whnf); (repeat apply Exists.intro); refine caO ?_)) | refine And.intro (by assumption) ?_ | refine goT ?_ | refine goF ?_ | refine goL ?_ | refine goR ?_ | refine goRL ?_ | refine goRR ?_)
              all_goals try (conv => whnf)
              by_cases hn' : (rdN T 2).1 = ⟨(rdN M 2).1.q + BitVec.ofInt 32 1, s.a, s.t, s.r⟩
              · have hw' : (rdN (fun x => T (0 + x)) 2).1 = ⟨(rdN (fun x => M (0 + x)) 2).1.q + BitVec.ofInt 32 1, s.a, s.t, s.r⟩ := by rw [hzT, hzM]; exact hn'
                refine And.intro (fun _ => ?_) (bad (eqB_agg fun i hi => ?_))
                · skip
                  repeat ((conv => whnf); first | refine sdO ?_ | refine nlO ?_ | refine goA ?_ | refine goB ?_ | (apply Exists.intro; (repeat apply Exists.intro); refine caO ?_) | (refine Or.inl ?_; (conv => whnf); (repeat apply Exists.intro); refine caO ?_) | (refine Or.inr ?_; (conv => whnf); first | ((repeat apply Exists.intro); refine caO ?_) | (refine Or.inl ?_; (conv => whnf); (repeat apply Exists.intro); refine caO ?_) | (refine Or.inr ?_; (conv => whnf); (repeat apply Exists.intro); refine caO ?_)) | refine And.intro (by assumption) ?_ | refine goT ?_ | refine goF ?_ | refine goL ?_ | refine goR ?_ | refine goRL ?_ | refine goRR ?_)
                  all_goals try (conv => whnf)
                  refine Again.mk (⟨k + 1, T⟩ : TnS) hk trivial (show n - (k + 1) < n - k by omega) ?_
                  ((repeat' ((conv => whnf) <;> first | exact trivial | (with_reducible first | refine And.intro ?_ ?_ | refine rows_lt1 ?_ | refine rows_lt2 ?_ ?_ | refine rows_lt3 ?_ ?_ ?_ | refine rows_lt4 ?_ ?_ ?_ ?_ | refine rows_lt5 ?_ ?_ ?_ ?_ ?_ | refine ints_lt1 ?_ | refine ints_lt2 ?_ ?_ | refine ints_lt3 ?_ ?_ ?_ | refine rows_lt7 ?_ ?_ ?_ ?_ ?_ ?_ ?_ | refine aggs_lt1 ?_ | refine aggs_lt2 ?_ ?_ | refine aggs_lt3 ?_ ?_ ?_ | refine fun (_ : Nat) => ?_) | refine fun (_ : (_ : Nat) < _) => ?_ | exact rfl | exact Nat.le_of_ble_eq_true rfl | (change (_ : Nat) ≤ _; omega) | (change (_ : Nat) = _; omega) | (change (_ : Int) = _; omega))); (all_goals try (conv => whnf)))
                · rcases i with _ | _ | _ | _ | i
                  · exact congrArg JS.q hw'
                  · show (rdN (fun x => T (0 + x)) 2).1.a = s.a
                    rw [hw']
                  · show (rdN (fun x => T (0 + x)) 2).1.t = s.t
                    rw [hw']
                  · show (rdN (fun x => T (0 + x)) 2).1.r = s.r
                    rw [hw']
                  · exfalso; omega
              · refine And.intro (fun h => absurd (show (rdN (fun x => T (0 + x)) 2).1 = ⟨(rdN (fun x => M (0 + x)) 2).1.q + BitVec.ofInt 32 1, s.a, s.t, s.r⟩ from js_ext (eqB_iff.1 h 0 (by decide)) (eqB_iff.1 h 1 (by decide)) (eqB_iff.1 h 2 (by decide)) (eqB_iff.1 h 3 (by decide))) (by rw [hzT, hzM]; exact hn')) (fun _ => ?_)
                obtain ⟨hi, hrec, hne⟩ := hto.elim (fun q => absurd q hw) id
                have hf : (fun x => T (0 + ((nxP fun x => M (0 + x)).toNat * 256 + (0 + x)))) = pgF T (nxP M).toNat := by
                  rw [hzM]
                  funext x
                  rw [Nat.zero_add, Nat.zero_add]
                have hi' : isR (32 - 0) (fun x => T (0 + ((nxP fun x => M (0 + x)).toNat * 256 + (0 + x)))) := by rw [hf]; exact hi
                have hrec' : recJ (fun x => T (0 + ((nxP fun x => M (0 + x)).toNat * 256 + (0 + x)))) = (rdN (fun x => T (0 + x)) 2).1 := by rw [hf, hzT]; exact hrec
                have hne' : ¬ (nxP fun x => M (0 + x)) = (rdN (fun x => M (0 + x)) 2).2 := by rw [hzM]; exact hne
                repeat ((conv => whnf); first | refine sdO ?_ | refine nlO ?_ | refine goA ?_ | refine goB ?_ | (apply Exists.intro; (repeat apply Exists.intro); refine caO ?_) | (refine Or.inl ?_; (conv => whnf); (repeat apply Exists.intro); refine caO ?_) | (refine Or.inr ?_; (conv => whnf); first | ((repeat apply Exists.intro); refine caO ?_) | (refine Or.inl ?_; (conv => whnf); (repeat apply Exists.intro); refine caO ?_) | (refine Or.inr ?_; (conv => whnf); (repeat apply Exists.intro); refine caO ?_)) | refine And.intro (by assumption) ?_ | refine goT ?_ | refine goF ?_ | refine goL ?_ | refine goR ?_ | refine goRL ?_ | refine goRR ?_)
                all_goals try (conv => whnf)
                refine And.intro (fun _ => ?_) (bad (eqB_agg fun i hi => ?_))
                · skip
                  repeat ((conv => whnf); first | refine sdO ?_ | refine nlO ?_ | refine goA ?_ | refine goB ?_ | (apply Exists.intro; (repeat apply Exists.intro); refine caO ?_) | (refine Or.inl ?_; (conv => whnf); (repeat apply Exists.intro); refine caO ?_) | (refine Or.inr ?_; (conv => whnf); first | ((repeat apply Exists.intro); refine caO ?_) | (refine Or.inl ?_; (conv => whnf); (repeat apply Exists.intro); refine caO ?_) | (refine Or.inr ?_; (conv => whnf); (repeat apply Exists.intro); refine caO ?_)) | refine And.intro (by assumption) ?_ | refine goT ?_ | refine goF ?_ | refine goL ?_ | refine goR ?_ | refine goRL ?_ | refine goRR ?_)
                  all_goals try (conv => whnf)
                  all_goals exact decide_eq_true hne'
                · rcases i with _ | _ | _ | _ | i
                  · exact congrArg JS.q hrec'
                  · exact congrArg JS.a hrec'
                  · exact congrArg JS.t hrec'
                  · exact congrArg JS.r hrec'
                  · exfalso; omega
          | false =>
            repeat ((conv => whnf); first | refine sdO ?_ | refine nlO ?_ | refine goA ?_ | refine goB ?_ | (apply Exists.intro; (repeat apply Exists.intro); refine caO ?_) | (refine Or.inl ?_; (conv => whnf); (repeat apply Exists.intro); refine caO ?_) | (refine Or.inr ?_; (conv => whnf); first | ((repeat apply Exists.intro); refine caO ?_) | (refine Or.inl ?_; (conv => whnf); (repeat apply Exists.intro); refine caO ?_) | (refine Or.inr ?_; (conv => whnf); (repeat apply Exists.intro); refine caO ?_)) | refine And.intro (by assumption) ?_ | refine goT ?_ | refine goF ?_ | refine goL ?_ | refine goR ?_ | refine goRL ?_ | refine goRR ?_)
            all_goals try (conv => whnf)
            obtain ⟨T, hT⟩ : ∃ T, T = opM M k1 (nxP fun x => M (0 + x)) 0 (fun _ => 0) (min (L k) (Int.toNat 256)) (B k) := ⟨_, rfl⟩
            rw [← hT]
            rw [hzM] at hT
            have hzT : (fun x => T (0 + x)) = T := funext fun x => congrArg _ (Nat.zero_add x)
            have hto := torn (M := M) (T := T) (fun x hx => by rw [hT]; exact opm_out (by rcases nxP_in M with e | e <;> rw [e] <;> simp only [Int.reduceToNat] <;> omega))
            by_cases hw : (rdN T 2).1 = (rdN M 2).1
            · have hw' : (rdN (fun x => T (0 + x)) 2).1 = (rdN (fun x => M (0 + x)) 2).1 := by rw [hzT, hzM]; exact hw
              refine And.intro (fun _ => ?_) (bad (eqB_agg fun i hi => ?_))
              · skip
                repeat ((conv => whnf); first | refine sdO ?_ | refine nlO ?_ | refine goA ?_ | refine goB ?_ | (apply Exists.intro; (repeat apply Exists.intro); refine caO ?_) | (refine Or.inl ?_; (conv => whnf); (repeat apply Exists.intro); refine caO ?_) | (refine Or.inr ?_; (conv => whnf); first | ((repeat apply Exists.intro); refine caO ?_) | (refine Or.inl ?_; (conv => whnf); (repeat apply Exists.intro); refine caO ?_) | (refine Or.inr ?_; (conv => whnf); (repeat apply Exists.intro); refine caO ?_)) | refine And.intro (by assumption) ?_ | refine goT ?_ | refine goF ?_ | refine goL ?_ | refine goR ?_ | refine goRL ?_ | refine goRR ?_)
                all_goals try (conv => whnf)
                refine Again.mk (⟨k + 1, T⟩ : TnS) hk trivial (show n - (k + 1) < n - k by omega) ?_
                ((repeat' ((conv => whnf) <;> first | exact trivial | (with_reducible first | refine And.intro ?_ ?_ | refine rows_lt1 ?_ | refine rows_lt2 ?_ ?_ | refine rows_lt3 ?_ ?_ ?_ | refine rows_lt4 ?_ ?_ ?_ ?_ | refine rows_lt5 ?_ ?_ ?_ ?_ ?_ | refine ints_lt1 ?_ | refine ints_lt2 ?_ ?_ | refine ints_lt3 ?_ ?_ ?_ | refine rows_lt7 ?_ ?_ ?_ ?_ ?_ ?_ ?_ | refine aggs_lt1 ?_ | refine aggs_lt2 ?_ ?_ | refine aggs_lt3 ?_ ?_ ?_ | refine fun (_ : Nat) => ?_) | refine fun (_ : (_ : Nat) < _) => ?_ | exact rfl | exact Nat.le_of_ble_eq_true rfl | (change (_ : Nat) ≤ _; omega) | (change (_ : Nat) = _; omega) | (change (_ : Int) = _; omega))); (all_goals try (conv => whnf)))
              · rcases i with _ | _ | _ | _ | i
                · exact congrArg JS.q hw'
                · exact congrArg JS.a hw'
                · exact congrArg JS.t hw'
                · exact congrArg JS.r hw'
                · exfalso; omega
            · refine And.intro (fun h => absurd (show (rdN (fun x => T (0 + x)) 2).1 = (rdN (fun x => M (0 + x)) 2).1 from js_ext (eqB_iff.1 h 0 (by decide)) (eqB_iff.1 h 1 (by decide)) (eqB_iff.1 h 2 (by decide)) (eqB_iff.1 h 3 (by decide))) (by rw [hzT, hzM]; exact hw)) (fun _ => ?_)
              repeat ((conv => whnf); first | refine sdO ?_ | refine nlO ?_ | refine goA ?_ | refine goB ?_ | (apply Exists.intro; (repeat apply Exists.intro); refine caO ?_) | (refine Or.inl ?_; (conv => whnf); (repeat apply Exists.intro); refine caO ?_) | (refine Or.inr ?_; (conv => whnf); first | ((repeat apply Exists.intro); refine caO ?_) | (refine Or.inl ?_; (conv => whnf); (repeat apply Exists.intro); refine caO ?_) | (refine Or.inr ?_; (conv => whnf); (repeat apply Exists.intro); refine caO ?_)) | refine And.intro (by assumption) ?_ | refine goT ?_ | refine goF ?_ | refine goL ?_ | refine goR ?_ | refine goRL ?_ | refine goRR ?_)
              all_goals try (conv => whnf)
              by_cases hn' : (rdN T 2).1 = ⟨(rdN M 2).1.q + BitVec.ofInt 32 1, s.a, s.t, s.r⟩
              · have hw' : (rdN (fun x => T (0 + x)) 2).1 = ⟨(rdN (fun x => M (0 + x)) 2).1.q + BitVec.ofInt 32 1, s.a, s.t, s.r⟩ := by rw [hzT, hzM]; exact hn'
                refine And.intro (fun _ => ?_) (bad (eqB_agg fun i hi => ?_))
                · skip
                  repeat ((conv => whnf); first | refine sdO ?_ | refine nlO ?_ | refine goA ?_ | refine goB ?_ | (apply Exists.intro; (repeat apply Exists.intro); refine caO ?_) | (refine Or.inl ?_; (conv => whnf); (repeat apply Exists.intro); refine caO ?_) | (refine Or.inr ?_; (conv => whnf); first | ((repeat apply Exists.intro); refine caO ?_) | (refine Or.inl ?_; (conv => whnf); (repeat apply Exists.intro); refine caO ?_) | (refine Or.inr ?_; (conv => whnf); (repeat apply Exists.intro); refine caO ?_)) | refine And.intro (by assumption) ?_ | refine goT ?_ | refine goF ?_ | refine goL ?_ | refine goR ?_ | refine goRL ?_ | refine goRR ?_)
                  all_goals try (conv => whnf)
                  refine Again.mk (⟨k + 1, T⟩ : TnS) hk trivial (show n - (k + 1) < n - k by omega) ?_
                  ((repeat' ((conv => whnf) <;> first | exact trivial | (with_reducible first | refine And.intro ?_ ?_ | refine rows_lt1 ?_ | refine rows_lt2 ?_ ?_ | refine rows_lt3 ?_ ?_ ?_ | refine rows_lt4 ?_ ?_ ?_ ?_ | refine rows_lt5 ?_ ?_ ?_ ?_ ?_ | refine ints_lt1 ?_ | refine ints_lt2 ?_ ?_ | refine ints_lt3 ?_ ?_ ?_ | refine rows_lt7 ?_ ?_ ?_ ?_ ?_ ?_ ?_ | refine aggs_lt1 ?_ | refine aggs_lt2 ?_ ?_ | refine aggs_lt3 ?_ ?_ ?_ | refine fun (_ : Nat) => ?_) | refine fun (_ : (_ : Nat) < _) => ?_ | exact rfl | exact Nat.le_of_ble_eq_true rfl | (change (_ : Nat) ≤ _; omega) | (change (_ : Nat) = _; omega) | (change (_ : Int) = _; omega))); (all_goals try (conv => whnf)))
                · rcases i with _ | _ | _ | _ | i
                  · exact congrArg JS.q hw'
                  · show (rdN (fun x => T (0 + x)) 2).1.a = s.a
                    rw [hw']
                  · show (rdN (fun x => T (0 + x)) 2).1.t = s.t
                    rw [hw']
                  · show (rdN (fun x => T (0 + x)) 2).1.r = s.r
                    rw [hw']
                  · exfalso; omega
              · refine And.intro (fun h => absurd (show (rdN (fun x => T (0 + x)) 2).1 = ⟨(rdN (fun x => M (0 + x)) 2).1.q + BitVec.ofInt 32 1, s.a, s.t, s.r⟩ from js_ext (eqB_iff.1 h 0 (by decide)) (eqB_iff.1 h 1 (by decide)) (eqB_iff.1 h 2 (by decide)) (eqB_iff.1 h 3 (by decide))) (by rw [hzT, hzM]; exact hn')) (fun _ => ?_)
                obtain ⟨hi, hrec, hne⟩ := hto.elim (fun q => absurd q hw) id
                have hf : (fun x => T (0 + ((nxP fun x => M (0 + x)).toNat * 256 + (0 + x)))) = pgF T (nxP M).toNat := by
                  rw [hzM]
                  funext x
                  rw [Nat.zero_add, Nat.zero_add]
                have hi' : isR (32 - 0) (fun x => T (0 + ((nxP fun x => M (0 + x)).toNat * 256 + (0 + x)))) := by rw [hf]; exact hi
                have hrec' : recJ (fun x => T (0 + ((nxP fun x => M (0 + x)).toNat * 256 + (0 + x)))) = (rdN (fun x => T (0 + x)) 2).1 := by rw [hf, hzT]; exact hrec
                have hne' : ¬ (nxP fun x => M (0 + x)) = (rdN (fun x => M (0 + x)) 2).2 := by rw [hzM]; exact hne
                repeat ((conv => whnf); first | refine sdO ?_ | refine nlO ?_ | refine goA ?_ | refine goB ?_ | (apply Exists.intro; (repeat apply Exists.intro); refine caO ?_) | (refine Or.inl ?_; (conv => whnf); (repeat apply Exists.intro); refine caO ?_) | (refine Or.inr ?_; (conv => whnf); first | ((repeat apply Exists.intro); refine caO ?_) | (refine Or.inl ?_; (conv => whnf); (repeat apply Exists.intro); refine caO ?_) | (refine Or.inr ?_; (conv => whnf); (repeat apply Exists.intro); refine caO ?_)) | refine And.intro (by assumption) ?_ | refine goT ?_ | refine goF ?_ | refine goL ?_ | refine goR ?_ | refine goRL ?_ | refine goRR ?_)
                all_goals try (conv => whnf)
                refine And.intro (fun _ => ?_) (bad (eqB_agg fun i hi => ?_))
                · skip
                  repeat ((conv => whnf); first | refine sdO ?_ | refine nlO ?_ | refine goA ?_ | refine goB ?_ | (apply Exists.intro; (repeat apply Exists.intro); refine caO ?_) | (refine Or.inl ?_; (conv => whnf); (repeat apply Exists.intro); refine caO ?_) | (refine Or.inr ?_; (conv => whnf); first | ((repeat apply Exists.intro); refine caO ?_) | (refine Or.inl ?_; (conv => whnf); (repeat apply Exists.intro); refine caO ?_) | (refine Or.inr ?_; (conv => whnf); (repeat apply Exists.intro); refine caO ?_)) | refine And.intro (by assumption) ?_ | refine goT ?_ | refine goF ?_ | refine goL ?_ | refine goR ?_ | refine goRL ?_ | refine goRR ?_)
                  all_goals try (conv => whnf)
                  all_goals exact decide_eq_true hne'
                · rcases i with _ | _ | _ | _ | i
                  · exact congrArg JS.q hrec'
                  · exact congrArg JS.a hrec'
                  · exact congrArg JS.t hrec'
                  · exact congrArg JS.r hrec'
                  · exfalso; omega
        · skip
          repeat ((conv => whnf); first | refine sdO ?_ | refine nlO ?_ | refine goA ?_ | refine goB ?_ | (apply Exists.intro; (repeat apply Exists.intro); refine caO ?_) | (refine Or.inl ?_; (conv => whnf); (repeat apply Exists.intro); refine caO ?_) | (refine Or.inr ?_; (conv => whnf); first | ((repeat apply Exists.intro); refine caO ?_) | (refine Or.inl ?_; (conv => whnf); (repeat apply Exists.intro); refine caO ?_) | (refine Or.inr ?_; (conv => whnf); (repeat apply Exists.intro); refine caO ?_)) | refine And.intro (by assumption) ?_ | refine goT ?_ | refine goF ?_ | refine goL ?_ | refine goR ?_ | refine goRL ?_ | refine goRR ?_)
          all_goals try (conv => whnf)
          obtain ⟨T, hT⟩ : ∃ T, T = opM M k1 (nxP fun x => M (0 + x)) 0 (fun _ => 0) (min (L k) (Int.toNat 256)) (B k) := ⟨_, rfl⟩
          rw [← hT]
          rw [hzM] at hT
          have hzT : (fun x => T (0 + x)) = T := funext fun x => congrArg _ (Nat.zero_add x)
          have hto := torn (M := M) (T := T) (fun x hx => by rw [hT]; exact opm_out (by rcases nxP_in M with e | e <;> rw [e] <;> simp only [Int.reduceToNat] <;> omega))
          by_cases hw : (rdN T 2).1 = (rdN M 2).1
          · have hw' : (rdN (fun x => T (0 + x)) 2).1 = (rdN (fun x => M (0 + x)) 2).1 := by rw [hzT, hzM]; exact hw
            refine And.intro (fun _ => ?_) (bad (eqB_agg fun i hi => ?_))
            · skip
              repeat ((conv => whnf); first | refine sdO ?_ | refine nlO ?_ | refine goA ?_ | refine goB ?_ | (apply Exists.intro; (repeat apply Exists.intro); refine caO ?_) | (refine Or.inl ?_; (conv => whnf); (repeat apply Exists.intro); refine caO ?_) | (refine Or.inr ?_; (conv => whnf); first | ((repeat apply Exists.intro); refine caO ?_) | (refine Or.inl ?_; (conv => whnf); (repeat apply Exists.intro); refine caO ?_) | (refine Or.inr ?_; (conv => whnf); (repeat apply Exists.intro); refine caO ?_)) | refine And.intro (by assumption) ?_ | refine goT ?_ | refine goF ?_ | refine goL ?_ | refine goR ?_ | refine goRL ?_ | refine goRR ?_)
              all_goals try (conv => whnf)
              refine Again.mk (⟨k + 1, T⟩ : TnS) hk trivial (show n - (k + 1) < n - k by omega) ?_
              ((repeat' ((conv => whnf) <;> first | exact trivial | (with_reducible first | refine And.intro ?_ ?_ | refine rows_lt1 ?_ | refine rows_lt2 ?_ ?_ | refine rows_lt3 ?_ ?_ ?_ | refine rows_lt4 ?_ ?_ ?_ ?_ | refine rows_lt5 ?_ ?_ ?_ ?_ ?_ | refine ints_lt1 ?_ | refine ints_lt2 ?_ ?_ | refine ints_lt3 ?_ ?_ ?_ | refine rows_lt7 ?_ ?_ ?_ ?_ ?_ ?_ ?_ | refine aggs_lt1 ?_ | refine aggs_lt2 ?_ ?_ | refine aggs_lt3 ?_ ?_ ?_ | refine fun (_ : Nat) => ?_) | refine fun (_ : (_ : Nat) < _) => ?_ | exact rfl | exact Nat.le_of_ble_eq_true rfl | (change (_ : Nat) ≤ _; omega) | (change (_ : Nat) = _; omega) | (change (_ : Int) = _; omega))); (all_goals try (conv => whnf)))
            · rcases i with _ | _ | _ | _ | i
              · exact congrArg JS.q hw'
              · exact congrArg JS.a hw'
              · exact congrArg JS.t hw'
              · exact congrArg JS.r hw'
              · exfalso; omega
          · refine And.intro (fun h => absurd (show (rdN (fun x => T (0 + x)) 2).1 = (rdN (fun x => M (0 + x)) 2).1 from js_ext (eqB_iff.1 h 0 (by decide)) (eqB_iff.1 h 1 (by decide)) (eqB_iff.1 h 2 (by decide)) (eqB_iff.1 h 3 (by decide))) (by rw [hzT, hzM]; exact hw)) (fun _ => ?_)
            repeat ((conv => whnf); first | refine sdO ?_ | refine nlO ?_ | refine goA ?_ | refine goB ?_ | (apply Exists.intro; (repeat apply Exists.intro); refine caO ?_) | (refine Or.inl ?_; (conv => whnf); (repeat apply Exists.intro); refine caO ?_) | (refine Or.inr ?_; (conv => whnf); first | ((repeat apply Exists.intro); refine caO ?_) | (refine Or.inl ?_; (conv => whnf); (repeat apply Exists.intro); refine caO ?_) | (refine Or.inr ?_; (conv => whnf); (repeat apply Exists.intro); refine caO ?_)) | refine And.intro (by assumption) ?_ | refine goT ?_ | refine goF ?_ | refine goL ?_ | refine goR ?_ | refine goRL ?_ | refine goRR ?_)
            all_goals try (conv => whnf)
            by_cases hn' : (rdN T 2).1 = ⟨(rdN M 2).1.q + BitVec.ofInt 32 1, s.a, s.t, s.r⟩
            · have hw' : (rdN (fun x => T (0 + x)) 2).1 = ⟨(rdN (fun x => M (0 + x)) 2).1.q + BitVec.ofInt 32 1, s.a, s.t, s.r⟩ := by rw [hzT, hzM]; exact hn'
              refine And.intro (fun _ => ?_) (bad (eqB_agg fun i hi => ?_))
              · skip
                repeat ((conv => whnf); first | refine sdO ?_ | refine nlO ?_ | refine goA ?_ | refine goB ?_ | (apply Exists.intro; (repeat apply Exists.intro); refine caO ?_) | (refine Or.inl ?_; (conv => whnf); (repeat apply Exists.intro); refine caO ?_) | (refine Or.inr ?_; (conv => whnf); first | ((repeat apply Exists.intro); refine caO ?_) | (refine Or.inl ?_; (conv => whnf); (repeat apply Exists.intro); refine caO ?_) | (refine Or.inr ?_; (conv => whnf); (repeat apply Exists.intro); refine caO ?_)) | refine And.intro (by assumption) ?_ | refine goT ?_ | refine goF ?_ | refine goL ?_ | refine goR ?_ | refine goRL ?_ | refine goRR ?_)
                all_goals try (conv => whnf)
                refine Again.mk (⟨k + 1, T⟩ : TnS) hk trivial (show n - (k + 1) < n - k by omega) ?_
                ((repeat' ((conv => whnf) <;> first | exact trivial | (with_reducible first | refine And.intro ?_ ?_ | refine rows_lt1 ?_ | refine rows_lt2 ?_ ?_ | refine rows_lt3 ?_ ?_ ?_ | refine rows_lt4 ?_ ?_ ?_ ?_ | refine rows_lt5 ?_ ?_ ?_ ?_ ?_ | refine ints_lt1 ?_ | refine ints_lt2 ?_ ?_ | refine ints_lt3 ?_ ?_ ?_ | refine rows_lt7 ?_ ?_ ?_ ?_ ?_ ?_ ?_ | refine aggs_lt1 ?_ | refine aggs_lt2 ?_ ?_ | refine aggs_lt3 ?_ ?_ ?_ | refine fun (_ : Nat) => ?_) | refine fun (_ : (_ : Nat) < _) => ?_ | exact rfl | exact Nat.le_of_ble_eq_true rfl | (change (_ : Nat) ≤ _; omega) | (change (_ : Nat) = _; omega) | (change (_ : Int) = _; omega))); (all_goals try (conv => whnf)))
              · rcases i with _ | _ | _ | _ | i
                · exact congrArg JS.q hw'
                · show (rdN (fun x => T (0 + x)) 2).1.a = s.a
                  rw [hw']
                · show (rdN (fun x => T (0 + x)) 2).1.t = s.t
                  rw [hw']
                · show (rdN (fun x => T (0 + x)) 2).1.r = s.r
                  rw [hw']
                · exfalso; omega
            · refine And.intro (fun h => absurd (show (rdN (fun x => T (0 + x)) 2).1 = ⟨(rdN (fun x => M (0 + x)) 2).1.q + BitVec.ofInt 32 1, s.a, s.t, s.r⟩ from js_ext (eqB_iff.1 h 0 (by decide)) (eqB_iff.1 h 1 (by decide)) (eqB_iff.1 h 2 (by decide)) (eqB_iff.1 h 3 (by decide))) (by rw [hzT, hzM]; exact hn')) (fun _ => ?_)
              obtain ⟨hi, hrec, hne⟩ := hto.elim (fun q => absurd q hw) id
              have hf : (fun x => T (0 + ((nxP fun x => M (0 + x)).toNat * 256 + (0 + x)))) = pgF T (nxP M).toNat := by
                rw [hzM]
                funext x
                rw [Nat.zero_add, Nat.zero_add]
              have hi' : isR (32 - 0) (fun x => T (0 + ((nxP fun x => M (0 + x)).toNat * 256 + (0 + x)))) := by rw [hf]; exact hi
              have hrec' : recJ (fun x => T (0 + ((nxP fun x => M (0 + x)).toNat * 256 + (0 + x)))) = (rdN (fun x => T (0 + x)) 2).1 := by rw [hf, hzT]; exact hrec
              have hne' : ¬ (nxP fun x => M (0 + x)) = (rdN (fun x => M (0 + x)) 2).2 := by rw [hzM]; exact hne
              repeat ((conv => whnf); first | refine sdO ?_ | refine nlO ?_ | refine goA ?_ | refine goB ?_ | (apply Exists.intro; (repeat apply Exists.intro); refine caO ?_) | (refine Or.inl ?_; (conv => whnf); (repeat apply Exists.intro); refine caO ?_) | (refine Or.inr ?_; (conv => whnf); first | ((repeat apply Exists.intro); refine caO ?_) | (refine Or.inl ?_; (conv => whnf); (repeat apply Exists.intro); refine caO ?_) | (refine Or.inr ?_; (conv => whnf); (repeat apply Exists.intro); refine caO ?_)) | refine And.intro (by assumption) ?_ | refine goT ?_ | refine goF ?_ | refine goL ?_ | refine goR ?_ | refine goRL ?_ | refine goRR ?_)
              all_goals try (conv => whnf)
              refine And.intro (fun _ => ?_) (bad (eqB_agg fun i hi => ?_))
              · skip
                repeat ((conv => whnf); first | refine sdO ?_ | refine nlO ?_ | refine goA ?_ | refine goB ?_ | (apply Exists.intro; (repeat apply Exists.intro); refine caO ?_) | (refine Or.inl ?_; (conv => whnf); (repeat apply Exists.intro); refine caO ?_) | (refine Or.inr ?_; (conv => whnf); first | ((repeat apply Exists.intro); refine caO ?_) | (refine Or.inl ?_; (conv => whnf); (repeat apply Exists.intro); refine caO ?_) | (refine Or.inr ?_; (conv => whnf); (repeat apply Exists.intro); refine caO ?_)) | refine And.intro (by assumption) ?_ | refine goT ?_ | refine goF ?_ | refine goL ?_ | refine goR ?_ | refine goRL ?_ | refine goRR ?_)
                all_goals try (conv => whnf)
                all_goals exact decide_eq_true hne'
              · rcases i with _ | _ | _ | _ | i
                · exact congrArg JS.q hrec'
                · exact congrArg JS.a hrec'
                · exact congrArg JS.t hrec'
                · exact congrArg JS.r hrec'
                · exfalso; omega
      · have hq' : ¬ rgt s.a s.t s.r ∨ (rdN (fun x => M (0 + x)) 2).1.q = qL := by
          rw [hzM]
          exact (Decidable.em (rgt s.a s.t s.r)).elim (fun h => Or.inr (Decidable.of_not_not fun q => hq ⟨h, q⟩)) Or.inl
        repeat ((conv => whnf); first | refine sdO ?_ | refine nlO ?_ | refine goA ?_ | refine goB ?_ | (apply Exists.intro; (repeat apply Exists.intro); refine caO ?_) | (refine Or.inl ?_; (conv => whnf); (repeat apply Exists.intro); refine caO ?_) | (refine Or.inr ?_; (conv => whnf); first | ((repeat apply Exists.intro); refine caO ?_) | (refine Or.inl ?_; (conv => whnf); (repeat apply Exists.intro); refine caO ?_) | (refine Or.inr ?_; (conv => whnf); (repeat apply Exists.intro); refine caO ?_)) | refine And.intro (by assumption) ?_ | refine goT ?_ | refine goF ?_ | refine goL ?_ | refine goR ?_ | refine goRL ?_ | refine goRR ?_)
        all_goals try (conv => whnf)
        ((repeat' ((conv => whnf) <;> first | exact trivial | (with_reducible first | refine And.intro ?_ ?_ | refine rows_lt1 ?_ | refine rows_lt2 ?_ ?_ | refine rows_lt3 ?_ ?_ ?_ | refine rows_lt4 ?_ ?_ ?_ ?_ | refine rows_lt5 ?_ ?_ ?_ ?_ ?_ | refine ints_lt1 ?_ | refine ints_lt2 ?_ ?_ | refine ints_lt3 ?_ ?_ ?_ | refine rows_lt7 ?_ ?_ ?_ ?_ ?_ ?_ ?_ | refine aggs_lt1 ?_ | refine aggs_lt2 ?_ ?_ | refine aggs_lt3 ?_ ?_ ?_ | refine fun (_ : Nat) => ?_) | refine fun (_ : (_ : Nat) < _) => ?_ | exact rfl | exact Nat.le_of_ble_eq_true rfl | (change (_ : Nat) ≤ _; omega) | (change (_ : Nat) = _; omega) | (change (_ : Int) = _; omega))); (all_goals try (conv => whnf)))
    · skip
      repeat ((conv => whnf); first | refine sdO ?_ | refine nlO ?_ | refine goA ?_ | refine goB ?_ | (apply Exists.intro; (repeat apply Exists.intro); refine caO ?_) | (refine Or.inl ?_; (conv => whnf); (repeat apply Exists.intro); refine caO ?_) | (refine Or.inr ?_; (conv => whnf); first | ((repeat apply Exists.intro); refine caO ?_) | (refine Or.inl ?_; (conv => whnf); (repeat apply Exists.intro); refine caO ?_) | (refine Or.inr ?_; (conv => whnf); (repeat apply Exists.intro); refine caO ?_)) | refine And.intro (by assumption) ?_ | refine goT ?_ | refine goF ?_ | refine goL ?_ | refine goR ?_ | refine goRL ?_ | refine goRR ?_)
      all_goals try (conv => whnf)
      ((repeat' ((conv => whnf) <;> first | exact trivial | (with_reducible first | refine And.intro ?_ ?_ | refine rows_lt1 ?_ | refine rows_lt2 ?_ ?_ | refine rows_lt3 ?_ ?_ ?_ | refine rows_lt4 ?_ ?_ ?_ ?_ | refine rows_lt5 ?_ ?_ ?_ ?_ ?_ | refine ints_lt1 ?_ | refine ints_lt2 ?_ ?_ | refine ints_lt3 ?_ ?_ ?_ | refine rows_lt7 ?_ ?_ ?_ ?_ ?_ ?_ ?_ | refine aggs_lt1 ?_ | refine aggs_lt2 ?_ ?_ | refine aggs_lt3 ?_ ?_ ?_ | refine fun (_ : Nat) => ?_) | refine fun (_ : (_ : Nat) < _) => ?_ | exact rfl | exact Nat.le_of_ble_eq_true rfl | (change (_ : Nat) ≤ _; omega) | (change (_ : Nat) = _; omega) | (change (_ : Int) = _; omega))); (all_goals try (conv => whnf)))
  · obtain rfl : k = n := by omega
    repeat ((conv => whnf); first | refine sdO ?_ | refine nlO ?_ | refine goA ?_ | refine goB ?_ | (apply Exists.intro; (repeat apply Exists.intro); refine caO ?_) | (refine Or.inl ?_; (conv => whnf); (repeat apply Exists.intro); refine caO ?_) | (refine Or.inr ?_; (conv => whnf); first | ((repeat apply Exists.intro); refine caO ?_) | (refine Or.inl ?_; (conv => whnf); (repeat apply Exists.intro); refine caO ?_) | (refine Or.inr ?_; (conv => whnf); (repeat apply Exists.intro); refine caO ?_)) | refine And.intro (by assumption) ?_ | refine goT ?_ | refine goF ?_ | refine goL ?_ | refine goR ?_ | refine goRL ?_ | refine goRR ?_)
    all_goals try (conv => whnf)
    ((repeat' ((conv => whnf) <;> first | exact trivial | (with_reducible first | refine And.intro ?_ ?_ | refine rows_lt1 ?_ | refine rows_lt2 ?_ ?_ | refine rows_lt3 ?_ ?_ ?_ | refine rows_lt4 ?_ ?_ ?_ ?_ | refine rows_lt5 ?_ ?_ ?_ ?_ ?_ | refine ints_lt1 ?_ | refine ints_lt2 ?_ ?_ | refine ints_lt3 ?_ ?_ ?_ | refine rows_lt7 ?_ ?_ ?_ ?_ ?_ ?_ ?_ | refine aggs_lt1 ?_ | refine aggs_lt2 ?_ ?_ | refine aggs_lt3 ?_ ?_ ?_ | refine fun (_ : Nat) => ?_) | refine fun (_ : (_ : Nat) < _) => ?_ | exact rfl | exact Nat.le_of_ble_eq_true rfl | (change (_ : Nat) ≤ _; omega) | (change (_ : Nat) = _; omega) | (change (_ : Int) = _; omega))); (all_goals try (conv => whnf)))
end Go.Proofs.YtldlleoabbcpdaaDoor
