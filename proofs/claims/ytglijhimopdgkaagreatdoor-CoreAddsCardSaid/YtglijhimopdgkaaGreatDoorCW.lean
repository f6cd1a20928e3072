/- The core: CoreAdds. -/
import Derived.Test.YtglijhimopdgkaaGreatDoorCV
import Derived.Test.YtglijhimopdgkaaGreatDoorCN
namespace Go.Proofs.YtglijhimopdgkaaGreatDoor
open Go.RowKit
set_option maxRecDepth 100000
set_option maxHeartbeats 20000000
attribute [local irreducible] wdV opV fR fA fB fI fC isV stepO stepM layF cdV enK enW runN
theorem on_k {st : Nat} {m : Nat → BitVec 8} {w : Nat → BitVec 32} {n : Nat} {s : CoS} {me : MeS} (h : (stepO st me m w s false).tr = false) (hm : stepM st me m w s false = me) :
    (runN st m w (n + 1) s me).k = (runN st m w n (stepO st me m w s false).s me).k + 1 ∧ (runN st m w (n + 1) s me).s = (runN st m w n (stepO st me m w s false).s me).s := by
  rw [run_on h, hm]
  exact ⟨rfl, rfl⟩
theorem dec_k (j : Nat) : BitVec.ofNat 32 (j + 1) + BitVec.ofInt 32 4294967295 = BitVec.ofNat 32 j := by
  apply BitVec.eq_of_toNat_eq
  rw [BitVec.toNat_add, BitVec.toNat_ofNat, BitVec.toNat_ofNat, show (BitVec.ofInt 32 4294967295).toNat = 4294967295 by decide]
  omega
theorem add_k (x : BitVec 32) (a b : Nat) : x + BitVec.ofNat 32 a + BitVec.ofNat 32 b = x + BitVec.ofNat 32 (a + b) := by
  rw [BitVec.add_assoc, BitVec.ofNat_add]
structure Done (n : Nat) (b c : BitVec 32) (R : RnS) : Prop where
  k : R.k = n
  x1 : R.s.x 1 = 0
  x2 : R.s.x 2 = b
  c5 : R.s.c 5 = BitVec.ofInt 32 3
  c8 : R.s.c 8 = c
theorem ad_run (u v : BitVec 8) : ∀ (j n : Nat) (B C : BitVec 32) (s : CoS), 1 ≤ j → j ≤ 100 → 3 * j + 1 ≤ n → AtS 1 (BitVec.ofNat 32 j) B C s →
    Done (3 * j + 1) (B + BitVec.ofNat 32 j * v.setWidth 32) (C + BitVec.ofNat 32 (3 * j + 1)) (runN 1 FL8 FU8 n s (adM u v))
  | 0, _, _, _, _, h, _, _, _ => absurd h (by decide)
  | j + 1, n, B, C, s, _, hj, hn, h => by
    obtain ⟨n', rfl⟩ : ∃ n', n = n' + 1 + 1 + 1 := ⟨n - 3, by omega⟩
    obtain ⟨t1, m1, h1⟩ := ad_1 u v h
    obtain ⟨t2, m2, h2⟩ := ad_2 u v h1
    obtain ⟨t3, m3, h3⟩ := ad_bne u v h2
    rw [dec_k] at h3
    obtain ⟨a1, b1⟩ := on_k (n := n' + 1 + 1) t1 m1
    obtain ⟨a2, b2⟩ := on_k (n := n' + 1) t2 m2
    obtain ⟨a3, b3⟩ := on_k (n := n') t3 m3
    have e1 : BitVec.ofInt 32 1 = BitVec.ofNat 32 1 := rfl
    have key : Done (3 * j + 1) (B + v.setWidth 32 + BitVec.ofNat 32 j * v.setWidth 32) (C + BitVec.ofInt 32 1 + BitVec.ofInt 32 1 + BitVec.ofInt 32 1 + BitVec.ofNat 32 (3 * j + 1)) (runN 1 FL8 FU8 n' (stepO 1 (adM u v) FL8 FU8 (stepO 1 (adM u v) FL8 FU8 (stepO 1 (adM u v) FL8 FU8 s false).s false).s false).s (adM u v)) := by
      by_cases hz : j = 0
      · subst hz
        rw [if_pos (show BitVec.ofNat 32 0 = 0 from rfl)] at h3
        obtain ⟨n'', rfl⟩ : ∃ n'', n' = n'' + 1 := ⟨n' - 1, by omega⟩
        obtain ⟨t4, x1, x2, c5, c8⟩ := ad_4 u v h3
        rw [run_trap t4]
        refine ⟨rfl, x1, x2.trans ?_, c5, c8.trans ?_⟩
        · rw [show BitVec.ofNat 32 0 * v.setWidth 32 = 0 from BitVec.zero_mul]
          exact (BitVec.add_zero _).symm
        · rfl
      · rw [if_neg (fun q => hz (by
          have := congrArg BitVec.toNat q
          rw [BitVec.toNat_ofNat, show (0 : BitVec 32).toNat = 0 from rfl] at this
          omega))] at h3
        exact ad_run u v j n' _ _ _ (by omega) (by omega) (by omega) h3
    refine ⟨?_, ?_, ?_, ?_, ?_⟩
    · rw [a1, a2, a3, key.k]; omega
    · rw [b1, b2, b3, key.x1]
    · rw [b1, b2, b3, key.x2, BitVec.ofNat_add, BitVec.add_mul, BitVec.add_assoc]
      congr 1
      rw [show BitVec.ofNat 32 1 * v.setWidth 32 = v.setWidth 32 from BitVec.one_mul _, BitVec.add_comm]
    · rw [b1, b2, b3, key.c5]
    · rw [b1, b2, b3, key.c8, e1, add_k, add_k, add_k]
      congr 2
      omega
theorem ad_all (u v : BitVec 8) (hu : 1 ≤ u.toNat ∧ u.toNat ≤ 100) : Done (2 + 3 * u.toNat) (u.setWidth 32 * v.setWidth 32) (BitVec.ofNat 32 (2 + 3 * u.toNat)) (runN 1 FL8 FU8 1000 (co0 codeA) (adM u v)) := by
  have h0 : AtS 0 0 0 0 (co0 codeA) := ⟨by decide, rfl, rfl, rfl⟩
  obtain ⟨t, m, h⟩ := ad_0 u v h0
  obtain ⟨a, b⟩ := on_k (n := 999) t m
  have eu : u.setWidth 32 = BitVec.ofNat 32 u.toNat := by
    apply BitVec.eq_of_toNat_eq
    rw [BitVec.toNat_setWidth, BitVec.toNat_ofNat]
  rw [eu] at h
  have key := ad_run u v u.toNat 999 _ _ _ hu.1 hu.2 (by omega) h
  refine ⟨?_, ?_, ?_, ?_, ?_⟩
  · rw [a, key.k]; omega
  · rw [b, key.x1]
  · rw [b, key.x2, eu]; exact BitVec.zero_add _
  · rw [b, key.c5]
  · rw [b, key.c8, show (0 : BitVec 32) + BitVec.ofInt 32 1 = 0 + BitVec.ofNat 32 1 from rfl, add_k, show (0 : BitVec 32) + BitVec.ofNat 32 (1 + (3 * u.toNat + 1)) = BitVec.ofNat 32 (1 + (3 * u.toNat + 1)) from BitVec.zero_add _]
    congr 1
    omega
def C_l20_CoreAdds : SpecP := fun A K => ∃ n v, A [.u8 n, .u8 v] ∧ K (.bo true)
theorem g_l20_CoreAdds : Gd 6 (pureP ty C_l20_CoreAdds) := by
  refine goodP (E := PG [(7, pureP ty C_l20_awake), (9, pureR ty C_l20_lay), (21, pureP ty C_rv_Code), (23, pureP ty C_co_New), (24, mutD ty [false, true, false] C_co_Run), (20, pureP ty C_co_Csr)]) (pgOK ⟨g_l20_awake, g_l20_lay, g_rv_Code, g_co_New, g_co_Run, g_co_Csr, trivial⟩) mixes Tryz.func6 (by kernel_rfl) (by kernel_rfl) ?_
  rintro A K ⟨n, v, hA, hK⟩
  refine ⟨_, _, fun _ => none, hA, hK, by kernel_rfl, trivial, ?_⟩
  have hn := (n % BitVec.ofInt 8 40).isLt
  have hn40 : (n % BitVec.ofInt 8 40).toNat < 40 := by
    rw [BitVec.toNat_umod, show (BitVec.ofInt 8 40).toNat = 40 from rfl]
    exact Nat.mod_lt _ (by decide)
  obtain ⟨u, hu⟩ : ∃ u, u = BitVec.ofNat 8 (1 + (n % BitVec.ofInt 8 40).toNat) := ⟨_, rfl⟩
  have hun : u.toNat = 1 + (n % BitVec.ofInt 8 40).toNat := by
    rw [hu, BitVec.toNat_ofNat]; omega
  have hu32 : u.setWidth 32 = BitVec.ofNat 32 (1 + (n % BitVec.ofInt 8 40).toNat) := by
    apply BitVec.eq_of_toNat_eq
    rw [BitVec.toNat_setWidth, BitVec.toNat_ofNat, hun]
  repeat ((conv => whnf); first | refine sdO ?_ | refine nlO ?_ | refine goA ?_ | refine goB ?_ | (apply Exists.intro; (repeat apply Exists.intro); refine caO ?_) | (refine Or.inl ?_; (conv => whnf); (repeat apply Exists.intro); refine caO ?_) | (refine Or.inr ?_; (conv => whnf); first | ((repeat apply Exists.intro); refine caO ?_) | (refine Or.inl ?_; (conv => whnf); (repeat apply Exists.intro); refine caO ?_) | (refine Or.inr ?_; (conv => whnf); (repeat apply Exists.intro); refine caO ?_)) | refine And.intro (by assumption) ?_ | refine goT ?_ | refine goF ?_ | refine goL ?_ | refine goR ?_ | refine goRL ?_ | refine goRR ?_)
  all_goals try (conv => whnf)
  refine ⟨5, adO, adR, adA, fun _ => 0, adI u v, fun _ => 0, ?_, by decide, ?_⟩
  · ((repeat' ((conv => whnf) <;> first | exact trivial | (with_reducible first | refine And.intro ?_ ?_ | refine rows_lt1 ?_ | refine rows_lt2 ?_ ?_ | refine rows_lt3 ?_ ?_ ?_ | refine rows_lt4 ?_ ?_ ?_ ?_ | refine rows_lt5 ?_ ?_ ?_ ?_ ?_ | refine ints_lt1 ?_ | refine ints_lt2 ?_ ?_ | refine ints_lt3 ?_ ?_ ?_ | refine rows_lt7 ?_ ?_ ?_ ?_ ?_ ?_ ?_ | refine aggs_lt1 ?_ | refine aggs_lt2 ?_ ?_ | refine aggs_lt3 ?_ ?_ ?_ | refine fun (_ : Nat) => ?_) | refine fun (_ : (_ : Nat) < _) => ?_ | exact rfl | exact Nat.le_of_ble_eq_true rfl | (change (_ : Nat) ≤ _; omega) | (change (_ : Nat) = _; omega) | (change (_ : Int) = _; omega))); (all_goals try (conv => whnf)))
    all_goals (rename_i i hi; have h2 : i < 5 := hi; rcases i with _ | _ | _ | _ | _ | i <;> first | (exact absurd h2 (by omega)) | ((repeat' ((conv => whnf) <;> first | exact trivial | (with_reducible first | refine And.intro ?_ ?_ | refine rows_lt1 ?_ | refine rows_lt2 ?_ ?_ | refine rows_lt3 ?_ ?_ ?_ | refine rows_lt4 ?_ ?_ ?_ ?_ | refine rows_lt5 ?_ ?_ ?_ ?_ ?_ | refine ints_lt1 ?_ | refine ints_lt2 ?_ ?_ | refine ints_lt3 ?_ ?_ ?_ | refine rows_lt7 ?_ ?_ ?_ ?_ ?_ ?_ ?_ | refine aggs_lt1 ?_ | refine aggs_lt2 ?_ ?_ | refine aggs_lt3 ?_ ?_ ?_ | refine fun (_ : Nat) => ?_) | refine fun (_ : (_ : Nat) < _) => ?_ | exact rfl | exact Nat.le_of_ble_eq_true rfl | (change (_ : Nat) ≤ _; omega) | (change (_ : Nat) = _; omega) | (change (_ : Int) = _; omega))); (all_goals try (conv => whnf))))
    all_goals exact hu32.symm
  repeat ((conv => whnf); first | refine sdO ?_ | refine nlO ?_ | refine goA ?_ | refine goB ?_ | (apply Exists.intro; (repeat apply Exists.intro); refine caO ?_) | (refine Or.inl ?_; (conv => whnf); (repeat apply Exists.intro); refine caO ?_) | (refine Or.inr ?_; (conv => whnf); first | ((repeat apply Exists.intro); refine caO ?_) | (refine Or.inl ?_; (conv => whnf); (repeat apply Exists.intro); refine caO ?_) | (refine Or.inr ?_; (conv => whnf); (repeat apply Exists.intro); refine caO ?_)) | refine And.intro (by assumption) ?_ | refine goT ?_ | refine goF ?_ | refine goL ?_ | refine goR ?_ | refine goRL ?_ | refine goRR ?_)
  all_goals try (conv => whnf)
  refine ⟨1, adM u v, FL8, FU8, fun _ => false, co0 codeA, 1000, ?_, ⟨fun _ _ => rfl, by decide⟩, ?_⟩
  · ((repeat' ((conv => whnf) <;> first | exact trivial | (with_reducible first | refine And.intro ?_ ?_ | refine rows_lt1 ?_ | refine rows_lt2 ?_ ?_ | refine rows_lt3 ?_ ?_ ?_ | refine rows_lt4 ?_ ?_ ?_ ?_ | refine rows_lt5 ?_ ?_ ?_ ?_ ?_ | refine ints_lt1 ?_ | refine ints_lt2 ?_ ?_ | refine ints_lt3 ?_ ?_ ?_ | refine rows_lt7 ?_ ?_ ?_ ?_ ?_ ?_ ?_ | refine aggs_lt1 ?_ | refine aggs_lt2 ?_ ?_ | refine aggs_lt3 ?_ ?_ ?_ | refine fun (_ : Nat) => ?_) | refine fun (_ : (_ : Nat) < _) => ?_ | exact rfl | exact Nat.le_of_ble_eq_true rfl | (change (_ : Nat) ≤ _; omega) | (change (_ : Nat) = _; omega) | (change (_ : Int) = _; omega))); (all_goals try (conv => whnf)))
  obtain ⟨R, hR⟩ : ∃ R, R = runN 1 FL8 FU8 (1000 : Int).toNat (co0 codeA) (adM u v) := ⟨_, rfl⟩
  have hD : Done (2 + 3 * u.toNat) (u.setWidth 32 * v.setWidth 32) (BitVec.ofNat 32 (2 + 3 * u.toNat)) R := by rw [hR]; exact ad_all u v ⟨by omega, by omega⟩
  rw [← hR]
  obtain ⟨d1, d2, d3, d4, d5⟩ := hD
  rw [hun] at d1 d5
  rw [hu32] at d3
  repeat ((conv => whnf); first | refine sdO ?_ | refine nlO ?_ | refine goA ?_ | refine goB ?_ | (apply Exists.intro; (repeat apply Exists.intro); refine caO ?_) | (refine Or.inl ?_; (conv => whnf); (repeat apply Exists.intro); refine caO ?_) | (refine Or.inr ?_; (conv => whnf); first | ((repeat apply Exists.intro); refine caO ?_) | (refine Or.inl ?_; (conv => whnf); (repeat apply Exists.intro); refine caO ?_) | (refine Or.inr ?_; (conv => whnf); (repeat apply Exists.intro); refine caO ?_)) | refine And.intro (by assumption) ?_ | refine goT ?_ | refine goF ?_ | refine goL ?_ | refine goR ?_ | refine goRL ?_ | refine goRR ?_)
  all_goals try (conv => whnf)
  exact decide_eq_true (by rw [show plN (BitVec.ofInt 16 2816) = 8 by decide, d5, d1])
end Go.Proofs.YtglijhimopdgkaaGreatDoor
