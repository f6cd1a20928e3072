/- The port: PortOuts. -/
import Derived.Test.YtahiclllpaplgaaPG
namespace Go.Proofs.Ytahiclllpaplgaa
open Go.RowKit
set_option maxRecDepth 100000
set_option maxHeartbeats 20000000
attribute [local irreducible] numN bytN alN
/-! ### PortOuts -/
structure WrS where
  w : Nat → Int
  o : Nat → Int
  l : Nat → Nat
  b : Nat → Nat → BitVec 8
abbrev TWr : Ty := ty 29
abbrev wrI (q : WrS) (k : Nat) : AV := .agg false 3 (nth .junk [.int (q.w k), .int (q.o k), bsl (q.l k) (q.b k)])
abbrev wrL (n : Nat) (q : WrS) : AV := .imm false TWr n (wrI q)
/-- What has gone out: how many rounds, bytes, messages. -/
structure OuS where
  i : Nat
  n : Nat
  f : Nat → BitVec 8
  m : Nat
  g : Nat → BitVec 32
def okOu (n : Nat) (s : OuS) : Prop := s.i ≤ n ∧ s.i ≤ 40 ∧ s.n ≤ s.i ∧ s.m ≤ s.i
def L_PO6 (n : Nat) (q : WrS) : LI := ⟨OuS, okOu n, fun s => [(3, .ptr TPo 2056 []), (4, .gsl 5 4001 s.n), (5, .gsl 32 4002 s.m), (15, wrL n q), (16, .nat n), (17, .nat s.i)],
  fun s => poR 2056 4003 4004 0 s.n s.f s.m s.g ++ [(4001, .grow 5 s.n (bys s.f)), (4002, .grow 32 s.m (wds s.g))], fun s => n - s.i, fun k => bif Nat.ble 4001 k then none else some k, some⟩
/-- Within a round: what has gone out of the port, what the law has noted. -/
structure IoS where
  i : Nat
  k : Nat
  pn : Nat
  pf : Nat → BitVec 8
  pm : Nat
  pg : Nat → BitVec 32
  n : Nat
  f : Nat → BitVec 8
  m : Nat
  g : Nat → BitVec 32
abbrev l20 (q : WrS) (i : Nat) : Nat := min (q.l i) 20
def L_PO14 (n : Nat) (q : WrS) : LI := ⟨IoS, fun _ => True, fun s => [(3, .ptr TPo 2056 []), (4, .gsl 5 4001 s.n), (5, .gsl 32 4002 s.m), (7, .ptr TWr 5053 []), (15, wrL n q), (16, .nat n), (17, .nat s.i), (40, .gsl 5 7093 (l20 q s.i)), (41, .nat (l20 q s.i)), (42, .nat s.k)],
  fun s => poR 2056 4003 4004 0 s.pn s.pf s.pm s.pg ++ [(4001, .grow 5 s.n (bys s.f)), (4002, .grow 32 s.m (wds s.g)), (5053, .var TWr (.agg false 3 (nth .junk [.int (q.w s.i), .int (q.o s.i), .gsl 5 7093 (l20 q s.i)]))), (7093, .grow 5 (l20 q s.i) (bys (q.b s.i)))], fun s => l20 q s.i - s.k, some, some⟩
def L_PO22 : LI := ⟨OuS, fun s => s.n ≤ 40 ∧ s.m ≤ 40, fun s => [(3, .ptr TPo 2056 []), (4, .gsl 5 4001 s.n), (5, .gsl 32 4002 s.m)],
  fun s => poR 2056 4003 4004 0 s.n s.f s.m s.g ++ [(4001, .grow 5 s.n (bys s.f)), (4002, .grow 32 s.m (wds s.g))], fun _ => 0, some, some⟩
def L_PO26 : LI := ⟨OuS × Nat, fun p => p.2 ≤ p.1.m, fun p => [(3, .ptr TPo 2056 []), (4, .gsl 5 4001 p.1.n), (5, .gsl 32 4002 p.1.m), (10, wsl p.1.m p.1.g), (103, .gsl 32 4002 p.1.m), (104, .nat p.1.m), (105, .nat p.2)],
  fun p => poR 2056 4003 4004 0 p.1.n p.1.f p.1.m p.1.g ++ [(4001, .grow 5 p.1.n (bys p.1.f)), (4002, .grow 32 p.1.m (wds p.1.g))], fun p => p.1.m - p.2, some, some⟩
theorem val_num (b F : Nat → BitVec 8) (h0 : F 0 = b 3) (h1 : F 1 = b 2) (h2 : F 2 = b 1) (h3 : F 3 = b 0) : (valN F 4).setWidth 32 = numN b 4 := by
  apply BitVec.eq_of_toNat_eq
  have a0 := (b 0).isLt
  have a1 := (b 1).isLt
  have a2 := (b 2).isLt
  have a3 := (b 3).isLt
  have st : ∀ k, (valN F (k + 1)).toNat = (256 * (valN F k).toNat + (F k).toNat) % 18446744073709551616 := fun k => by
    show (256 * valN F k + (F k).setWidth 64).toNat = _
    rw [BitVec.toNat_add, BitVec.toNat_mul, BitVec.toNat_setWidth, show (256 : BitVec 64).toNat = 256 from rfl]
    have := (F k).isLt
    omega
  have v0 : (valN F 0).toNat = 0 := rfl
  have v1 := st 0
  rw [v0, h0] at v1
  have v1 : (valN F 1).toNat = (b 3).toNat := by rw [v1]; omega
  have v2 := st 1
  rw [v1, h1] at v2
  have v2 : (valN F 2).toNat = 256 * (b 3).toNat + (b 2).toNat := by rw [v2]; omega
  have v3 := st 2
  rw [v2, h2] at v3
  have v3 : (valN F 3).toNat = 256 * (256 * (b 3).toNat + (b 2).toNat) + (b 1).toNat := by rw [v3]; omega
  have v4 := st 3
  rw [v3, h3] at v4
  have v4 : (valN F 4).toNat = 256 * (256 * (256 * (b 3).toNat + (b 2).toNat) + (b 1).toNat) + (b 0).toNat := by rw [v4]; omega
  rw [numN_nat b 4 (Nat.le_refl 4), BitVec.toNat_setWidth, v4]
  simp only [lvN]
  omega
def C_l21_PortOuts : SpecP := fun A K => ∃ n q, A [wrL n q] ∧ n ≤ maxLen ∧ (∀ k, k < n → q.l k ≤ maxLen) ∧ K (.bo true)
theorem g_l21_PortOuts : Gd 3 (pureP ty C_l21_PortOuts) := by
  refine goodP (E := PG [(7, pureP ty C_l21_awake), (8, pureR ty C_po_New), (9, pureR ty C_r1_Cut), (10, mutD ty [true, false, false, false] C_po_Wrote), (11, pureP ty C_r1_Value), (12, pureP ty C_po_Messages), (14, pureP ty C_po_Out), (13, pureP ty C_r1_Same), (15, mutD ty [true] C_po_Reset), (16, pureP ty C_po_TimeV)]) (pgOK ⟨g_l21_awake, g_po_New, g_r1_Cut, g_po_Wrote, g_r1_Value, g_po_Messages, g_po_Out, g_r1_Same, g_po_Reset, g_po_TimeV, trivial⟩) mixes Try.func3 (by kernel_rfl) (by kernel_rfl) ?_
  rintro A K ⟨n, q, hA, hn, hl, hK⟩
  refine ⟨_, _, loops [(7, L_PO6 n q), (14, L_PO14 n q), (100022, L_PO22), (26, L_PO26)], hA, hK, by kernel_rfl, trivial, ?_⟩
  have hmx : maxLen = 9223372036854775807 := by decide
  repeat ((conv => whnf); first | refine sdO ?_ | refine nlO ?_ | refine goA ?_ | refine goB ?_ | (apply Exists.intro; (repeat apply Exists.intro); refine caO ?_) | (refine Or.inl ?_; (conv => whnf); (repeat apply Exists.intro); refine caO ?_) | (refine Or.inr ?_; (conv => whnf); first | ((repeat apply Exists.intro); refine caO ?_) | (refine Or.inl ?_; (conv => whnf); (repeat apply Exists.intro); refine caO ?_) | (refine Or.inr ?_; (conv => whnf); (repeat apply Exists.intro); refine caO ?_)) | refine And.intro (by assumption) ?_ | refine goT ?_ | refine goF ?_ | refine goL ?_ | refine goR ?_ | refine goRL ?_ | refine goRR ?_)
  all_goals try (conv => whnf)
  refine Exists.intro (fun _ => True) (And.intro ?_ (fun (z : OuS) (hz : z.n ≤ 40 ∧ z.m ≤ 40) _ => ?_))
  rotate_left
  · have hz1 := hz.1
    have hz2 := hz.2
    have hs : (!decide (lw z.n z.f = lw z.n z.f)) = false := by rw [decide_eq_true rfl]; rfl
    repeat ((conv => whnf); first | refine sdO ?_ | refine nlO ?_ | refine goA ?_ | refine goB ?_ | (apply Exists.intro; (repeat apply Exists.intro); refine caO ?_) | (refine Or.inl ?_; (conv => whnf); (repeat apply Exists.intro); refine caO ?_) | (refine Or.inr ?_; (conv => whnf); first | ((repeat apply Exists.intro); refine caO ?_) | (refine Or.inl ?_; (conv => whnf); (repeat apply Exists.intro); refine caO ?_) | (refine Or.inr ?_; (conv => whnf); (repeat apply Exists.intro); refine caO ?_)) | refine And.intro (by assumption) ?_ | refine goT ?_ | refine goF ?_ | refine goL ?_ | refine goR ?_ | refine goRL ?_ | refine goRR ?_)
    all_goals try (conv => whnf)
    refine Exists.intro (fun p : OuS × Nat => p.1 = z) (And.intro (Enter.mk ((z, 0) : OuS × Nat) (Nat.zero_le _) rfl ?_) (fun (p : OuS × Nat) (hp : p.2 ≤ p.1.m) hJ => ?_))
    · ((repeat' ((conv => whnf) <;> first | exact trivial | (with_reducible first | refine And.intro ?_ ?_ | refine rows_lt1 ?_ | refine rows_lt2 ?_ ?_ | refine rows_lt3 ?_ ?_ ?_ | refine rows_lt4 ?_ ?_ ?_ ?_ | refine rows_lt5 ?_ ?_ ?_ ?_ ?_ | refine aggs_lt1 ?_ | refine aggs_lt2 ?_ ?_ | refine aggs_lt3 ?_ ?_ ?_ | refine fun (_ : Nat) => ?_) | refine fun (_ : (_ : Nat) < _) => ?_ | exact rfl | exact Nat.le_of_ble_eq_true rfl | (change (_ : Nat) ≤ _; omega) | (change (_ : Nat) = _; omega) | (change (_ : Int) = _; omega))); (all_goals try (conv => whnf)))
    obtain ⟨z', k⟩ := p
    replace hJ : z' = z := hJ
    subst hJ
    replace hp : k ≤ z'.m := hp
    rcases Nat.lt_or_ge k z'.m with h | h
    · have hge : z'.g k = z'.g k := rfl
      repeat ((conv => whnf); first | refine sdO ?_ | refine nlO ?_ | refine goA ?_ | refine goB ?_ | (apply Exists.intro; (repeat apply Exists.intro); refine caO ?_) | (refine Or.inl ?_; (conv => whnf); (repeat apply Exists.intro); refine caO ?_) | (refine Or.inr ?_; (conv => whnf); first | ((repeat apply Exists.intro); refine caO ?_) | (refine Or.inl ?_; (conv => whnf); (repeat apply Exists.intro); refine caO ?_) | (refine Or.inr ?_; (conv => whnf); (repeat apply Exists.intro); refine caO ?_)) | refine And.intro (by assumption) ?_ | refine goT ?_ | refine goF ?_ | refine goL ?_ | refine goR ?_ | refine goRL ?_ | refine goRR ?_)
      all_goals try (conv => whnf)
      refine Again.mk ((z', k + 1) : OuS × Nat) h rfl (show z'.m - (k + 1) < z'.m - k by omega) ?_
      ((repeat' ((conv => whnf) <;> first | exact trivial | (with_reducible first | refine And.intro ?_ ?_ | refine rows_lt1 ?_ | refine rows_lt2 ?_ ?_ | refine rows_lt3 ?_ ?_ ?_ | refine rows_lt4 ?_ ?_ ?_ ?_ | refine rows_lt5 ?_ ?_ ?_ ?_ ?_ | refine aggs_lt1 ?_ | refine aggs_lt2 ?_ ?_ | refine aggs_lt3 ?_ ?_ ?_ | refine fun (_ : Nat) => ?_) | refine fun (_ : (_ : Nat) < _) => ?_ | exact rfl | exact Nat.le_of_ble_eq_true rfl | (change (_ : Nat) ≤ _; omega) | (change (_ : Nat) = _; omega) | (change (_ : Int) = _; omega))); (all_goals try (conv => whnf)))
    · skip
      repeat ((conv => whnf); first | refine sdO ?_ | refine nlO ?_ | refine goA ?_ | refine goB ?_ | (apply Exists.intro; (repeat apply Exists.intro); refine caO ?_) | (refine Or.inl ?_; (conv => whnf); (repeat apply Exists.intro); refine caO ?_) | (refine Or.inr ?_; (conv => whnf); first | ((repeat apply Exists.intro); refine caO ?_) | (refine Or.inl ?_; (conv => whnf); (repeat apply Exists.intro); refine caO ?_) | (refine Or.inr ?_; (conv => whnf); (repeat apply Exists.intro); refine caO ?_)) | refine And.intro (by assumption) ?_ | refine goT ?_ | refine goF ?_ | refine goL ?_ | refine goR ?_ | refine goRL ?_ | refine goRR ?_)
      all_goals try (conv => whnf)
      ((repeat' ((conv => whnf) <;> first | exact trivial | (with_reducible first | refine And.intro ?_ ?_ | refine rows_lt1 ?_ | refine rows_lt2 ?_ ?_ | refine rows_lt3 ?_ ?_ ?_ | refine rows_lt4 ?_ ?_ ?_ ?_ | refine rows_lt5 ?_ ?_ ?_ ?_ ?_ | refine aggs_lt1 ?_ | refine aggs_lt2 ?_ ?_ | refine aggs_lt3 ?_ ?_ ?_ | refine fun (_ : Nat) => ?_) | refine fun (_ : (_ : Nat) < _) => ?_ | exact rfl | exact Nat.le_of_ble_eq_true rfl | (change (_ : Nat) ≤ _; omega) | (change (_ : Nat) = _; omega) | (change (_ : Int) = _; omega))); (all_goals try (conv => whnf)))
  repeat ((conv => whnf); first | refine sdO ?_ | refine nlO ?_ | refine goA ?_ | refine goB ?_ | (apply Exists.intro; (repeat apply Exists.intro); refine caO ?_) | (refine Or.inl ?_; (conv => whnf); (repeat apply Exists.intro); refine caO ?_) | (refine Or.inr ?_; (conv => whnf); first | ((repeat apply Exists.intro); refine caO ?_) | (refine Or.inl ?_; (conv => whnf); (repeat apply Exists.intro); refine caO ?_) | (refine Or.inr ?_; (conv => whnf); (repeat apply Exists.intro); refine caO ?_)) | refine And.intro (by assumption) ?_ | refine goT ?_ | refine goF ?_ | refine goL ?_ | refine goR ?_ | refine goRL ?_ | refine goRR ?_)
  all_goals try (conv => whnf)
  refine Exists.intro (fun _ => True) (And.intro (Enter.mk (⟨0, 0, fun _ => 0, 0, fun _ => 0⟩ : OuS) ⟨Nat.zero_le _, Nat.zero_le _, Nat.le_refl _, Nat.le_refl _⟩ trivial ?_) (fun (s : OuS) (hs : okOu n s) _ => ?_))
  · ((repeat' ((conv => whnf) <;> first | exact trivial | (with_reducible first | refine And.intro ?_ ?_ | refine rows_lt1 ?_ | refine rows_lt2 ?_ ?_ | refine rows_lt3 ?_ ?_ ?_ | refine rows_lt4 ?_ ?_ ?_ ?_ | refine rows_lt5 ?_ ?_ ?_ ?_ ?_ | refine aggs_lt1 ?_ | refine aggs_lt2 ?_ ?_ | refine aggs_lt3 ?_ ?_ ?_ | refine fun (_ : Nat) => ?_) | refine fun (_ : (_ : Nat) < _) => ?_ | exact rfl | exact Nat.le_of_ble_eq_true rfl | (change (_ : Nat) ≤ _; omega) | (change (_ : Nat) = _; omega) | (change (_ : Int) = _; omega))); (all_goals try (conv => whnf)))
  obtain ⟨i, no, f, m, g⟩ := s
  obtain ⟨h1, h2, h3, h4⟩ := hs
  replace h1 : i ≤ n := h1
  replace h2 : i ≤ 40 := h2
  replace h3 : no ≤ i := h3
  replace h4 : m ≤ i := h4
  rcases Nat.lt_or_ge i n with h5 | h5
  · rcases Nat.lt_or_ge i 40 with h6 | h6
    · have hq := hl i h5
      have hno : no < 4096 := by omega
      have hm : m < 4096 := by omega
      by_cases hw : q.w i = 1
      · by_cases hO : OutAt (q.o i) (min (q.l i) 20)
        · have hc : q.w i = 1 ∧ OutAt (q.o i) (min (q.l i) 20) ∧ no < 4096 := ⟨hw, hO, hno⟩
          repeat ((conv => whnf); first | refine sdO ?_ | refine nlO ?_ | refine goA ?_ | refine goB ?_ | (apply Exists.intro; (repeat apply Exists.intro); refine caO ?_) | (refine Or.inl ?_; (conv => whnf); (repeat apply Exists.intro); refine caO ?_) | (refine Or.inr ?_; (conv => whnf); first | ((repeat apply Exists.intro); refine caO ?_) | (refine Or.inl ?_; (conv => whnf); (repeat apply Exists.intro); refine caO ?_) | (refine Or.inr ?_; (conv => whnf); (repeat apply Exists.intro); refine caO ?_)) | refine And.intro (by assumption) ?_ | refine goT ?_ | refine goF ?_ | refine goL ?_ | refine goR ?_ | refine goRL ?_ | refine goRR ?_)
          all_goals try (conv => whnf)
          refine Exists.intro (fun p : IoS => p.i = i ∧ (p.pn = no + 1 ∧ p.pf = snB f no (q.b i (-(q.o i)).toNat) ∧ p.pm = m ∧ p.pg = g ∧ p.m = m ∧ p.g = g) ∧ p.k ≤ l20 q i ∧ (p.k ≤ (-(q.o i)).toNat ∧ p.n = no ∧ p.f = f ∨ (-(q.o i)).toNat < p.k ∧ p.n = no + 1 ∧ p.f = snB f no (q.b i (-(q.o i)).toNat))) (And.intro (Enter.mk (⟨i, 0, no + 1, snB f no (q.b i (-(q.o i)).toNat), m, g, no, f, m, g⟩ : IoS) trivial ⟨rfl, ⟨rfl, rfl, rfl, rfl, rfl, rfl⟩, Nat.zero_le _, .inl ⟨Nat.zero_le _, rfl, rfl⟩⟩ ?_) (fun (p : IoS) _ hp => ?_))
          · ((repeat' ((conv => whnf) <;> first | exact trivial | (with_reducible first | refine And.intro ?_ ?_ | refine rows_lt1 ?_ | refine rows_lt2 ?_ ?_ | refine rows_lt3 ?_ ?_ ?_ | refine rows_lt4 ?_ ?_ ?_ ?_ | refine rows_lt5 ?_ ?_ ?_ ?_ ?_ | refine aggs_lt1 ?_ | refine aggs_lt2 ?_ ?_ | refine aggs_lt3 ?_ ?_ ?_ | refine fun (_ : Nat) => ?_) | refine fun (_ : (_ : Nat) < _) => ?_ | exact rfl | exact Nat.le_of_ble_eq_true rfl | (change (_ : Nat) ≤ _; omega) | (change (_ : Nat) = _; omega) | (change (_ : Int) = _; omega))); (all_goals try (conv => whnf)))
          obtain ⟨i', k, pn, pf, pm, pg, n', f', m', g'⟩ := p
          obtain ⟨e1, ⟨e2, e3, e4, e5, e6, e7⟩, hk, hc2⟩ := hp
          replace e1 : i' = i := e1
          replace e2 : pn = no + 1 := e2
          replace e3 : pf = snB f no (q.b i (-(q.o i)).toNat) := e3
          replace e4 : pm = m := e4
          replace e5 : pg = g := e5
          replace e6 : m' = m := e6
          replace e7 : g' = g := e7
          subst e1 e2 e3 e4 e5 e6 e7
          replace hk : k ≤ l20 q i' := hk
          have hO1 := hO.1
          have hO2 : -(q.o i') < ((min (q.l i') 20 : Nat) : Int) := hO.2
          have hl20 : l20 q i' = min (q.l i') 20 := rfl
          have h8 : ¬ q.o i' = 8 := by omega
          rcases Nat.lt_or_ge k (l20 q i') with hk2 | hk2
          · by_cases ek : k = (-(q.o i')).toNat
            · have ek2 : q.o i' = -(k : Int) := by omega
              rcases hc2 with ⟨_, c2, c3⟩ | ⟨c1, _⟩
              · replace c2 : n' = no := c2
                replace c3 : f' = f := c3
                subst c2 c3
                repeat ((conv => whnf); first | refine sdO ?_ | refine nlO ?_ | refine goA ?_ | refine goB ?_ | (apply Exists.intro; (repeat apply Exists.intro); refine caO ?_) | (refine Or.inl ?_; (conv => whnf); (repeat apply Exists.intro); refine caO ?_) | (refine Or.inr ?_; (conv => whnf); first | ((repeat apply Exists.intro); refine caO ?_) | (refine Or.inl ?_; (conv => whnf); (repeat apply Exists.intro); refine caO ?_) | (refine Or.inr ?_; (conv => whnf); (repeat apply Exists.intro); refine caO ?_)) | refine And.intro (by assumption) ?_ | refine goT ?_ | refine goF ?_ | refine goL ?_ | refine goR ?_ | refine goRL ?_ | refine goRR ?_)
                all_goals try (conv => whnf)
                refine Again.mk (⟨i', k + 1, n' + 1, snB f' n' (q.b i' (-(q.o i')).toNat), m', g', n' + 1, snB f' n' (q.b i' (-(q.o i')).toNat), m', g'⟩ : IoS) trivial ⟨rfl, ⟨rfl, rfl, rfl, rfl, rfl, rfl⟩, hk2, .inr ⟨by show (-(q.o i')).toNat < k + 1; omega, rfl, rfl⟩⟩ (show l20 q i' - (k + 1) < l20 q i' - k by omega) ?_
                ((repeat' ((conv => whnf) <;> first | exact trivial | (with_reducible first | refine And.intro ?_ ?_ | refine rows_lt1 ?_ | refine rows_lt2 ?_ ?_ | refine rows_lt3 ?_ ?_ ?_ | refine rows_lt4 ?_ ?_ ?_ ?_ | refine rows_lt5 ?_ ?_ ?_ ?_ ?_ | refine aggs_lt1 ?_ | refine aggs_lt2 ?_ ?_ | refine aggs_lt3 ?_ ?_ ?_ | refine fun (_ : Nat) => ?_) | refine fun (_ : (_ : Nat) < _) => ?_ | exact rfl | exact Nat.le_of_ble_eq_true rfl | (change (_ : Nat) ≤ _; omega) | (change (_ : Nat) = _; omega) | (change (_ : Int) = _; omega))); (all_goals try (conv => whnf)))
                rename_i x hx
                have hx : x < n' + 1 := hx
                by_cases e : x < n'
                · rw [if_pos e]
                  exact (snB_lt e).symm
                · have hx2 : x = n' := by omega
                  rw [if_neg e, hx2, Nat.sub_self]
                  show q.b i' k = snB f' n' (q.b i' (-(q.o i')).toNat) n'
                  rw [snB_eq, ← ek]
              · exact absurd (show (-(q.o i')).toNat < k from c1) (by omega)
            · have ek2 : ¬ q.o i' = -(k : Int) := by omega
              have hc3 : k + 1 ≤ (-(q.o i')).toNat ∧ n' = no ∧ f' = f ∨ (-(q.o i')).toNat < k + 1 ∧ n' = no + 1 ∧ f' = snB f no (q.b i' (-(q.o i')).toNat) := by
                rcases hc2 with ⟨c1, c2⟩ | ⟨c1, c2⟩
                · have c1 : k ≤ (-(q.o i')).toNat := c1
                  exact .inl ⟨by omega, c2⟩
                · have c1 : (-(q.o i')).toNat < k := c1
                  exact .inr ⟨by omega, c2⟩
              repeat ((conv => whnf); first | refine sdO ?_ | refine nlO ?_ | refine goA ?_ | refine goB ?_ | (apply Exists.intro; (repeat apply Exists.intro); refine caO ?_) | (refine Or.inl ?_; (conv => whnf); (repeat apply Exists.intro); refine caO ?_) | (refine Or.inr ?_; (conv => whnf); first | ((repeat apply Exists.intro); refine caO ?_) | (refine Or.inl ?_; (conv => whnf); (repeat apply Exists.intro); refine caO ?_) | (refine Or.inr ?_; (conv => whnf); (repeat apply Exists.intro); refine caO ?_)) | refine And.intro (by assumption) ?_ | refine goT ?_ | refine goF ?_ | refine goL ?_ | refine goR ?_ | refine goRL ?_ | refine goRR ?_)
              all_goals try (conv => whnf)
              refine Again.mk (⟨i', k + 1, no + 1, snB f no (q.b i' (-(q.o i')).toNat), m', g', n', f', m', g'⟩ : IoS) trivial ⟨rfl, ⟨rfl, rfl, rfl, rfl, rfl, rfl⟩, hk2, hc3⟩ (show l20 q i' - (k + 1) < l20 q i' - k by omega) ?_
              ((repeat' ((conv => whnf) <;> first | exact trivial | (with_reducible first | refine And.intro ?_ ?_ | refine rows_lt1 ?_ | refine rows_lt2 ?_ ?_ | refine rows_lt3 ?_ ?_ ?_ | refine rows_lt4 ?_ ?_ ?_ ?_ | refine rows_lt5 ?_ ?_ ?_ ?_ ?_ | refine aggs_lt1 ?_ | refine aggs_lt2 ?_ ?_ | refine aggs_lt3 ?_ ?_ ?_ | refine fun (_ : Nat) => ?_) | refine fun (_ : (_ : Nat) < _) => ?_ | exact rfl | exact Nat.le_of_ble_eq_true rfl | (change (_ : Nat) ≤ _; omega) | (change (_ : Nat) = _; omega) | (change (_ : Int) = _; omega))); (all_goals try (conv => whnf)))
          · rcases hc2 with ⟨c1, _⟩ | ⟨_, c2, c3⟩
            · exact absurd (show k ≤ (-(q.o i')).toNat from c1) (by omega)
            · replace c2 : n' = no + 1 := c2
              replace c3 : f' = snB f no (q.b i' (-(q.o i')).toNat) := c3
              subst c2 c3
              repeat ((conv => whnf); first | refine sdO ?_ | refine nlO ?_ | refine goA ?_ | refine goB ?_ | (apply Exists.intro; (repeat apply Exists.intro); refine caO ?_) | (refine Or.inl ?_; (conv => whnf); (repeat apply Exists.intro); refine caO ?_) | (refine Or.inr ?_; (conv => whnf); first | ((repeat apply Exists.intro); refine caO ?_) | (refine Or.inl ?_; (conv => whnf); (repeat apply Exists.intro); refine caO ?_) | (refine Or.inr ?_; (conv => whnf); (repeat apply Exists.intro); refine caO ?_)) | refine And.intro (by assumption) ?_ | refine goT ?_ | refine goF ?_ | refine goL ?_ | refine goR ?_ | refine goRL ?_ | refine goRR ?_)
              all_goals try (conv => whnf)
              refine Again.mk (⟨i' + 1, no + 1, snB f no (q.b i' (-(q.o i')).toNat), m', g'⟩ : OuS) ⟨h5, h6, by show no + 1 ≤ i' + 1; omega, by show m' ≤ i' + 1; omega⟩ trivial (show n - (i' + 1) < n - i' by omega) ?_
              ((repeat' ((conv => whnf) <;> first | exact trivial | (with_reducible first | refine And.intro ?_ ?_ | refine rows_lt1 ?_ | refine rows_lt2 ?_ ?_ | refine rows_lt3 ?_ ?_ ?_ | refine rows_lt4 ?_ ?_ ?_ ?_ | refine rows_lt5 ?_ ?_ ?_ ?_ ?_ | refine aggs_lt1 ?_ | refine aggs_lt2 ?_ ?_ | refine aggs_lt3 ?_ ?_ ?_ | refine fun (_ : Nat) => ?_) | refine fun (_ : (_ : Nat) < _) => ?_ | exact rfl | exact Nat.le_of_ble_eq_true rfl | (change (_ : Nat) ≤ _; omega) | (change (_ : Nat) = _; omega) | (change (_ : Int) = _; omega))); (all_goals try (conv => whnf)))
        · by_cases hM : MsgAt (q.o i) (l20 q i)
          · have hc : q.w i = 1 ∧ MsgAt (q.o i) (min (q.l i) 20) ∧ m < 4096 := ⟨hw, hM, hm⟩
            repeat ((conv => whnf); first | refine sdO ?_ | refine nlO ?_ | refine goA ?_ | refine goB ?_ | (apply Exists.intro; (repeat apply Exists.intro); refine caO ?_) | (refine Or.inl ?_; (conv => whnf); (repeat apply Exists.intro); refine caO ?_) | (refine Or.inr ?_; (conv => whnf); first | ((repeat apply Exists.intro); refine caO ?_) | (refine Or.inl ?_; (conv => whnf); (repeat apply Exists.intro); refine caO ?_) | (refine Or.inr ?_; (conv => whnf); (repeat apply Exists.intro); refine caO ?_)) | refine And.intro (by assumption) ?_ | refine goT ?_ | refine goF ?_ | refine goL ?_ | refine goR ?_ | refine goRL ?_ | refine goRR ?_)
            all_goals try (conv => whnf)
            refine Exists.intro (fun p : IoS => p.i = i ∧ (p.pn = no ∧ p.pf = f ∧ p.pm = m + 1 ∧ p.pg = snW g m (numN (q.b i) 4) ∧ p.m = m ∧ p.g = g) ∧ p.k ≤ l20 q i ∧ p.n = no ∧ p.f = f) (And.intro (Enter.mk (⟨i, 0, no, f, m + 1, snW g m (numN (q.b i) 4), no, f, m, g⟩ : IoS) trivial ⟨rfl, ⟨rfl, rfl, rfl, rfl, rfl, rfl⟩, Nat.zero_le _, rfl, rfl⟩ ?_) (fun (p : IoS) _ hp => ?_))
            · ((repeat' ((conv => whnf) <;> first | exact trivial | (with_reducible first | refine And.intro ?_ ?_ | refine rows_lt1 ?_ | refine rows_lt2 ?_ ?_ | refine rows_lt3 ?_ ?_ ?_ | refine rows_lt4 ?_ ?_ ?_ ?_ | refine rows_lt5 ?_ ?_ ?_ ?_ ?_ | refine aggs_lt1 ?_ | refine aggs_lt2 ?_ ?_ | refine aggs_lt3 ?_ ?_ ?_ | refine fun (_ : Nat) => ?_) | refine fun (_ : (_ : Nat) < _) => ?_ | exact rfl | exact Nat.le_of_ble_eq_true rfl | (change (_ : Nat) ≤ _; omega) | (change (_ : Nat) = _; omega) | (change (_ : Int) = _; omega))); (all_goals try (conv => whnf)))
            obtain ⟨i', k, pn, pf, pm, pg, n', f', m', g'⟩ := p
            obtain ⟨e1, ⟨e2, e3, e4, e5, e6, e7⟩, hk, e8, e9⟩ := hp
            replace e1 : i' = i := e1
            replace e2 : pn = no := e2
            replace e3 : pf = f := e3
            replace e4 : pm = m + 1 := e4
            replace e5 : pg = snW g m (numN (q.b i) 4) := e5
            replace e6 : m' = m := e6
            replace e7 : g' = g := e7
            replace e8 : n' = no := e8
            replace e9 : f' = f := e9
            subst e1 e2 e3 e4 e5 e6 e7 e8 e9
            replace hk : k ≤ l20 q i' := hk
            have hM1 : q.o i' = 8 := hM.1
            have hM2 : min (q.l i') 20 = 4 := hM.2
            rcases Nat.lt_or_ge k (l20 q i') with hk2 | hk2
            · have ek2 : ¬ q.o i' = -(k : Int) := by omega
              repeat ((conv => whnf); first | refine sdO ?_ | refine nlO ?_ | refine goA ?_ | refine goB ?_ | (apply Exists.intro; (repeat apply Exists.intro); refine caO ?_) | (refine Or.inl ?_; (conv => whnf); (repeat apply Exists.intro); refine caO ?_) | (refine Or.inr ?_; (conv => whnf); first | ((repeat apply Exists.intro); refine caO ?_) | (refine Or.inl ?_; (conv => whnf); (repeat apply Exists.intro); refine caO ?_) | (refine Or.inr ?_; (conv => whnf); (repeat apply Exists.intro); refine caO ?_)) | refine And.intro (by assumption) ?_ | refine goT ?_ | refine goF ?_ | refine goL ?_ | refine goR ?_ | refine goRL ?_ | refine goRR ?_)
              all_goals try (conv => whnf)
              refine Again.mk (⟨i', k + 1, n', f', m' + 1, snW g' m' (numN (q.b i') 4), n', f', m', g'⟩ : IoS) trivial ⟨rfl, ⟨rfl, rfl, rfl, rfl, rfl, rfl⟩, hk2, rfl, rfl⟩ (show l20 q i' - (k + 1) < l20 q i' - k by omega) ?_
              ((repeat' ((conv => whnf) <;> first | exact trivial | (with_reducible first | refine And.intro ?_ ?_ | refine rows_lt1 ?_ | refine rows_lt2 ?_ ?_ | refine rows_lt3 ?_ ?_ ?_ | refine rows_lt4 ?_ ?_ ?_ ?_ | refine rows_lt5 ?_ ?_ ?_ ?_ ?_ | refine aggs_lt1 ?_ | refine aggs_lt2 ?_ ?_ | refine aggs_lt3 ?_ ?_ ?_ | refine fun (_ : Nat) => ?_) | refine fun (_ : (_ : Nat) < _) => ?_ | exact rfl | exact Nat.le_of_ble_eq_true rfl | (change (_ : Nat) ≤ _; omega) | (change (_ : Nat) = _; omega) | (change (_ : Int) = _; omega))); (all_goals try (conv => whnf)))
            · have g0 : 0 < min (q.l i') 20 := by omega
              have g1 : 1 < min (q.l i') 20 := by omega
              have g2 : 2 < min (q.l i') 20 := by omega
              have g3 : 3 < min (q.l i') 20 := by omega
              repeat ((conv => whnf); first | refine sdO ?_ | refine nlO ?_ | refine goA ?_ | refine goB ?_ | (apply Exists.intro; (repeat apply Exists.intro); refine caO ?_) | (refine Or.inl ?_; (conv => whnf); (repeat apply Exists.intro); refine caO ?_) | (refine Or.inr ?_; (conv => whnf); first | ((repeat apply Exists.intro); refine caO ?_) | (refine Or.inl ?_; (conv => whnf); (repeat apply Exists.intro); refine caO ?_) | (refine Or.inr ?_; (conv => whnf); (repeat apply Exists.intro); refine caO ?_)) | refine And.intro (by assumption) ?_ | refine goT ?_ | refine goF ?_ | refine goL ?_ | refine goR ?_ | refine goRL ?_ | refine goRR ?_)
              all_goals try (conv => whnf)
              refine Again.mk (⟨i' + 1, n', f', m' + 1, snW g' m' (numN (q.b i') 4)⟩ : OuS) ⟨h5, h6, by show n' ≤ i' + 1; omega, by show m' + 1 ≤ i' + 1; omega⟩ trivial (show n - (i' + 1) < n - i' by omega) ?_
              ((repeat' ((conv => whnf) <;> first | exact trivial | (with_reducible first | refine And.intro ?_ ?_ | refine rows_lt1 ?_ | refine rows_lt2 ?_ ?_ | refine rows_lt3 ?_ ?_ ?_ | refine rows_lt4 ?_ ?_ ?_ ?_ | refine rows_lt5 ?_ ?_ ?_ ?_ ?_ | refine aggs_lt1 ?_ | refine aggs_lt2 ?_ ?_ | refine aggs_lt3 ?_ ?_ ?_ | refine fun (_ : Nat) => ?_) | refine fun (_ : (_ : Nat) < _) => ?_ | exact rfl | exact Nat.le_of_ble_eq_true rfl | (change (_ : Nat) ≤ _; omega) | (change (_ : Nat) = _; omega) | (change (_ : Int) = _; omega))); (all_goals try (conv => whnf)))
              rename_i x hx
              have hx : x < m' + 1 := hx
              by_cases e : x < m'
              · rw [if_pos e]
                exact (snW_lt e).symm
              · have hx2 : x = m' := by omega
                rw [if_neg e, hx2, Nat.sub_self]
                refine Eq.trans ?_ snW_eq.symm
                exact val_num (q.b i') _ rfl rfl rfl rfl
          · have hc : ¬ q.w i = 1 ∨ (¬ OutAt (q.o i) (min (q.l i) 20) ∨ ¬ no < 4096) ∧ (¬ MsgAt (q.o i) (min (q.l i) 20) ∨ ¬ m < 4096) := .inr ⟨.inl hO, .inl hM⟩
            repeat ((conv => whnf); first | refine sdO ?_ | refine nlO ?_ | refine goA ?_ | refine goB ?_ | (apply Exists.intro; (repeat apply Exists.intro); refine caO ?_) | (refine Or.inl ?_; (conv => whnf); (repeat apply Exists.intro); refine caO ?_) | (refine Or.inr ?_; (conv => whnf); first | ((repeat apply Exists.intro); refine caO ?_) | (refine Or.inl ?_; (conv => whnf); (repeat apply Exists.intro); refine caO ?_) | (refine Or.inr ?_; (conv => whnf); (repeat apply Exists.intro); refine caO ?_)) | refine And.intro (by assumption) ?_ | refine goT ?_ | refine goF ?_ | refine goL ?_ | refine goR ?_ | refine goRL ?_ | refine goRR ?_)
            all_goals try (conv => whnf)
            refine Exists.intro (fun p : IoS => p.i = i ∧ (p.pn = no ∧ p.pf = f ∧ p.pm = m ∧ p.pg = g ∧ p.m = m ∧ p.g = g) ∧ p.k ≤ l20 q i ∧ p.n = no ∧ p.f = f) (And.intro (Enter.mk (⟨i, 0, no, f, m, g, no, f, m, g⟩ : IoS) trivial ⟨rfl, ⟨rfl, rfl, rfl, rfl, rfl, rfl⟩, Nat.zero_le _, rfl, rfl⟩ ?_) (fun (p : IoS) _ hp => ?_))
            · ((repeat' ((conv => whnf) <;> first | exact trivial | (with_reducible first | refine And.intro ?_ ?_ | refine rows_lt1 ?_ | refine rows_lt2 ?_ ?_ | refine rows_lt3 ?_ ?_ ?_ | refine rows_lt4 ?_ ?_ ?_ ?_ | refine rows_lt5 ?_ ?_ ?_ ?_ ?_ | refine aggs_lt1 ?_ | refine aggs_lt2 ?_ ?_ | refine aggs_lt3 ?_ ?_ ?_ | refine fun (_ : Nat) => ?_) | refine fun (_ : (_ : Nat) < _) => ?_ | exact rfl | exact Nat.le_of_ble_eq_true rfl | (change (_ : Nat) ≤ _; omega) | (change (_ : Nat) = _; omega) | (change (_ : Int) = _; omega))); (all_goals try (conv => whnf)))
            obtain ⟨i', k, pn, pf, pm, pg, n', f', m', g'⟩ := p
            obtain ⟨e1, ⟨e2, e3, e4, e5, e6, e7⟩, hk, e8, e9⟩ := hp
            replace e1 : i' = i := e1
            replace e2 : pn = no := e2
            replace e3 : pf = f := e3
            replace e4 : pm = m := e4
            replace e5 : pg = g := e5
            replace e6 : m' = m := e6
            replace e7 : g' = g := e7
            replace e8 : n' = no := e8
            replace e9 : f' = f := e9
            subst e1 e2 e3 e4 e5 e6 e7 e8 e9
            replace hk : k ≤ l20 q i' := hk
            rcases Nat.lt_or_ge k (l20 q i') with hk2 | hk2
            · have hk3 : k < min (q.l i') 20 := hk2
              have ek2 : ¬ q.o i' = -(k : Int) := fun e => hO ⟨by omega, by rw [e]; omega⟩
              repeat ((conv => whnf); first | refine sdO ?_ | refine nlO ?_ | refine goA ?_ | refine goB ?_ | (apply Exists.intro; (repeat apply Exists.intro); refine caO ?_) | (refine Or.inl ?_; (conv => whnf); (repeat apply Exists.intro); refine caO ?_) | (refine Or.inr ?_; (conv => whnf); first | ((repeat apply Exists.intro); refine caO ?_) | (refine Or.inl ?_; (conv => whnf); (repeat apply Exists.intro); refine caO ?_) | (refine Or.inr ?_; (conv => whnf); (repeat apply Exists.intro); refine caO ?_)) | refine And.intro (by assumption) ?_ | refine goT ?_ | refine goF ?_ | refine goL ?_ | refine goR ?_ | refine goRL ?_ | refine goRR ?_)
              all_goals try (conv => whnf)
              refine Again.mk (⟨i', k + 1, n', f', m', g', n', f', m', g'⟩ : IoS) trivial ⟨rfl, ⟨rfl, rfl, rfl, rfl, rfl, rfl⟩, hk2, rfl, rfl⟩ (show l20 q i' - (k + 1) < l20 q i' - k by omega) ?_
              ((repeat' ((conv => whnf) <;> first | exact trivial | (with_reducible first | refine And.intro ?_ ?_ | refine rows_lt1 ?_ | refine rows_lt2 ?_ ?_ | refine rows_lt3 ?_ ?_ ?_ | refine rows_lt4 ?_ ?_ ?_ ?_ | refine rows_lt5 ?_ ?_ ?_ ?_ ?_ | refine aggs_lt1 ?_ | refine aggs_lt2 ?_ ?_ | refine aggs_lt3 ?_ ?_ ?_ | refine fun (_ : Nat) => ?_) | refine fun (_ : (_ : Nat) < _) => ?_ | exact rfl | exact Nat.le_of_ble_eq_true rfl | (change (_ : Nat) ≤ _; omega) | (change (_ : Nat) = _; omega) | (change (_ : Int) = _; omega))); (all_goals try (conv => whnf)))
            · by_cases g8 : q.o i' = 8
              · have g4 : ¬ min (q.l i') 20 = 4 := fun e => hM ⟨g8, e⟩
                repeat ((conv => whnf); first | refine sdO ?_ | refine nlO ?_ | refine goA ?_ | refine goB ?_ | (apply Exists.intro; (repeat apply Exists.intro); refine caO ?_) | (refine Or.inl ?_; (conv => whnf); (repeat apply Exists.intro); refine caO ?_) | (refine Or.inr ?_; (conv => whnf); first | ((repeat apply Exists.intro); refine caO ?_) | (refine Or.inl ?_; (conv => whnf); (repeat apply Exists.intro); refine caO ?_) | (refine Or.inr ?_; (conv => whnf); (repeat apply Exists.intro); refine caO ?_)) | refine And.intro (by assumption) ?_ | refine goT ?_ | refine goF ?_ | refine goL ?_ | refine goR ?_ | refine goRL ?_ | refine goRR ?_)
                all_goals try (conv => whnf)
                refine Again.mk (⟨i' + 1, n', f', m', g'⟩ : OuS) ⟨h5, h6, by show n' ≤ i' + 1; omega, by show m' ≤ i' + 1; omega⟩ trivial (show n - (i' + 1) < n - i' by omega) ?_
                ((repeat' ((conv => whnf) <;> first | exact trivial | (with_reducible first | refine And.intro ?_ ?_ | refine rows_lt1 ?_ | refine rows_lt2 ?_ ?_ | refine rows_lt3 ?_ ?_ ?_ | refine rows_lt4 ?_ ?_ ?_ ?_ | refine rows_lt5 ?_ ?_ ?_ ?_ ?_ | refine aggs_lt1 ?_ | refine aggs_lt2 ?_ ?_ | refine aggs_lt3 ?_ ?_ ?_ | refine fun (_ : Nat) => ?_) | refine fun (_ : (_ : Nat) < _) => ?_ | exact rfl | exact Nat.le_of_ble_eq_true rfl | (change (_ : Nat) ≤ _; omega) | (change (_ : Nat) = _; omega) | (change (_ : Int) = _; omega))); (all_goals try (conv => whnf)))
              · skip
                repeat ((conv => whnf); first | refine sdO ?_ | refine nlO ?_ | refine goA ?_ | refine goB ?_ | (apply Exists.intro; (repeat apply Exists.intro); refine caO ?_) | (refine Or.inl ?_; (conv => whnf); (repeat apply Exists.intro); refine caO ?_) | (refine Or.inr ?_; (conv => whnf); first | ((repeat apply Exists.intro); refine caO ?_) | (refine Or.inl ?_; (conv => whnf); (repeat apply Exists.intro); refine caO ?_) | (refine Or.inr ?_; (conv => whnf); (repeat apply Exists.intro); refine caO ?_)) | refine And.intro (by assumption) ?_ | refine goT ?_ | refine goF ?_ | refine goL ?_ | refine goR ?_ | refine goRL ?_ | refine goRR ?_)
                all_goals try (conv => whnf)
                refine Again.mk (⟨i' + 1, n', f', m', g'⟩ : OuS) ⟨h5, h6, by show n' ≤ i' + 1; omega, by show m' ≤ i' + 1; omega⟩ trivial (show n - (i' + 1) < n - i' by omega) ?_
                ((repeat' ((conv => whnf) <;> first | exact trivial | (with_reducible first | refine And.intro ?_ ?_ | refine rows_lt1 ?_ | refine rows_lt2 ?_ ?_ | refine rows_lt3 ?_ ?_ ?_ | refine rows_lt4 ?_ ?_ ?_ ?_ | refine rows_lt5 ?_ ?_ ?_ ?_ ?_ | refine aggs_lt1 ?_ | refine aggs_lt2 ?_ ?_ | refine aggs_lt3 ?_ ?_ ?_ | refine fun (_ : Nat) => ?_) | refine fun (_ : (_ : Nat) < _) => ?_ | exact rfl | exact Nat.le_of_ble_eq_true rfl | (change (_ : Nat) ≤ _; omega) | (change (_ : Nat) = _; omega) | (change (_ : Int) = _; omega))); (all_goals try (conv => whnf)))
      · have hc : ¬ q.w i = 1 ∨ (¬ OutAt (q.o i) (min (q.l i) 20) ∨ ¬ no < 4096) ∧ (¬ MsgAt (q.o i) (min (q.l i) 20) ∨ ¬ m < 4096) := .inl hw
        repeat ((conv => whnf); first | refine sdO ?_ | refine nlO ?_ | refine goA ?_ | refine goB ?_ | (apply Exists.intro; (repeat apply Exists.intro); refine caO ?_) | (refine Or.inl ?_; (conv => whnf); (repeat apply Exists.intro); refine caO ?_) | (refine Or.inr ?_; (conv => whnf); first | ((repeat apply Exists.intro); refine caO ?_) | (refine Or.inl ?_; (conv => whnf); (repeat apply Exists.intro); refine caO ?_) | (refine Or.inr ?_; (conv => whnf); (repeat apply Exists.intro); refine caO ?_)) | refine And.intro (by assumption) ?_ | refine goT ?_ | refine goF ?_ | refine goL ?_ | refine goR ?_ | refine goRL ?_ | refine goRR ?_)
        all_goals try (conv => whnf)
        refine Again.mk (⟨i + 1, no, f, m, g⟩ : OuS) ⟨h5, h6, by show no ≤ i + 1; omega, by show m ≤ i + 1; omega⟩ trivial (show n - (i + 1) < n - i by omega) ?_
        ((repeat' ((conv => whnf) <;> first | exact trivial | (with_reducible first | refine And.intro ?_ ?_ | refine rows_lt1 ?_ | refine rows_lt2 ?_ ?_ | refine rows_lt3 ?_ ?_ ?_ | refine rows_lt4 ?_ ?_ ?_ ?_ | refine rows_lt5 ?_ ?_ ?_ ?_ ?_ | refine aggs_lt1 ?_ | refine aggs_lt2 ?_ ?_ | refine aggs_lt3 ?_ ?_ ?_ | refine fun (_ : Nat) => ?_) | refine fun (_ : (_ : Nat) < _) => ?_ | exact rfl | exact Nat.le_of_ble_eq_true rfl | (change (_ : Nat) ≤ _; omega) | (change (_ : Nat) = _; omega) | (change (_ : Int) = _; omega))); (all_goals try (conv => whnf)))
    · obtain rfl : i = 40 := by omega
      repeat ((conv => whnf); first | refine sdO ?_ | refine nlO ?_ | refine goA ?_ | refine goB ?_ | (apply Exists.intro; (repeat apply Exists.intro); refine caO ?_) | (refine Or.inl ?_; (conv => whnf); (repeat apply Exists.intro); refine caO ?_) | (refine Or.inr ?_; (conv => whnf); first | ((repeat apply Exists.intro); refine caO ?_) | (refine Or.inl ?_; (conv => whnf); (repeat apply Exists.intro); refine caO ?_) | (refine Or.inr ?_; (conv => whnf); (repeat apply Exists.intro); refine caO ?_)) | refine And.intro (by assumption) ?_ | refine goT ?_ | refine goF ?_ | refine goL ?_ | refine goR ?_ | refine goRL ?_ | refine goRR ?_)
      all_goals try (conv => whnf)
      refine Enter.mk (⟨40, no, f, m, g⟩ : OuS) ⟨h3, h4⟩ trivial ?_
      ((repeat' ((conv => whnf) <;> first | exact trivial | (with_reducible first | refine And.intro ?_ ?_ | refine rows_lt1 ?_ | refine rows_lt2 ?_ ?_ | refine rows_lt3 ?_ ?_ ?_ | refine rows_lt4 ?_ ?_ ?_ ?_ | refine rows_lt5 ?_ ?_ ?_ ?_ ?_ | refine aggs_lt1 ?_ | refine aggs_lt2 ?_ ?_ | refine aggs_lt3 ?_ ?_ ?_ | refine fun (_ : Nat) => ?_) | refine fun (_ : (_ : Nat) < _) => ?_ | exact rfl | exact Nat.le_of_ble_eq_true rfl | (change (_ : Nat) ≤ _; omega) | (change (_ : Nat) = _; omega) | (change (_ : Int) = _; omega))); (all_goals try (conv => whnf)))
  · obtain rfl : i = n := by omega
    repeat ((conv => whnf); first | refine sdO ?_ | refine nlO ?_ | refine goA ?_ | refine goB ?_ | (apply Exists.intro; (repeat apply Exists.intro); refine caO ?_) | (refine Or.inl ?_; (conv => whnf); (repeat apply Exists.intro); refine caO ?_) | (refine Or.inr ?_; (conv => whnf); first | ((repeat apply Exists.intro); refine caO ?_) | (refine Or.inl ?_; (conv => whnf); (repeat apply Exists.intro); refine caO ?_) | (refine Or.inr ?_; (conv => whnf); (repeat apply Exists.intro); refine caO ?_)) | refine And.intro (by assumption) ?_ | refine goT ?_ | refine goF ?_ | refine goL ?_ | refine goR ?_ | refine goRL ?_ | refine goRR ?_)
    all_goals try (conv => whnf)
    refine Enter.mk (⟨i, no, f, m, g⟩ : OuS) ⟨by show no ≤ 40; omega, by show m ≤ 40; omega⟩ trivial ?_
    ((repeat' ((conv => whnf) <;> first | exact trivial | (with_reducible first | refine And.intro ?_ ?_ | refine rows_lt1 ?_ | refine rows_lt2 ?_ ?_ | refine rows_lt3 ?_ ?_ ?_ | refine rows_lt4 ?_ ?_ ?_ ?_ | refine rows_lt5 ?_ ?_ ?_ ?_ ?_ | refine aggs_lt1 ?_ | refine aggs_lt2 ?_ ?_ | refine aggs_lt3 ?_ ?_ ?_ | refine fun (_ : Nat) => ?_) | refine fun (_ : (_ : Nat) < _) => ?_ | exact rfl | exact Nat.le_of_ble_eq_true rfl | (change (_ : Nat) ≤ _; omega) | (change (_ : Nat) = _; omega) | (change (_ : Int) = _; omega))); (all_goals try (conv => whnf)))
end Go.Proofs.Ytahiclllpaplgaa
