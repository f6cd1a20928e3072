/- Key slots: blocks by a slot's key; no slots. -/
import Derived.Test.YtifmnjpjddefpaaDoorZ2
import Derived.Test.YtifmnjpjddefpaaDoorA18
namespace Go.Proofs.YtifmnjpjddefpaaDoor
open Go.RowKit
set_option maxRecDepth 100000
set_option maxHeartbeats 20000000
section
attribute [local irreducible] xt rol8 aff pw lg sbx isx gm sbN isN xtN at32 mkB shB suB miB enc dec inv8 eS nxF nxR nxB mstp at8 lw
theorem own_moZ : Own TM.zero := by
  intro i hi
  rcases i with _ | _ | _ | _ | i
  · intro j hj
    rcases j with _ | _ | j
    · exact trivial
    · exact fun _ _ => trivial
    · exact absurd hj (by show ¬ j + 2 < 2; omega)
  · exact trivial
  · exact trivial
  · exact fun _ _ => trivial
  · exact absurd hi (by show ¬ i + 4 < 4; omega)
def C_RunN : SpecP := fun A K => ∃ how bk nr w v l p, A [moA how bk nr w v, bsl l p] ∧ ¬ l % 16 = 0 ∧ l ≤ 1000000 ∧ K (tupOf [TM.zero, .nils, .nat 1])
theorem g_mode_RunN : Gd 11 (pureP ty C_RunN) := by
  refine goodP (E := PG []) (pgOK trivial) mixes Tryd.func11 (by kernel_rfl) (by kernel_rfl) ?_
  rintro A K ⟨how, bk, nr, w, v, l, p, hA, h16, hl, hK⟩
  refine ⟨_, _, fun _ => none, hA, hK, by kernel_rfl, own_res3 ?_ trivial trivial, ?_⟩
  · exact own_moZ
  repeat (first | ((conv => whnf); refine And.intro ?_ ?_; exact sideOf) | ((conv => whnf); refine NilE.some ?_ ?_; exact sideOf) | ((conv => whnf); refine And.intro (fun _ => ?_) (fun h => nomatch (show true = false from h))) | ((conv => whnf); refine And.intro (fun h => nomatch (show false = true from h)) (fun _ => ?_)) | ((conv => whnf); first | (apply Exists.intro; (repeat apply Exists.intro); refine And.intro ?_ ?_; exact leOf) | (refine Or.inl ?_; (conv => whnf); (repeat apply Exists.intro); refine And.intro ?_ ?_; exact leOf) | (refine Or.inr ?_; (conv => whnf); first | ((repeat apply Exists.intro); refine And.intro ?_ ?_; exact leOf) | (refine Or.inl ?_; (conv => whnf); (repeat apply Exists.intro); refine And.intro ?_ ?_; exact leOf) | (refine Or.inr ?_; (conv => whnf); (repeat apply Exists.intro); refine And.intro ?_ ?_; exact leOf))) | ((conv => whnf); first | refine And.intro (by assumption) ?_ | refine goT ?_ | refine goF ?_ | refine goL ?_ | refine goR ?_ | refine goRL ?_ | refine goRR ?_))
  all_goals try (conv => whnf)
  ((repeat' ((conv => whnf) <;> first | exact trivial | (with_reducible first | refine And.intro ?_ ?_ | refine rows_lt1 ?_ | refine rows_lt2 ?_ ?_ | refine rows_lt3 ?_ ?_ ?_ | refine rows_lt4 ?_ ?_ ?_ ?_ | refine rows_lt5 ?_ ?_ ?_ ?_ ?_ | refine ints_lt1 ?_ | refine ints_lt2 ?_ ?_ | refine ints_lt3 ?_ ?_ ?_ | refine rows_lt7 ?_ ?_ ?_ ?_ ?_ ?_ ?_ | refine aggs_lt1 ?_ | refine aggs_lt2 ?_ ?_ | refine aggs_lt3 ?_ ?_ ?_ | refine fun (_ : Nat) => ?_) | refine fun (_ : (_ : Nat) < _) => ?_ | exact rfl | exact Nat.le_of_ble_eq_true rfl | (change (_ : Nat) ≤ _; omega) | (change (_ : Nat) = _; omega) | (change (_ : Int) = _; omega))); (all_goals try (conv => whnf)))
abbrev zm : AV := moA 0 false 0 (fun _ => 0) (fun _ => 0)
def C_StepZ : SpecP := fun A K => ∃ b, A [zm, arr8 16 b] ∧ K (tupOf [zm, arr8 16 b])
theorem g_mode_StepZ : Gd 27 (pureP ty C_StepZ) := by
  refine goodP (E := PG [(39, pureP ty C_aes_Key_Encrypt_n)]) (pgOK ⟨g_aes_Key_Encrypt_n, trivial⟩) mixes Tryd.func27 (by kernel_rfl) (by kernel_rfl) ?_
  rintro A K ⟨b, hA, hK⟩
  refine ⟨_, _, fun _ => none, hA, hK, by kernel_rfl, own_res (own_mo _ _ _ _ _) (fun _ _ => trivial), ?_⟩
  repeat (first | ((conv => whnf); refine And.intro ?_ ?_; exact sideOf) | ((conv => whnf); refine NilE.some ?_ ?_; exact sideOf) | ((conv => whnf); refine And.intro (fun _ => ?_) (fun h => nomatch (show true = false from h))) | ((conv => whnf); refine And.intro (fun h => nomatch (show false = true from h)) (fun _ => ?_)) | ((conv => whnf); first | (apply Exists.intro; (repeat apply Exists.intro); refine And.intro ?_ ?_; exact leOf) | (refine Or.inl ?_; (conv => whnf); (repeat apply Exists.intro); refine And.intro ?_ ?_; exact leOf) | (refine Or.inr ?_; (conv => whnf); first | ((repeat apply Exists.intro); refine And.intro ?_ ?_; exact leOf) | (refine Or.inl ?_; (conv => whnf); (repeat apply Exists.intro); refine And.intro ?_ ?_; exact leOf) | (refine Or.inr ?_; (conv => whnf); (repeat apply Exists.intro); refine And.intro ?_ ?_; exact leOf))) | ((conv => whnf); first | refine And.intro (by assumption) ?_ | refine goT ?_ | refine goF ?_ | refine goL ?_ | refine goR ?_ | refine goRL ?_ | refine goRR ?_))
  all_goals try (conv => whnf)
  ((repeat' ((conv => whnf) <;> first | exact trivial | (with_reducible first | refine And.intro ?_ ?_ | refine rows_lt1 ?_ | refine rows_lt2 ?_ ?_ | refine rows_lt3 ?_ ?_ ?_ | refine rows_lt4 ?_ ?_ ?_ ?_ | refine rows_lt5 ?_ ?_ ?_ ?_ ?_ | refine ints_lt1 ?_ | refine ints_lt2 ?_ ?_ | refine ints_lt3 ?_ ?_ ?_ | refine rows_lt7 ?_ ?_ ?_ ?_ ?_ ?_ ?_ | refine aggs_lt1 ?_ | refine aggs_lt2 ?_ ?_ | refine aggs_lt3 ?_ ?_ ?_ | refine fun (_ : Nat) => ?_) | refine fun (_ : (_ : Nat) < _) => ?_ | exact rfl | exact Nat.le_of_ble_eq_true rfl | (change (_ : Nat) ≤ _; omega) | (change (_ : Nat) = _; omega) | (change (_ : Int) = _; omega))); (all_goals try (conv => whnf)))
def lastB (p : Nat → BitVec 8) : Nat → Nat → BitVec 8
  | 0 => fun _ => 0
  | i + 1 => blk p i
def L_RunZ (n : Nat) (p : Nat → BitVec 8) : LI := ⟨Nat, (· ≤ n), fun i => [(1, bsl (16 * (n - i)) (fun x => p (16 * i + x))), (2, .ptr TM 8 []), (4, .ptr TM 16 []), (7, .ptr TB 1032 []), (8, .gsl 5 3096 (16 * i))],
  fun i => [(8, .var TM zm), (16, .var TM TM.zero), (1032, .var TB (arr8 16 (lastB p i))), (3096, .grow 5 (16 * i) (bys p))], fun i => n - i, some, some⟩
def C_RunZ : SpecP := fun A K => ∃ n p, A [zm, bsl (16 * n) p] ∧ n ≤ 1000000 ∧ K (tupOf [zm, bsf (16 * n) p, .nat 0])
theorem g_mode_RunZ : Gd 11 (pureP ty C_RunZ) := by
  refine goodP (E := PG [(27, pureP ty C_StepZ)]) (pgOK ⟨g_mode_StepZ, trivial⟩) mixes Tryd.func11 (by kernel_rfl) (by kernel_rfl) ?_
  rintro A K ⟨n, p, hA, hn, hK⟩
  refine ⟨_, _, loops [(5, L_RunZ n p)], hA, hK, by kernel_rfl, own_res3 (own_mo _ _ _ _ _) ⟨rfl, fun _ _ => trivial⟩ trivial, ?_⟩
  have h16 : 16 * n % 16 = 0 := by omega
  repeat (first | ((conv => whnf); refine And.intro ?_ ?_; exact sideOf) | ((conv => whnf); refine NilE.some ?_ ?_; exact sideOf) | ((conv => whnf); refine And.intro (fun _ => ?_) (fun h => nomatch (show true = false from h))) | ((conv => whnf); refine And.intro (fun h => nomatch (show false = true from h)) (fun _ => ?_)) | ((conv => whnf); first | (apply Exists.intro; (repeat apply Exists.intro); refine And.intro ?_ ?_; exact leOf) | (refine Or.inl ?_; (conv => whnf); (repeat apply Exists.intro); refine And.intro ?_ ?_; exact leOf) | (refine Or.inr ?_; (conv => whnf); first | ((repeat apply Exists.intro); refine And.intro ?_ ?_; exact leOf) | (refine Or.inl ?_; (conv => whnf); (repeat apply Exists.intro); refine And.intro ?_ ?_; exact leOf) | (refine Or.inr ?_; (conv => whnf); (repeat apply Exists.intro); refine And.intro ?_ ?_; exact leOf))) | ((conv => whnf); first | refine And.intro (by assumption) ?_ | refine goT ?_ | refine goF ?_ | refine goL ?_ | refine goR ?_ | refine goRL ?_ | refine goRR ?_))
  all_goals try (conv => whnf)
  refine Exists.intro (fun _ => True) (And.intro (Enter.mk (0 : Nat) (Nat.zero_le _) trivial ?_) (fun (i : Nat) (hi : i ≤ n) _ => ?_))
  · ((repeat' ((conv => whnf) <;> first | exact trivial | (with_reducible first | refine And.intro ?_ ?_ | refine rows_lt1 ?_ | refine rows_lt2 ?_ ?_ | refine rows_lt3 ?_ ?_ ?_ | refine rows_lt4 ?_ ?_ ?_ ?_ | refine rows_lt5 ?_ ?_ ?_ ?_ ?_ | refine ints_lt1 ?_ | refine ints_lt2 ?_ ?_ | refine ints_lt3 ?_ ?_ ?_ | refine rows_lt7 ?_ ?_ ?_ ?_ ?_ ?_ ?_ | refine aggs_lt1 ?_ | refine aggs_lt2 ?_ ?_ | refine aggs_lt3 ?_ ?_ ?_ | refine fun (_ : Nat) => ?_) | refine fun (_ : (_ : Nat) < _) => ?_ | exact rfl | exact Nat.le_of_ble_eq_true rfl | (change (_ : Nat) ≤ _; omega) | (change (_ : Nat) = _; omega) | (change (_ : Int) = _; omega))); (all_goals try (conv => whnf)))
    · rename_i x hx
      exact absurd hx (by omega)
    · exact congrArg p (by omega)
  rcases Nat.lt_or_ge i n with h | h
  · have h' : 0 < 16 * (n - i) := by omega
    repeat (first | ((conv => whnf); refine And.intro ?_ ?_; exact sideOf) | ((conv => whnf); refine NilE.some ?_ ?_; exact sideOf) | ((conv => whnf); refine And.intro (fun _ => ?_) (fun h => nomatch (show true = false from h))) | ((conv => whnf); refine And.intro (fun h => nomatch (show false = true from h)) (fun _ => ?_)) | ((conv => whnf); first | (apply Exists.intro; (repeat apply Exists.intro); refine And.intro ?_ ?_; exact leOf) | (refine Or.inl ?_; (conv => whnf); (repeat apply Exists.intro); refine And.intro ?_ ?_; exact leOf) | (refine Or.inr ?_; (conv => whnf); first | ((repeat apply Exists.intro); refine And.intro ?_ ?_; exact leOf) | (refine Or.inl ?_; (conv => whnf); (repeat apply Exists.intro); refine And.intro ?_ ?_; exact leOf) | (refine Or.inr ?_; (conv => whnf); (repeat apply Exists.intro); refine And.intro ?_ ?_; exact leOf))) | ((conv => whnf); first | refine And.intro (by assumption) ?_ | refine goT ?_ | refine goF ?_ | refine goL ?_ | refine goR ?_ | refine goRL ?_ | refine goRR ?_))
    all_goals try (conv => whnf)
    refine Again.mk (i + 1 : Nat) (show i + 1 ≤ n by omega) trivial (show n - (i + 1) < n - i by omega) ?_
    ((repeat' ((conv => whnf) <;> first | exact trivial | (with_reducible first | refine And.intro ?_ ?_ | refine rows_lt1 ?_ | refine rows_lt2 ?_ ?_ | refine rows_lt3 ?_ ?_ ?_ | refine rows_lt4 ?_ ?_ ?_ ?_ | refine rows_lt5 ?_ ?_ ?_ ?_ ?_ | refine ints_lt1 ?_ | refine ints_lt2 ?_ ?_ | refine ints_lt3 ?_ ?_ ?_ | refine rows_lt7 ?_ ?_ ?_ ?_ ?_ ?_ ?_ | refine aggs_lt1 ?_ | refine aggs_lt2 ?_ ?_ | refine aggs_lt3 ?_ ?_ ?_ | refine fun (_ : Nat) => ?_) | refine fun (_ : (_ : Nat) < _) => ?_ | exact rfl | exact Nat.le_of_ble_eq_true rfl | (change (_ : Nat) ≤ _; omega) | (change (_ : Nat) = _; omega) | (change (_ : Int) = _; omega))); (all_goals try (conv => whnf)))
    · rename_i x hx
      exact spl p (lastB p i) n i h x hx
    · rename_i x hx
      have hx : x < 16 * i + (16 - 0) := hx
      by_cases e : x < 16 * i
      · rw [if_pos e]
        exact rfl
      · rw [if_neg e]
        refine (spl p (lastB p i) n i h (0 + (x - 16 * i)) (by omega)).trans ?_
        show p (16 * i + (0 + (x - 16 * i))) = p x
        congr 1
        omega
    · rename_i x hx
      show p (16 * i + (min (16 * (n - i)) (16 - 0) + x)) = p (16 * (i + 1) + x)
      congr 1
      omega
  · obtain rfl : i = n := by omega
    repeat (first | ((conv => whnf); refine And.intro ?_ ?_; exact sideOf) | ((conv => whnf); refine NilE.some ?_ ?_; exact sideOf) | ((conv => whnf); refine And.intro (fun _ => ?_) (fun h => nomatch (show true = false from h))) | ((conv => whnf); refine And.intro (fun h => nomatch (show false = true from h)) (fun _ => ?_)) | ((conv => whnf); first | (apply Exists.intro; (repeat apply Exists.intro); refine And.intro ?_ ?_; exact leOf) | (refine Or.inl ?_; (conv => whnf); (repeat apply Exists.intro); refine And.intro ?_ ?_; exact leOf) | (refine Or.inr ?_; (conv => whnf); first | ((repeat apply Exists.intro); refine And.intro ?_ ?_; exact leOf) | (refine Or.inl ?_; (conv => whnf); (repeat apply Exists.intro); refine And.intro ?_ ?_; exact leOf) | (refine Or.inr ?_; (conv => whnf); (repeat apply Exists.intro); refine And.intro ?_ ?_; exact leOf))) | ((conv => whnf); first | refine And.intro (by assumption) ?_ | refine goT ?_ | refine goF ?_ | refine goL ?_ | refine goR ?_ | refine goRL ?_ | refine goRR ?_))
    all_goals try (conv => whnf)
    ((repeat' ((conv => whnf) <;> first | exact trivial | (with_reducible first | refine And.intro ?_ ?_ | refine rows_lt1 ?_ | refine rows_lt2 ?_ ?_ | refine rows_lt3 ?_ ?_ ?_ | refine rows_lt4 ?_ ?_ ?_ ?_ | refine rows_lt5 ?_ ?_ ?_ ?_ ?_ | refine ints_lt1 ?_ | refine ints_lt2 ?_ ?_ | refine ints_lt3 ?_ ?_ ?_ | refine rows_lt7 ?_ ?_ ?_ ?_ ?_ ?_ ?_ | refine aggs_lt1 ?_ | refine aggs_lt2 ?_ ?_ | refine aggs_lt3 ?_ ?_ ?_ | refine fun (_ : Nat) => ?_) | refine fun (_ : (_ : Nat) < _) => ?_ | exact rfl | exact Nat.le_of_ble_eq_true rfl | (change (_ : Nat) ≤ _; omega) | (change (_ : Nat) = _; omega) | (change (_ : Int) = _; omega))); (all_goals try (conv => whnf)))
def C_RunX : SpecP := fun A K => ∃ how bk nr w v l p, A [moA how bk nr w v, bsl l p] ∧ l ≤ 1000000 ∧ (¬ l % 16 = 0 ∧ K (tupOf [TM.zero, .nils, .nat 1]) ∨ l % 16 = 0 ∧ ((1 ≤ nr ∧ nr ≤ 14) ∧ K (tupOf [moA how bk nr w (mch how bk nr w v p (l / 16)), bsf l (mout how bk nr w v p), .nat 0]) ∨ (how = 0 ∧ bk = false ∧ nr = 0 ∧ w = (fun _ => 0) ∧ v = fun _ => 0) ∧ K (tupOf [zm, bsf l p, .nat 0])))
theorem good_or2 {P : Program} {ty : TypeId → Ty} {gl : Nat → AV} {f : FuncId} {C1 C2 D C10 C20 D0 : Ctr} [h1 : Told C1 C10] [h2 : Told C2 C20] [hD : Told D D0] (g1 : Good P ty gl f C1) (g2 : Good P ty gl f C2) (h : ∀ args m key K, D0 args m key K → C10 args m key K ∨ C20 args m key K) : Good P ty gl f D := fun args m key K hd => by
  rw [hD.eq] at hd
  rcases h args m key K hd with h | h
  · exact g1 args m key K (by rw [h1.eq]; exact h)
  · exact g2 args m key K (by rw [h2.eq]; exact h)
def C_RunY : SpecP := fun A K => ∃ how bk nr w v l p, A [moA how bk nr w v, bsl l p] ∧ l ≤ 1000000 ∧ l % 16 = 0 ∧ ((1 ≤ nr ∧ nr ≤ 14) ∧ K (tupOf [moA how bk nr w (mch how bk nr w v p (l / 16)), bsf l (mout how bk nr w v p), .nat 0]) ∨ (how = 0 ∧ bk = false ∧ nr = 0 ∧ w = (fun _ => 0) ∧ v = fun _ => 0) ∧ K (tupOf [zm, bsf l p, .nat 0]))
theorem g_mode_RunY : Gd 11 (pureP ty C_RunY) := good_or2 g_mode_Run g_mode_RunZ fun args m key K ⟨how, bk, nr, w, v, l, p, hA, hl, h, hK⟩ => by
  rcases hK with ⟨⟨h1, h2⟩, hK⟩ | ⟨⟨rfl, rfl, rfl, rfl, rfl⟩, hK⟩
  · exact Or.inl ⟨how, bk, nr, w, v, l / 16, p, (by rw [show 16 * (l / 16) = l by omega]; exact hA), h1, h2, by omega, (by rw [show 16 * (l / 16) = l by omega]; exact hK)⟩
  · exact Or.inr ⟨l / 16, p, (by rw [show 16 * (l / 16) = l by omega]; exact hA), by omega, (by rw [show 16 * (l / 16) = l by omega]; exact hK)⟩
theorem g_mode_RunX : Gd 11 (pureP ty C_RunX) := good_or2 g_mode_RunN g_mode_RunY fun args m key K ⟨how, bk, nr, w, v, l, p, hA, hl, hK⟩ => by
  rcases hK with ⟨h, hK⟩ | ⟨h, hK⟩
  · exact Or.inl ⟨how, bk, nr, w, v, l, p, hA, h, hl, hK⟩
  · exact Or.inr ⟨how, bk, nr, w, v, l, p, hA, hl, h, hK⟩
def C_mode_NewK : SpecP := fun A K => ∃ z bk b v, A [.int z, .bo bk, bsl 32 b, arr8 16 v] ∧ (¬ (0 ≤ z ∧ z ≤ 2) ∧ K (tupOf [TM.zero, .nat 1]) ∨ (0 ≤ z ∧ z ≤ 2) ∧ K (tupOf [moA z.toNat bk 14 (at32 (ksch 8 b)) v, .nat 0]))
def C_mode_NewB : SpecP := fun A K => ∃ z bk b v, A [.int z, .bo bk, bsl 32 b, arr8 16 v] ∧ ¬ (0 ≤ z ∧ z ≤ 2) ∧ K (tupOf [TM.zero, .nat 1])
theorem g_mode_NewB : Gd 10 (pureP ty C_mode_NewB) := by
  refine goodP (E := PG []) (pgOK trivial) mixes Tryd.func10 (by kernel_rfl) (by kernel_rfl) ?_
  rintro A K ⟨z, bk, b, v, hA, hz, hK⟩
  refine ⟨_, _, fun _ => none, hA, hK, by kernel_rfl, own_res own_moZ trivial, ?_⟩
  rcases Int.lt_or_le z 0 with h | h
  · skip
    repeat (first | ((conv => whnf); refine And.intro ?_ ?_; exact sideOf) | ((conv => whnf); refine NilE.some ?_ ?_; exact sideOf) | ((conv => whnf); refine And.intro (fun _ => ?_) (fun h => nomatch (show true = false from h))) | ((conv => whnf); refine And.intro (fun h => nomatch (show false = true from h)) (fun _ => ?_)) | ((conv => whnf); first | (apply Exists.intro; (repeat apply Exists.intro); refine And.intro ?_ ?_; exact leOf) | (refine Or.inl ?_; (conv => whnf); (repeat apply Exists.intro); refine And.intro ?_ ?_; exact leOf) | (refine Or.inr ?_; (conv => whnf); first | ((repeat apply Exists.intro); refine And.intro ?_ ?_; exact leOf) | (refine Or.inl ?_; (conv => whnf); (repeat apply Exists.intro); refine And.intro ?_ ?_; exact leOf) | (refine Or.inr ?_; (conv => whnf); (repeat apply Exists.intro); refine And.intro ?_ ?_; exact leOf))) | ((conv => whnf); first | refine And.intro (by assumption) ?_ | refine goT ?_ | refine goF ?_ | refine goL ?_ | refine goR ?_ | refine goRL ?_ | refine goRR ?_))
    all_goals try (conv => whnf)
    ((repeat' ((conv => whnf) <;> first | exact trivial | (with_reducible first | refine And.intro ?_ ?_ | refine rows_lt1 ?_ | refine rows_lt2 ?_ ?_ | refine rows_lt3 ?_ ?_ ?_ | refine rows_lt4 ?_ ?_ ?_ ?_ | refine rows_lt5 ?_ ?_ ?_ ?_ ?_ | refine ints_lt1 ?_ | refine ints_lt2 ?_ ?_ | refine ints_lt3 ?_ ?_ ?_ | refine rows_lt7 ?_ ?_ ?_ ?_ ?_ ?_ ?_ | refine aggs_lt1 ?_ | refine aggs_lt2 ?_ ?_ | refine aggs_lt3 ?_ ?_ ?_ | refine fun (_ : Nat) => ?_) | refine fun (_ : (_ : Nat) < _) => ?_ | exact rfl | exact Nat.le_of_ble_eq_true rfl | (change (_ : Nat) ≤ _; omega) | (change (_ : Nat) = _; omega) | (change (_ : Int) = _; omega))); (all_goals try (conv => whnf)))
  · have h2 : 2 < z := by omega
    repeat (first | ((conv => whnf); refine And.intro ?_ ?_; exact sideOf) | ((conv => whnf); refine NilE.some ?_ ?_; exact sideOf) | ((conv => whnf); refine And.intro (fun _ => ?_) (fun h => nomatch (show true = false from h))) | ((conv => whnf); refine And.intro (fun h => nomatch (show false = true from h)) (fun _ => ?_)) | ((conv => whnf); first | (apply Exists.intro; (repeat apply Exists.intro); refine And.intro ?_ ?_; exact leOf) | (refine Or.inl ?_; (conv => whnf); (repeat apply Exists.intro); refine And.intro ?_ ?_; exact leOf) | (refine Or.inr ?_; (conv => whnf); first | ((repeat apply Exists.intro); refine And.intro ?_ ?_; exact leOf) | (refine Or.inl ?_; (conv => whnf); (repeat apply Exists.intro); refine And.intro ?_ ?_; exact leOf) | (refine Or.inr ?_; (conv => whnf); (repeat apply Exists.intro); refine And.intro ?_ ?_; exact leOf))) | ((conv => whnf); first | refine And.intro (by assumption) ?_ | refine goT ?_ | refine goF ?_ | refine goL ?_ | refine goR ?_ | refine goRL ?_ | refine goRR ?_))
    all_goals try (conv => whnf)
    ((repeat' ((conv => whnf) <;> first | exact trivial | (with_reducible first | refine And.intro ?_ ?_ | refine rows_lt1 ?_ | refine rows_lt2 ?_ ?_ | refine rows_lt3 ?_ ?_ ?_ | refine rows_lt4 ?_ ?_ ?_ ?_ | refine rows_lt5 ?_ ?_ ?_ ?_ ?_ | refine ints_lt1 ?_ | refine ints_lt2 ?_ ?_ | refine ints_lt3 ?_ ?_ ?_ | refine rows_lt7 ?_ ?_ ?_ ?_ ?_ ?_ ?_ | refine aggs_lt1 ?_ | refine aggs_lt2 ?_ ?_ | refine aggs_lt3 ?_ ?_ ?_ | refine fun (_ : Nat) => ?_) | refine fun (_ : (_ : Nat) < _) => ?_ | exact rfl | exact Nat.le_of_ble_eq_true rfl | (change (_ : Nat) ≤ _; omega) | (change (_ : Nat) = _; omega) | (change (_ : Int) = _; omega))); (all_goals try (conv => whnf)))
def C_mode_NewC : SpecP := fun A K => ∃ (z : Int), ∃ bk b v, A [.int z, .bo bk, bsl 32 b, arr8 16 v] ∧ (0 ≤ z ∧ z ≤ 2) ∧ K (tupOf [moA z.toNat bk 14 (at32 (ksch 8 b)) v, .nat 0])
theorem g_mode_NewC : Gd 10 (pureP ty C_mode_NewC) := by
  refine goodP (E := PG [(26, pureP ty C_aes_New8)]) (pgOK ⟨g_aes_New8, trivial⟩) mixes Tryd.func10 (by kernel_rfl) (by kernel_rfl) ?_
  rintro A K ⟨z, bk, b, v, hA, hz, hK⟩
  refine ⟨_, _, fun _ => none, hA, hK, by kernel_rfl, own_res (own_mo _ _ _ _ _) trivial, ?_⟩
  repeat (first | ((conv => whnf); refine And.intro ?_ ?_; exact sideOf) | ((conv => whnf); refine NilE.some ?_ ?_; exact sideOf) | ((conv => whnf); refine And.intro (fun _ => ?_) (fun h => nomatch (show true = false from h))) | ((conv => whnf); refine And.intro (fun h => nomatch (show false = true from h)) (fun _ => ?_)) | ((conv => whnf); first | (apply Exists.intro; (repeat apply Exists.intro); refine And.intro ?_ ?_; exact leOf) | (refine Or.inl ?_; (conv => whnf); (repeat apply Exists.intro); refine And.intro ?_ ?_; exact leOf) | (refine Or.inr ?_; (conv => whnf); first | ((repeat apply Exists.intro); refine And.intro ?_ ?_; exact leOf) | (refine Or.inl ?_; (conv => whnf); (repeat apply Exists.intro); refine And.intro ?_ ?_; exact leOf) | (refine Or.inr ?_; (conv => whnf); (repeat apply Exists.intro); refine And.intro ?_ ?_; exact leOf))) | ((conv => whnf); first | refine And.intro (by assumption) ?_ | refine goT ?_ | refine goF ?_ | refine goL ?_ | refine goR ?_ | refine goRL ?_ | refine goRR ?_))
  all_goals try (conv => whnf)
  ((repeat' ((conv => whnf) <;> first | exact trivial | (with_reducible first | refine And.intro ?_ ?_ | refine rows_lt1 ?_ | refine rows_lt2 ?_ ?_ | refine rows_lt3 ?_ ?_ ?_ | refine rows_lt4 ?_ ?_ ?_ ?_ | refine rows_lt5 ?_ ?_ ?_ ?_ ?_ | refine ints_lt1 ?_ | refine ints_lt2 ?_ ?_ | refine ints_lt3 ?_ ?_ ?_ | refine rows_lt7 ?_ ?_ ?_ ?_ ?_ ?_ ?_ | refine aggs_lt1 ?_ | refine aggs_lt2 ?_ ?_ | refine aggs_lt3 ?_ ?_ ?_ | refine fun (_ : Nat) => ?_) | refine fun (_ : (_ : Nat) < _) => ?_ | exact rfl | exact Nat.le_of_ble_eq_true rfl | (change (_ : Nat) ≤ _; omega) | (change (_ : Nat) = _; omega) | (change (_ : Int) = _; omega))); (all_goals try (conv => whnf)))
theorem g_mode_NewK : Gd 10 (pureP ty C_mode_NewK) := good_or2 g_mode_NewB g_mode_NewC fun args m key K ⟨z, bk, b, v, hA, hK⟩ => by
  rcases hK with ⟨h, hK⟩ | ⟨h, hK⟩
  · exact Or.inl ⟨z, bk, b, v, hA, h, hK⟩
  · exact Or.inr ⟨z, bk, b, v, hA, h, hK⟩
end
end Go.Proofs.YtifmnjpjddefpaaDoor
