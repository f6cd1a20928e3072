/- lms: nodes, leaves, hashes, the climb. -/
import Derived.Test.YtnfebaialdfffaaDoorO6
namespace Go.Proofs.YtnfebaialdfffaaDoor
open Go.RowKit
set_option maxRecDepth 100000
set_option maxHeartbeats 20000000
attribute [local irreducible] hsh rst sha256 press dig valN mash fold digs ch tw tp tlS cf ckN dgT pubE upTo sgV sigB mashD clE mixA clK pubK st1 at8
theorem g_lms_put : Gd 42 (mutF ty [true, false] C_ots_put) := by
  refine goodM (E := PG []) (pgOK trivial) mixes Tryd.func42 (by kernel_rfl) (by kernel_rfl) ?_
  rintro A K ⟨o, l, n, f, v, hA, hol, hn, h4, hK⟩
  refine ⟨_, _, _, _, fun _ => none, hA, hK, by kernel_rfl, by kernel_rfl, ⟨trivial, trivial⟩, ⟨fun _ _ => trivial, trivial⟩, fun _ h => by omega, ?_⟩
  repeat ((conv => whnf); first | refine sdO ?_ | refine nlO ?_ | refine goA ?_ | refine goB ?_ | (apply Exists.intro; (repeat apply Exists.intro); refine caO ?_) | (refine Or.inl ?_; (conv => whnf); (repeat apply Exists.intro); refine caO ?_) | (refine Or.inr ?_; (conv => whnf); first | ((repeat apply Exists.intro); refine caO ?_) | (refine Or.inl ?_; (conv => whnf); (repeat apply Exists.intro); refine caO ?_) | (refine Or.inr ?_; (conv => whnf); (repeat apply Exists.intro); refine caO ?_)))
  all_goals try (conv => whnf)
  refine ⟨some, ?_⟩
  ((repeat' ((conv => whnf) <;> first | exact trivial | (with_reducible first | refine And.intro ?_ ?_ | refine rows_lt1 ?_ | refine rows_lt2 ?_ ?_ | refine rows_lt3 ?_ ?_ ?_ | refine rows_lt4 ?_ ?_ ?_ ?_ | refine rows_lt5 ?_ ?_ ?_ ?_ ?_ | refine aggs_lt1 ?_ | refine aggs_lt2 ?_ ?_ | refine aggs_lt3 ?_ ?_ ?_ | refine fun (_ : Nat) => ?_) | refine fun (_ : (_ : Nat) < _) => ?_ | exact rfl | exact Nat.le_of_ble_eq_true rfl | (change (_ : Nat) ≤ _; omega) | (change (_ : Nat) = _; omega) | (change (_ : Int) = _; omega))); (all_goals try (conv => whnf)))
def C_lms_head : SpecP := fun A K => ∃ id q n, A [arr8 16 id, .u32 q, .nat n] ∧ n ≤ 1000000 ∧ K (arr8 22 (at8 (hd id q n)))
theorem g_lms_head : Gd 75 (pureP ty C_lms_head) := by
  refine goodP (E := PG [(42, mutF ty [true, false] C_ots_put)]) (pgOK ⟨g_lms_put, trivial⟩) mixes Tryd.func75 (by kernel_rfl) (by kernel_rfl) ?_
  rintro A K ⟨id, q, n, hA, hn, hK⟩
  refine ⟨_, _, fun _ => none, hA, hK, by kernel_rfl, fun _ _ => trivial, ?_⟩
  repeat ((conv => whnf); first | refine sdO ?_ | refine nlO ?_ | refine goA ?_ | refine goB ?_ | (apply Exists.intro; (repeat apply Exists.intro); refine caO ?_) | (refine Or.inl ?_; (conv => whnf); (repeat apply Exists.intro); refine caO ?_) | (refine Or.inr ?_; (conv => whnf); first | ((repeat apply Exists.intro); refine caO ?_) | (refine Or.inl ?_; (conv => whnf); (repeat apply Exists.intro); refine caO ?_) | (refine Or.inr ?_; (conv => whnf); (repeat apply Exists.intro); refine caO ?_)) | refine And.intro (by assumption) ?_ | refine goT ?_ | refine goF ?_ | refine goL ?_ | refine goR ?_ | refine goRL ?_ | refine goRR ?_)
  all_goals try (conv => whnf)
  ((repeat' ((conv => whnf) <;> first | exact trivial | (with_reducible first | refine And.intro ?_ ?_ | refine rows_lt1 ?_ | refine rows_lt2 ?_ ?_ | refine rows_lt3 ?_ ?_ ?_ | refine rows_lt4 ?_ ?_ ?_ ?_ | refine rows_lt5 ?_ ?_ ?_ ?_ ?_ | refine aggs_lt1 ?_ | refine aggs_lt2 ?_ ?_ | refine aggs_lt3 ?_ ?_ ?_ | refine fun (_ : Nat) => ?_) | refine fun (_ : (_ : Nat) < _) => ?_ | exact rfl | exact Nat.le_of_ble_eq_true rfl | (change (_ : Nat) ≤ _; omega) | (change (_ : Nat) = _; omega) | (change (_ : Int) = _; omega))); (all_goals try (conv => whnf)))
  rename_i j hj
  exact hd_at id q n j hn hj
def node (id : Nat → BitVec 8) (r : BitVec 32) (a b : Msg) : Msg := sha256 (hd id r 33667 ++ a ++ b)
def leaf (id : Nat → BitVec 8) (r : BitVec 32) (k : Msg) : Msg := sha256 (hd id r 33410 ++ k)
theorem node_len (id : Nat → BitVec 8) (r : BitVec 32) (a b : Msg) : (node id r a b).length = 32 := sha256_len _
theorem leaf_len (id : Nat → BitVec 8) (r : BitVec 32) (k : Msg) : (leaf id r k).length = 32 := sha256_len _
attribute [irreducible] node leaf
def C_lms_Node : SpecP := fun A K => ∃ id r a b, A [arr8 16 id, .u32 r, arr8 32 a, arr8 32 b] ∧ K (arr8 32 (at8 (node id r (lw 32 a) (lw 32 b))))
theorem g_lms_Node : Gd 58 (pureP ty C_lms_Node) := by
  refine goodP (E := PG [(75, pureP ty C_lms_head), (48, pureP ty C_sha_Sum_3)]) (pgOK ⟨g_lms_head, g_sha_Sum_3, trivial⟩) mixes Tryd.func58 (by kernel_rfl) (by kernel_rfl) ?_
  rintro A K ⟨id, r, a, b, hA, hK⟩
  refine ⟨_, _, fun _ => none, hA, hK, by kernel_rfl, fun _ _ => trivial, ?_⟩
  repeat ((conv => whnf); first | refine sdO ?_ | refine nlO ?_ | refine goA ?_ | refine goB ?_ | (apply Exists.intro; (repeat apply Exists.intro); refine caO ?_) | (refine Or.inl ?_; (conv => whnf); (repeat apply Exists.intro); refine caO ?_) | (refine Or.inr ?_; (conv => whnf); first | ((repeat apply Exists.intro); refine caO ?_) | (refine Or.inl ?_; (conv => whnf); (repeat apply Exists.intro); refine caO ?_) | (refine Or.inr ?_; (conv => whnf); (repeat apply Exists.intro); refine caO ?_)) | refine And.intro (by assumption) ?_ | refine goT ?_ | refine goF ?_ | refine goL ?_ | refine goR ?_ | refine goRL ?_ | refine goRR ?_)
  all_goals try (conv => whnf)
  ((repeat' ((conv => whnf) <;> first | exact trivial | (with_reducible first | refine And.intro ?_ ?_ | refine rows_lt1 ?_ | refine rows_lt2 ?_ ?_ | refine rows_lt3 ?_ ?_ ?_ | refine rows_lt4 ?_ ?_ ?_ ?_ | refine rows_lt5 ?_ ?_ ?_ ?_ ?_ | refine aggs_lt1 ?_ | refine aggs_lt2 ?_ ?_ | refine aggs_lt3 ?_ ?_ ?_ | refine fun (_ : Nat) => ?_) | refine fun (_ : (_ : Nat) < _) => ?_ | exact rfl | exact Nat.le_of_ble_eq_true rfl | (change (_ : Nat) ≤ _; omega) | (change (_ : Nat) = _; omega) | (change (_ : Int) = _; omega))); (all_goals try (conv => whnf)))
  change at8 (sha256 (lw (22 - 0) (fun t => at8 (hd id r 33667) (0 + t)) ++ lw (32 - 0) (fun t => a (0 + t)) ++ lw (32 - 0) (fun t => b (0 + t)))) _ = _
  simp only [Nat.zero_add, Nat.sub_zero]
  rw [lw_at8 _ _ (hd_len id r 33667)]
  unfold node
  rfl
def C_sha_Sum_2 : SpecP := fun A K => ∃ l0 b0 l1 b1, A [prs [l0, l1] [b0, b1]] ∧ l0 ≤ 1000000000 ∧ l1 ≤ 1000000000 ∧ K (arr8 32 (at8 (sha256 (lw l0 b0 ++ lw l1 b1))))
theorem g_sha_Sum_2 : Gd 48 (pureP ty C_sha_Sum_2) := good_imp g_sha_Sum_b fun args m key K ⟨l0, b0, l1, b1, hA, h0, h1, hK⟩ => ⟨l0, b0, l1, b1, (by rw [prt2]; exact hA), h0, h1, hK⟩
def C_lms_Leaf : SpecP := fun A K => ∃ id r a, A [arr8 16 id, .u32 r, arr8 32 a] ∧ K (arr8 32 (at8 (leaf id r (lw 32 a))))
theorem g_lms_Leaf : Gd 57 (pureP ty C_lms_Leaf) := by
  refine goodP (E := PG [(75, pureP ty C_lms_head), (48, pureP ty C_sha_Sum_2)]) (pgOK ⟨g_lms_head, g_sha_Sum_2, trivial⟩) mixes Tryd.func57 (by kernel_rfl) (by kernel_rfl) ?_
  rintro A K ⟨id, r, a, hA, hK⟩
  refine ⟨_, _, fun _ => none, hA, hK, by kernel_rfl, fun _ _ => trivial, ?_⟩
  repeat ((conv => whnf); first | refine sdO ?_ | refine nlO ?_ | refine goA ?_ | refine goB ?_ | (apply Exists.intro; (repeat apply Exists.intro); refine caO ?_) | (refine Or.inl ?_; (conv => whnf); (repeat apply Exists.intro); refine caO ?_) | (refine Or.inr ?_; (conv => whnf); first | ((repeat apply Exists.intro); refine caO ?_) | (refine Or.inl ?_; (conv => whnf); (repeat apply Exists.intro); refine caO ?_) | (refine Or.inr ?_; (conv => whnf); (repeat apply Exists.intro); refine caO ?_)) | refine And.intro (by assumption) ?_ | refine goT ?_ | refine goF ?_ | refine goL ?_ | refine goR ?_ | refine goRL ?_ | refine goRR ?_)
  all_goals try (conv => whnf)
  ((repeat' ((conv => whnf) <;> first | exact trivial | (with_reducible first | refine And.intro ?_ ?_ | refine rows_lt1 ?_ | refine rows_lt2 ?_ ?_ | refine rows_lt3 ?_ ?_ ?_ | refine rows_lt4 ?_ ?_ ?_ ?_ | refine rows_lt5 ?_ ?_ ?_ ?_ ?_ | refine aggs_lt1 ?_ | refine aggs_lt2 ?_ ?_ | refine aggs_lt3 ?_ ?_ ?_ | refine fun (_ : Nat) => ?_) | refine fun (_ : (_ : Nat) < _) => ?_ | exact rfl | exact Nat.le_of_ble_eq_true rfl | (change (_ : Nat) ≤ _; omega) | (change (_ : Nat) = _; omega) | (change (_ : Int) = _; omega))); (all_goals try (conv => whnf)))
  change at8 (sha256 (lw (22 - 0) (fun t => at8 (hd id r 33410) (0 + t)) ++ lw (32 - 0) (fun t => a (0 + t)))) _ = _
  simp only [Nat.zero_add, Nat.sub_zero]
  rw [lw_at8 _ _ (hd_len id r 33410)]
  unfold leaf
  rfl
def rr (r : BitVec 32) : Nat → BitVec 32
  | 0 => r
  | k + 1 => rr r k / BitVec.ofInt 32 2
/-- The way up. -/
def clb (id : Nat → BitVec 8) (r : BitVec 32) (x : Msg) (p : Nat → Nat → BitVec 8) : Nat → Msg
  | 0 => x
  | k + 1 => if rr r k % BitVec.ofInt 32 2 = BitVec.ofInt 32 1 then node id (rr r k / BitVec.ofInt 32 2) (lw 32 (p k)) (clb id r x p k) else node id (rr r k / BitVec.ofInt 32 2) (clb id r x p k) (lw 32 (p k))
theorem clb_len (id : Nat → BitVec 8) (r : BitVec 32) (x : Msg) (p : Nat → Nat → BitVec 8) (hx : x.length = 32) : ∀ k, (clb id r x p k).length = 32
  | 0 => hx
  | k + 1 => by rw [clb]; split <;> exact node_len _ _ _ _
attribute [irreducible] clb
theorem clb_0 (id : Nat → BitVec 8) (r : BitVec 32) (x : Msg) (p : Nat → Nat → BitVec 8) : clb id r x p 0 = x := by unfold clb; rfl
theorem clb_a (id : Nat → BitVec 8) (r : BitVec 32) (x : Msg) (p : Nat → Nat → BitVec 8) (k : Nat) (h : rr r k % BitVec.ofInt 32 2 = BitVec.ofInt 32 1) : clb id r x p (k + 1) = node id (rr r k / BitVec.ofInt 32 2) (lw 32 (p k)) (clb id r x p k) := by
  rw [clb, if_pos h]
theorem clb_b (id : Nat → BitVec 8) (r : BitVec 32) (x : Msg) (p : Nat → Nat → BitVec 8) (k : Nat) (h : ¬ rr r k % BitVec.ofInt 32 2 = BitVec.ofInt 32 1) : clb id r x p (k + 1) = node id (rr r k / BitVec.ofInt 32 2) (clb id r x p k) (lw 32 (p k)) := by
  rw [clb, if_neg h]
/-! ### Heights -/
def hgN (t : BitVec 32) : Nat := if t ≤ 9#32 then 5 * (t.toNat - 4) else t.toNat - 3758096384
theorem hg_cases {t : BitVec 32} (h : hgOK t) : t = 5#32 ∨ t = 6#32 ∨ t = 7#32 ∨ t = 8#32 ∨ t = 9#32 ∨ t = 3758096385#32 ∨ t = 3758096386#32 ∨ t = 3758096387#32 ∨ t = 3758096388#32 := by
  have e : ∀ n : Nat, n < 4294967296 → t.toNat = n → t = BitVec.ofNat 32 n := fun n hn h => BitVec.eq_of_toNat_eq (by rw [h, BitVec.toNat_ofNat, Nat.mod_eq_of_lt hn])
  rcases h with ⟨h1, h2⟩ | ⟨h1, h2⟩
  · have a1 : 5 ≤ t.toNat := by simpa [BitVec.le_def] using h1
    have a2 : t.toNat ≤ 9 := by simpa [BitVec.le_def] using h2
    obtain q | q | q | q | q : t.toNat = 5 ∨ t.toNat = 6 ∨ t.toNat = 7 ∨ t.toNat = 8 ∨ t.toNat = 9 := by omega
    · exact .inl (e _ (by decide) q)
    · exact .inr (.inl (e _ (by decide) q))
    · exact .inr (.inr (.inl (e _ (by decide) q)))
    · exact .inr (.inr (.inr (.inl (e _ (by decide) q))))
    · exact .inr (.inr (.inr (.inr (.inl (e _ (by decide) q)))))
  · have a1 : 3758096384 < t.toNat := by simpa [BitVec.lt_def] using h1
    have a2 : t.toNat ≤ 3758096388 := by simpa [BitVec.le_def] using h2
    obtain q | q | q | q : t.toNat = 3758096385 ∨ t.toNat = 3758096386 ∨ t.toNat = 3758096387 ∨ t.toNat = 3758096388 := by omega
    · exact .inr (.inr (.inr (.inr (.inr (.inl (e _ (by decide) q))))))
    · exact .inr (.inr (.inr (.inr (.inr (.inr (.inl (e _ (by decide) q)))))))
    · exact .inr (.inr (.inr (.inr (.inr (.inr (.inr (.inl (e _ (by decide) q))))))))
    · exact .inr (.inr (.inr (.inr (.inr (.inr (.inr (.inr (e _ (by decide) q))))))))
theorem hg_facts {t : BitVec 32} (h : hgOK t) : 1 ≤ hgN t ∧ hgN t ≤ 25 := by
  rcases hg_cases h with rfl | rfl | rfl | rfl | rfl | rfl | rfl | rfl | rfl <;> decide
def C_lms_HeightV : SpecP := fun A K => ∃ t, A [.u32 t] ∧ ((hgOK t ∧ K (tupOf [.nat (hgN t), .bo true])) ∨ (¬ hgOK t ∧ K (tupOf [.nat 0, .bo false])))
theorem g_lms_HeightV : Gd 35 (pureP ty C_lms_HeightV) := by
  refine goodP (E := PG []) (pgOK trivial) mixes Tryd.func35 (by kernel_rfl) (by kernel_rfl) ?_
  rintro A K ⟨t, hA, ⟨ht, hK⟩ | ⟨ht, hK⟩⟩
  · rcases hg_cases ht with rfl | rfl | rfl | rfl | rfl | rfl | rfl | rfl | rfl
    all_goals
      refine ⟨_, _, fun _ => none, hA, hK, by kernel_rfl, own_res trivial trivial, ?_⟩
      repeat ((conv => whnf); first | refine sdO ?_ | refine nlO ?_ | refine goA ?_ | refine goB ?_ | (apply Exists.intro; (repeat apply Exists.intro); refine caO ?_) | (refine Or.inl ?_; (conv => whnf); (repeat apply Exists.intro); refine caO ?_) | (refine Or.inr ?_; (conv => whnf); first | ((repeat apply Exists.intro); refine caO ?_) | (refine Or.inl ?_; (conv => whnf); (repeat apply Exists.intro); refine caO ?_) | (refine Or.inr ?_; (conv => whnf); (repeat apply Exists.intro); refine caO ?_)) | refine And.intro (by assumption) ?_ | refine goT ?_ | refine goF ?_ | refine goL ?_ | refine goR ?_ | refine goRL ?_ | refine goRR ?_)
      all_goals try (conv => whnf)
      ((repeat' ((conv => whnf) <;> first | exact trivial | (with_reducible first | refine And.intro ?_ ?_ | refine rows_lt1 ?_ | refine rows_lt2 ?_ ?_ | refine rows_lt3 ?_ ?_ ?_ | refine rows_lt4 ?_ ?_ ?_ ?_ | refine rows_lt5 ?_ ?_ ?_ ?_ ?_ | refine aggs_lt1 ?_ | refine aggs_lt2 ?_ ?_ | refine aggs_lt3 ?_ ?_ ?_ | refine fun (_ : Nat) => ?_) | refine fun (_ : (_ : Nat) < _) => ?_ | exact rfl | exact Nat.le_of_ble_eq_true rfl | (change (_ : Nat) ≤ _; omega) | (change (_ : Nat) = _; omega) | (change (_ : Int) = _; omega))); (all_goals try (conv => whnf)))
  · have c1 : ¬ BitVec.ofInt 32 5 ≤ t ∨ (BitVec.ofInt 32 5 ≤ t ∧ ¬ t ≤ BitVec.ofInt 32 9) := (Decidable.em (BitVec.ofInt 32 5 ≤ t)).elim (fun h => .inr ⟨h, fun h9 => ht (.inl ⟨h, h9⟩)⟩) .inl
    have c2 : ¬ BitVec.ofInt 32 3758096384 < t ∨ (BitVec.ofInt 32 3758096384 < t ∧ ¬ t ≤ BitVec.ofInt 32 3758096388) := (Decidable.em (BitVec.ofInt 32 3758096384 < t)).elim (fun h => .inr ⟨h, fun h9 => ht (.inr ⟨h, h9⟩)⟩) .inl
    rcases c1 with c1 | ⟨c1, c1'⟩ <;> rcases c2 with c2 | ⟨c2, c2'⟩
    all_goals
      refine ⟨_, _, fun _ => none, hA, hK, by kernel_rfl, own_res trivial trivial, ?_⟩
      repeat ((conv => whnf); first | refine sdO ?_ | refine nlO ?_ | refine goA ?_ | refine goB ?_ | (apply Exists.intro; (repeat apply Exists.intro); refine caO ?_) | (refine Or.inl ?_; (conv => whnf); (repeat apply Exists.intro); refine caO ?_) | (refine Or.inr ?_; (conv => whnf); first | ((repeat apply Exists.intro); refine caO ?_) | (refine Or.inl ?_; (conv => whnf); (repeat apply Exists.intro); refine caO ?_) | (refine Or.inr ?_; (conv => whnf); (repeat apply Exists.intro); refine caO ?_)) | refine And.intro (by assumption) ?_ | refine goT ?_ | refine goF ?_ | refine goL ?_ | refine goR ?_ | refine goRL ?_ | refine goRR ?_)
      all_goals try (conv => whnf)
      ((repeat' ((conv => whnf) <;> first | exact trivial | (with_reducible first | refine And.intro ?_ ?_ | refine rows_lt1 ?_ | refine rows_lt2 ?_ ?_ | refine rows_lt3 ?_ ?_ ?_ | refine rows_lt4 ?_ ?_ ?_ ?_ | refine rows_lt5 ?_ ?_ ?_ ?_ ?_ | refine aggs_lt1 ?_ | refine aggs_lt2 ?_ ?_ | refine aggs_lt3 ?_ ?_ ?_ | refine fun (_ : Nat) => ?_) | refine fun (_ : (_ : Nat) < _) => ?_ | exact rfl | exact Nat.le_of_ble_eq_true rfl | (change (_ : Nat) ≤ _; omega) | (change (_ : Nat) = _; omega) | (change (_ : Int) = _; omega))); (all_goals try (conv => whnf)))
def C_lms_leaves : SpecP := fun A K => ∃ a b id, A [keA a b id] ∧ hgOK a ∧ K (.u32 (1#32 <<< hgN a))
theorem g_lms_leaves : Gd 36 (pureP ty C_lms_leaves) := by
  refine goodP (E := PG [(35, pureP ty C_lms_HeightV)]) (pgOK ⟨g_lms_HeightV, trivial⟩) mixes Tryd.func36 (by kernel_rfl) (by kernel_rfl) ?_
  rintro A K ⟨a, b, id, hA, ha, hK⟩
  obtain ⟨h1, h2⟩ := hg_facts ha
  refine ⟨_, _, fun _ => none, hA, hK, by kernel_rfl, trivial, ?_⟩
  repeat ((conv => whnf); first | refine sdO ?_ | refine nlO ?_ | refine goA ?_ | refine goB ?_ | (apply Exists.intro; (repeat apply Exists.intro); refine caO ?_) | (refine Or.inl ?_; (conv => whnf); (repeat apply Exists.intro); refine caO ?_) | (refine Or.inr ?_; (conv => whnf); first | ((repeat apply Exists.intro); refine caO ?_) | (refine Or.inl ?_; (conv => whnf); (repeat apply Exists.intro); refine caO ?_) | (refine Or.inr ?_; (conv => whnf); (repeat apply Exists.intro); refine caO ?_)) | refine And.intro (by assumption) ?_ | refine goT ?_ | refine goF ?_ | refine goL ?_ | refine goR ?_ | refine goRL ?_ | refine goRR ?_)
  all_goals try (conv => whnf)
  ((repeat' ((conv => whnf) <;> first | exact trivial | (with_reducible first | refine And.intro ?_ ?_ | refine rows_lt1 ?_ | refine rows_lt2 ?_ ?_ | refine rows_lt3 ?_ ?_ ?_ | refine rows_lt4 ?_ ?_ ?_ ?_ | refine rows_lt5 ?_ ?_ ?_ ?_ ?_ | refine aggs_lt1 ?_ | refine aggs_lt2 ?_ ?_ | refine aggs_lt3 ?_ ?_ ?_ | refine fun (_ : Nat) => ?_) | refine fun (_ : (_ : Nat) < _) => ?_ | exact rfl | exact Nat.le_of_ble_eq_true rfl | (change (_ : Nat) ≤ _; omega) | (change (_ : Nat) = _; omega) | (change (_ : Int) = _; omega))); (all_goals try (conv => whnf)))
def C_lms_site : SpecP := fun A K => ∃ a b id q, A [keA a b id, .u32 q] ∧ K (siA id q)
theorem g_lms_site : Gd 26 (pureP ty C_lms_site) := by
  refine goodP (E := PG []) (pgOK trivial) mixes Tryd.func26 (by kernel_rfl) (by kernel_rfl) ?_
  rintro A K ⟨a, b, id, q, hA, hK⟩
  refine ⟨_, _, fun _ => none, hA, hK, by kernel_rfl, own_si _ _, ?_⟩
  repeat ((conv => whnf); first | refine sdO ?_ | refine nlO ?_ | refine goA ?_ | refine goB ?_ | (apply Exists.intro; (repeat apply Exists.intro); refine caO ?_) | (refine Or.inl ?_; (conv => whnf); (repeat apply Exists.intro); refine caO ?_) | (refine Or.inr ?_; (conv => whnf); first | ((repeat apply Exists.intro); refine caO ?_) | (refine Or.inl ?_; (conv => whnf); (repeat apply Exists.intro); refine caO ?_) | (refine Or.inr ?_; (conv => whnf); (repeat apply Exists.intro); refine caO ?_)) | refine And.intro (by assumption) ?_ | refine goT ?_ | refine goF ?_ | refine goL ?_ | refine goR ?_ | refine goRL ?_ | refine goRR ?_)
  all_goals try (conv => whnf)
  ((repeat' ((conv => whnf) <;> first | exact trivial | (with_reducible first | refine And.intro ?_ ?_ | refine rows_lt1 ?_ | refine rows_lt2 ?_ ?_ | refine rows_lt3 ?_ ?_ ?_ | refine rows_lt4 ?_ ?_ ?_ ?_ | refine rows_lt5 ?_ ?_ ?_ ?_ ?_ | refine aggs_lt1 ?_ | refine aggs_lt2 ?_ ?_ | refine aggs_lt3 ?_ ?_ ?_ | refine fun (_ : Nat) => ?_) | refine fun (_ : (_ : Nat) < _) => ?_ | exact rfl | exact Nat.le_of_ble_eq_true rfl | (change (_ : Nat) ≤ _; omega) | (change (_ : Nat) = _; omega) | (change (_ : Int) = _; omega))); (all_goals try (conv => whnf)))
def C_lms_climb : SpecP := fun A K => ∃ a b id q x n p, A [keA a b id, .u32 q, arr8 32 x, dgs n p] ∧ hgOK a ∧ n ≤ 1000 ∧ K (arr8 32 (at8 (clb id (1#32 <<< hgN a + q) (leaf id (1#32 <<< hgN a + q) (lw 32 x)) p n)))
abbrev TKe : Ty := ty 62
def L_climb (a b : BitVec 32) (id : Nat → BitVec 8) (r : BitVec 32) (x : Msg) (n : Nat) (p : Nat → Nat → BitVec 8) : LI := ⟨Nat, (· ≤ n), fun k => [(4, .ptr TKe 8 []), (8, .ptr TD 24 []), (9, .u32 (rr r k)), (10, .ptr TD 2096 []), (22, dgs n p), (23, .nat n), (24, .nat k)],
  fun k => [(8, .var TKe (keA a b id)), (24, .var TD TD.zero), (2096, .var TD (arr8 32 (at8 (clb id r x p k))))], fun k => n - k, some, some⟩
theorem g_lms_climb : Gd 55 (pureP ty C_lms_climb) := by
  refine goodP (E := PG [(36, pureP ty C_lms_leaves), (57, pureP ty C_lms_Leaf), (58, pureP ty C_lms_Node)]) (pgOK ⟨g_lms_leaves, g_lms_Leaf, g_lms_Node, trivial⟩) mixes Tryd.func55 (by kernel_rfl) (by kernel_rfl) ?_
  rintro A K ⟨a, b, id, q, x, n, p, hA, ha, hn, hK⟩
  obtain ⟨r, hr⟩ : ∃ r, r = 1#32 <<< hgN a + q := ⟨_, rfl⟩
  rw [← hr] at hK
  refine ⟨_, _, loops [(4, L_climb a b id r (leaf id r (lw 32 x)) n p)], hA, hK, by kernel_rfl, fun _ _ => trivial, ?_⟩
  repeat ((conv => whnf); first | refine sdO ?_ | refine nlO ?_ | refine goA ?_ | refine goB ?_ | (apply Exists.intro; (repeat apply Exists.intro); refine caO ?_) | (refine Or.inl ?_; (conv => whnf); (repeat apply Exists.intro); refine caO ?_) | (refine Or.inr ?_; (conv => whnf); first | ((repeat apply Exists.intro); refine caO ?_) | (refine Or.inl ?_; (conv => whnf); (repeat apply Exists.intro); refine caO ?_) | (refine Or.inr ?_; (conv => whnf); (repeat apply Exists.intro); refine caO ?_)) | refine And.intro (by assumption) ?_ | refine goT ?_ | refine goF ?_ | refine goL ?_ | refine goR ?_ | refine goRL ?_ | refine goRR ?_)
  all_goals try (conv => whnf)
  refine Exists.intro (fun _ => True) (And.intro (Enter.mk (0 : Nat) (Nat.zero_le _) trivial ?_) (fun (k : Nat) (hk : k ≤ n) _ => ?_))
  · ((repeat' ((conv => whnf) <;> first | exact trivial | (with_reducible first | refine And.intro ?_ ?_ | refine rows_lt1 ?_ | refine rows_lt2 ?_ ?_ | refine rows_lt3 ?_ ?_ ?_ | refine rows_lt4 ?_ ?_ ?_ ?_ | refine rows_lt5 ?_ ?_ ?_ ?_ ?_ | refine aggs_lt1 ?_ | refine aggs_lt2 ?_ ?_ | refine aggs_lt3 ?_ ?_ ?_ | refine fun (_ : Nat) => ?_) | refine fun (_ : (_ : Nat) < _) => ?_ | exact rfl | exact Nat.le_of_ble_eq_true rfl | (change (_ : Nat) ≤ _; omega) | (change (_ : Nat) = _; omega) | (change (_ : Int) = _; omega))); (all_goals try (conv => whnf)))
    · rw [clb_0, hr]
    · exact hr.symm
  have hl := clb_len id r (leaf id r (lw 32 x)) p (leaf_len _ _ _) k
  rcases Nat.lt_or_ge k n with h | h
  · rcases Decidable.em (rr r k % BitVec.ofInt 32 2 = BitVec.ofInt 32 1) with h2 | h2
    · skip
      repeat ((conv => whnf); first | refine sdO ?_ | refine nlO ?_ | refine goA ?_ | refine goB ?_ | (apply Exists.intro; (repeat apply Exists.intro); refine caO ?_) | (refine Or.inl ?_; (conv => whnf); (repeat apply Exists.intro); refine caO ?_) | (refine Or.inr ?_; (conv => whnf); first | ((repeat apply Exists.intro); refine caO ?_) | (refine Or.inl ?_; (conv => whnf); (repeat apply Exists.intro); refine caO ?_) | (refine Or.inr ?_; (conv => whnf); (repeat apply Exists.intro); refine caO ?_)) | refine And.intro (by assumption) ?_ | refine goT ?_ | refine goF ?_ | refine goL ?_ | refine goR ?_ | refine goRL ?_ | refine goRR ?_)
      all_goals try (conv => whnf)
      refine Again.mk (k + 1 : Nat) (show k + 1 ≤ n by omega) trivial (show n - (k + 1) < n - k by omega) ?_
      ((repeat' ((conv => whnf) <;> first | exact trivial | (with_reducible first | refine And.intro ?_ ?_ | refine rows_lt1 ?_ | refine rows_lt2 ?_ ?_ | refine rows_lt3 ?_ ?_ ?_ | refine rows_lt4 ?_ ?_ ?_ ?_ | refine rows_lt5 ?_ ?_ ?_ ?_ ?_ | refine aggs_lt1 ?_ | refine aggs_lt2 ?_ ?_ | refine aggs_lt3 ?_ ?_ ?_ | refine fun (_ : Nat) => ?_) | refine fun (_ : (_ : Nat) < _) => ?_ | exact rfl | exact Nat.le_of_ble_eq_true rfl | (change (_ : Nat) ≤ _; omega) | (change (_ : Nat) = _; omega) | (change (_ : Int) = _; omega))); (all_goals try (conv => whnf)))
      rw [lw_at8 _ _ hl, clb_a _ _ _ _ _ h2]
    · skip
      repeat ((conv => whnf); first | refine sdO ?_ | refine nlO ?_ | refine goA ?_ | refine goB ?_ | (apply Exists.intro; (repeat apply Exists.intro); refine caO ?_) | (refine Or.inl ?_; (conv => whnf); (repeat apply Exists.intro); refine caO ?_) | (refine Or.inr ?_; (conv => whnf); first | ((repeat apply Exists.intro); refine caO ?_) | (refine Or.inl ?_; (conv => whnf); (repeat apply Exists.intro); refine caO ?_) | (refine Or.inr ?_; (conv => whnf); (repeat apply Exists.intro); refine caO ?_)) | refine And.intro (by assumption) ?_ | refine goT ?_ | refine goF ?_ | refine goL ?_ | refine goR ?_ | refine goRL ?_ | refine goRR ?_)
      all_goals try (conv => whnf)
      refine Again.mk (k + 1 : Nat) (show k + 1 ≤ n by omega) trivial (show n - (k + 1) < n - k by omega) ?_
      ((repeat' ((conv => whnf) <;> first | exact trivial | (with_reducible first | refine And.intro ?_ ?_ | refine rows_lt1 ?_ | refine rows_lt2 ?_ ?_ | refine rows_lt3 ?_ ?_ ?_ | refine rows_lt4 ?_ ?_ ?_ ?_ | refine rows_lt5 ?_ ?_ ?_ ?_ ?_ | refine aggs_lt1 ?_ | refine aggs_lt2 ?_ ?_ | refine aggs_lt3 ?_ ?_ ?_ | refine fun (_ : Nat) => ?_) | refine fun (_ : (_ : Nat) < _) => ?_ | exact rfl | exact Nat.le_of_ble_eq_true rfl | (change (_ : Nat) ≤ _; omega) | (change (_ : Nat) = _; omega) | (change (_ : Int) = _; omega))); (all_goals try (conv => whnf)))
      rw [lw_at8 _ _ hl, clb_b _ _ _ _ _ h2]
  · obtain rfl : k = n := by omega
    repeat ((conv => whnf); first | refine sdO ?_ | refine nlO ?_ | refine goA ?_ | refine goB ?_ | (apply Exists.intro; (repeat apply Exists.intro); refine caO ?_) | (refine Or.inl ?_; (conv => whnf); (repeat apply Exists.intro); refine caO ?_) | (refine Or.inr ?_; (conv => whnf); first | ((repeat apply Exists.intro); refine caO ?_) | (refine Or.inl ?_; (conv => whnf); (repeat apply Exists.intro); refine caO ?_) | (refine Or.inr ?_; (conv => whnf); (repeat apply Exists.intro); refine caO ?_)) | refine And.intro (by assumption) ?_ | refine goT ?_ | refine goF ?_ | refine goL ?_ | refine goR ?_ | refine goRL ?_ | refine goRR ?_)
    all_goals try (conv => whnf)
    ((repeat' ((conv => whnf) <;> first | exact trivial | (with_reducible first | refine And.intro ?_ ?_ | refine rows_lt1 ?_ | refine rows_lt2 ?_ ?_ | refine rows_lt3 ?_ ?_ ?_ | refine rows_lt4 ?_ ?_ ?_ ?_ | refine rows_lt5 ?_ ?_ ?_ ?_ ?_ | refine aggs_lt1 ?_ | refine aggs_lt2 ?_ ?_ | refine aggs_lt3 ?_ ?_ ?_ | refine fun (_ : Nat) => ?_) | refine fun (_ : (_ : Nat) < _) => ?_ | exact rfl | exact Nat.le_of_ble_eq_true rfl | (change (_ : Nat) ≤ _; omega) | (change (_ : Nat) = _; omega) | (change (_ : Int) = _; omega))); (all_goals try (conv => whnf)))
end Go.Proofs.YtnfebaialdfffaaDoor
