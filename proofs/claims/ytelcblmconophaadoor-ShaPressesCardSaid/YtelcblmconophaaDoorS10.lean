import Derived.Test.YtelcblmconophaaDoorS9
import Derived.Test.YtelcblmconophaaDoorB3
namespace Go.Proofs.YtelcblmconophaaDoor
open Go.RowKit
theorem RdB.ofBlk {w : World} {g : Nat} {t : TypeId} {xs : Msg} (h : Blk w g t (e8 xs)) (hlt : g < w.heap.size) : RdB w (some ⟨g, 0, none⟩) xs := fun _ =>
  ⟨g, 0, rfl, hlt, fun j hj => by rw [Nat.zero_add, h.cell j, e8_at xs j hj]⟩
theorem grown_drew (w : World) {r : Option Nat} : w.grownBy w.drew r := ⟨rfl, rfl, rfl, Nat.le_refl _, fun _ _ _ => rfl⟩
theorem grown_below {w w' : World} (r : Option Nat) (h : Below w.heap.size w w') : w.grownBy w' r := ⟨h.os, h.tape, h.output, h.size, fun k hk _ => h.block k hk⟩
/-- The standard's sum of a message. -/
def sha256 (m : Msg) : Msg := dig (hsh (m ++ padL (BitVec.ofNat 64 m.length)))
theorem sha256_len (m : Msg) : (sha256 m).length = 32 := by rw [sha256, dig_len, hsh_len]
set_option maxHeartbeats 2000000 in
theorem msum_walk (m : Msg) (w : World) (hT : Tab w) :
    Calls Tryd.prog 18 #[.agg (est m)] w fun e w' => e = .returned (.agg (e8 (sha256 m))) ∧ Below w.heap.size w w' := by
  go_enter Tryd.func18, Tryd.ntmps18
  go_wp2_with fail
  rw [zeros27]
  generalize hW : World.alloc (World.alloc w _) _ = w1
  obtain ⟨b0, b1, hb, hs⟩ := facts2 hW
  clear hW
  have hs1 : w.heap.size + 1 < w1.heap.size := by omega
  clear hs
  have bN : BlkN w1 (w.heap.size + 1) 27 32 := b1.toN (by simp)
  have hT1 := hT.below hb
  have hf : (est m)[72]? = some (.int .u64 (U64 (BitVec.ofNat 64 m.length))) := stc_fed _ _ _ (hsh_len m) (rst_len m)
  clear b1
  refine wp_region_plan (fun w' => w1.grownBy w' (some (w.heap.size + 1)) ∧ BlkN w' (w.heap.size + 1) 27 32) [(0, true), (1, true), (2, true), (3, false), (4, false), (5, true), (6, false), (7, false)] (by kernel_rfl) (by kernel_rfl) (by decide) (by kernel_rfl) (fun d _ _ _ _ h => by cases d <;> exact h) ⟨grown_drew w1, bN⟩ (fun _ => ?_)
  repeat
    refine wpPlan_read (v := ?_) (by rfl) (by rfl) (fun w' hS' => ?_) ?_
    rotate_left 1
    · first
        | (refine yield_all (b0.grown hS'.1 (by simp)) 35 (.tmp 1) ?_ ?_ _ Tryd.underlying35 rfl (i35.trans (congrArg some (est_size _).symm))
           · rfl
           · rfl)
        | (have c0 := ((b0.grown hS'.1 (by simp)).cell 72).trans hf
           clear hS'
           go_simp; with_reducible rfl)
    simp only [Act.put, List.setIfInBounds_toArray, List.set_cons_zero, List.set_cons_succ]
  -- Pad
  refine wpPlan_act (by rfl) (by rfl) (fun K hK => ?_)
  go_wp2_with fail
  refine (pad_walk _ _).mono ?_
  rintro e w3 ⟨rfl, b3, hb3, hs3⟩
  simp only [World.size_drew] at b3 hs3
  have hg3 := grown_below (some (w.heap.size + 1)) hb3
  have bN3 := bN.below (w' := w3) (below_drew_l.1 hb3) hs1
  replace hs1 : w.heap.size + 1 < w3.heap.size := by rw [hs3]; exact Nat.lt_succ_of_lt hs1
  have HB3 : Below w1.heap.size w1 w3 := below_drew_l.1 hb3
  clear hb3 bN
  refine hK _ _ ⟨⟨grown_trans (grown_drew w1) hg3, bN3⟩, ?_⟩
  clear hK K
  -- Feed
  refine wpPlan_act (by rfl) (by rfl) (fun K hK => ?_)
  go_wp2_with fail
  rw [← padL_len]
  refine (feed_walk m _ _ _ _ (hT1.below (w' := w3) HB3) (by rw [padL_len]; unfold padZs; omega) (Nat.le_refl _) (RdB.ofBlk b3 (by omega))).mono ?_
  rintro e w4 ⟨rfl, hb4⟩
  have bN4 := bN3.below hb4 hs1
  replace hs1 := Nat.lt_of_lt_of_le hs1 hb4.size
  have hg4 := grown_trans (grown_trans (grown_drew w1) hg3) (grown_below (some (w.heap.size + 1)) hb4)
  clear hb4 b3 hg3 bN3
  refine hK _ _ ⟨⟨hg4, bN4⟩, ?_⟩
  clear hK K
  -- .hash
  have hfd : ∀ w' : World, (Instr.field 35 (.agg (est (m ++ padL (BitVec.ofNat 64 m.length)))) 0).run Tryd.prog w' = .ok (.agg (e32 (hsh (m ++ padL (BitVec.ofNat 64 m.length))))) w' := fun w' => by
    rw [run_field_agg 35 _ Tryd.underlying35 0 _ rfl 8 30 Tryd.underlying31 8 i31]
    exact congrArg (fun x => Result.ok (Value.agg x) w') (stc_hash _ _ _ (hsh_len _))
  refine wpPlan_read (v := ?_) (by rfl) (by rfl) (fun w' hS' => ?_) ?_
  rotate_left 1
  · clear hS'
    go_simp; with_reducible rfl
  -- Digest
  refine wpPlan_act (by rfl) (by rfl) (fun K hK => ?_)
  go_wp2_with fail
  refine (digest_walk _ _ (hsh_len _)).mono ?_
  rintro e w5 ⟨rfl, hb5⟩
  have bN5 := bN4.below hb5 hs1
  have hg5 := grown_trans hg4 (grown_below (some (w.heap.size + 1)) hb5)
  replace hs1 := Nat.lt_of_lt_of_le hs1 hb5.size
  clear hb5 hg4 bN4
  refine hK _ _ ⟨⟨hg5, bN5⟩, ?_⟩
  clear hK K
  -- the result
  refine wpPlan_act (by rfl) (by rfl) (fun K hK => ?_)
  obtain ⟨cs5, hn5, hB5⟩ := bN5
  have hz : (e8 (sha256 m)).size = 32 := by rw [e8_size, sha256_len]
  change Oper.wp _ _ _ _ _ _ at ⊢
  refine wp_storeB hB5 27 (.tmp 2) (.tmp 9) (by rfl) 0 (e8 (sha256 m)) (by rfl) (by rfl) (i27.trans (congrArg some hz.symm)) (by rw [hz, hn5]; omega) (e8_one _) ?_
  intro w6 b6 hs6 hg6
  rw [spl_all _ _ (by rw [hz, hn5])] at b6
  have hg := grown_trans hg5 hg6
  clear hg5 hg6 hB5
  refine hK _ _ ⟨⟨hg, b6.toN hz⟩, wpPlan_nil ?_⟩
  clear hK K hfd
  go_wp2_with fail
  exact ret_row Tryd.results18 b6 rfl Tryd.underlying27 rfl (i27.trans (congrArg some hz.symm)) rfl ⟨rfl, hb.grown hg hb.size (by intro k hk; cases hk; omega)⟩
end Go.Proofs.YtelcblmconophaaDoor
