import Derived.Test.YtelcblmconophaaDoorS3
import Derived.WalkSmall
namespace Go.Proofs.YtelcblmconophaaDoor
open Go.RowKit
def press (h : List (BitVec 32)) (bl : List (BitVec 8)) : List (BitVec 32) := rnds h (sched bl)
set_option maxHeartbeats 1000000 in
theorem press_walk (h : List (BitVec 32)) (bl : List (BitVec 8)) (w : World) (hh : h.length = 8) (hl : bl.length = 64) (hT : Tab w) :
    Calls Tryd.prog 23 #[.agg (e32 h), .agg (e8 bl)] w fun e w' => e = .returned (.agg (e32 (press h bl))) ∧ Below w.heap.size w w' := by
  have HH := Lib.hid hh
  have HL := Lib.hid hl
  clear hh hl
  go_enter Tryd.func23, Tryd.ntmps23
  go_wp2_with fail
  generalize hW : World.alloc (World.alloc (World.alloc w _) _) _ = w1
  obtain ⟨b0, b1, b2, hb, hs⟩ := facts3 hW
  clear hW
  have h2 : w.heap.size + 1 + 1 < w1.heap.size := by omega
  clear hs
  have r1 := b1.range
  have hT1 := hT.below hb
  have u32 := Tryd.underlying32
  have i32' : (Tryd.prog.info? 32).map (·.size) = some (e8 bl).toList.length := by rw [Array.length_toList, e8_size, HL.out]; exact i32
  have c0 := (b0.cell 0).trans (e32_at h 0 (by rw [HH.out]; omega))
  have c1 := (b0.cell 1).trans (e32_at h 1 (by rw [HH.out]; omega))
  have c2 := (b0.cell 2).trans (e32_at h 2 (by rw [HH.out]; omega))
  have c3 := (b0.cell 3).trans (e32_at h 3 (by rw [HH.out]; omega))
  have c4 := (b0.cell 4).trans (e32_at h 4 (by rw [HH.out]; omega))
  have c5 := (b0.cell 5).trans (e32_at h 5 (by rw [HH.out]; omega))
  have c6 := (b0.cell 6).trans (e32_at h 6 (by rw [HH.out]; omega))
  have c7 := (b0.cell 7).trans (e32_at h 7 (by rw [HH.out]; omega))
  have bN := b2.toN rfl
  clear b0 b1 b2
  generalize hA1 : (e8 bl).toList = A1 at r1 i32'
  have hA1 : A1.toArray = e8 bl := by rw [← hA1]
  have HA1 := Lib.hid hA1
  clear hA1
  go_region_held3 (fun w' => w'.cell? ⟨w.heap.size, 0, none⟩ = some (.int .u32 (U32 (at32 h 0))) ∧ w'.cell? ⟨w.heap.size, 1, none⟩ = some (.int .u32 (U32 (at32 h 1))) ∧ w'.cell? ⟨w.heap.size, 2, none⟩ = some (.int .u32 (U32 (at32 h 2))) ∧ w'.cell? ⟨w.heap.size, 3, none⟩ = some (.int .u32 (U32 (at32 h 3))) ∧ w'.cell? ⟨w.heap.size, 4, none⟩ = some (.int .u32 (U32 (at32 h 4))) ∧ w'.cell? ⟨w.heap.size, 5, none⟩ = some (.int .u32 (U32 (at32 h 5))) ∧ w'.cell? ⟨w.heap.size, 6, none⟩ = some (.int .u32 (U32 (at32 h 6))) ∧ w'.cell? ⟨w.heap.size, 7, none⟩ = some (.int .u32 (U32 (at32 h 7)))
      ∧ w'.rangeAt (w.heap.size + 1) 0 A1 ∧ BlkN w' (w.heap.size + 1 + 1) 31 8 ∧ w.heap.size + 1 + 1 < w'.heap.size ∧ Below w.heap.size w w')
    ((go_split_ands
      simp only [World.rangeAt_drew, World.cell?_drew, World.size_drew, blkN_drew, below_drew_l, below_drew_r] at *
      (repeat' refine And.intro ?_ ?_) <;> first
        | assumption
        | (refine cell_setRow ?_ _ ?_ <;> first | assumption | omega)
        | (refine range_setRow ?_ _ ?_ <;> first | assumption | omega)
        | (refine BlkN.setRow_same ?_ _ (rnds_size _ _); assumption)
        | (rw [setRow_size]; assumption)
        | (refine below_setRow ?_ ?_ _ <;> first | assumption | omega)
        | (refine cell_below ?_ hb3 ?_ <;> first | assumption | omega)
        | (refine range_below ?_ hb3 ?_ <;> first | assumption | omega)
        | (refine BlkN.below ?_ hb3 ?_ <;> first | assumption | omega)
        | (refine Nat.lt_of_lt_of_le ?_ hb3.size <;> assumption)
        | (refine Below.trans ?_ (hb3.mono ?_) <;> first | assumption | omega)
        | (refine cell_below ?_ hb2 ?_ <;> first | assumption | omega)
        | (refine range_below ?_ hb2 ?_ <;> first | assumption | omega)
        | (refine BlkN.below ?_ hb2 ?_ <;> first | assumption | omega)
        | (refine Nat.lt_of_lt_of_le ?_ hb2.size <;> assumption)
        | (refine Below.trans ?_ (hb2.mono ?_) <;> first | assumption | omega)))
    (first
      | (go_at_call 41; rw [HA1.out]; refine (sched_walk _ _ HL.out).mono ?_; rintro e w2 ⟨rfl, hb2⟩)
      | (go_at_call 40; rw [e32_eta8 h HH.out]; refine (rounds_walk _ _ _ HH.out (sched_len _) (hT.below (by go_split_ands; assumption))).mono ?_; rintro e w3 ⟨rfl, hb3⟩)
      | (rw [run_storeB_all (t := 31) (by rw [rnds_size]; go_split_ands; assumption) (e32_one _)]))
  go_split_ands
  rename_i hN _ hbw
  have hfin := hN.setRow_blk (e32 (rnds h (sched bl)))
  rw [setRow_setRow] at hfin
  generalize w3.setRow _ _ = w4 at *
  clear hb2 hb3
  go_wp2_with fail
  exact ret_row Tryd.results23 hfin rfl Tryd.underlying31 rfl (i31.trans (congrArg some (rnds_size _ _).symm)) rfl ⟨rfl, hbw⟩
end Go.Proofs.YtelcblmconophaaDoor
