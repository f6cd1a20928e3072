/- ShaPresses: the compression of any block from any words is the standard's, and words and digests are one. For every eight words, every block, every digest. -/
import Derived.Test.YtelcblmconophaaDoorM2
import Derived.Test.YtelcblmconophaaDoorL1
namespace Go.Proofs.YtelcblmconophaaDoor.lPresses
open Go.ChangeShapes Go.WideShapes Go.ChangeAt Go.RowKit
theorem L1_at (d : Msg) (k : Nat) (h : k < 8) : at32 (L1 d 8) k = wat d k := by simp [at32, L1, h]
theorem wat64 (d : Msg) (k : Nat) (hk : 4 * k + 4 ≤ d.length) : (wat d k).setWidth 64 = val ((d.drop (4 * k)).take 4) := by
  have e : (d.drop (4 * k)).take 4 = [at8 d (4 * k), at8 d (4 * k + 1), at8 d (4 * k + 2), at8 d (4 * k + 3)] := by
    apply List.ext_getElem
    · simp; omega
    · intro i h1 h2
      have hi : i < 4 := by simpa using h2
      have h3 : 4 * k + i < d.length := by omega
      simp only [List.getElem_take, List.getElem_drop]
      match i, hi with
      | 0, _ => simp [at8, show 4 * k < d.length by omega]
      | 1, _ => simp [at8, show 4 * k + 1 < d.length by omega]
      | 2, _ => simp [at8, show 4 * k + 2 < d.length by omega]
      | 3, _ => simp [at8, show 4 * k + 3 < d.length by omega]
  rw [e, ← w4_val64]; rfl
def LRel (h : List (BitVec 32)) (bl d : Msg) (w : World) (g : Nat) (i : Value) (wr : World) : Prop := ∃ k : Nat, k ≤ 8 ∧ i = .int .i64 k ∧ Blk wr w.heap.size 31 (e32 h) ∧ Blk wr (w.heap.size + 1) 32 (e8 bl) ∧ Blk wr (w.heap.size + 1 + 1) 27 (e8 d) ∧ Blk wr g 31 (e32 (L1 d 8)) ∧ Below w.heap.size w wr ∧ w.heap.size + 1 + 1 < g ∧ g < wr.heap.size
set_option maxRecDepth 100000 in
set_option maxHeartbeats 2000000 in
theorem walk (h : List (BitVec 32)) (hh : h.length = 8) (bl : Msg) (hbl : bl.length = 64) (d : Msg) (hd : d.length = 32) (w : World) (hT : Tab w) :
    Calls Tryd.prog 5 #[.agg (e32 h), .agg (e8 bl), .agg (e8 d)] w fun e w' => e = .returned (.bool true) ∧ Below w.heap.size w w' := by
  have HH := Lib.hid hh
  have HL := Lib.hid hbl
  have HD := Lib.hid hd
  clear hh hbl hd
  go_enter Tryd.func5, Tryd.ntmps5
  go_wp2_with (first
    | (go_at_call 12
       generalize hW : World.alloc (World.alloc (World.alloc w _) _) _ = w1
       obtain ⟨b0, b1, b2, hb, hs⟩ := facts3 hW
       clear hW
       refine (awake1 _ (hT.below hb)).mono ?_; rintro e w2 ⟨rfl, hb2⟩
       replace b0 := b0.below hb2 (by omega)
       replace b1 := b1.below hb2 (by omega)
       replace b2 := b2.below hb2 (by omega)
       replace hb := hb.trans (hb2.mono hb.size)
       have hs2 : w.heap.size + 1 + 1 < w2.heap.size := by have := hb2.size; omega
       clear hb2 hs)
    | (refine wpL_load b2 rfl 27 (.tmp 5) rfl 0 32 rfl _ Tryd.underlying27 rfl i27 (by rw [e8_size, HD.out]; omega) ?_
       rw [show (e8 d).extract 0 (0 + 32) = e8 d from by rw [show 0 + 32 = (e8 d).size from by rw [e8_size, HD.out]]; simp])
    | (go_at_call 21
       refine (words_walk d _ HD.out).mono ?_; rintro e w3 ⟨rfl, hb3⟩
       replace b0 := b0.below hb3 (by omega)
       replace b1 := b1.below hb3 (by omega)
       replace b2 := b2.below hb3 (by omega)
       replace hb := hb.trans (hb3.mono hb.size)
       replace hs2 : w.heap.size + 1 + 1 < w3.heap.size := Nat.lt_of_lt_of_le hs2 hb3.size
       clear hb3)
    | (generalize hW : World.alloc w3 _ = w4
       obtain ⟨b4, hb4, hs4⟩ := facts1 hW
       clear hW
       rw [zeros31] at b4
       refine wpL_store b4 rfl 31 (.tmp 7) (.tmp 13) rfl 0 (e32 (L1 d 8)) rfl rfl (i31.trans (congrArg some (by rw [e32_size, L1_len]))) (by rw [e32_size, e32_size, L1_len, pad8_len _ (by simp)]; omega) (e32_one _) ?_
       intro w5 b5 hs5 hg5
       rw [spl_all _ _ (by rw [e32_size, e32_size, L1_len, pad8_len _ (by simp)])] at b5
       replace b0 := (b0.below hb4 (by omega)).grown hg5 (by simp; omega)
       replace b1 := (b1.below hb4 (by omega)).grown hg5 (by simp; omega)
       replace b2 := (b2.below hb4 (by omega)).grown hg5 (by simp; omega)
       replace hb := hb.trans ((hb4.grown hg5 hb4.size (by intro k hk; cases hk; omega)).mono hb.size)
       have hs3 : w3.heap.size < w5.heap.size := by omega
       clear b4 hb4 hs4 hs5 hg5)
    | (refine wpL_load b5 rfl 31 (.tmp 7) rfl 0 8 rfl _ Tryd.underlying31 rfl i31 (by rw [e32_size, L1_len]; omega) ?_
       rw [show (e32 (L1 d 8)).extract 0 (0 + 8) = e32 (L1 d 8) from by rw [show 0 + 8 = (e32 (L1 d 8)).size from by rw [e32_size, L1_len]]; simp]))
  generalize hg : w3.heap.size = g at *
  clear hg
  go_loopw [15] (fun i wr => LRel h bl d w g i wr) (fun i _ => 8 - (intOf i).toNat)
  case atStart => exact ⟨0, by omega, rfl, b0, b1, b2, b5, hb, hs2, hs3⟩
  case round =>
    clear b0 b1 b2 b5 hb hs3
    obtain ⟨k, hk, rfl, b0, b1, b2, b5, hb, _, hs3⟩ := hrel
    by_cases hlt : k < 8
    · have hxi : (Instr.index 31 (.agg (e32 (L1 d 8))) (.int .i64 (k : Int))).run Tryd.prog wr = .ok (.int .u32 (U32 (wat d k))) wr := by
        rw [← L1_at d k hlt]
        exact run_index_agg wr 31 30 8 .u32 Tryd.underlying31 Tryd.underlying30 i30 _ _ _ _ hlt (e32_at _ _ (by rw [L1_len]; omega))
      have i1 : (0 : Int) ≤ 4 * ↑k := by omega
      have i2 : (4 * ↑k : Int) ≤ 4 * ↑k + 4 := by omega
      have i3 : (4 * ↑k + 4 : Int) ≤ 32 := by omega
      have hrp := (RdB.ofBlk b2 (by omega)).part (4 * k) 4 _ 0 rfl (by rw [HD.out]; omega)
      rw [Nat.zero_add] at hrp
      have hlen : ((d.drop (4 * k)).take 4).length = 4 := by rw [List.length_take, List.length_drop, HD.out]; omega
      have hvw := value_walk ((d.drop (4 * k)).take 4) (some ⟨w.heap.size + 1 + 1, 4 * k, none⟩) (32 - 4 * k) wr (by rw [hlen]; omega) hrp
      rw [hlen, ← wat64 d k (by rw [HD.out]; omega)] at hvw
      have HVW := Lib.hid hvw
      clear hvw hrp hlen
      go_wp2_with fail
      rw [show 4 * k + 4 - 4 * k = 4 from by omega]
      refine HVW.out.mono ?_
      rintro e w' ⟨rfl, rfl⟩
      clear hxi
      go_wp2_with fail
      go_roundw
      case rel => exact ⟨k + 1, by omega, by go_num, b0, b1, b2, b5, hb, hs2, hs3⟩
      case measure => simp [intOf]; omega
    · go_wp2_with fail
      have h0 : w.heap.size < wr.heap.size := by omega
      have h1 : w.heap.size + 1 < wr.heap.size := by omega
      have h2 : w.heap.size + 1 + 1 < wr.heap.size := by omega
      have hTr := hT.below hb
      refine wp_region_plan (fun w' => Below wr.heap.size wr w') [(0,true),(1,true),(3,true),(4,true),(2,false),(5,false),(6,true),(7,true),(8,true),(10,true),(9,false),(11,true),(12,true),(13,true),(14,true),(17,true),(15,false),(16,false),(18,true),(19,true),(20,true)] (by kernel_rfl) (by kernel_rfl) (by decide) (by kernel_rfl) (fun d _ _ _ _ h => by cases d <;> exact h) (Below.refl _ _).drew (fun hS0 => ?_)
      have hpl : (press h bl).length = 8 := press_len h bl
      have HLD := Lib.hid (list32 d HD.out)
      have HWD := Lib.hid (words_dig h HH.out)
      have HEQ := Lib.hid (show decide (press h bl = press h bl) = true by simp)
      have HEQ2 := Lib.hid (show decide (dig (L1 d 8) = d) = true by simp [HLD.out])
      have HEQ3 := Lib.hid (show decide (L1 (dig h) 8 = h) = true by simp [HWD.out])
      repeat
        refine wpPlan_read (v := ?_) (by rfl) (by rfl) (fun w' hS' => ?_) ?_
        rotate_left 1
        · first
            | (refine yield_all (b0.below hS' h0) 31 (.tmp 3) ?_ ?_ _ Tryd.underlying31 rfl (i31.trans (congrArg some (by rw [e32_size, HH.out]))) <;> rfl)
            | (refine yield_all (b1.below hS' h1) 32 (.tmp 4) ?_ ?_ _ Tryd.underlying32 rfl (i32.trans (congrArg some (by rw [e8_size, HL.out]))) <;> rfl)
            | (refine yield_all (b2.below hS' h2) 27 (.tmp 5) ?_ ?_ _ Tryd.underlying27 rfl (i27.trans (congrArg some (by rw [e8_size, HD.out]))) <;> rfl)
            | (refine yield_all (b5.below hS' hs3) 31 (.tmp 7) ?_ ?_ _ Tryd.underlying31 rfl (i31.trans (congrArg some (by rw [e32_size, L1_len]))) <;> rfl)
            | (clear hS'; refine yield_eq31 (press h bl) (press h bl) hpl hpl 31 (.tmp 32) (.tmp 35) ?_ ?_ ?_ <;> rfl)
            | (clear hS'; refine yield_eq27 (dig (L1 d 8)) d (HLD.out.symm ▸ HD.out) HD.out 27 (.tmp 39) (.tmp 40) ?_ ?_ ?_ <;> rfl)
            | (clear hS'; refine yield_eq31 (L1 (dig h) 8) h (HWD.out.symm ▸ HH.out) HH.out 31 (.tmp 46) (.tmp 47) ?_ ?_ ?_ <;> rfl)
            | (clear hS'; go_simp; with_reducible rfl)
        simp only [Act.put, List.setIfInBounds_toArray, List.set_cons_zero, List.set_cons_succ]
      refine wpPlan_act (by rfl) (by rfl) (fun K hK => ?_)
      go_wp2_with fail
      refine (press_walk h bl _ HH.out HL.out (hTr.below hS0)).mono ?_
      rintro e w6 ⟨rfl, hb6⟩
      have hS6 := hS0.trans (hb6.mono hS0.size)
      refine hK _ _ ⟨hS6, ?_⟩
      clear hK K
      refine wpPlan_act (by rfl) (by rfl) (fun K hK => ?_)
      go_wp2_with fail
      refine (rpress_walk h bl _ 64 _ HH.out HL.out (Nat.le_refl _) (by decide) (RdB.ofBlk (b1.below hS6 h1) (Nat.lt_of_lt_of_le h1 hS6.size))).mono ?_
      rintro e w7 ⟨rfl, hb7⟩
      have hS7 := hS6.trans (hb7.mono hS6.size)
      refine hK _ _ ⟨hS7, ?_⟩
      clear hK K
      repeat
        refine wpPlan_read (v := ?_) (by rfl) (by rfl) (fun w' hS' => ?_) ?_
        rotate_left 1
        · first
            | (refine yield_all (b0.below hS' h0) 31 (.tmp 3) ?_ ?_ _ Tryd.underlying31 rfl (i31.trans (congrArg some (by rw [e32_size, HH.out]))) <;> rfl)
            | (refine yield_all (b1.below hS' h1) 32 (.tmp 4) ?_ ?_ _ Tryd.underlying32 rfl (i32.trans (congrArg some (by rw [e8_size, HL.out]))) <;> rfl)
            | (refine yield_all (b2.below hS' h2) 27 (.tmp 5) ?_ ?_ _ Tryd.underlying27 rfl (i27.trans (congrArg some (by rw [e8_size, HD.out]))) <;> rfl)
            | (refine yield_all (b5.below hS' hs3) 31 (.tmp 7) ?_ ?_ _ Tryd.underlying31 rfl (i31.trans (congrArg some (by rw [e32_size, L1_len]))) <;> rfl)
            | (clear hS'; refine yield_eq31 (press h bl) (press h bl) hpl hpl 31 (.tmp 32) (.tmp 35) ?_ ?_ ?_ <;> rfl)
            | (clear hS'; refine yield_eq27 (dig (L1 d 8)) d (HLD.out.symm ▸ HD.out) HD.out 27 (.tmp 39) (.tmp 40) ?_ ?_ ?_ <;> rfl)
            | (clear hS'; refine yield_eq31 (L1 (dig h) 8) h (HWD.out.symm ▸ HH.out) HH.out 31 (.tmp 46) (.tmp 47) ?_ ?_ ?_ <;> rfl)
            | (clear hS'; go_simp; with_reducible rfl)
        simp only [Act.put, List.setIfInBounds_toArray, List.set_cons_zero, List.set_cons_succ, HEQ.out]
      refine wpPlan_act (by rfl) (by rfl) (fun K hK => ?_)
      go_wp2_with fail
      refine (digest_walk (L1 d 8) _ (L1_len d 8)).mono ?_
      rintro e w8 ⟨rfl, hb8⟩
      have hS8 := hS7.trans (hb8.mono hS7.size)
      refine hK _ _ ⟨hS8, ?_⟩
      clear hK K
      repeat
        refine wpPlan_read (v := ?_) (by rfl) (by rfl) (fun w' hS' => ?_) ?_
        rotate_left 1
        · first
            | (refine yield_all (b0.below hS' h0) 31 (.tmp 3) ?_ ?_ _ Tryd.underlying31 rfl (i31.trans (congrArg some (by rw [e32_size, HH.out]))) <;> rfl)
            | (refine yield_all (b1.below hS' h1) 32 (.tmp 4) ?_ ?_ _ Tryd.underlying32 rfl (i32.trans (congrArg some (by rw [e8_size, HL.out]))) <;> rfl)
            | (refine yield_all (b2.below hS' h2) 27 (.tmp 5) ?_ ?_ _ Tryd.underlying27 rfl (i27.trans (congrArg some (by rw [e8_size, HD.out]))) <;> rfl)
            | (refine yield_all (b5.below hS' hs3) 31 (.tmp 7) ?_ ?_ _ Tryd.underlying31 rfl (i31.trans (congrArg some (by rw [e32_size, L1_len]))) <;> rfl)
            | (clear hS'; refine yield_eq31 (press h bl) (press h bl) hpl hpl 31 (.tmp 32) (.tmp 35) ?_ ?_ ?_ <;> rfl)
            | (clear hS'; refine yield_eq27 (dig (L1 d 8)) d (HLD.out.symm ▸ HD.out) HD.out 27 (.tmp 39) (.tmp 40) ?_ ?_ ?_ <;> rfl)
            | (clear hS'; refine yield_eq31 (L1 (dig h) 8) h (HWD.out.symm ▸ HH.out) HH.out 31 (.tmp 46) (.tmp 47) ?_ ?_ ?_ <;> rfl)
            | (clear hS'; go_simp; with_reducible rfl)
        simp only [Act.put, List.setIfInBounds_toArray, List.set_cons_zero, List.set_cons_succ, HEQ2.out]
      refine wpPlan_act (by rfl) (by rfl) (fun K hK => ?_)
      go_wp2_with fail
      refine (digest_walk h _ HH.out).mono ?_
      rintro e w9 ⟨rfl, hb9⟩
      have hS9 := hS8.trans (hb9.mono hS8.size)
      refine hK _ _ ⟨hS9, ?_⟩
      clear hK K
      refine wpPlan_act (by rfl) (by rfl) (fun K hK => ?_)
      go_wp2_with fail
      refine (words_walk (dig h) _ (by rw [dig_len, HH.out])).mono ?_
      rintro e w10 ⟨rfl, hb10⟩
      have hS10 := hS9.trans (hb10.mono hS9.size)
      refine hK _ _ ⟨hS10, ?_⟩
      clear hK K
      repeat
        refine wpPlan_read (v := ?_) (by rfl) (by rfl) (fun w' hS' => ?_) ?_
        rotate_left 1
        · first
            | (refine yield_all (b0.below hS' h0) 31 (.tmp 3) ?_ ?_ _ Tryd.underlying31 rfl (i31.trans (congrArg some (by rw [e32_size, HH.out]))) <;> rfl)
            | (refine yield_all (b1.below hS' h1) 32 (.tmp 4) ?_ ?_ _ Tryd.underlying32 rfl (i32.trans (congrArg some (by rw [e8_size, HL.out]))) <;> rfl)
            | (refine yield_all (b2.below hS' h2) 27 (.tmp 5) ?_ ?_ _ Tryd.underlying27 rfl (i27.trans (congrArg some (by rw [e8_size, HD.out]))) <;> rfl)
            | (refine yield_all (b5.below hS' hs3) 31 (.tmp 7) ?_ ?_ _ Tryd.underlying31 rfl (i31.trans (congrArg some (by rw [e32_size, L1_len]))) <;> rfl)
            | (clear hS'; refine yield_eq31 (press h bl) (press h bl) hpl hpl 31 (.tmp 32) (.tmp 35) ?_ ?_ ?_ <;> rfl)
            | (clear hS'; refine yield_eq27 (dig (L1 d 8)) d (HLD.out.symm ▸ HD.out) HD.out 27 (.tmp 39) (.tmp 40) ?_ ?_ ?_ <;> rfl)
            | (clear hS'; refine yield_eq31 (L1 (dig h) 8) h (HWD.out.symm ▸ HH.out) HH.out 31 (.tmp 46) (.tmp 47) ?_ ?_ ?_ <;> rfl)
            | (clear hS'; go_simp; with_reducible rfl)
        simp only [Act.put, List.setIfInBounds_toArray, List.set_cons_zero, List.set_cons_succ, HEQ3.out]
      refine wpPlan_nil ?_
      go_wp2_with fail
      go_ret
      exact ⟨rfl, hb.trans (hS10.mono hb.size)⟩
theorem contract (H : Type) (enc : TypeId × Value → H) (W : World) (base : Nat) (args : Array Value) (ds gs : List (DataW H)) (before : List MemPlace)
    (hval : ∀ (j : Nat) t v, Tryd.f5.params[j]? = some t → args[j]? = some v → Value.okWide Tryd.prog W .any base t v)
    (hW : DataW.Whole enc Tryd.prog Tryd.f5.params.toList Rows.shaPressesSpec.vars false W args.toList ds gs before) (hL : laidMetH Tryd.prog Rows.shaPressesRow.laid W) :
    Calls Tryd.prog 5 args W fun e W' => ∃ v, e = .returned v ∧ Rows.shaPressesSpec.post enc Tryd.prog Tryd.f5 false true false false W args v W' := by
  have hW' := hW
  obtain ⟨p, q, hA0, hV, rfl, hfz, hnd⟩ := hW
  have hA : DataW.TrodAll enc Tryd.prog W 0 (fun _ => true) true Tryd.f5.params.toList args.toList ds p := hA0
  rw [Tryd.params5] at hA hval
  obtain ⟨v0, vs0, d0, ds0, p0, q0, hargs, rfl, rfl, h0, r0⟩ := trodAll_cons hA
  obtain ⟨v1, vs1, d1, ds1, p1, q1, rfl, rfl, rfl, h1, r1⟩ := trodAll_cons r0
  obtain ⟨v2, vs2, d2, ds2, p2, q2, rfl, rfl, rfl, h2, r2⟩ := trodAll_cons r1
  obtain ⟨rfl, rfl, rfl⟩ := trodAll_nil r2
  obtain rfl : args = #[v0, v1, v2] := by cases args; simp_all
  obtain ⟨rfl, rfl⟩ := trodVars_none hV
  obtain ⟨xs0, rfl, l0⟩ := open_row32 Tryd.underlying31 Tryd.underlying30 (by kernel_rfl) (by kernel_rfl) (hval 0 31 v0 rfl rfl) h0
  obtain ⟨xs1, rfl, l1⟩ := open_row8 Tryd.underlying32 Tryd.underlying5 (by kernel_rfl) (by kernel_rfl) (hval 1 32 v1 rfl rfl) h1
  obtain ⟨xs2, rfl, l2⟩ := open_row8 Tryd.underlying27 Tryd.underlying5 (by kernel_rfl) (by kernel_rfl) (hval 2 27 v2 rfl rfl) h2
  refine (walk xs0 l0 xs1 l1 xs2 l2 W (tab_of hL)).mono fun e W' ⟨he, hb⟩ => ?_
  subst he
  exact ⟨_, rfl, law_post laidOut hW' rfl (by kernel_rfl) rfl rfl Tryd.underlying4 hb⟩
def wit : Array Value := #[.agg (Array.replicate 8 (.int .u32 0)), .agg (Array.replicate 64 (.int .u8 0)), .agg (Array.replicate 32 (.int .u8 0))]
theorem laid_met (os : Os) : laidMet Tryd.prog Rows.shaPressesRow.laid ((laidWorld os).forCall (fun _ _ => 0) ⟨#[], wit, []⟩).memory :=
  laidMet_of_run' 8 (by kernel_rfl) (by kernel_rfl)
theorem reads (os : Os) {H : Type} (enc : TypeId × Value → H) : ∃ places, DataW.whole enc Tryd.prog ((laidWorld os).forCall (fun _ _ => 0) ⟨#[], wit, []⟩).memory Tryd.f5.params.toList Rows.shaPressesSpec.vars false wit.toList 8 = some ([.agg (List.replicate 8 (.lit (.int .u32 0))), .agg (List.replicate 64 (.lit (.int .u8 0))), .agg (List.replicate 32 (.lit (.int .u8 0)))], [], places) :=
  ⟨[], by kernel_rfl⟩
set_option maxRecDepth 100000 in
theorem lifted (os : Os) (started : os.Started) (H : Type) (enc : TypeId × Value → H) (F : Stop.Interp) :
    ReturnsInHanded {} Tryd.checked os 5 .any ((OpenSpec.ofChange Rows.shaPressesSpec).preRow enc Tryd.prog Tryd.f5 Rows.shaPressesRow.domain false Rows.shaPressesRow.laid) (((OpenSpec.ofChange Rows.shaPressesSpec).at F).post enc Tryd.prog Tryd.f5 false true false false) := by
  obtain ⟨places, hx⟩ := reads os enc
  refine returnsInHanded_of_row (C := Tryd.checked) (s := OpenSpec.ofChange Rows.shaPressesSpec) own started (by kernel_rfl) Tryd.func5
    (witness_row_at (enc := enc) (C := Tryd.checked) false (laidWorld os) wit rfl (by kernel_rfl) (by kernel_rfl) (by kernel_rfl)
      (OpenSpec.preRow_of_cond 8 hx (by kernel_rfl) (fun k hk => by cases hk) (by kernel_rfl) (laid_met os))) ?_
  intro W base args ds gs before hval hW _ _ _ hL _ _
  exact contract H enc W base args ds gs before hval hW hL
theorem said : Rows.ShaPressesSaid :=
  OpenClaim.holds_of_cond 5 Tryd.f5 rfl rfl rfl rfl rfl rfl rfl ⟨rfl, rfl, rfl, rfl, rfl⟩ rfl rfl rfl rfl rfl (by kernel_rfl) Tryd.func5 (by kernel_rfl)
    (of_decide_eq_true (by kernel_rfl)) (by unfold Func.isWrapper; first | (rw [if_pos (by decide +kernel)]; kernel_rfl) | (rw [if_neg (by decide +kernel)]; exact ⟨rfl, rfl⟩))
    (fun os started H enc _ F => by rw [OpenClaim.pre_eq_preRow]; exact lifted os started H enc F)
theorem plain (f : FuncId) (fn : Func) (hf : Tryd.pinned.checked.prog.funcNamed "curtilage/curtilagelaw01.ShaPresses" = some f) (hfn : Tryd.pinned.checked.prog.funcs[f]? = some fn) :
    false = Tryd.pinned.checked.prog.looks [] ∧ ∀ (j : Nat) t, fn.params[j]? = some t → Tryd.pinned.checked.prog.wantsStandIn t = false := by
  obtain rfl : f = 5 := Option.some.inj ((show Tryd.prog.funcNamed "curtilage/curtilagelaw01.ShaPresses" = some 5 by kernel_rfl).symm.trans hf) |>.symm
  obtain rfl : fn = Tryd.f5 := (Option.some.inj (Tryd.func5.symm.trans hfn)).symm
  refine ⟨by kernel_rfl, fun j t ht => ?_⟩
  rw [Tryd.params5] at ht
  have hm : t ∈ [31, 32, 27] := by simpa using Array.mem_of_getElem? ht
  have hall : ([31, 32, 27].all fun u => !Tryd.prog.wantsStandIn u) = true := by kernel_rfl
  exact (show Tryd.prog.wantsStandIn t = false by simpa using List.all_eq_true.1 hall t hm)
theorem card : Rows.ShaPressesCardSaid :=
  Claim7.holds_tied_plain_at .later [] _ _ _ _ said (fun _ h => by cases h) (by kernel_rfl) (fun _ h => by cases h) shaPresses_row_tie rfl ⟨rfl, rfl⟩ (by kernel_rfl) rfl plain (by kernel_rfl)
end Go.Proofs.YtelcblmconophaaDoor.lPresses
