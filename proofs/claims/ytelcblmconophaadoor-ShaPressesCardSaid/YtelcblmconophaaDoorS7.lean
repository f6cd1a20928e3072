import Derived.Test.YtelcblmconophaaDoorS6
namespace Go.Proofs.YtelcblmconophaaDoor
open Go.RowKit
def dig (h : List (BitVec 32)) : Msg := h.flatMap fun x => be (x.setWidth 64) 4
def digP (h : List (BitVec 32)) (k : Nat) : Msg := dig (h.take k) ++ List.replicate (32 - 4 * k) 0
theorem dig_len (h : List (BitVec 32)) : (dig h).length = 4 * h.length := by
  induction h with
  | nil => rfl
  | cons x h ih =>
    have : dig (x :: h) = be (x.setWidth 64) 4 ++ dig h := by simp [dig]
    rw [this, List.length_append, be_len, ih, List.length_cons]; omega
theorem digP_len (h : List (BitVec 32)) (hh : h.length = 8) (k : Nat) (hk : k ≤ 8) : (digP h k).length = 32 := by
  rw [digP, List.length_append, dig_len, List.length_take, List.length_replicate]; omega
theorem spl_e8 (l x : Msg) (o : Nat) : spl (e8 l) o (e8 x) = e8 (l.take o ++ x ++ l.drop (o + x.length)) := by
  apply Array.ext'
  simp [spl, e8, List.map_take, List.map_drop]
theorem digP_put (h : List (BitVec 32)) (hh : h.length = 8) (k : Nat) (hk : k < 8) : spl (e8 (digP h k)) (4 * k) (e8 (be ((at32 h k).setWidth 64) 4)) = e8 (digP h (k + 1)) := by
  rw [spl_e8, be_len]
  have hl : (dig (h.take k)).length = 4 * k := by rw [dig_len, List.length_take]; omega
  congr 1
  rw [digP, List.take_append_of_le_length (by omega), List.take_of_length_le (by omega), List.drop_append, List.drop_of_length_le (by omega), List.nil_append, hl, List.drop_replicate, digP]
  have ht : h.take (k + 1) = h.take k ++ [at32 h k] := by
    rw [List.take_succ_eq_append_getElem (by omega)]
    simp [at32, hh, hk]
  have hd : dig (h.take k ++ [at32 h k]) = dig (h.take k) ++ be ((at32 h k).setWidth 64) 4 := by simp [dig]
  rw [ht, hd]
  congr 2; omega
theorem i27 : (Tryd.prog.info? 27).map (·.size) = some 32 := by kernel_rfl
theorem zeros27 : #[Value.int .u8 0, .int .u8 0, .int .u8 0, .int .u8 0, .int .u8 0, .int .u8 0, .int .u8 0, .int .u8 0, .int .u8 0, .int .u8 0, .int .u8 0, .int .u8 0, .int .u8 0, .int .u8 0, .int .u8 0, .int .u8 0, .int .u8 0, .int .u8 0, .int .u8 0, .int .u8 0, .int .u8 0, .int .u8 0, .int .u8 0, .int .u8 0, .int .u8 0, .int .u8 0, .int .u8 0, .int .u8 0, .int .u8 0, .int .u8 0, .int .u8 0, .int .u8 0] = e8 (List.replicate 32 0) := by rfl
def DRel (h : List (BitVec 32)) (w : World) (i : Value) (wr : World) : Prop := ∃ k : Nat, k ≤ 8 ∧ i = .int .i64 k ∧ Blk wr (w.heap.size + 1 + 1) 27 (e8 (digP h k)) ∧ Blk wr (w.heap.size + 1) 27 (e8 (List.replicate 32 0)) ∧ Below w.heap.size w wr ∧ w.heap.size + 1 + 1 < wr.heap.size
set_option maxHeartbeats 1000000 in
theorem digest_walk (h : List (BitVec 32)) (w : World) (hh : h.length = 8) :
    Calls Tryd.prog 25 #[.agg (e32 h)] w fun e w' => e = .returned (.agg (e8 (dig h))) ∧ Below w.heap.size w w' := by
  have HH := Lib.hid hh
  clear hh
  go_enter Tryd.func25, Tryd.ntmps25
  go_wp2_with (
    generalize hW : World.alloc (World.alloc (World.alloc w _) _) _ = w1
    obtain ⟨b0, b1, b2, hb, hs⟩ := facts3 hW
    clear hW
    refine wpL_load b0 rfl 31 (.tmp 1) rfl 0 8 rfl _ Tryd.underlying31 rfl i31 (by rw [e32_size, HH.out]; omega) ?_
    rw [show (e32 h).extract 0 (0 + 8) = e32 h from by rw [show 0 + 8 = (e32 h).size from by rw [e32_size, HH.out]]; simp])
  rw [zeros27] at b1 b2
  have hs1 : w.heap.size + 1 + 1 < w1.heap.size := by omega
  clear hs b0
  go_loopw [7] (fun i wr => DRel h w i wr) (fun i _ => 8 - (intOf i).toNat)
  case atStart => exact ⟨0, by omega, rfl, b2, b1, hb, hs1⟩
  case round =>
    clear b1 b2 hb hs1
    obtain ⟨k, hk, rfl, b2, b1, hb, hs⟩ := hrel
    by_cases hlt : k < 8
    · have hx : (e32 h)[k]? = some (.int .u32 (U32 (at32 h k))) := e32_at _ _ (by rw [HH.out]; omega)
      have hxi : (Instr.index 31 (.agg (e32 h)) (.int .i64 (k : Int))).run Tryd.prog wr = .ok (.int .u32 (U32 (at32 h k))) wr := run_index_agg wr 31 30 8 .u32 Tryd.underlying31 Tryd.underlying30 i30 _ _ _ _ hlt hx
      clear hx
      have i1 : (0 : Int) ≤ 4 * ↑k := by omega
      have i2 : (4 * ↑k : Int) ≤ 4 * ↑k + 4 := by omega
      have i3 : (4 * ↑k + 4 : Int) ≤ 32 := by omega
      go_wp2_with fail
      rw [show 4 * k + 4 - 4 * k = 4 from by omega]
      refine (put_walk _ _ _ _ _ _ _ _ b2 (by rw [e8_size, digP_len h HH.out k hk]; omega) (by omega)).mono ?_
      rintro e w3 ⟨rfl, b3, hs3, hg3⟩
      rw [digP_put h HH.out k hlt] at b3
      replace b1 := b1.grown hg3 (by simp)
      replace hb := hb.grown hg3 hb.size (by intro k hk; cases hk; omega)
      rw [← hs3] at hs
      clear hs3 hg3 b2 hxi
      go_wp2_with fail
      go_roundw
      case rel => exact ⟨k + 1, by omega, by go_num, b3, b1, hb, hs⟩
      case measure => simp [intOf]; omega
    · have hk8 : k = 8 := by omega
      have hd : digP h 8 = dig h := by rw [digP, List.take_of_length_le (by rw [HH.out]; omega)]; simp
      rw [hk8, hd] at b2
      have hl : (e8 (dig h)).size = 32 := by rw [e8_size, dig_len, HH.out]
      have HL := Lib.hid hl
      clear hk8 hd hl
      go_wp2_with (first
        | (refine wpL_load b2 rfl 27 (.tmp 3) rfl 0 32 rfl _ Tryd.underlying27 rfl i27 (by rw [HL.out]; omega) ?_
           rw [show (e8 (dig h)).extract 0 (0 + 32) = e8 (dig h) from by rw [show 0 + 32 = (e8 (dig h)).size from by rw [HL.out]]; simp])
        | (refine wpL_store b1 rfl 27 (.tmp 2) (.tmp 21) rfl 0 _ rfl rfl (i27.trans (congrArg some HL.out.symm)) (by rw [HL.out, e8_size]; simp) (e8_one _) ?_
           intro w4 b4 hs4 hg4
           rw [spl_all _ _ (by rw [HL.out, e8_size]; simp)] at b4
           replace hb := hb.grown hg4 hb.size (by intro k hk; cases hk; omega)
           clear hs4 hg4))
      exact ret_row Tryd.results25 b4 rfl Tryd.underlying27 rfl (i27.trans (congrArg some HL.out.symm)) rfl ⟨rfl, hb⟩
end Go.Proofs.YtelcblmconophaaDoor
