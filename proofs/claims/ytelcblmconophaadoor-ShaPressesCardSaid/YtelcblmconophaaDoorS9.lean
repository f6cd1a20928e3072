import Derived.Test.YtelcblmconophaaDoorS8
namespace Go.Proofs.YtelcblmconophaaDoor
open Go.RowKit
@[go_sem high] theorem wsub64k (n : Nat) (y : BitVec 64) : IntKind.u64.wrap ((no_index (OfNat.ofNat n)) - U64 y) = U64 (BitVec.ofNat 64 n - y) := by
  unfold U64
  show IntKind.u64.wrap ((n : Int) - _) = _
  rw [IntKind.wrap_u64, BitVec.toNat_sub, BitVec.toNat_ofNat]
  omega
def padZs (n : BitVec 64) : Nat := (55#64 - n).toNat % 64
def padL (n : BitVec 64) : Msg := 128 :: (List.replicate (padZs n) 0 ++ be (8#64 * n) 8)
theorem padL_len (n : BitVec 64) : (padL n).length = padZs n + 9 := by simp [padL, be_len]
theorem info5 : (Tryd.prog.info? 5).map (fun i => (i.zero, i.size, i.bytes)) = some (some (.int .u8 0), 1, 1) := by kernel_rfl
theorem made8 (n : Nat) : madeCells #[Value.int .u8 0] n = e8 (List.replicate n 0) := by
  apply Array.ext_getElem?
  intro j
  by_cases h : j < n
  · rw [e8_at _ _ (by simpa using h)]
    simp [madeCells, h, at8, U8, Nat.mod_one]
  · rw [Array.getElem?_eq_none (by simp [madeCells]; omega), Array.getElem?_eq_none (by simp; omega)]
theorem padL_put (n : BitVec 64) (z : Nat) (hz : padZs n = z) : spl (e8 ((List.replicate (z + 9) 0#8).set 0 128)) (1 + z) (e8 (be (8#64 * n) 8)) = e8 (padL n) := by
  rw [spl_e8, be_len, padL, hz]
  congr 1
  rw [show z + 9 = (z + 8) + 1 by omega, List.replicate_succ, List.set_cons_zero]
  rw [show 1 + z = z + 1 by omega, List.take_succ_cons, List.take_replicate, show min z (z + 8) = z by omega, show z + 1 + 8 = (z + 8) + 1 by omega, List.drop_succ_cons, List.drop_replicate, Nat.sub_self]
  simp
set_option maxHeartbeats 1000000 in
theorem pad_walk (n : BitVec 64) (w : World) :
    Calls Tryd.prog 26 #[.int .u64 (U64 n)] w fun e w' => e = .returned (.slice (some ⟨w.heap.size, 0, none⟩) (padZs n + 9) (padZs n + 9)) ∧ Blk w' w.heap.size 5 (e8 (padL n)) ∧ Below w.heap.size w w' ∧ w'.heap.size = w.heap.size + 1 := by
  obtain ⟨i0, hi0, hz0, hz1, hz2⟩ := info_parts info5
  have hm : (U64 (55#64 - n)).tmod 64 = ((padZs n : Nat) : Int) := by
    unfold padZs U64
    rw [Int.tmod_eq_emod_of_nonneg (by omega)]; omega
  generalize hz : padZs n = z at *
  have hz64 : z < 64 := by rw [← hz]; unfold padZs; omega
  have HZ := Lib.hid hz
  clear hz
  have hmk : ∀ w : World, (Instr.makeSlice 22 (.int .u64 (1 + (z : Int) + 8)) (.int .u64 (1 + (z : Int) + 8))).run Tryd.prog w = .ok (.slice (some ⟨w.heap.size, 0, none⟩) (z + 9) (z + 9)) (w.alloc (.cells (e8 (List.replicate (z + 9) 0)) 5)) := fun w => by
    have := run_makeSlice (P := Tryd.prog) w 22 5 i0 _ Tryd.underlying22 hi0 hz0 .u64 .u64 (1 + (z : Int) + 8) (1 + (z : Int) + 8) (by omega) (by omega) (by rw [hz1]; omega) (by rw [hz2]; omega) (by omega)
    rw [hz1, show (1 + (z : Int) + 8).toNat = z + 9 by omega, Nat.mul_one] at this
    rw [this, ← made8]; rfl
  have i1 : (0 : Int) ≤ 1 + ↑z := by omega
  have i2 : (1 + ↑z : Int) ≤ ↑z + 9 := by omega
  go_enter Tryd.func26, Tryd.ntmps26
  go_wp2_with fail
  rw [show z + 9 - (1 + z) = 8 from by omega, show (Value.int .u8 128) = .int .u8 (U8 128) from rfl, e8_set]
  generalize hW : World.alloc w _ = w1
  obtain ⟨b0, hb, hs⟩ := facts1 hW
  clear hW
  refine (put_walk _ _ _ _ _ _ _ _ b0 (by rw [e8_size, List.length_set, List.length_replicate]; omega) (by omega)).mono ?_
  rintro e w3 ⟨rfl, b3, hs3, hg3⟩
  rw [padL_put n z HZ.out] at b3
  replace hb := hb.grown hg3 hb.size (by intro k hk; cases hk; omega)
  have hs4 := hs3.trans hs
  clear hs3 hg3 b0 hs
  have HS := Lib.hid hs4
  clear hs4
  go_wp2_with fail
  go_ret
  exact ⟨rfl, b3, hb, HS.out⟩
end Go.Proofs.YtelcblmconophaaDoor
