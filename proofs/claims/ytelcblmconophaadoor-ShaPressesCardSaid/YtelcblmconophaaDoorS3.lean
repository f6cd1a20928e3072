import Derived.Test.YtelcblmconophaaDoorS2
namespace Go.Proofs.YtelcblmconophaaDoor
open Go.RowKit
def KK : List (BitVec 32) := [1116352408, 1899447441, 3049323471, 3921009573, 961987163, 1508970993, 2453635748, 2870763221, 3624381080, 310598401, 607225278, 1426881987, 1925078388, 2162078206, 2614888103, 3248222580, 3835390401, 4022224774, 264347078, 604807628, 770255983, 1249150122, 1555081692, 1996064986, 2554220882, 2821834349, 2952996808, 3210313671, 3336571891, 3584528711, 113926993, 338241895, 666307205, 773529912, 1294757372, 1396182291, 1695183700, 1986661051, 2177026350, 2456956037, 2730485921, 2820302411, 3259730800, 3345764771, 3516065817, 3600352804, 4094571909, 275423344, 430227734, 506948616, 659060556, 883997877, 958139571, 1322822218, 1537002063, 1747873779, 1955562222, 2024104815, 2227730452, 2361852424, 2428436474, 2756734187, 3204031479, 3329325298]
def H0 : List (BitVec 32) := [1779033703, 3144134277, 1013904242, 2773480762, 1359893119, 2600822924, 528734635, 1541459225]
/-- The two tables lie where the program lays them. -/
structure Tab (w : World) : Prop where
  size : 2 ≤ w.heap.size
  h0 : ∀ i, i < 8 → w.cell? ⟨0, i, none⟩ = some (.int .u32 (U32 (at32 H0 i)))
  kk : ∀ i, i < 64 → w.cell? ⟨1, i, none⟩ = some (.int .u32 (U32 (at32 KK i)))
theorem Tab.below {w w' : World} (h : Tab w) (hb : Below w.heap.size w w') : Tab w' :=
  ⟨Nat.le_trans h.size hb.size, fun i hi => (hb.cell (p := ⟨0, i, none⟩) (by have := h.size; show 0 < _; omega)).trans (h.h0 i hi),
    fun i hi => (hb.cell (p := ⟨1, i, none⟩) (by have := h.size; show 1 < _; omega)).trans (h.kk i hi)⟩
structure St where
  a : BitVec 32
  b : BitVec 32
  c : BitVec 32
  d : BitVec 32
  e : BitVec 32
  f : BitVec 32
  g : BitVec 32
  h : BitVec 32
def up (s : St) (k w : BitVec 32) : BitVec 32 := s.h + bS1 s.e + cho s.e s.f s.g + k + w
def dn (s : St) : BitVec 32 := bS0 s.a + maj s.a s.b s.c
def stp (s : St) (k w : BitVec 32) : St := ⟨up s k w + dn s, s.a, s.b, s.c, s.d + up s k w, s.e, s.f, s.g⟩
def st0 (h : List (BitVec 32)) : St := ⟨at32 h 0, at32 h 1, at32 h 2, at32 h 3, at32 h 4, at32 h 5, at32 h 6, at32 h 7⟩
def runR (h ws : List (BitVec 32)) : Nat → St
  | 0 => st0 h
  | k + 1 => stp (runR h ws k) (at32 KK k) (at32 ws k)
def fin8 (h : List (BitVec 32)) (s : St) : List (BitVec 32) :=
  [at32 h 0 + s.a, at32 h 1 + s.b, at32 h 2 + s.c, at32 h 3 + s.d, at32 h 4 + s.e, at32 h 5 + s.f, at32 h 6 + s.g, at32 h 7 + s.h]
def rnds (h ws : List (BitVec 32)) : List (BitVec 32) := fin8 h (runR h ws 64)
theorem rnds_len (h ws : List (BitVec 32)) : (rnds h ws).length = 8 := rfl
theorem rnds_size (h ws : List (BitVec 32)) : (e32 (rnds h ws)).size = 8 := by rw [e32_size, rnds_len]
theorem i30 : (Tryd.prog.info? 30).map (·.size) = some 1 := by kernel_rfl
set_option maxHeartbeats 1000000 in
theorem rounds_walk (h ws : List (BitVec 32)) (w : World) (hh : h.length = 8) (hw : ws.length = 64) (hT : Tab w) :
    Calls Tryd.prog 40 #[.agg (e32 h), .agg (e32 ws)] w fun e w' => e = .returned (.agg (e32 (rnds h ws))) ∧ Below w.heap.size w w' := by
  have HH := Lib.hid hh
  have HW := Lib.hid hw
  clear hh hw
  go_enter Tryd.func40, Tryd.ntmps40
  go_wp2_with fail
  generalize hW : World.alloc (World.alloc (World.alloc w _) _) _ = w1
  obtain ⟨b0, b1, b2, hb, hs⟩ := facts3 hW
  clear hW
  have HS := Lib.hid hs
  clear hs
  have c0 := (b0.cell 0).trans (e32_at h 0 (by rw [HH.out]; omega))
  have c1 := (b0.cell 1).trans (e32_at h 1 (by rw [HH.out]; omega))
  have c2 := (b0.cell 2).trans (e32_at h 2 (by rw [HH.out]; omega))
  have c3 := (b0.cell 3).trans (e32_at h 3 (by rw [HH.out]; omega))
  have c4 := (b0.cell 4).trans (e32_at h 4 (by rw [HH.out]; omega))
  have c5 := (b0.cell 5).trans (e32_at h 5 (by rw [HH.out]; omega))
  have c6 := (b0.cell 6).trans (e32_at h 6 (by rw [HH.out]; omega))
  have c7 := (b0.cell 7).trans (e32_at h 7 (by rw [HH.out]; omega))
  go_quiet (fail)
  clear c0 c1 c2 c3 c4 c5 c6 c7
  replace b0 := b0.drewN nq
  replace b1 := b1.drewN nq
  replace b2 := b2.drewN nq
  replace hb := below_drewN hb nq
  generalize w1.drewN nq = w1 at *
  have hwS : 0 + 64 ≤ (e32 ws).size := by rw [e32_size, HW.out]; omega
  go_wp2_with (refine wpL_load b1 rfl 68 (.tmp 3) rfl 0 64 rfl _ Tryd.underlying68 rfl i68 hwS ?_; rw [show (e32 ws).extract 0 (0 + 64) = e32 ws from by rw [show 0 + 64 = (e32 ws).size from by rw [e32_size, HW.out]]; simp])
  go_loopw [5, 6, 7, 8, 9, 10, 11, 12, 34] (fun va vb vc vd ve vf vg vh i wr => ∃ k : Nat, k ≤ 64 ∧ i = .int .i64 k ∧ va = .int .u32 (U32 (runR h ws k).a) ∧ vb = .int .u32 (U32 (runR h ws k).b) ∧ vc = .int .u32 (U32 (runR h ws k).c) ∧ vd = .int .u32 (U32 (runR h ws k).d) ∧ ve = .int .u32 (U32 (runR h ws k).e) ∧ vf = .int .u32 (U32 (runR h ws k).f) ∧ vg = .int .u32 (U32 (runR h ws k).g) ∧ vh = .int .u32 (U32 (runR h ws k).h) ∧ Blk wr w.heap.size 31 (e32 h) ∧ Blk wr (w.heap.size + 1 + 1) 31 (e32 (List.replicate 8 0)) ∧ Below w.heap.size w wr)
    (fun _ _ _ _ _ _ _ _ i _ => 64 - (intOf i).toNat)
  case atStart => exact ⟨0, by omega, rfl, rfl, rfl, rfl, rfl, rfl, rfl, rfl, rfl, b0, b2, hb⟩
  case round =>
    clear b0 b1 b2 hb hwS
    obtain ⟨k, hk, rfl, rfl, rfl, rfl, rfl, rfl, rfl, rfl, rfl, b0, b2, hb⟩ := hrel
    generalize hs : runR h ws k = s
    have HSt := Lib.hid hs
    clear hs
    by_cases hlt : k < 64
    · have hx : (e32 ws)[k]? = some (.int .u32 (U32 (at32 ws k))) := e32_at _ _ (by rw [HW.out]; omega)
      have ck := (hT.below hb).kk k hlt
      have hxi : (Instr.index 68 (.agg (e32 ws)) (.int .i64 (k : Int))).run Tryd.prog wr = .ok (.int .u32 (U32 (at32 ws k))) wr := run_index_agg wr 68 30 64 .u32 Tryd.underlying68 Tryd.underlying30 i30 _ _ _ _ hlt hx
      go_wp2_with fail
      clear hx hxi
      go_quiet ((first
        | (go_at_call 48; exact Calls.quiet_of_same ((bS1_walk _ _).mono fun e w' h => ⟨h.1, h.2.symm⟩))
        | (go_at_call 49; exact Calls.quiet_of_same ((cho_walk _ _ _ _).mono fun e w' h => ⟨h.1, h.2.symm⟩))))
      clear ck
      go_wp2_with (first
        | (go_at_call 50; refine (bS0_walk _ _).mono ?_; rintro e w' ⟨rfl, rfl⟩)
        | (go_at_call 51; refine (maj_walk _ _ _ _).mono ?_; rintro e w' ⟨rfl, rfl⟩))
      go_roundw
      case rel =>
        have e : runR h ws (k + 1) = stp s (at32 KK k) (at32 ws k) := by rw [runR, HSt.out]
        refine ⟨k + 1, by omega, by go_num, ?_⟩
        rw [e]
        exact ⟨rfl, rfl, rfl, rfl, rfl, rfl, rfl, rfl, b0.drewN _, b2.drewN _, below_drewN hb _⟩
      case measure => simp [intOf]; omega
    · have hk64 : k = 64 := by omega
      rw [hk64] at HSt
      clear hk64
      have c0 := (b0.cell 0).trans (e32_at h 0 (by rw [HH.out]; omega))
      have c1 := (b0.cell 1).trans (e32_at h 1 (by rw [HH.out]; omega))
      have c2 := (b0.cell 2).trans (e32_at h 2 (by rw [HH.out]; omega))
      have c3 := (b0.cell 3).trans (e32_at h 3 (by rw [HH.out]; omega))
      have c4 := (b0.cell 4).trans (e32_at h 4 (by rw [HH.out]; omega))
      have c5 := (b0.cell 5).trans (e32_at h 5 (by rw [HH.out]; omega))
      have c6 := (b0.cell 6).trans (e32_at h 6 (by rw [HH.out]; omega))
      have c7 := (b0.cell 7).trans (e32_at h 7 (by rw [HH.out]; omega))
      go_wp2_with (refine wpL_store b2 rfl 31 (.tmp 4) (.tmp 105) rfl 0 (e32 (fin8 h s)) rfl rfl i31 (by rw [e32_size]; simp [fin8]) (e32_one _) ?_; intro w2 h3 hs3 hg3)
      rw [spl_all _ _ (by rw [e32_size, e32_size]; simp [fin8])] at h3
      exact ret_row Tryd.results40 h3 rfl Tryd.underlying31 rfl i31 rfl ⟨by rw [rnds, HSt.out], hb.grown hg3 hb.size (by intro k hk; cases hk; omega)⟩
end Go.Proofs.YtelcblmconophaaDoor
