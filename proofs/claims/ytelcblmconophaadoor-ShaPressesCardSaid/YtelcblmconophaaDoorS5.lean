import Derived.Test.YtelcblmconophaaDoorB2
namespace Go.Proofs.YtelcblmconophaaDoor
open Go.RowKit
def Zst : Array Value := stc (List.replicate 8 0) (List.replicate 64 0) 0
theorem z35 : (Tryd.prog.info? 35).map (·.zero) = some (some (.agg Zst)) := by kernel_rfl
theorem i5 : (Tryd.prog.info? 5).map (·.size) = some 1 := by kernel_rfl
theorem i35 : (Tryd.prog.info? 35).map (·.size) = some 73 := by kernel_rfl
theorem Zst_size : Zst.size = 73 := stc_size _ _ _ (by simp) (by simp)
theorem est_size (m : Msg) : (est m).size = 73 := stc_size _ _ _ (hsh_len m) (rst_len m)
theorem stc_one (h : List (BitVec 32)) (r : Msg) (F : BitVec 64) : (stc h r F).all (·.oneCell') = true := by
  simp [stc, e32, e8, v32, v8, v64, Value.oneCell']
def FRel (m xs : Msg) (w : World) (p i : Value) (wr : World) : Prop := ∃ (M R : Msg) (A' : Option Addr) (c' : Nat), M ++ R = m ++ xs ∧ R.length ≤ 1000000 ∧ R.length ≤ c' ∧ p = .slice A' R.length c' ∧ i = .int .i64 ((M.length % 64 : Nat) : Int) ∧ RdB w A' R ∧
      Blk wr w.heap.size 35 (stc (hsh M) (rst M) (BitVec.ofNat 64 (m.length + xs.length))) ∧ Blk wr (w.heap.size + 1) 35 Zst ∧ Below w.heap.size w wr ∧ w.heap.size + 1 < wr.heap.size
def slen (p : Value) : Nat := match p with | .slice _ n _ => n | _ => 0
theorem slen_slice (A : Option Addr) (n c : Nat) : slen (.slice A n c) = n := rfl
theorem frel_step {m xs M R : Msg} {A' : Option Addr} {c' q : Nat} {w w6 : World} (hM : M ++ R = m ++ xs) (hx : R.length ≤ 1000000) (hq : M.length % 64 = q) (hlt : ¬ q + R.length < 64)
    (hA : RdB w A' (R.drop (64 - q))) (hc : R.length - (64 - q) ≤ c')
    (b6 : Blk w6 w.heap.size 35 (stc (press (hsh M) (tl M ++ R.take (64 - q))) (zpad []) (BitVec.ofNat 64 (m.length + xs.length)))) (b1 : Blk w6 (w.heap.size + 1) 35 Zst) (hb : Below w.heap.size w w6) (hs : w.heap.size + 1 < w6.heap.size) :
    FRel m xs w (.slice A' (R.length - (64 - q)) c') (.int .i64 0) w6 := by
  have htk : (R.take (64 - q)).length = 64 - M.length % 64 := by rw [List.length_take]; omega
  refine ⟨M ++ R.take (64 - q), R.drop (64 - q), A', c', ?_, ?_, ?_, ?_, ?_, hA, ?_, b1, hb, hs⟩
  · rw [List.append_assoc, List.take_append_drop, hM]
  · rw [List.length_drop]; omega
  · rw [List.length_drop]; exact hc
  · rw [List.length_drop]
  · have : (M ++ R.take (64 - q)).length % 64 = 0 := by rw [List.length_append, htk]; omega
    rw [this]; rfl
  · rw [hsh_full _ _ htk, rst_full _ _ htk]; exact b6
set_option maxHeartbeats 1000000 in
theorem feed_walk (m xs : Msg) (A : Option Addr) (c : Nat) (w : World) (hT : Tab w) (hx : xs.length ≤ 1000000) (hc : xs.length ≤ c) (hR : RdB w A xs) :
    Calls Tryd.prog 17 #[.agg (est m), .slice A xs.length c] w fun e w' => e = .returned (.agg (est (m ++ xs))) ∧ Below w.heap.size w w' := by
  have hh := hsh_len m
  have hr := rst_len m
  have HH := Lib.hid hh
  have HR := Lib.hid hr
  have hml : m.length % 64 < 64 := by omega
  clear hh hr
  unfold est
  go_enter Tryd.func17, Tryd.ntmps17
  go_wp2_with (
    refine wpL_alloc rfl 35 rfl Zst z35 ?_
    generalize hW : World.alloc (World.alloc w _) _ = w1
    obtain ⟨b0, b1, hb, hs⟩ := facts2 hW
    clear hW
    have c0 := (b0.cell 72).trans (stc_fed _ _ _ HH.out HR.out)
    have f0 := b0.frozen 72)
  have b0' := b0.set_ 72 (.int .u64 (U64 (BitVec.ofNat 64 m.length + BitVec.ofNat 64 xs.length)))
  rw [stc_setFed _ _ _ _ HH.out HR.out, ← BitVec.ofNat_add] at b0'
  have b1' := b1.far (p := ⟨w.heap.size, 72, none⟩) (by simp) (.int .u64 (U64 (BitVec.ofNat 64 (m.length + xs.length))))
  have hb' := hb.setCell (p := ⟨w.heap.size, 72, none⟩) (by simp) (.int .u64 (U64 (BitVec.ofNat 64 (m.length + xs.length))))
  rw [u64_mod64, wrap64_nat _ (by omega), ← BitVec.ofNat_add]
  clear c0 f0 b0 b1 hb
  have hs2 : (w1.setCell ⟨w.heap.size, 72, none⟩ (.int .u64 (U64 (BitVec.ofNat 64 (m.length + xs.length))))).heap.size = w.heap.size + 1 + 1 := by rw [World.size_setCell]; exact hs
  generalize w1.setCell _ _ = w2 at b0' b1' hb' hs2 ⊢
  have hs3 : w.heap.size + 1 < w2.heap.size := by omega
  clear hs hs2
  go_loopw [1, 5] (fun p i wr => FRel m xs w p i wr)
    (fun p _ _ => slen p)
  case atStart => exact ⟨m, xs, A, c, rfl, hx, hc, rfl, rfl, hR, b0', b1', hb', hs3⟩
  case round =>
    clear b0' b1' hb' hs3 hR hx hc HH HR hml
    obtain ⟨M, R, A', c', hM, hx, hc, rfl, rfl, hR, b0, b1, hb, hs⟩ := hrel
    have HM := Lib.hid hM
    clear hM
    have hm64 : M.length % 64 < 64 := by omega
    have HH := Lib.hid (hsh_len M)
    have HR := Lib.hid (rst_len M)
    by_cases hlt : M.length % 64 + R.length < 64
    · have e0 := rst_part M R hlt
      generalize hq : M.length % 64 = q at *
      have Hq := Lib.hid hq
      clear hq
      have E0 := Lib.hid e0
      clear e0
      have i1 : (0 : Int) ≤ (q : Int) := by omega
      have i2 : (q : Int) ≤ 64 := by omega
      have hl2 : (rst (M ++ R)).length = 64 := rst_len _
      have HL2 := Lib.hid hl2
      clear hl2
      go_wp2_with (first
        | (refine wpL_copy b0 rfl (.tmp 41) (.tmp 42) 22 22 rfl 5 Tryd.underlying22 i5 (some ⟨w.heap.size, 8 + q, none⟩) A' (64 - q) (64 - q) R.length c' rfl rfl (8 + q) (R.map v8)
            (by rw [List.length_map]; exact (Nat.min_eq_left (by omega)).symm) (fun hk => ⟨rfl, by have := (hR.below hb).src R.length (by simpa using hk); rwa [List.take_length] at this⟩)
            (by rw [stc_size _ _ _ HH.out HR.out, List.length_map]; omega) (one_v8 _) ?_
           intro w3 b3 hs3 hg3
           rw [show (R.map v8).toArray = e8 R from rfl, stc_putPart _ _ _ _ HH.out HR.out q (by omega), E0.out] at b3
           replace b1 := b1.grown hg3 (by simp)
           replace hb := hb.grown hg3 hb.size (by intro k hk; cases hk; exact Nat.le_refl _)
           rw [← hs3] at hs
           clear hs3 hg3 b0)
        | (refine wpL_load b3 rfl 35 (.tmp 2) rfl 0 73 rfl _ Tryd.underlying35 rfl i35 (by rw [stc_size _ _ _ HH.out HL2.out]; omega) ?_
           rw [show (stc (hsh M) (rst (M ++ R)) (BitVec.ofNat 64 (m.length + xs.length))).extract 0 (0 + 73) = stc (hsh M) (rst (M ++ R)) (BitVec.ofNat 64 (m.length + xs.length)) from by
             rw [show 0 + 73 = (stc (hsh M) (rst (M ++ R)) (BitVec.ofNat 64 (m.length + xs.length))).size from by rw [stc_size _ _ _ HH.out HL2.out]]; simp])
        | (refine wpL_store b1 rfl 35 (.tmp 4) (.tmp 44) rfl 0 _ rfl rfl (i35.trans (congrArg some (by rw [stc_size _ _ _ HH.out HL2.out]))) (by rw [stc_size _ _ _ HH.out HL2.out, Zst_size]; omega) (stc_one _ _ _) ?_
           intro w4 b4 hs4 hg4
           rw [spl_all _ _ (by rw [stc_size _ _ _ HH.out HL2.out, Zst_size])] at b4
           replace hb := hb.grown hg4 hb.size (by intro k hk; cases hk; omega)
           clear hs4 hg4))
      have hmx : hsh M = hsh (m ++ xs) := by rw [← HM.out, hsh_part M R (by rw [Hq.out]; exact hlt)]
      have hfin : stc (hsh M) (rst (M ++ R)) (BitVec.ofNat 64 (m.length + xs.length)) = est (m ++ xs) := by rw [est, hmx, HM.out, List.length_append]
      rw [hfin] at b4
      exact ret_row Tryd.results17 b4 rfl Tryd.underlying35 rfl (i35.trans (congrArg some (est_size _).symm)) rfl ⟨rfl, hb⟩
    · generalize hq : M.length % 64 = q at *
      have Hq := Lib.hid hq
      clear hq
      have i1 : (0 : Int) ≤ (q : Int) := by omega
      have i2 : (q : Int) ≤ 64 := by omega
      have hT64 : (tl M ++ R.take (64 - q)).length = 64 := by rw [List.length_append, tl_len, List.length_take, Hq.out]; omega
      have e0 := put_rst M (R.take (64 - q)) (by rw [Hq.out, List.length_take]; omega)
      rw [Hq.out, zpad_exact M _ (by rw [Hq.out, List.length_take]; omega)] at e0
      have E0 := Lib.hid e0
      have HT64 := Lib.hid hT64
      clear e0 hT64
      go_wp2_with (first
        | (refine wpL_copy b0 rfl (.tmp 25) (.tmp 26) 22 22 rfl 5 Tryd.underlying22 i5 (some ⟨w.heap.size, 8 + q, none⟩) A' (64 - q) (64 - q) R.length c' rfl rfl (8 + q) ((R.take (64 - q)).map v8)
            (by rw [List.length_map, List.length_take]; exact Nat.min_comm _ _) (fun hk => ⟨rfl, (hR.below hb).src (64 - q) hk⟩)
            (by rw [stc_size _ _ _ HH.out HR.out, List.length_map, List.length_take]; omega) (one_v8 _) ?_
           intro w3 b3 hs3 hg3
           rw [show ((R.take (64 - q)).map v8).toArray = e8 (R.take (64 - q)) from rfl, stc_putPart _ _ _ _ HH.out HR.out q (by rw [List.length_take]; omega), E0.out] at b3
           replace b1 := b1.grown hg3 (by simp)
           replace hb := hb.grown hg3 hb.size (by intro k hk; cases hk; exact Nat.le_refl _)
           rw [← hs3] at hs
           rw [show ((R.take (64 - q)).map v8).length = 64 - q from by rw [List.length_map, List.length_take]; omega]
           clear hs3 hg3 b0)
        | (refine wpL_load b3 rfl 31 (.tmp 28) rfl 0 8 rfl _ Tryd.underlying31 rfl i31 (by rw [stc_size _ _ _ HH.out HT64.out]; omega) ?_
           rw [stc_hash _ _ _ HH.out])
        | (refine wpL_load b3 rfl 32 (.tmp 30) rfl 8 64 rfl _ Tryd.underlying32 rfl i32 (by rw [stc_size _ _ _ HH.out HT64.out]; omega) ?_
           rw [stc_rest _ _ _ HH.out HT64.out])
        | (go_at_call 23; refine (press_walk _ _ _ HH.out HT64.out (hT.below hb)).mono ?_; rintro e w4 ⟨rfl, hb4⟩
           have b4 := b3.below hb4 (by omega)
           replace b1 := b1.below hb4 hs
           replace hb := hb.trans (hb4.mono hb.size)
           replace hs := Nat.lt_of_lt_of_le hs hb4.size
           clear hb4 b3)
        | (refine wpL_store b4 rfl 31 (.tmp 33) (.tmp 32) rfl 0 _ rfl rfl (i31.trans (congrArg some (by rw [e32_size, press_len]))) (by rw [stc_size _ _ _ HH.out HT64.out, e32_size, press_len]; omega) (e32_one _) ?_
           intro w5 b5 hs5 hg5
           rw [stc_putHash _ _ _ _ HH.out (press_len _ _)] at b5
           replace b1 := b1.grown hg5 (by simp)
           replace hb := hb.grown hg5 hb.size (by intro k hk; cases hk; exact Nat.le_refl _)
           rw [← hs5] at hs
           clear hs5 hg5 b4)
        | (refine wpL_store b5 rfl 32 (.tmp 35) (.tmp 34) rfl 8 (e8 (zpad [])) rfl rfl i32 (by rw [stc_size _ _ _ (press_len _ _) HT64.out, e8_size, zpad_len _ (by simp)]; omega) (e8_one _) ?_
           intro w6 b6 hs6 hg6
           rw [stc_putRest _ _ _ _ (press_len _ _) HT64.out (zpad_len _ (by simp))] at b6
           replace b1 := b1.grown hg6 (by simp)
           replace hb := hb.grown hg6 hb.size (by intro k hk; cases hk; exact Nat.le_refl _)
           rw [← hs6] at hs
           clear hs6 hg6 b5))
      all_goals
        go_roundw
        case measure => rw [slen_slice, slen_slice]; omega
        case rel =>
          first
            | (have hcc : c' = 64 - q := by assumption
               exact frel_step HM.out hx Hq.out hlt (fun hk => absurd hk (by rw [List.length_drop]; omega)) (by omega) b6 b1 hb hs)
            | (have hcc : ¬ c' = 64 - q := by assumption
               have := hR.cut (k := 64 - q) hc
               rw [if_neg hcc, Nat.mul_one] at this
               exact frel_step HM.out hx Hq.out hlt this (by omega) b6 b1 hb hs)
end Go.Proofs.YtelcblmconophaaDoor
