import Derived.Test.YtelcblmconophaaDoorS10
namespace Go.Proofs.YtelcblmconophaaDoor
open Go.RowKit
/-- A list of slices of bytes that is read: of each its address, its capacity, its bytes. -/
structure Part where
  A : Option Addr
  c : Nat
  xs : Msg
def Part.val (p : Part) : Value := .slice p.A p.xs.length p.c
def Part.ok (w : World) (p : Part) : Prop := RdB w p.A p.xs ∧ p.xs.length ≤ p.c ∧ p.xs.length ≤ 1000000
def pget (ps : List Part) (j : Nat) : Part := ps.getD j ⟨none, 0, []⟩
def RdP (w : World) (A : Option Addr) (ps : List Part) : Prop :=
  (0 < ps.length → ∃ b o, A = some ⟨b, o, none⟩ ∧ b < w.heap.size ∧ ∀ j, j < ps.length → w.cell? ⟨b, o + j, none⟩ = some (pget ps j).val) ∧ ∀ j, j < ps.length → (pget ps j).ok w
theorem Part.ok.below {w w' : World} {p : Part} (h : p.ok w) (hb : Below w.heap.size w w') : p.ok w' := ⟨h.1.below hb, h.2⟩
theorem RdP.below {w w' : World} {A : Option Addr} {ps : List Part} (h : RdP w A ps) (hb : Below w.heap.size w w') : RdP w' A ps :=
  ⟨fun hk => let ⟨b, o, hA, hlt, hc⟩ := h.1 hk; ⟨b, o, hA, Nat.lt_of_lt_of_le hlt hb.size, fun j hj => cell_below (hc j hj) hb hlt⟩, fun j hj => (h.2 j hj).below hb⟩
def bytesOf (ps : List Part) : Msg := ps.flatMap Part.xs
theorem bytesOf_take (ps : List Part) (k : Nat) (hk : k < ps.length) : bytesOf (ps.take (k + 1)) = bytesOf (ps.take k) ++ (pget ps k).xs := by
  have h : ps.take (k + 1) = ps.take k ++ [pget ps k] := by rw [List.take_succ_eq_append_getElem hk]; simp [pget, hk]
  rw [h, bytesOf, List.flatMap_append]; simp [bytesOf]
def SRel (ps : List Part) (w : World) (g : Nat) (i : Value) (wr : World) : Prop := ∃ k : Nat, k ≤ ps.length ∧ i = .int .i64 k ∧ Blk wr g 35 (est (bytesOf (ps.take k))) ∧ BlkN wr w.heap.size 27 32 ∧ Below w.heap.size w wr ∧ w.heap.size < g ∧ g < wr.heap.size
set_option maxHeartbeats 2000000 in
theorem ssum_walk (ps : List Part) (A : Option Addr) (c : Nat) (w : World) (hT : Tab w) (hl : ps.length ≤ 1000000) (hR : RdP w A ps) :
    Calls Tryd.prog 15 #[.slice A ps.length c] w fun e w' => e = .returned (.agg (e8 (sha256 (bytesOf ps)))) ∧ Below w.heap.size w w' := by
  go_enter Tryd.func15, Tryd.ntmps15
  go_wp2_with (first
    | (go_at_call 16
       rw [zeros27]
       generalize hW : World.alloc w _ = w1
       obtain ⟨b0, hb, hs⟩ := facts1 hW
       clear hW
       have bN : BlkN w1 w.heap.size 27 32 := b0.toN (by simp)
       clear b0
       refine (new_walk _ (hT.below hb)).mono ?_
       rintro e w2 ⟨rfl, hb2⟩
       replace bN := bN.below hb2 (by omega)
       replace hb := hb.trans (hb2.mono hb.size)
       have hs2 : w.heap.size < w2.heap.size := by have := hb2.size; omega
       clear hb2 hs)
    | (refine wpL_alloc rfl 35 rfl Zst z35 ?_
       generalize hW : World.alloc w2 _ = w3
       obtain ⟨b3, hb3, hs3⟩ := facts1 hW
       clear hW
       replace bN := bN.below hb3 hs2
       replace hb := hb.trans (hb3.mono hb.size))
    | (refine wpL_store b3 rfl 35 (.tmp 3) (.tmp 6) rfl 0 (est []) rfl rfl (i35.trans (congrArg some (est_size _).symm)) (by rw [est_size, Zst_size]; omega) (stc_one _ _ _) ?_
       intro w4 b4 hs4 hg4
       rw [spl_all _ _ (by rw [est_size, Zst_size])] at b4
       obtain ⟨cs, hn, hB⟩ := bN
       have bN4 : BlkN w4 w.heap.size 27 32 := ⟨cs, hn, hB.grown hg4 (by simp; omega)⟩
       replace hb := hb.grown hg4 hb.size (by intro k hk; cases hk; omega)
       have hs5 : w2.heap.size < w4.heap.size := by omega
       clear hB hn hg4 hs4 b3 hs3))
  generalize hg : w2.heap.size = g at *
  clear hg
  go_loopw [9] (fun i wr => SRel ps w g i wr) (fun i _ => ps.length - (intOf i).toNat)
  case atStart => exact ⟨0, by omega, rfl, b4, bN4, hb, hs2, hs5⟩
  case round =>
    clear b4 bN4 hb hs5
    obtain ⟨k, hk, rfl, b4, bN4, hb, hs2, hs5⟩ := hrel
    by_cases hlt : k < ps.length
    · have hR' := hR.below hb
      obtain ⟨pb, po, rfl, hpb, hpc⟩ := hR'.1 (by omega)
      have hpk := hpc k hlt
      have hok := hR'.2 k hlt
      have hsum := bytesOf_take ps k hlt
      have HS := Lib.hid hsum
      clear hsum hpc hR'
      unfold Part.val at hpk
      unfold Part.ok at hok
      generalize pget ps k = pk at *
      obtain ⟨hrd, hle, hmx⟩ := hok
      generalize hm : bytesOf (ps.take k) = m at *
      clear hm
      go_wp2_with (first
        | (refine wpL_load b4 rfl 35 (.tmp 3) rfl 0 73 rfl _ Tryd.underlying35 rfl i35 (by rw [est_size]; omega) ?_
           rw [show (est m).extract 0 (0 + 73) = est m from by rw [show 0 + 73 = (est m).size from by rw [est_size]]; simp])
        | (go_at_call 17
           refine (feed_walk m pk.xs pk.A pk.c _ (hT.below hb) hmx hle hrd).mono ?_
           rintro e w5 ⟨rfl, hb5⟩
           replace b4 := b4.below hb5 hs5
           replace bN4 := bN4.below hb5 (by omega)
           replace hb := hb.trans (hb5.mono hb.size)
           replace hs5 := Nat.lt_of_lt_of_le hs5 hb5.size
           clear hb5)
        | (refine wpL_store b4 rfl 35 (.tmp 3) (.tmp 15) rfl 0 _ rfl rfl (i35.trans (congrArg some (est_size _).symm)) (by rw [est_size, est_size]; omega) (stc_one _ _ _) ?_
           intro w6 b6 hs6 hg6
           rw [spl_all _ _ (by rw [est_size, est_size])] at b6
           obtain ⟨cs, hn, hB⟩ := bN4
           have bN6 : BlkN w6 w.heap.size 27 32 := ⟨cs, hn, hB.grown hg6 (by simp; omega)⟩
           replace hb := hb.grown hg6 hb.size (by intro k hk; cases hk; omega)
           rw [← hs6] at hs5
           clear hB hn hg6 hs6 b4))
      go_roundw
      case rel => exact ⟨k + 1, by omega, by go_num, by rw [HS.out]; exact b6, bN6, hb, hs2, hs5⟩
      case measure => simp [intOf]; omega
    · have hkk : k = ps.length := by omega
      rw [hkk, List.take_length] at b4
      clear hkk
      go_wp2_with (first
        | (refine wpL_load b4 rfl 35 (.tmp 3) rfl 0 73 rfl _ Tryd.underlying35 rfl i35 (by rw [est_size]; omega) ?_
           rw [show (est (bytesOf ps)).extract 0 (0 + 73) = est (bytesOf ps) from by rw [show 0 + 73 = (est (bytesOf ps)).size from by rw [est_size]]; simp])
        | (go_at_call 18
           refine (msum_walk (bytesOf ps) _ (hT.below hb)).mono ?_
           rintro e w5 ⟨rfl, hb5⟩
           replace bN4 := bN4.below hb5 (by omega)
           replace hb := hb.trans (hb5.mono hb.size)
           obtain ⟨cs, hn, hB⟩ := bN4
           have hz : (e8 (sha256 (bytesOf ps))).size = 32 := by rw [e8_size, sha256_len]
           have HZ := Lib.hid hz
           have HN := Lib.hid hn
           clear hb5 hz hn)
        | (refine wpL_store hB rfl 27 (.tmp 2) (.tmp 18) rfl 0 _ rfl rfl (i27.trans (congrArg some HZ.out.symm)) (by rw [HZ.out, HN.out]; omega) (e8_one _) ?_
           intro w6 b6 hs6 hg6
           rw [spl_all _ _ (by rw [HZ.out, HN.out])] at b6
           replace hb := hb.grown hg6 hb.size (by intro k hk; cases hk; omega)))
      exact ret_row Tryd.results15 b6 rfl Tryd.underlying27 rfl (i27.trans (congrArg some HZ.out.symm)) rfl ⟨rfl, hb⟩
end Go.Proofs.YtelcblmconophaaDoor
