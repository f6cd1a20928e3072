import Derived.Test.YtelcblmconophaaDoorS1
import Derived.Test.YtelcblmconophaaDoorB1
namespace Go.Proofs.YtelcblmconophaaDoor
open Go.RowKit
def w4 (a b c d : BitVec 8) : BitVec 32 := a.setWidth 32 <<< 24 ||| b.setWidth 32 <<< 16 ||| c.setWidth 32 <<< 8 ||| d.setWidth 32
set_option maxHeartbeats 400000 in
theorem word_walk (b o n c : Nat) (x0 x1 x2 x3 : BitVec 8) (w : World) (hn : 4 ≤ n) (hn2 : n ≤ 1000)
   (h0 : w.cell? ⟨b, o, none⟩ = some (.int .u8 (U8 x0))) (h1 : w.cell? ⟨b, o + 1, none⟩ = some (.int .u8 (U8 x1)))
   (h2 : w.cell? ⟨b, o + 2, none⟩ = some (.int .u8 (U8 x2))) (h3 : w.cell? ⟨b, o + 3, none⟩ = some (.int .u8 (U8 x3))) :
    Calls Tryd.prog 39 #[.slice (some ⟨b, o, none⟩) n c] w fun e w' => e = .returned (.int .u32 (U32 (w4 x0 x1 x2 x3))) ∧ ∃ k, w' = w.drewN k := by
  go_enter Tryd.func39, Tryd.ntmps39
  go_wp2_with fail
  go_quiet (fail)


  go_wp2_with fail
  go_ret
  exact ⟨rfl, _, rfl⟩


def wat (bl : List (BitVec 8)) (i : Nat) : BitVec 32 := w4 (at8 bl (4 * i)) (at8 bl (4 * i + 1)) (at8 bl (4 * i + 2)) (at8 bl (4 * i + 3))
def L1 (bl : List (BitVec 8)) (k : Nat) : List (BitVec 32) := (List.range k).map (wat bl)
def nxt (l : List (BitVec 32)) : BitVec 32 := sS1 (at32 l (l.length - 2)) + at32 l (l.length - 7) + sS0 (at32 l (l.length - 15)) + at32 l (l.length - 16)
def extN (l : List (BitVec 32)) : Nat → List (BitVec 32)
  | 0 => l
  | j + 1 => extN l j ++ [nxt (extN l j)]
def padZ (l : List (BitVec 32)) : List (BitVec 32) := l ++ List.replicate (64 - l.length) 0
def sched (bl : List (BitVec 8)) : List (BitVec 32) := extN (L1 bl 16) 48
theorem L1_len (bl : List (BitVec 8)) (k : Nat) : (L1 bl k).length = k := by simp [L1]
theorem extN_len (l : List (BitVec 32)) (j : Nat) : (extN l j).length = l.length + j := by induction j <;> simp_all [extN]; omega
theorem L1_succ (bl : List (BitVec 8)) (k : Nat) : L1 bl (k + 1) = L1 bl k ++ [wat bl k] := by simp [L1, List.range_succ]
theorem padZ_len (l : List (BitVec 32)) (h : l.length ≤ 64) : (padZ l).length = 64 := by simp [padZ]; omega
theorem padZ_set (l : List (BitVec 32)) (x : BitVec 32) (k : Nat) (hk : l.length = k) (h : k < 64) : (padZ l).set k x = padZ (l ++ [x]) := by
  subst hk
  simp only [padZ, List.set_append, Nat.lt_irrefl, if_false, Nat.sub_self, List.length_append, List.length_cons, List.length_nil, List.append_assoc]
  obtain ⟨m, hm⟩ : ∃ m, 64 - l.length = m + 1 := ⟨64 - l.length - 1, by omega⟩
  rw [hm, List.replicate_succ, List.set_cons_zero, show 64 - (l.length + (0 + 1)) = m by omega]; rfl
theorem padZ_at (l : List (BitVec 32)) (i : Nat) (h : i < l.length) : at32 (padZ l) i = at32 l i := by
  simp [padZ, at32, List.getElem?_append_left h]
theorem padZ_full (l : List (BitVec 32)) (h : l.length = 64) : padZ l = l := by simp [padZ, h]
theorem sched_len (bl : List (BitVec 8)) : (sched bl).length = 64 := by rw [sched, extN_len, L1_len]
theorem zeros68 : #[Value.int .u32 0, Value.int .u32 0, Value.int .u32 0, Value.int .u32 0, Value.int .u32 0, Value.int .u32 0, Value.int .u32 0, Value.int .u32 0, Value.int .u32 0, Value.int .u32 0, Value.int .u32 0, Value.int .u32 0, Value.int .u32 0, Value.int .u32 0, Value.int .u32 0, Value.int .u32 0, Value.int .u32 0, Value.int .u32 0, Value.int .u32 0, Value.int .u32 0, Value.int .u32 0, Value.int .u32 0, Value.int .u32 0, Value.int .u32 0, Value.int .u32 0, Value.int .u32 0, Value.int .u32 0, Value.int .u32 0, Value.int .u32 0, Value.int .u32 0, Value.int .u32 0, Value.int .u32 0, Value.int .u32 0, Value.int .u32 0, Value.int .u32 0, Value.int .u32 0, Value.int .u32 0, Value.int .u32 0, Value.int .u32 0, Value.int .u32 0, Value.int .u32 0, Value.int .u32 0, Value.int .u32 0, Value.int .u32 0, Value.int .u32 0, Value.int .u32 0, Value.int .u32 0, Value.int .u32 0, Value.int .u32 0, Value.int .u32 0, Value.int .u32 0, Value.int .u32 0, Value.int .u32 0, Value.int .u32 0, Value.int .u32 0, Value.int .u32 0, Value.int .u32 0, Value.int .u32 0, Value.int .u32 0, Value.int .u32 0, Value.int .u32 0, Value.int .u32 0, Value.int .u32 0, Value.int .u32 0] = e32 (padZ []) := by rfl
theorem i68 : (Tryd.prog.info? 68).map (·.size) = some 64 := by kernel_rfl
theorem i31 : (Tryd.prog.info? 31).map (·.size) = some 8 := by kernel_rfl
theorem i32 : (Tryd.prog.info? 32).map (·.size) = some 64 := by kernel_rfl
set_option maxHeartbeats 600000 in
theorem sched_walk (bl : List (BitVec 8)) (w : World) (hl : bl.length = 64) :
    Calls Tryd.prog 41 #[.agg (e8 bl)] w fun e w' => e = .returned (.agg (e32 (sched bl))) ∧ Below w.heap.size w w' := by
  go_enter Tryd.func41, Tryd.ntmps41
  go_wp2_with fail
  rw [zeros68]
  go_loopw [6] (fun i wr => ∃ k : Nat, k ≤ 16 ∧ i = .int .i64 k ∧ Blk wr (w.heap.size + 1 + 1) 68 (e32 (padZ (L1 bl k))) ∧ Blk wr w.heap.size 32 (e8 bl) ∧ Blk wr (w.heap.size + 1) 68 (e32 (padZ [])) ∧ Below w.heap.size w wr)
    (fun i _ => 16 - (intOf i).toNat)
  case atStart => exact ⟨0, by omega, rfl, Blk.new' _ _ (by simp), ((Blk.new _ _ _).alloc _).alloc _, (Blk.new' _ _ (by simp)).alloc _, (((Below.refl _ _).alloc (Nat.le_refl _) _).alloc (by simp) _).alloc (by simp; omega) _⟩
  case round =>
    obtain ⟨k, hk, rfl, h2, h0, h1, hb⟩ := hrel
    by_cases hlt : k < 16
    · have c0 := h0.cell (4 * k)
      have c1 := h0.cell (4 * k + 1)
      have c2 := h0.cell (4 * k + 2)
      have c3 := h0.cell (4 * k + 3)
      rw [e8_at _ _ (by omega)] at c0 c1 c2 c3
      have cw := h2.cell k
      rw [e32_at _ _ (by rw [padZ_len _ (by rw [L1_len]; omega)]; omega)] at cw
      have fw := h2.frozen k
      have b1 : (0 : Int) ≤ 4 * k := by omega
      have b2 : (4 * k : Int) ≤ 4 * k + 4 := by omega
      have b3 : (4 * k + 4 : Int) ≤ 64 := by omega
      go_wp2_with fail
      refine (word_walk _ _ _ _ _ _ _ _ _ (by omega) (by omega) c0 c1 c2 c3).mono ?_; rintro e w' ⟨rfl, kk, rfl⟩
      go_wp2_with fail
      go_roundw
      case rel =>
        refine ⟨k + 1, by omega, by go_num, ?_, ?_, ?_, ?_⟩
        · have := (h2.drewN kk).set_ k (v32 (wat bl k))
          unfold v32 at this
          rw [e32_set, padZ_set _ _ k (L1_len _ _) (by omega), ← L1_succ] at this
          exact this
        · exact (h0.drewN kk).far (by simp; omega) _
        · exact (h1.drewN kk).far (by simp) _
        · exact (below_drewN hb kk).setCell (by simp; omega) _
      case measure => simp [intOf]; omega
    · have hk16 : k = 16 := by omega
      rw [hk16] at h2
      clear hk16 h0
      go_wp2_with fail
      go_loopw [19] (fun i wr => ∃ k : Nat, k ≤ 48 ∧ i = .int .i64 k ∧ Blk wr (w.heap.size + 1 + 1) 68 (e32 (padZ (extN (L1 bl 16) k))) ∧ Blk wr (w.heap.size + 1) 68 (e32 (padZ [])) ∧ Below w.heap.size w wr)
        (fun i _ => 48 - (intOf i).toNat)
      case atStart => exact ⟨0, by omega, rfl, h2, h1, hb⟩
      case round =>
        clear h2 h1 hb
        obtain ⟨k, hk, rfl, h2, h1, hb⟩ := hrel
        by_cases hlt : k < 48
        · have hL : (extN (L1 bl 16) k).length = 16 + k := by rw [extN_len, L1_len]
          have hP : (padZ (extN (L1 bl 16) k)).length = 64 := padZ_len _ (by omega)
          have cw := h2.cell (k + 16)
          have c0 := h2.cell (k + 14)
          have c1 := h2.cell (k + 9)
          have c2 := h2.cell (k + 1)
          have c3 := h2.cell k
          rw [e32_at _ _ (by omega)] at cw c0 c1 c2 c3
          have fw := h2.frozen (k + 16)
          have HL := Lib.hid hL
          clear hL hP
          go_wp2_with fail
          have s16 : IntKind.i64.wrap (↑k + 16) = ↑k + 16 := IntWalk.i64_in _ (by omega)
          have p16 : (0 : Int) ≤ ↑k + 16 := by omega
          have q16 : ((↑k : Int) + 16).toNat = k + 16 := by omega
          have r16 : (↑k : Int) + 16 < 64 := by omega
          have s14 : IntKind.i64.wrap (↑k + 14) = ↑k + 14 := IntWalk.i64_in _ (by omega)
          have p14 : (0 : Int) ≤ ↑k + 14 := by omega
          have q14 : ((↑k : Int) + 14).toNat = k + 14 := by omega
          have r14 : (↑k : Int) + 14 < 64 := by omega
          have s9 : IntKind.i64.wrap (↑k + 9) = ↑k + 9 := IntWalk.i64_in _ (by omega)
          have p9 : (0 : Int) ≤ ↑k + 9 := by omega
          have q9 : ((↑k : Int) + 9).toNat = k + 9 := by omega
          have r9 : (↑k : Int) + 9 < 64 := by omega
          have s1 : IntKind.i64.wrap (↑k + 1) = ↑k + 1 := IntWalk.i64_in _ (by omega)
          have p1 : (0 : Int) ≤ ↑k + 1 := by omega
          have q1 : ((↑k : Int) + 1).toNat = k + 1 := by omega
          have r1 : (↑k : Int) + 1 < 64 := by omega
          have r0 : (↑k : Int) < 64 := by omega
          go_still_tail 23, (by kernel_rfl)
          still_call ((sS1_walk _ _).mono (fun e w' h => ⟨h.1, h.2.symm⟩))
          repeat still_step
          still_call ((sS0_walk _ _).mono (fun e w' h => ⟨h.1, h.2.symm⟩))
          repeat still_step
          refine wpStill_nil ?_
          change wpList _ _ _ _ _ wr.drew
          go_wp2_with fail
          go_roundw
          case rel =>
            refine ⟨k + 1, by omega, by go_num, ?_, ?_, ?_⟩
            · have := h2.drew.set_ (k + 16) (v32 (nxt (extN (L1 bl 16) k)))
              unfold v32 at this
              rw [e32_set, padZ_set _ _ (k + 16) (by rw [HL.out]; omega) (by omega)] at this
              have e : U32 (sS1 (at32 (padZ (extN (L1 bl 16) k)) (k + 14)) + at32 (padZ (extN (L1 bl 16) k)) (k + 9) + sS0 (at32 (padZ (extN (L1 bl 16) k)) (k + 1)) + at32 (padZ (extN (L1 bl 16) k)) k) = U32 (nxt (extN (L1 bl 16) k)) := by
                rw [padZ_at _ _ (by rw [HL.out]; omega), padZ_at _ _ (by rw [HL.out]; omega), padZ_at _ _ (by rw [HL.out]; omega), padZ_at _ _ (by rw [HL.out]; omega)]
                unfold nxt
                rw [HL.out, show 16 + k - 2 = k + 14 by omega, show 16 + k - 7 = k + 9 by omega, show 16 + k - 15 = k + 1 by omega, show 16 + k - 16 = k by omega]
              rw [e]
              exact this
            · exact h1.drew.far (by simp) _
            · exact hb.drew.setCell (by simp; omega) _
          case measure => simp [intOf]; omega
        · have hk48 : k = 48 := by omega
          rw [hk48, padZ_full _ (by rw [extN_len, L1_len])] at h2
          change Blk wr (w.heap.size + 1 + 1) 68 (e32 (sched bl)) at h2
          clear hk48
          have hS : (e32 (sched bl)).size = 64 := by rw [e32_size, sched_len]
          have hZ : (e32 (padZ [])).size = 64 := by rw [e32_size, padZ_len _ (by simp)]
          have hone : (e32 (sched bl)).all (·.oneCell') = true := e32_one _
          generalize hSe : e32 (sched bl) = S at h2 hS hone
          have HSe := Lib.hid hSe
          clear hSe
          generalize e32 (padZ []) = Z at h1 hZ
          have HS := Lib.hid hS
          have HZ := Lib.hid hZ
          clear hS hZ
          go_wp2_with (first
            | (refine wpL_load h2 rfl 68 (.tmp 3) rfl 0 64 rfl _ Tryd.underlying68 rfl i68 (by rw [HS.out]; omega) ?_; rw [show S.extract 0 (0 + 64) = S from by rw [show 0 + 64 = S.size from by rw [HS.out]]; simp])
            | (refine wpL_store h1 rfl 68 (.tmp 2) (.tmp 46) rfl 0 S rfl rfl (i68.trans (congrArg some HS.out.symm)) (by rw [HS.out, HZ.out]; omega) hone ?_; intro w2 h3 hs3 hg3))
          rw [spl_all _ _ (by rw [HS.out, HZ.out])] at h3
          exact ret_row Tryd.results41 h3 rfl Tryd.underlying68 rfl (i68.trans (congrArg some HS.out.symm)) rfl ⟨by rw [HSe.out], hb.grown hg3 hb.size (by intro k hk; cases hk; omega)⟩
end Go.Proofs.YtelcblmconophaaDoor
