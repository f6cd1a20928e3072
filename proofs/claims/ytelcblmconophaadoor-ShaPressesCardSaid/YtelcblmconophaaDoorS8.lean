import Derived.Test.YtelcblmconophaaDoorS7
namespace Go.Proofs.YtelcblmconophaaDoor
open Go.RowKit
def pad8 (l : List (BitVec 32)) : List (BitVec 32) := l ++ List.replicate (8 - l.length) 0
theorem pad8_len (l : List (BitVec 32)) (h : l.length ≤ 8) : (pad8 l).length = 8 := by simp [pad8]; omega
theorem pad8_set (l : List (BitVec 32)) (x : BitVec 32) (k : Nat) (hk : l.length = k) (h : k < 8) : (pad8 l).set k x = pad8 (l ++ [x]) := by
  subst hk
  simp only [pad8, List.set_append, Nat.lt_irrefl, if_false, Nat.sub_self, List.length_append, List.length_cons, List.length_nil, List.append_assoc]
  obtain ⟨m, hm⟩ : ∃ m, 8 - l.length = m + 1 := ⟨8 - l.length - 1, by omega⟩
  rw [hm, List.replicate_succ, List.set_cons_zero, show 8 - (l.length + (0 + 1)) = m by omega]; rfl
theorem pad8_full (l : List (BitVec 32)) (h : l.length = 8) : pad8 l = l := by simp [pad8, h]
theorem zeros31 : #[Value.int .u32 0, .int .u32 0, .int .u32 0, .int .u32 0, .int .u32 0, .int .u32 0, .int .u32 0, .int .u32 0] = e32 (pad8 []) := by rfl
def WRel (d : Msg) (w : World) (i : Value) (wr : World) : Prop := ∃ k : Nat, k ≤ 8 ∧ i = .int .i64 k ∧ Blk wr (w.heap.size + 1 + 1) 31 (e32 (pad8 (L1 d k))) ∧ Blk wr w.heap.size 27 (e8 d) ∧ Blk wr (w.heap.size + 1) 31 (e32 (pad8 [])) ∧ Below w.heap.size w wr ∧ w.heap.size + 1 + 1 < wr.heap.size
set_option maxHeartbeats 1000000 in
theorem words_walk (d : Msg) (w : World) (hd : d.length = 32) :
    Calls Tryd.prog 21 #[.agg (e8 d)] w fun e w' => e = .returned (.agg (e32 (L1 d 8))) ∧ Below w.heap.size w w' := by
  have HD := Lib.hid hd
  clear hd
  go_enter Tryd.func21, Tryd.ntmps21
  go_wp2_with fail
  rw [zeros31]
  generalize hW : World.alloc (World.alloc (World.alloc w _) _) _ = w1
  obtain ⟨b0, b1, b2, hb, hs⟩ := facts3 hW
  clear hW
  have hs1 : w.heap.size + 1 + 1 < w1.heap.size := by omega
  clear hs
  go_loopw [5] (fun i wr => WRel d w i wr) (fun i _ => 8 - (intOf i).toNat)
  case atStart => exact ⟨0, by omega, rfl, b2, b0, b1, hb, hs1⟩
  case round =>
    clear b0 b1 b2 hb hs1
    obtain ⟨k, hk, rfl, b2, b0, b1, hb, hs⟩ := hrel
    by_cases hlt : k < 8
    · have i1 : (0 : Int) ≤ 4 * ↑k := by omega
      have i2 : (4 * ↑k : Int) ≤ 4 * ↑k + 4 := by omega
      have i3 : (4 * ↑k + 4 : Int) ≤ 32 := by omega
      have c0 := (b0.cell (4 * k)).trans (e8_at d (4 * k) (by rw [HD.out]; omega))
      have c1 := (b0.cell (4 * k + 1)).trans (e8_at d (4 * k + 1) (by rw [HD.out]; omega))
      have c2 := (b0.cell (4 * k + 2)).trans (e8_at d (4 * k + 2) (by rw [HD.out]; omega))
      have c3 := (b0.cell (4 * k + 3)).trans (e8_at d (4 * k + 3) (by rw [HD.out]; omega))
      have cw := (b2.cell k).trans (e32_at _ k (by rw [pad8_len _ (by rw [L1_len]; omega)]; omega))
      have fw := b2.frozen k
      go_wp2_with fail
      refine (word_walk _ _ _ _ _ _ _ _ _ (by omega) (by omega) c0 c1 c2 c3).mono ?_; rintro e w' ⟨rfl, kk, rfl⟩
      go_wp2_with fail
      go_roundw
      case rel =>
        refine ⟨k + 1, by omega, by go_num, ?_, ?_, ?_, ?_, ?_⟩
        · have := (b2.drewN kk).set_ k (v32 (wat d k))
          unfold v32 at this
          rw [e32_set, pad8_set _ _ k (L1_len _ _) (by omega), ← L1_succ] at this
          exact this
        · exact (b0.drewN kk).far (by simp; omega) _
        · exact (b1.drewN kk).far (by simp) _
        · exact (below_drewN hb kk).setCell (by simp; omega) _
        · rw [World.size_setCell]; exact hs
      case measure => simp [intOf]; omega
    · have hk8 : k = 8 := by omega
      rw [hk8, pad8_full _ (L1_len _ _)] at b2
      have hl : (e32 (L1 d 8)).size = 8 := by rw [e32_size, L1_len]
      have HL := Lib.hid hl
      clear hk8 hl
      go_wp2_with (first
        | (refine wpL_load b2 rfl 31 (.tmp 3) rfl 0 8 rfl _ Tryd.underlying31 rfl i31 (by rw [HL.out]; omega) ?_
           rw [show (e32 (L1 d 8)).extract 0 (0 + 8) = e32 (L1 d 8) from by rw [show 0 + 8 = (e32 (L1 d 8)).size from by rw [HL.out]]; simp])
        | (refine wpL_store b1 rfl 31 (.tmp 2) (.tmp 18) rfl 0 _ rfl rfl (i31.trans (congrArg some HL.out.symm)) (by rw [HL.out, e32_size, pad8_len _ (by simp)]; omega) (e32_one _) ?_
           intro w4 b4 hs4 hg4
           rw [spl_all _ _ (by rw [HL.out, e32_size, pad8_len _ (by simp)])] at b4
           replace hb := hb.grown hg4 hb.size (by intro k hk; cases hk; omega)
           clear hs4 hg4))
      exact ret_row Tryd.results21 b4 rfl Tryd.underlying31 rfl (i31.trans (congrArg some HL.out.symm)) rfl ⟨rfl, hb⟩
set_option maxHeartbeats 400000 in
theorem len_walk (m : Msg) (w : World) :
    Calls Tryd.prog 19 #[.agg (est m)] w fun e w' => e = .returned (.int .u64 (U64 (BitVec.ofNat 64 m.length))) ∧ Below w.heap.size w w' := by
  have hf := stc_fed (hsh m) (rst m) (BitVec.ofNat 64 m.length) (hsh_len m) (rst_len m)
  unfold est
  go_enter Tryd.func19, Tryd.ntmps19
  go_wp2_with fail
  go_ret
  exact ⟨rfl, (Below.refl _ _).alloc (Nat.le_refl _) _⟩
section
variable {P : Program} {w : World} {ops : Array Oper} {rest : List Oper} {op : Oper} {a : Act} {Q : Exit → Act → World → Prop}
/-- A struct or an array that is built of parts. -/
theorem wpL_build (hgd : op.guard = none) (t : TypeId) (parts : List (Nat × Operand)) (ho : op.op = .build t parts.toArray) (vals : List (Nat × Value)) (hv : (parts.map fun x => (x.1, a.eval x.2)) = vals)
    (cells : Array Value) (hb : P.built t vals = some cells) (h : wpList P ops Q rest (a.put op.dst (.agg cells)) w) : wpList P ops Q (op :: rest) a w := by
  refine wpList_plain hgd fun K hK => ?_
  have e : (parts.toArray.map fun (x : Nat × Operand) => (x.1, a.eval x.2)) = vals.toArray := by rw [List.map_toArray, hv]
  have hr := run_build w t vals.toArray cells (by simpa using hb)
  unfold Oper.wp execOp
  simp only [ho]
  change (Oper.upon P op a K Q ((do pure (Next.value (← Instr.build t (parts.toArray.map fun (x : Nat × Operand) => (x.1, a.eval x.2))))).run P w))
  rw [e]
  simp only [Sem.run_bind, hr, Result.andThen_ok, Sem.run_pure]
  exact hK _ _ h
end
theorem built35 : Tryd.prog.built 35 [(0, Value.agg #[.int .u32 (U32 (at32 H0 0)), .int .u32 (U32 (at32 H0 1)), .int .u32 (U32 (at32 H0 2)), .int .u32 (U32 (at32 H0 3)), .int .u32 (U32 (at32 H0 4)), .int .u32 (U32 (at32 H0 5)), .int .u32 (U32 (at32 H0 6)), .int .u32 (U32 (at32 H0 7))])] = some (est []) := by kernel_rfl
theorem est_nil : est [] = stc H0 (List.replicate 64 0) 0 := rfl
set_option maxHeartbeats 400000 in
theorem new_walk (w : World) (hT : Tab w) :
    Calls Tryd.prog 16 #[] w fun e w' => e = .returned (.agg (est [])) ∧ Below w.heap.size w w' := by
  go_enter Tryd.func16, Tryd.ntmps16
  go_wp2_with (first
    | (refine wpL_alloc rfl 35 rfl Zst z35 ?_
       generalize hW : World.alloc w _ = w1
       obtain ⟨b0, hb, hs⟩ := facts1 hW
       clear hW
       have hT1 := hT.below hb
       have c0 := hT1.h0 0 (by omega)
       have c1 := hT1.h0 1 (by omega)
       have c2 := hT1.h0 2 (by omega)
       have c3 := hT1.h0 3 (by omega)
       have c4 := hT1.h0 4 (by omega)
       have c5 := hT1.h0 5 (by omega)
       have c6 := hT1.h0 6 (by omega)
       have c7 := hT1.h0 7 (by omega))
    | (refine wpL_build rfl 35 [(0, .tmp 1)] rfl [(0, .agg #[.int .u32 (U32 (at32 H0 0)), .int .u32 (U32 (at32 H0 1)), .int .u32 (U32 (at32 H0 2)), .int .u32 (U32 (at32 H0 3)), .int .u32 (U32 (at32 H0 4)), .int .u32 (U32 (at32 H0 5)), .int .u32 (U32 (at32 H0 6)), .int .u32 (U32 (at32 H0 7))])] rfl (est []) built35 ?_)
    | (refine wpL_store b0 rfl 35 (.tmp 0) (.tmp 2) rfl 0 (est []) rfl rfl (i35.trans (congrArg some (est_size _).symm)) (by rw [est_size, Zst_size]; omega) (stc_one _ _ _) ?_
       intro w4 b4 hs4 hg4
       rw [spl_all _ _ (by rw [est_size, Zst_size])] at b4
       replace hb := hb.grown hg4 hb.size (by intro k hk; cases hk; omega)
       clear hs4 hg4))
  exact ret_row Tryd.results16 b4 rfl Tryd.underlying35 rfl (i35.trans (congrArg some (est_size _).symm)) rfl ⟨rfl, hb⟩
end Go.Proofs.YtelcblmconophaaDoor
