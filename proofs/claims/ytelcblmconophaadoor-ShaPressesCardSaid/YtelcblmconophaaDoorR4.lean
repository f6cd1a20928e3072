/- The reference's compression: the schedule's part. -/
import Derived.Test.YtelcblmconophaaDoorR3
namespace Go.Proofs.YtelcblmconophaaDoor
open Go.RowKit
theorem w4_val (a b c d : BitVec 8) : (val [a, b, c, d]).setWidth 32 = w4 a b c d := by
  apply BitVec.eq_of_toNat_eq
  have ha := a.isLt
  have hb := b.isLt
  have hc := c.isLt
  have hd := d.isLt
  have e1 : (w4 a b c d).toNat = a.toNat * 16777216 + b.toNat * 65536 + c.toNat * 256 + d.toNat := by
    unfold w4
    simp only [BitVec.toNat_or, BitVec.toNat_shiftLeft, BitVec.toNat_setWidth, Nat.shiftLeft_eq]
    rw [Nat.mod_eq_of_lt (show a.toNat < 2 ^ 32 by omega), Nat.mod_eq_of_lt (show b.toNat < 2 ^ 32 by omega), Nat.mod_eq_of_lt (show c.toNat < 2 ^ 32 by omega), Nat.mod_eq_of_lt (show d.toNat < 2 ^ 32 by omega)]
    rw [Nat.mod_eq_of_lt (show a.toNat * 2 ^ 24 < 2 ^ 32 by omega), Nat.mod_eq_of_lt (show b.toNat * 2 ^ 16 < 2 ^ 32 by omega), Nat.mod_eq_of_lt (show c.toNat * 2 ^ 8 < 2 ^ 32 by omega)]
    rw [nat_join 24 (a.toNat * 2 ^ 24) (b.toNat * 2 ^ 16) (by omega) (by omega), nat_join 16 (a.toNat * 2 ^ 24 + b.toNat * 2 ^ 16) (c.toNat * 2 ^ 8) (by omega) (by omega),
      nat_join 8 (a.toNat * 2 ^ 24 + b.toNat * 2 ^ 16 + c.toNat * 2 ^ 8) d.toNat (by omega) (by omega)]
  rw [e1]
  simp only [val, List.foldl_cons, List.foldl_nil, BitVec.toNat_setWidth, BitVec.toNat_add, BitVec.toNat_mul, BitVec.toNat_ofNat]
  omega
theorem wat_val (bl : Msg) (k : Nat) (hk : 4 * k + 4 ≤ bl.length) : (val ((bl.drop (4 * k)).take 4)).setWidth 32 = wat bl k := by
  have e : (bl.drop (4 * k)).take 4 = [at8 bl (4 * k), at8 bl (4 * k + 1), at8 bl (4 * k + 2), at8 bl (4 * k + 3)] := by
    apply List.ext_getElem
    · simp; omega
    · intro i h1 h2
      have hi : i < 4 := by simpa using h2
      have h3 : 4 * k + i < bl.length := by omega
      simp only [List.getElem_take, List.getElem_drop]
      match i, hi with
      | 0, _ => simp [at8, show 4 * k < bl.length by omega]
      | 1, _ => simp [at8, show 4 * k + 1 < bl.length by omega]
      | 2, _ => simp [at8, show 4 * k + 2 < bl.length by omega]
      | 3, _ => simp [at8, show 4 * k + 3 < bl.length by omega]
  rw [e, w4_val]; rfl
/-- The words that are there after k rounds. -/
def G (bl : Msg) (k : Nat) : List (BitVec 32) := extN (L1 bl (min k 16)) (k - 16)
theorem G_len (bl : Msg) (k : Nat) : (G bl k).length = k := by rw [G, extN_len, L1_len]; omega
theorem G_lo (bl : Msg) (k : Nat) (h : k < 16) : G bl (k + 1) = G bl k ++ [wat bl k] := by
  rw [G, G, show min (k + 1) 16 = k + 1 by omega, show min k 16 = k by omega, show k + 1 - 16 = 0 by omega, show k - 16 = 0 by omega, extN, extN, L1_succ]
theorem G_hi (bl : Msg) (k : Nat) (h : 16 ≤ k) : G bl (k + 1) = G bl k ++ [nxt (G bl k)] := by
  rw [G, G, show min (k + 1) 16 = 16 by omega, show min k 16 = 16 by omega, show k + 1 - 16 = (k - 16) + 1 by omega, extN]
theorem G_all (bl : Msg) : G bl 64 = sched bl := rfl
theorem nxt_ref (l : List (BitVec 32)) (k : Nat) (hk : l.length = k) :
    at32 l (k - 16) + sS0 (at32 l (k - 15)) + at32 l (k - 7) + sS1 (at32 l (k - 2)) = nxt l := by
  rw [nxt, hk]
  ac_rfl
theorem RdB.part {w : World} {A : Option Addr} {xs : Msg} (h : RdB w A xs) (k n : Nat) (b o : Nat) (hA : A = some ⟨b, o, none⟩) (hk : k + n ≤ xs.length) : RdB w (some ⟨b, o + k, none⟩) ((xs.drop k).take n) := fun hp => by
  simp only [List.length_take, List.length_drop] at hp
  obtain ⟨b', o', hA', hlt, hc⟩ := h (by omega)
  rw [hA] at hA'
  cases hA'
  refine ⟨b, o + k, rfl, hlt, fun j hj => ?_⟩
  simp only [List.length_take, List.length_drop] at hj
  rw [at8_take _ _ _ (by omega), at8_drop, Nat.add_assoc]
  exact hc _ (by omega)
theorem info30 : (Tryd.prog.info? 30).map (fun i => (i.zero, i.size, i.bytes)) = some (some (.int .u32 0), 1, 4) := by kernel_rfl
theorem made32 (n : Nat) : madeCells #[Value.int .u32 0] n = e32 (List.replicate n 0) := by
  apply Array.ext_getElem?
  intro j
  by_cases h : j < n
  · rw [e32_at _ _ (by simpa using h)]
    simp [madeCells, h, at32, U32, Nat.mod_one]
  · rw [Array.getElem?_eq_none (by simp [madeCells]; omega), Array.getElem?_eq_none (by simp; omega)]
theorem mk70 (w : World) : (Instr.makeSlice 70 (.int .i64 64) (.int .i64 64)).run Tryd.prog w = .ok (.slice (some ⟨w.heap.size, 0, none⟩) 64 64) (w.alloc (.cells (e32 (padZ [])) 30)) := by
  obtain ⟨i0, hi0, hz0, hz1, hz2⟩ := info_parts info30
  have := run_makeSlice (P := Tryd.prog) w 70 30 i0 _ Tryd.underlying70 hi0 hz0 .i64 .i64 64 64 (by omega) (by omega) (by rw [hz1]; omega) (by rw [hz2]; omega) (by omega)
  rw [hz1] at this
  rw [this, show e32 (padZ []) = madeCells #[Value.int .u32 0] 64 from (made32 64).symm]
  rfl
theorem cell_set_off {w : World} {b o o' : Nat} {v : Value} (h : w.cell? ⟨b, o, none⟩ = some v) (u : Value) (hne : o' ≠ o) : (w.setCell ⟨b, o', none⟩ u).cell? ⟨b, o, none⟩ = some v :=
  (World.cell?_setCell_other w ⟨b, o', none⟩ ⟨b, o, none⟩ u (fun e => hne (by injection e))).trans h
/-- What stays through the rounds. -/
def PW (h : List (BitVec 32)) (bl : Msg) (w : World) (g3 : Nat) (wr : World) : Prop := Blk wr w.heap.size 31 (e32 h) ∧ Blk wr (w.heap.size + 1 + 1) 30 (e32 (sched bl)) ∧ Blk wr g3 68 (e32 KK) ∧ BlkN wr (w.heap.size + 1) 31 8 ∧ Below w.heap.size w wr ∧ w.heap.size + 1 + 1 < wr.heap.size ∧ g3 < wr.heap.size
theorem PW.drewN {h : List (BitVec 32)} {bl : Msg} {w : World} {g3 : Nat} {wr : World} (p : PW h bl w g3 wr) (n : Nat) : PW h bl w g3 (wr.drewN n) :=
  ⟨p.1, p.2.1, p.2.2.1, p.2.2.2.1, below_drewN p.2.2.2.2.1 n, p.2.2.2.2.2⟩
def PRel2 (h : List (BitVec 32)) (bl : Msg) (w : World) (g3 : Nat) (va vb vc vd ve vf vg vh i : Value) (wr : World) : Prop := ∃ k : Nat, k ≤ 64 ∧ i = .int .i64 k ∧ va = .int .u32 (U32 (runR h (sched bl) k).a) ∧ vb = .int .u32 (U32 (runR h (sched bl) k).b) ∧ vc = .int .u32 (U32 (runR h (sched bl) k).c) ∧ vd = .int .u32 (U32 (runR h (sched bl) k).d) ∧
  ve = .int .u32 (U32 (runR h (sched bl) k).e) ∧ vf = .int .u32 (U32 (runR h (sched bl) k).f) ∧ vg = .int .u32 (U32 (runR h (sched bl) k).g) ∧ vh = .int .u32 (U32 (runR h (sched bl) k).h) ∧ PW h bl w g3 wr
/-- Of eight words the first k are added up. -/
def addk (h : List (BitVec 32)) (l : List (BitVec 32)) (k : Nat) : List (BitVec 32) := (List.range 8).map fun i => if i < k then at32 l i + at32 h i else at32 l i
def st8 (s : St) : List (BitVec 32) := [s.a, s.b, s.c, s.d, s.e, s.f, s.g, s.h]
theorem addk_len (h l : List (BitVec 32)) (k : Nat) : (addk h l k).length = 8 := by simp [addk]
theorem addk_at (h l : List (BitVec 32)) (k i : Nat) (hi : i < 8) : at32 (addk h l k) i = if i < k then at32 l i + at32 h i else at32 l i := by
  simp [at32, addk, hi]
theorem addk_step (h l : List (BitVec 32)) (k : Nat) (_hk : k < 8) : (addk h l k).set k (at32 l k + at32 h k) = addk h l (k + 1) := by
  apply List.ext_getElem
  · simp [addk]
  · intro i h1 h2
    have hi : i < 8 := by rw [addk_len] at h2; exact h2
    simp only [List.getElem_set, addk, List.getElem_map, List.getElem_range]
    by_cases e : k = i
    · subst e; simp
    · rw [if_neg e]
      by_cases hlt : i < k
      · rw [if_pos hlt, if_pos (by omega)]
      · rw [if_neg hlt, if_neg (by omega)]
theorem addk_zero (h : List (BitVec 32)) (s : St) : addk h (st8 s) 0 = st8 s := rfl
theorem addk_all (h : List (BitVec 32)) (s : St) : addk h (st8 s) 8 = fin8 h s := by
  simp only [addk, fin8, List.range_succ, List.range_zero, List.nil_append, List.cons_append, List.map_cons, List.map_nil]
  simp [st8, at32, BitVec.add_comm]
def PRel3 (h : List (BitVec 32)) (s : St) (w : World) (g4 : Nat) (i : Value) (wr : World) : Prop := ∃ k : Nat, k ≤ 8 ∧ i = .int .i64 k ∧ Blk wr w.heap.size 31 (e32 h) ∧ Blk wr g4 31 (e32 (addk h (st8 s) k)) ∧ BlkN wr (w.heap.size + 1) 31 8 ∧ Below w.heap.size w wr
def PRel (h : List (BitVec 32)) (bl : Msg) (w : World) (i : Value) (wr : World) : Prop := ∃ k : Nat, k ≤ 64 ∧ i = .int .i64 k ∧ Blk wr (w.heap.size + 1 + 1) 30 (e32 (padZ (G bl k))) ∧ Blk wr w.heap.size 31 (e32 h) ∧ BlkN wr (w.heap.size + 1) 31 8 ∧ Below w.heap.size w wr ∧ w.heap.size + 1 + 1 < wr.heap.size
set_option maxRecDepth 100000 in
set_option maxHeartbeats 2000000 in
theorem rpress_walk (h : List (BitVec 32)) (bl : Msg) (A : Option Addr) (c : Nat) (w : World) (hh : h.length = 8) (hl : bl.length = 64) (hc : 64 ≤ c) (hcm : c ≤ maxLen) (hR : RdB w A bl) :
    Calls Tryd.prog 24 #[.agg (e32 h), .slice A 64 c] w fun e w' => e = .returned (.agg (e32 (press h bl))) ∧ Below w.heap.size w w' := by
  unfold maxLen at hcm
  have HH := Lib.hid hh
  have HL := Lib.hid hl
  obtain ⟨b, o, hA, hblt, hcell⟩ := hR (by omega)
  have HA := Lib.hid hA
  clear hh hl hcell
  subst hA
  go_enter Tryd.func24, Tryd.ntmps24
  have hmk := mk70
  go_wp2_with fail
  rw [zeros31]
  generalize hW : World.alloc (World.alloc (World.alloc w _) _) _ = w1
  obtain ⟨b0, b1, b2, hb, hs⟩ := facts3 hW
  clear hW hmk
  have hs1 : w.heap.size + 1 + 1 < w1.heap.size := by omega
  clear hs
  have bN := b1.toN (n := 8) (by rw [e32_size, pad8_len _ (by simp)])
  clear b1
  go_loopw [24] (fun i wr => PRel h bl w i wr) (fun i _ => 64 - (intOf i).toNat)
  case atStart => exact ⟨0, by omega, rfl, b2, b0, bN, hb, hs1⟩
  case round =>
    clear b0 b2 bN hb hs1
    obtain ⟨k, hk, rfl, b2, b0, bN, hb, hs1⟩ := hrel
    by_cases hlt : k < 64
    · by_cases hlo : k < 16
      · have i1 : (0 : Int) ≤ 4 * ↑k := by omega
        have i2 : (4 * ↑k : Int) ≤ 4 * ↑k + 4 := by omega
        have i3 : (4 * ↑k + 4 : Int) ≤ ↑c := by omega
        have cw := (b2.cell k).trans (e32_at _ k (by rw [padZ_len _ (by rw [G_len]; omega)]; omega))
        have fw := b2.frozen k
        have hrp := (hR.part (4 * k) 4 b o rfl (by rw [HL.out]; omega)).below hb
        have hlen : ((bl.drop (4 * k)).take 4).length = 4 := by rw [List.length_take, List.length_drop, HL.out]; omega
        have hvw := value_walk ((bl.drop (4 * k)).take 4) (some ⟨b, o + 4 * k, none⟩) (c - 4 * k) wr (by rw [hlen]; omega) hrp
        rw [hlen] at hvw
        have HVW := Lib.hid hvw
        clear hvw hrp hlen
        go_wp2_with fail
        refine HVW.out.mono ?_
        rintro e w' ⟨rfl, rfl⟩
        go_wp2_with fail
        rw [wat_val bl k (by rw [HL.out]; omega)]
        go_roundw
        case rel =>
          refine ⟨k + 1, by omega, by go_num, ?_, ?_, ?_, ?_, ?_⟩
          · have := b2.set_ k (v32 (wat bl k))
            unfold v32 at this
            rw [e32_set, padZ_set _ _ k (G_len _ _) (by omega), ← G_lo bl k hlo] at this
            exact this
          · exact b0.far (by simp; omega) _
          · obtain ⟨cs, hn, hB⟩ := bN
            exact ⟨cs, hn, hB.far (by simp) _⟩
          · exact hb.setCell (by simp; omega) _
          · rw [World.size_setCell]; exact hs1
        case measure => simp [intOf]; omega
      · have hG := G_len bl k
        have hP : (padZ (G bl k)).length = 64 := padZ_len _ (by omega)
        have cw := (b2.cell k).trans (e32_at _ k (by omega))
        have c16 := (b2.cell (k - 16)).trans (e32_at _ (k - 16) (by omega))
        have c15 := (b2.cell (k - 15)).trans (e32_at _ (k - 15) (by omega))
        have c7 := (b2.cell (k - 7)).trans (e32_at _ (k - 7) (by omega))
        have c2 := (b2.cell (k - 2)).trans (e32_at _ (k - 2) (by omega))
        rw [padZ_at _ _ (by omega)] at c16 c15 c7 c2
        have HG := Lib.hid hG
        have hnx := nxt_ref (G bl k) k hG
        have HN := Lib.hid hnx
        clear hG hP hnx
        have fw := b2.frozen k
        have i1 : (0 : Int) ≤ ↑k - 16 := by omega
        have i2 : (0 : Int) ≤ ↑k - 15 := by omega
        have i3 : (0 : Int) ≤ ↑k - 7 := by omega
        have i4 : (0 : Int) ≤ ↑k - 2 := by omega
        have l1 : (16 : Int) ≤ ↑k := by omega
        have l2 : (15 : Int) ≤ ↑k := by omega
        have l3 : (7 : Int) ≤ ↑k := by omega
        have l4 : (2 : Int) ≤ ↑k := by omega
        have j1 : (↑k : Int) - 16 < 64 := by omega
        have j2 : (↑k : Int) - 15 < 64 := by omega
        have j3 : (↑k : Int) - 7 < 64 := by omega
        have j4 : (↑k : Int) - 2 < 64 := by omega
        generalize at32 (G bl k) (k - 16) = x16 at *
        generalize at32 (G bl k) (k - 15) = x15 at *
        generalize at32 (G bl k) (k - 7) = x7 at *
        generalize at32 (G bl k) (k - 2) = x2 at *
        go_wp2_with fail
        refine wp_region_plan (fun w' => w'.cell? ⟨w.heap.size + 1 + 1, k - 16, none⟩ = some (.int .u32 (U32 x16)) ∧ w'.cell? ⟨w.heap.size + 1 + 1, k - 15, none⟩ = some (.int .u32 (U32 x15)) ∧ w'.cell? ⟨w.heap.size + 1 + 1, k - 7, none⟩ = some (.int .u32 (U32 x7)) ∧ w'.cell? ⟨w.heap.size + 1 + 1, k - 2, none⟩ = some (.int .u32 (U32 x2)))
          [(0, true), (1, true), (2, true), (3, true), (4, true), (5, true), (6, true), (7, true), (8, true), (9, true), (10, true), (11, true), (13, true), (14, true), (15, true), (16, true), (17, true), (20, true), (21, true), (22, true), (23, true), (24, true), (25, true), (28, true), (29, true), (30, true), (31, true), (32, true), (34, true), (35, true), (36, true), (37, true), (38, true), (40, true), (41, true), (42, true), (43, true), (44, true), (47, true), (48, true), (49, true), (50, true), (51, true), (52, true), (12, false), (18, false), (19, true), (26, true), (27, true), (33, true), (39, false), (45, false), (46, true), (53, true), (54, true), (55, true), (56, false)]
          (by kernel_rfl) (by kernel_rfl) (by decide) (by kernel_rfl) (fun d _ _ _ _ h => by cases d <;> exact h) ⟨c16, c15, c7, c2⟩ (fun _ => ?_)
        repeat
          refine wpPlan_read (v := ?_) (by rfl) (by rfl) (fun w' hS' => ?_) ?_
          rotate_left 1
          · obtain ⟨s16, s15, s7, s2⟩ := hS'
            go_simp; try go_bits
            with_reducible rfl
          simp only [Act.put, List.setIfInBounds_toArray, List.set_cons_zero, List.set_cons_succ]
        refine wpPlan_act (by rfl) (by rfl) (fun K hK => ?_)
        go_wp2_with fail
        refine (turn_walk _ 7 _ _ (by rfl) (by decide)).mono ?_; rintro e w' ⟨rfl, n1, rfl⟩
        refine hK _ _ ⟨⟨c16, c15, c7, c2⟩, ?_⟩
        clear hK K
        refine wpPlan_act (by rfl) (by rfl) (fun K hK => ?_)
        go_wp2_with fail
        refine (turn_walk _ 18 _ _ (by rfl) (by decide)).mono ?_; rintro e w' ⟨rfl, n2, rfl⟩
        refine hK _ _ ⟨⟨c16, c15, c7, c2⟩, ?_⟩
        clear hK K
        repeat
          refine wpPlan_read (v := ?_) (by rfl) (by rfl) (fun w' hS' => ?_) ?_
          rotate_left 1
          · obtain ⟨s16, s15, s7, s2⟩ := hS'
            go_simp; try go_bits
            with_reducible rfl
          simp only [Act.put, List.setIfInBounds_toArray, List.set_cons_zero, List.set_cons_succ]
        refine wpPlan_act (by rfl) (by rfl) (fun K hK => ?_)
        go_wp2_with fail
        refine (turn_walk _ 17 _ _ (by rfl) (by decide)).mono ?_; rintro e w' ⟨rfl, n3, rfl⟩
        refine hK _ _ ⟨⟨c16, c15, c7, c2⟩, ?_⟩
        clear hK K
        refine wpPlan_act (by rfl) (by rfl) (fun K hK => ?_)
        go_wp2_with fail
        refine (turn_walk _ 19 _ _ (by rfl) (by decide)).mono ?_; rintro e w' ⟨rfl, n4, rfl⟩
        refine hK _ _ ⟨⟨c16, c15, c7, c2⟩, ?_⟩
        clear hK K
        repeat
          refine wpPlan_read (v := ?_) (by rfl) (by rfl) (fun w' hS' => ?_) ?_
          rotate_left 1
          · obtain ⟨s16, s15, s7, s2⟩ := hS'
            go_simp; try go_bits
            with_reducible rfl
          simp only [Act.put, List.setIfInBounds_toArray, List.set_cons_zero, List.set_cons_succ]
        refine wpPlan_act (by rfl) (by rfl) (fun K hK => ?_)
        go_step
        refine hK _ _ ⟨⟨cell_set_off c16 _ (by omega), cell_set_off c15 _ (by omega), cell_set_off c7 _ (by omega), cell_set_off c2 _ (by omega)⟩, wpPlan_nil ?_⟩
        clear hK K c16 c15 c7 c2
        have hN : x16 + (rotr x15 7 ^^^ rotr x15 18 ^^^ x15 >>> 3) + x7 + (rotr x2 17 ^^^ rotr x2 19 ^^^ x2 >>> 10) = nxt (G bl k) := HN.out
        rw [hN]
        clear hN
        have b2' : Blk (wr.drewN (1 + n1 + n2 + n3 + n4)) (w.heap.size + 1 + 1) 30 (e32 (padZ (G bl k))) := b2
        have b0' : Blk (wr.drewN (1 + n1 + n2 + n3 + n4)) w.heap.size 31 (e32 h) := b0
        have bN' : BlkN (wr.drewN (1 + n1 + n2 + n3 + n4)) (w.heap.size + 1) 31 8 := bN
        have hb' : Below w.heap.size w (wr.drewN (1 + n1 + n2 + n3 + n4)) := below_drewN hb _
        have hs' : w.heap.size + 1 + 1 < (wr.drewN (1 + n1 + n2 + n3 + n4)).heap.size := hs1
        generalize (wr.drewN (1 + n1 + n2 + n3 + n4)) = wq at b2' b0' bN' hb' hs' ⊢
        clear b2 b0 bN hb hs1
        go_wp2_with fail
        go_roundw
        case rel =>
          refine ⟨k + 1, by omega, by go_num, ?_, ?_, ?_, ?_, ?_⟩
          · have := b2'.set_ k (v32 (nxt (G bl k)))
            unfold v32 at this
            rw [e32_set, padZ_set _ _ k HG.out (by omega), ← G_hi bl k (by omega)] at this
            exact this
          · exact b0'.far (by simp; omega) _
          · obtain ⟨cs, hn, hB⟩ := bN'
            exact ⟨cs, hn, hB.far (by simp) _⟩
          · exact hb'.setCell (by simp; omega) _
          · rw [World.size_setCell]; exact hs'
        case measure => simp [intOf]; omega
    · have hk64 : k = 64 := by omega
      rw [hk64, G_all, padZ_full _ (sched_len _)] at b2
      clear hk64
      have c0 := (b0.cell 0).trans (e32_at h 0 (by rw [HH.out]; omega))
      have c1 := (b0.cell 1).trans (e32_at h 1 (by rw [HH.out]; omega))
      have c2 := (b0.cell 2).trans (e32_at h 2 (by rw [HH.out]; omega))
      have c3 := (b0.cell 3).trans (e32_at h 3 (by rw [HH.out]; omega))
      have c4 := (b0.cell 4).trans (e32_at h 4 (by rw [HH.out]; omega))
      have c5 := (b0.cell 5).trans (e32_at h 5 (by rw [HH.out]; omega))
      have c6 := (b0.cell 6).trans (e32_at h 6 (by rw [HH.out]; omega))
      have c7 := (b0.cell 7).trans (e32_at h 7 (by rw [HH.out]; omega))
      go_wp2_with fail
      go_quiet (fail)
      clear c0 c1 c2 c3 c4 c5 c6 c7
      replace b0 := b0.drewN nq
      replace b2 := b2.drewN nq
      replace bN : BlkN (wr.drewN nq) (w.heap.size + 1) 31 8 := bN
      replace hb := below_drewN hb nq
      replace hs1 : w.heap.size + 1 + 1 < (wr.drewN nq).heap.size := hs1
      generalize wr.drewN nq = wr at b0 b2 bN hb hs1 ⊢
      go_wp2_with (first
        | (go_at_call 43; refine (roots_walk _).mono ?_; rintro e w3 ⟨rfl, hb3⟩
           replace b0 := b0.below hb3 (by omega)
           replace b2 := b2.below hb3 (by omega)
           replace bN := bN.below hb3 (by omega)
           replace hb := hb.trans (hb3.mono hb.size)
           replace hs1 := Nat.lt_of_lt_of_le hs1 hb3.size
           clear hb3)
        | (generalize hW : World.alloc w3 _ = w4
           obtain ⟨b4, hb4, hs4⟩ := facts1 hW
           clear hW
           rw [zeros68] at b4
           replace b0 := b0.below hb4 (by omega)
           replace b2 := b2.below hb4 (by omega)
           replace bN := bN.below hb4 (by omega)
           replace hb := hb.trans (hb4.mono hb.size)
           have hs2 := hs1
           have hs3 : w3.heap.size < w4.heap.size := by omega
           clear hb4 hs4 hs1
           refine wpL_store b4 rfl 68 (.tmp 15) (.tmp 114) rfl 0 (e32 KK) rfl rfl i68 (by rw [KK_size, e32_size, padZ_len _ (by simp)]; omega) (e32_one _) ?_
           intro w5 b5 hs5 hg5
           rw [spl_all _ _ (by rw [KK_size, e32_size, padZ_len _ (by simp)])] at b5
           replace b0 := b0.grown hg5 (by simp; omega)
           replace b2 := b2.grown hg5 (by simp; omega)
           obtain ⟨cs, hn, hB⟩ := bN
           have bN5 : BlkN w5 (w.heap.size + 1) 31 8 := ⟨cs, hn, hB.grown hg5 (by simp; omega)⟩
           replace hb := hb.grown hg5 hb.size (by intro k hk; cases hk; omega)
           rw [← hs5] at hs3
           clear hs5 hg5 b4 hB hn))
      generalize hg3 : w3.heap.size = g3 at *
      clear hg3
      have hPW : PW h bl w g3 w5 := ⟨b0, b2, b5, bN5, hb, by omega, hs3⟩
      clear b0 b2 b5 bN5 hb hs3
      go_loopw [7, 8, 9, 10, 11, 12, 13, 14, 117] (fun va vb vc vd ve vf vg vh i wr => PRel2 h bl w g3 va vb vc vd ve vf vg vh i wr) (fun _ _ _ _ _ _ _ _ i _ => 64 - (intOf i).toNat)
      case atStart => exact ⟨0, by omega, rfl, rfl, rfl, rfl, rfl, rfl, rfl, rfl, rfl, hPW⟩
      case round =>
        clear hPW
        obtain ⟨j, hj, rfl, rfl, rfl, rfl, rfl, rfl, rfl, rfl, rfl, hPW⟩ := hrel
        generalize hs : runR h (sched bl) j = s
        have HSt := Lib.hid hs
        clear hs
        by_cases hjt : j < 64
        · have ck := (hPW.2.2.1.cell j).trans (e32_at KK j hjt)
          have cw := (hPW.2.1.cell j).trans (e32_at (sched bl) j (by rw [sched_len]; omega))
          go_wp2_with fail
          go_quiet ((first
            | exact Calls.quiet_of (turn_walk _ 6 _ _ (by rfl) (by decide))
            | exact Calls.quiet_of (turn_walk _ 11 _ _ (by rfl) (by decide))
            | exact Calls.quiet_of (turn_walk _ 25 _ _ (by rfl) (by decide))))
          clear ck cw
          go_wp2_with (first
            | (go_at_call 42; refine (turn_walk _ 2 _ _ (by rfl) (by decide)).mono ?_; rintro e w' ⟨rfl, n1, rfl⟩)
            | (go_at_call 42; refine (turn_walk _ 13 _ _ (by rfl) (by decide)).mono ?_; rintro e w' ⟨rfl, n2, rfl⟩)
            | (go_at_call 42; refine (turn_walk _ 22 _ _ (by rfl) (by decide)).mono ?_; rintro e w' ⟨rfl, n3, rfl⟩))
          go_roundw
          case rel =>
            have e : runR h (sched bl) (j + 1) = stp s (at32 KK j) (at32 (sched bl) j) := by rw [runR, HSt.out]
            refine ⟨j + 1, by omega, by go_num, ?_⟩
            rw [e]
            exact ⟨rfl, rfl, rfl, rfl, rfl, rfl, rfl, rfl, hPW.drewN _⟩
          case measure => simp [intOf]; omega
        · have hj64 : j = 64 := by omega
          rw [hj64] at HSt
          clear hj64
          obtain ⟨b0, _, _, bN, hb, hs1, _⟩ := hPW
          go_wp2_with (
            generalize hW : World.alloc wr _ = w6
            obtain ⟨b6, hb6, hs6⟩ := facts1 hW
            clear hW
            rw [zeros31] at b6
            replace b0 := b0.below hb6 (by omega)
            replace bN := bN.below hb6 (by omega)
            replace hb := hb.trans (hb6.mono hb.size)
            refine wpL_store b6 rfl 31 (.tmp 19) (.tmp 189) rfl 0 (e32 (st8 s)) rfl rfl i31 (by rw [e32_size, e32_size, pad8_len _ (by simp)]; simp [st8]) (e32_one _) ?_
            intro w7 b7 hs7 hg7
            rw [spl_all _ _ (by rw [e32_size, e32_size, pad8_len _ (by simp)]; rfl)] at b7
            replace b0 := b0.grown hg7 (by simp; omega)
            obtain ⟨cs, hn, hB⟩ := bN
            have bN7 : BlkN w7 (w.heap.size + 1) 31 8 := ⟨cs, hn, hB.grown hg7 (by simp; omega)⟩
            replace hb := hb.grown hg7 hb.size (by intro k hk; cases hk; omega)
            clear hs7 hg7 b6 hB hn hb6 hs6)
          have hs4 : w.heap.size + 1 + 1 < wr.heap.size := hs1
          generalize hg4 : wr.heap.size = g4 at *
          clear hg4
          go_loopw [190] (fun i wr => PRel3 h s w g4 i wr) (fun i _ => 8 - (intOf i).toNat)
          case atStart => exact ⟨0, by omega, rfl, b0, b7, bN7, hb⟩
          case round =>
            clear b0 b7 bN7 hb
            obtain ⟨m, hm, rfl, b0, b7, bN7, hb⟩ := hrel
            by_cases hmt : m < 8
            · have c0 := (b0.cell m).trans (e32_at h m (by rw [HH.out]; omega))
              have c1 := (b7.cell m).trans (e32_at _ m (by rw [addk_len]; omega))
              rw [addk_at _ _ _ _ hmt, if_neg (by omega)] at c1
              have f1 := b7.frozen m
              have l1 : (0 : Int) ≤ ↑m := by omega
              have l2 : (↑m : Int) < 8 := by omega
              go_wp2_with fail
              go_region
              go_wp2_with fail
              go_roundw
              case rel =>
                refine ⟨m + 1, by omega, by go_num, ?_, ?_, ?_, ?_⟩
                · exact b0.far (by simp; omega) _
                · have := b7.set_ m (v32 (at32 (st8 s) m + at32 h m))
                  unfold v32 at this
                  rw [e32_set, addk_step _ _ _ hmt] at this
                  exact this
                · obtain ⟨cs, hn, hB⟩ := bN7
                  exact ⟨cs, hn, hB.far (by simp; omega) _⟩
                · exact (hb.setCell (p := ⟨g4, m, none⟩) (by simp; omega) _).drew
              case measure => simp [intOf]; omega
            · have hm8 : m = 8 := by omega
              rw [hm8, addk_all] at b7
              have hfin : fin8 h s = press h bl := by rw [press, rnds, HSt.out]
              have hsz : (e32 (fin8 h s)).size = 8 := by rw [hfin, e32_size, press_len]
              have HF := Lib.hid hfin
              have HSZ := Lib.hid hsz
              clear hm8 hfin hsz
              obtain ⟨cs, hn, hB⟩ := bN7
              have HN8 := Lib.hid hn
              clear hn
              generalize fin8 h s = F at *
              go_wp2_with (first
                | (refine wpL_load b7 rfl 31 (.tmp 19) rfl 0 8 rfl _ Tryd.underlying31 rfl i31 (by rw [HSZ.out]; omega) ?_
                   rw [show (e32 F).extract 0 (0 + 8) = e32 F from by rw [show 0 + 8 = (e32 F).size from by rw [HSZ.out]]; simp])
                | (refine wpL_store hB rfl 31 (.tmp 4) (.tmp 202) rfl 0 _ rfl rfl (i31.trans (congrArg some HSZ.out.symm)) (by rw [HSZ.out, HN8.out]; omega) (e32_one _) ?_
                   intro w8 b8 hs8 hg8
                   rw [spl_all _ _ (by rw [HSZ.out, HN8.out])] at b8
                   replace hb := hb.grown hg8 hb.size (by intro k hk; cases hk; omega)))
              exact ret_row Tryd.results24 b8 rfl Tryd.underlying31 rfl (i31.trans (congrArg some HSZ.out.symm)) rfl ⟨by rw [HF.out], hb⟩
end Go.Proofs.YtelcblmconophaaDoor
