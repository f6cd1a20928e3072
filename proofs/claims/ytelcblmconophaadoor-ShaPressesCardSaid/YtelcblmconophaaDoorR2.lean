/- The document's example is met: what every statement of layer 1 asks first. -/
import Derived.Test.YtelcblmconophaaDoorR1
namespace Go.Proofs.YtelcblmconophaaDoor
open Go.RowKit
set_option maxRecDepth 1000000 in
theorem abc_hex : hexL (sha256 [97, 98, 99]) = [98, 97, 55, 56, 49, 54, 98, 102, 56, 102, 48, 49, 99, 102, 101, 97, 52, 49, 52, 49, 52, 48, 100, 101, 53, 100, 97, 101, 50, 50, 50, 51, 98, 48, 48, 51, 54, 49, 97, 51, 57, 54, 49, 55, 55, 97, 57, 99, 98, 52, 49, 48, 102, 102, 54, 49, 102, 50, 48, 48, 49, 53, 97, 100] := by decide +kernel
section
variable {P : Program} {w : World} {ops : Array Oper} {rest : List Oper} {op : Oper} {a : Act} {Q : Exit → Act → World → Prop}
/-- A conversion of bytes to bytes: the block is marked, its cells stay. -/
theorem wpL_conv {g : Nat} {e : TypeId} {C : Array Value} (hB : Blk w g e C) (hgd : op.guard = none) (t : TypeId) (x : Operand) (ho : op.op = .convert t t x) (n c : Nat)
    (hx : a.eval x = .slice (some ⟨g, 0, none⟩) n c) (ht : P.underlying t = some (.slice e)) (he : P.underlying e = some (.int .u8))
    (h : ∀ w', w'.heap[g]? = some (.cells C e (C.size, C.size + 1)) → w'.heap.size = w.heap.size → w.grownBy w' (some g) → wpList P ops Q rest (a.put op.dst (.slice (some ⟨g, 0, none⟩) n c)) w') :
    wpList P ops Q (op :: rest) a w := by
  refine wpList_plain hgd fun K hK => ?_
  have hsh : w.shape? g = some (e, C.size) := by unfold World.shape?; rw [hB]
  have hrun : (convert t t (.slice (some ⟨g, 0, none⟩) n c)).run P w = .ok (.slice (some ⟨g, 0, none⟩) n c) (w.freeze ⟨g, C.size, none⟩ 1) := by
    simp [convert, run_underlying ht, run_underlying he, markStringish, hsh]
  unfold Oper.wp execOp
  simp only [ho, hx, Sem.run_bind, hrun, Result.andThen_ok, Sem.run_pure]
  refine hK _ _ (h _ ?_ ?_ ⟨?_, ?_, ?_, ?_, ?_⟩)
  · unfold Blk at hB; simp [World.freeze, Array.getElem?_modify, hB]
  · simp [World.freeze]
  · simp [World.freeze]
  · simp [World.freeze]
  · simp [World.freeze]
  · simp [World.freeze]
  · intro k _ hne
    simp only [World.freeze, Nat.one_ne_zero, if_false, Array.getElem?_modify]
    rw [if_neg (fun e => hne (by rw [e]))]
end
theorem row_lt {w : World} {g : Nat} {cs : Array Value} {t : TypeId} {fr : Nat × Nat} (h : w.heap[g]? = some (.cells cs t fr)) : g < w.heap.size := by
  rcases Nat.lt_or_ge g w.heap.size with hlt | hge
  · exact hlt
  · rw [Array.getElem?_eq_none hge] at h; cases h
theorem RdB.ofRow {w : World} {g : Nat} {xs : Msg} {t : TypeId} {fr : Nat × Nat} (h : w.heap[g]? = some (.cells (e8 xs) t fr)) : RdB w (some ⟨g, 0, none⟩) xs := fun _ =>
  ⟨g, 0, rfl, row_lt h, fun j hj => by rw [Nat.zero_add, cell_of_row _ _ j (e8 xs) t fr h, e8_at xs j hj]⟩
theorem RdB.grown {w w' : World} {A : Option Addr} {xs : Msg} {r : Option Nat} (h : RdB w A xs) (hg : w.grownBy w' r) (hne : ∀ ad, A = some ad → some ad.block ≠ r) : RdB w' A xs := fun hk => by
  obtain ⟨b, o, hA, hlt, hc⟩ := h hk
  exact ⟨b, o, hA, Nat.lt_of_lt_of_le hlt hg.size, fun j hj => hg.cell (hc j hj) (hne ⟨b, o, none⟩ hA)⟩
theorem pget_val (ps : List Part) (j : Nat) (hj : j < ps.length) : ((ps.map Part.val).toArray)[j]? = some (pget ps j).val := by
  simp [pget, hj]
theorem RdP.ofRow {w : World} {g : Nat} {ps : List Part} {t : TypeId} {fr : Nat × Nat} (h : w.heap[g]? = some (.cells (ps.map Part.val).toArray t fr)) (hok : ∀ p, p ∈ ps → p.ok w) : RdP w (some ⟨g, 0, none⟩) ps :=
  ⟨fun _ => ⟨g, 0, rfl, row_lt h, fun j hj => by rw [Nat.zero_add, cell_of_row _ _ j _ t fr h, pget_val ps j hj]⟩,
    fun j hj => hok _ (by simp [pget, hj])⟩
theorem RdB.ofAlloc (w : World) (xs : Msg) (t : TypeId) (fr : Nat × Nat) : RdB (w.alloc (.cells (e8 xs) t fr)) (some ⟨w.heap.size, 0, none⟩) xs := fun _ =>
  ⟨w.heap.size, 0, rfl, by simp, fun j hj => by
    rw [Nat.zero_add, cell_of_row _ _ j (e8 xs) t fr (heap_alloc_new w _), e8_at xs j hj]⟩
set_option maxHeartbeats 1000000 in
theorem awake1 (w : World) (hT : Tab w) :
    Calls Tryd.prog 12 #[] w fun e w' => e = .returned (.bool true) ∧ Below w.heap.size w w' := by
  have h1 : U64 1#64 = 1 := by decide
  go_enter Tryd.func12, Tryd.ntmps12
  go_wp2_with (first
    | (go_at_call 16; refine (new_walk _ hT).mono ?_; rintro e w1 ⟨rfl, hb⟩)
    | (generalize hW : World.alloc w1 _ = w2
       obtain ⟨b2, hb2, hs2⟩ := facts1 hW
       clear hW
       refine wpL_conv b2 rfl 22 (.tmp 3) rfl 1 1 rfl Tryd.underlying22 Tryd.underlying5 ?_
       intro w3 hr3 hs3 hg3
       have r3 : RdB w3 (some ⟨w1.heap.size, 0, none⟩) [97] := RdB.ofRow hr3
       replace hb := hb.trans ((hb2.grown hg3 hb2.size (by intro k hk; cases hk; omega)).mono hb.size)
       clear hr3 hs3 hg3 b2 hb2 hs2)
    | (go_at_call 17; refine (feed_walk [] [97] _ 1 _ (hT.below hb) (by simp) (by simp) r3).mono ?_; rintro e w4 ⟨rfl, hb4⟩; replace hb := hb.trans (hb4.mono hb.size); clear hb4 r3; rw [List.nil_append])
    | (go_at_call 19; refine (len_walk [97] _).mono ?_; rintro e w5 ⟨rfl, hb5⟩; replace hb := hb.trans (hb5.mono hb.size); clear hb5; rw [show BitVec.ofNat 64 [(97 : BitVec 8)].length = 1#64 from rfl])
    | (generalize hW : World.alloc w5 _ = w6
       obtain ⟨b6, hb6, hs6⟩ := facts1 hW
       clear hW
       refine wpL_conv b6 rfl 22 (.tmp 8) rfl 1 1 rfl Tryd.underlying22 Tryd.underlying5 ?_
       intro w7 hr7 hs7 hg7
       have r7 : RdB w7 (some ⟨w5.heap.size, 0, none⟩) [97] := RdB.ofRow hr7
       have hlt7 : w5.heap.size < w7.heap.size := by omega
       replace hb := hb.trans ((hb6.grown hg7 hb6.size (by intro k hk; cases hk; omega)).mono hb.size)
       clear hr7 hs7 hg7 b6 hb6 hs6)
    | (generalize hW : World.alloc w7 _ = w8
       obtain ⟨b8, hb8, hs8⟩ := facts1 hW
       clear hW
       refine wpL_conv b8 rfl 22 (.tmp 10) rfl 2 2 rfl Tryd.underlying22 Tryd.underlying5 ?_
       intro w9 hr9 hs9 hg9
       have r9 : RdB w9 (some ⟨w7.heap.size, 0, none⟩) [98, 99] := RdB.ofRow hr9
       have hlt9 : w7.heap.size < w9.heap.size := by omega
       have hb9 : Below w7.heap.size w7 w9 := hb8.grown hg9 hb8.size (by intro k hk; cases hk; omega)
       replace r7 := r7.below hb9
       replace hb := hb.trans (hb9.mono hb.size)
       clear hr9 hs9 hg9 b8 hb8 hs8))
  obtain ⟨p1, hp1⟩ : ∃ p : Part, p = ⟨some ⟨w5.heap.size, 0, none⟩, 1, [97]⟩ := ⟨_, rfl⟩
  obtain ⟨p2, hp2⟩ : ∃ p : Part, p = ⟨some ⟨w7.heap.size, 0, none⟩, 2, [98, 99]⟩ := ⟨_, rfl⟩
  have hw10 : Below w9.heap.size w9 (w9.alloc (.cells ([p1, p2].map Part.val).toArray 22)) := (Below.refl _ _).alloc (Nat.le_refl _) _
  have rP : RdP (w9.alloc (.cells ([p1, p2].map Part.val).toArray 22)) (some ⟨w9.heap.size, 0, none⟩) [p1, p2] := RdP.ofRow (heap_alloc_new w9 _) (by
    intro p hp
    simp only [List.mem_cons, List.not_mem_nil, or_false] at hp
    rcases hp with rfl | rfl
    · subst hp1; exact ⟨r7.below hw10, by simp, by simp⟩
    · subst hp2; exact ⟨r9.below hw10, by simp, by simp⟩)
  replace hb := hb.trans (hw10.mono hb.size)
  have hsz : w9.heap.size < (w9.alloc (.cells ([p1, p2].map Part.val).toArray 22)).heap.size := by simp
  have hall : bytesOf [p1, p2] = [97, 98, 99] := by subst hp1 hp2; rfl
  have hobj : (Obj.cells #[.slice (some ⟨w5.heap.size, 0, none⟩) 1 1, .slice (some ⟨w7.heap.size, 0, none⟩) 2 2] 22) = .cells ([p1, p2].map Part.val).toArray 22 := by subst hp1 hp2; rfl
  rw [hobj]
  generalize w9.alloc (.cells ([p1, p2].map Part.val).toArray 22) = w10 at hb rP hsz hw10 ⊢
  refine (ssum_walk [p1, p2] _ 2 _ (hT.below hb) (by simp) rP).mono ?_
  rw [hall]
  rintro e w11 ⟨rfl, hb11⟩
  replace hb := hb.trans (hb11.mono hb.size)
  clear hobj hall rP hw10 hp1 hp2 r7 r9 hb11
  have hz : (e8 (sha256 [97, 98, 99])).size = 32 := by rw [e8_size, sha256_len]
  have hl := sha256_len [97, 98, 99]
  have hxe := abc_hex
  have HXE := Lib.hid hxe
  clear hxe
  generalize sha256 [97, 98, 99] = D at *
  have HZ := Lib.hid hz
  have HL := Lib.hid hl
  clear hz hl
  go_wp2_with (first
    | (generalize hW : World.alloc w11 _ = w12
       obtain ⟨b12, hb12, hs12⟩ := facts1 hW
       clear hW
       rw [zeros27] at b12
       refine wpL_store b12 rfl 27 (.tmp 1) (.tmp 13) rfl 0 _ rfl rfl (i27.trans (congrArg some HZ.out.symm)) (by rw [HZ.out, e8_size]; simp) (e8_one _) ?_
       intro w13 b13 hs13 hg13
       rw [spl_all _ _ (by rw [HZ.out, e8_size]; simp)] at b13
       have hlt13 : w11.heap.size < w13.heap.size := by omega
       replace hb := hb.trans ((hb12.grown hg13 hb12.size (by intro k hk; cases hk; omega)).mono hb.size)
       clear hs13 hg13 b12 hb12 hs12)
    | (go_at_call 37
       rw [show 32 = D.length from HL.out.symm]
       refine (hex_walk D _ _ _ (by rw [HL.out]; omega) (RdB.ofBlk b13 hlt13)).mono ?_
       rintro e w14 ⟨rfl, n, rfl⟩
       rw [HXE.out]))
  go_ret
  exact ⟨rfl, below_drewN hb n⟩
end Go.Proofs.YtelcblmconophaaDoor
