/- Bytes that nobody knows (internal/bytealg.MakeNoZero), and bytes.Repeat of one byte. -/
import Derived.Test.YtldlleoabbcpdaaDoorKB
import Derived.Test.YtldlleoabbcpdaaDoorGH
import Derived.Lib.MakeNoZero
namespace Go.Proofs.YtldlleoabbcpdaaDoor
open Go.RowKit
set_option maxRecDepth 100000
set_option maxHeartbeats 20000000
theorem digits_list : ∀ (n t : Nat) (acc : Array Value), ∃ g : Nat → BitVec 8, (Extern.BytealgMakeNoZero.digits n t acc).toList = acc.toList ++ (List.range n).flatMap fun i => [Value.int .u8 (U8 (g i))]
  | 0, t, acc => ⟨fun _ => 0, by simp [Extern.BytealgMakeNoZero.digits]⟩
  | n + 1, t, acc => by
    obtain ⟨g, h⟩ := digits_list n (t / 256) (acc.push (.int .u8 (Int.ofNat (t % 256))))
    refine ⟨fun i => if i = 0 then BitVec.ofNat 8 (t % 256) else g (i - 1), ?_⟩
    rw [Extern.BytealgMakeNoZero.digits, h, Array.toList_push, List.append_assoc]
    congr 1
    rw [List.range_succ_eq_map, List.flatMap_cons, List.flatMap_map]
    have e : U8 (BitVec.ofNat 8 (t % 256)) = Int.ofNat (t % 256) := by
      unfold U8
      rw [BitVec.toNat_ofNat, Nat.mod_eq_of_lt (by omega)]; rfl
    show [Value.int .u8 (Int.ofNat (t % 256))] ++ _ = [Value.int .u8 (U8 (BitVec.ofNat 8 (t % 256)))] ++ _
    rw [e]
    rfl
theorem run_mknz {P : Program} (w : World) (ps : Array TypeId) (t e : TypeId) (ht : P.underlying t = some (.slice e)) (n : Nat) (hn : n ≤ 1000000000) :
    ∃ (cs : Array Value) (g : Nat → BitVec 8), (Extern.BytealgMakeNoZero.makeNoZero ps #[t] #[.int .i64 n]).run P w = .ok (.slice (some ⟨w.heap.size, 0, none⟩) n cs.size) (w.drew.drew.alloc (.cells cs e)) ∧ n ≤ cs.size ∧ cs.size ≤ maxLen ∧ cs.toList = (List.range cs.size).flatMap fun i => [Value.int .u8 (U8 (g i))] := by
  obtain ⟨qu, s1, s2, hqf, hdef⟩ : ∃ (qu : Question) (s1 s2 : String), qu.forced = false ∧ Extern.BytealgMakeNoZero.makeNoZero ps #[t] #[.int .i64 n] =
      (do
        let .slice elem ← underlying t | stuck s1
        if (n : Int) < 0 || (n : Int) > 2 ^ 48 then runtimePanic (.error s2)
        let cap ← choose (.appendCap (n : Int).toNat 0 elem)
        askRoom cap
        let bytes ← choose qu
        let a ← newRow elem (Extern.BytealgMakeNoZero.digits cap bytes #[])
        pure (.slice (some a) (n : Int).toNat cap)) := by
    refine Exists.intro _ (Exists.intro _ (Exists.intro _ (And.intro ?_ rfl)))
    rfl
  obtain ⟨g, hg⟩ := digits_list (grownCap w n 0 e) (qu.cut (w.tape (w.drawn + 1) qu)) #[]
  refine ⟨Extern.BytealgMakeNoZero.digits (grownCap w n 0 e) (qu.cut (w.tape (w.drawn + 1) qu)) #[], g, ?_, ?_, ?_, ?_⟩
  · rw [hdef]
    have h1 : ¬ (n : Int) < 0 := by omega
    have h2 : ¬ (281474976710656 : Int) < (n : Int) := by omega
    have ha : ∀ a b c, (Question.appendCap a b c).forced = false := fun _ _ _ => rfl
    simp [run_underlying ht, h1, h2, hqf, ha, newRow, Lib.size_digits, grownCap]
  · rw [Lib.size_digits]
    simpa using grownCap_ge w n 0 e
  · rw [Lib.size_digits]
    simpa using grownCap_le_maxLen w n 0 e (by unfold maxLen; omega)
  · rw [Lib.size_digits, hg]
    simp
def C_mknz (e : TypeId) : List AV → Nat → (Res → Prop) → Prop := fun args key K => match args with
  | [.nat n] => 0 < n ∧ n ≤ 1000000000 ∧ ∀ g : Nat → BitVec 8, K ⟨.gsl e key n, [(key, .grow e n (bys g))], []⟩
  | _ => False
theorem mknz_ok {P : Program} {ty : TypeId → Ty} {ps : Array TypeId} {t e : TypeId} (ht : P.underlying t = some (.slice e)) (he : ty e = .int .u8) : ∀ args key K, C_mknz e args key K → ∀ (c : Cx) (vals : List Value), c.ty = ty → MemOK c → c.fb ≤ c.w.heap.size → (∀ j, key ≤ j → j < key + 8 → c.m j = none) → RVs c args vals →
    ∃ r c' v, K r ∧ (Extern.BytealgMakeNoZero.makeNoZero ps #[t] vals.toArray).run P c.w = .ok v c'.w ∧ Step c r.wr c' ∧ RV c' r.v v := by
  intro args key K hC c vals hty hm hb hf hv
  unfold C_mknz at hC
  split at hC
  · rename_i n
    obtain ⟨h0, hn, hK⟩ := hC
    cases hv with
    | cons h1 h2 =>
      cases h2
      rename_i v0
      have hv0 : v0 = .int .i64 n := rv_nat (c := c) h1
      subst hv0
      obtain ⟨cs, g, hrun, hnc, hcm, hcs⟩ := run_mknz c.w ps t e ht n hn
      have hlow : Below c.w.heap.size c.w (c.w.drew.drew.alloc (.cells cs e)) := ((Below.refl _ _).drew.drew).alloc (Nat.le_refl _) _
      have hst := stab_add (c := c) (key := key) (r := .grow e n (bys g)) (bl := some c.w.heap.size) (sv := .slice (some ⟨c.w.heap.size, 0, none⟩) n cs.size) (w := c.w.drew.drew.alloc (.cells cs e)) (hf key (Nat.le_refl _) (by omega)) hlow.size hlow.block
      have hsv : (c.addRow key (.grow e n (bys g)) (some c.w.heap.size) (.slice (some ⟨c.w.heap.size, 0, none⟩) n cs.size) (c.w.drew.drew.alloc (.cells cs e))).sv key = .slice (some ⟨c.w.heap.size, 0, none⟩) n cs.size := if_pos rfl
      have hbl : (c.addRow key (.grow e n (bys g)) (some c.w.heap.size) (.slice (some ⟨c.w.heap.size, 0, none⟩) n cs.size) (c.w.drew.drew.alloc (.cells cs e))).bl key = some c.w.heap.size := if_pos rfl
      have hs1 : (ty e).size = 1 := by rw [he]; rfl
      have htk : cs.toList.take n = (List.range n).flatMap fun i => [Value.int .u8 (U8 (g i))] := by
        obtain ⟨d, hd⟩ := Nat.exists_eq_add_of_le hnc
        rw [hcs, hd, fm_add, List.take_append_of_le_length (by rw [fm_len_const (s := 1) (fun _ _ => rfl)]; omega), List.take_of_length_le (by rw [fm_len_const (s := 1) (fun _ _ => rfl)]; omega)]
      have hr : R c (.agg true n (bys g)) ((List.range n).flatMap fun i => [Value.int .u8 (U8 (g i))]) := ⟨fun i => [Value.int .u8 (U8 (g i))], fun i _ => rfl, rfl⟩
      have hstep := step_add hm hb (key := key) (r := .grow e n (bys g)) (bl := some c.w.heap.size) (sv := .slice (some ⟨c.w.heap.size, 0, none⟩) n cs.size) (w := c.w.drew.drew.alloc (.cells cs e)) (hf key (Nat.le_refl _) (by omega)) hlow (fun b hb => by injection hb with hb; omega)
        (R_grow (R_stab hst hr) (by rw [show (c.addRow key _ _ _ _).ty = ty from hty, he]; exact ⟨rfl, rfl, fun _ _ => trivial⟩) (by
          rw [hsv, show (c.addRow key _ _ _ _).ty = ty from hty, hs1]
          refine ⟨by rw [fm_len_const (s := 1) (fun _ _ => rfl)], .inr ⟨c.w.heap.size, cs.size, cs, rfl, Nat.le_trans hm.bf hb, heap_alloc_new _ _, hnc, hcm, by omega, by rw [Nat.mul_one]; exact htk⟩⟩) (by rw [hsv, hbl]; rfl))
      exact ⟨_, _, _, hK g, hrun, hstep, n, bys g, some ⟨c.w.heap.size, 0, none⟩, cs.size, putM_same _ _ _, Nat.le_refl _, rfl, hnc, hcm, fun _ => ⟨_, rfl⟩, fun _ => hsv⟩
  · exact hC.elim
def ext_mknz : FuncId → Option (List AV → Nat → (Res → Prop) → Prop) := fun f => bif Nat.beq f 53 then some (C_mknz 5) else none
abbrev PX (l : List (FuncId × Ctr)) : Pg := { ty := ty, gl := gl, ctr := ctrOf l, ext := ext_mknz }
theorem pgOKX {l : List (FuncId × Ctr)} (h : AllP (fun q => Gd q.1 q.2) l) : PgOK Tryd.prog (PX l) := ⟨gl_flat, tysOK, mxOK, ctrOK_of h, fun f C hC => by
  have hC : (bif Nat.beq f 53 then some (C_mknz 5) else none) = some C := hC
  cases hb : Nat.beq f 53 with
  | false => rw [hb] at hC; cases hC
  | true =>
    rw [hb] at hC
    injection hC with hC
    subst hC
    have := Nat.eq_of_beq_eq_true hb
    subst this
    exact ⟨Tryd.f53, Extern.BytealgMakeNoZero.makeNoZero #[3] #[25], Tryd.func53, by kernel_rfl, by kernel_rfl, by kernel_rfl, by kernel_rfl, mknz_ok (ps := #[3]) Tryd.underlying25 rfl⟩⟩
end Go.Proofs.YtldlleoabbcpdaaDoor
