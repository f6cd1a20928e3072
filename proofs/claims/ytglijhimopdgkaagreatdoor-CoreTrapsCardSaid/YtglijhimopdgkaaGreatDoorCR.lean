/- The core: steps of ADDI and MRET, and interrupts, as they leave a core. -/
import Derived.Test.YtglijhimopdgkaaGreatDoorCQ
import Derived.Test.YtglijhimopdgkaaGreatDoorCM
namespace Go.Proofs.YtglijhimopdgkaaGreatDoor
open Go.RowKit
set_option maxRecDepth 100000
set_option maxHeartbeats 20000000
attribute [local irreducible] wdV opV fR fA fB fI fC isV
theorem inc_ok {s : CoS} {i : InS} (h : wrtB i = false) : incO (okO s i) = ⟨⟨s.x, s.pc, upW s.c 8 (s.c 8 + BitVec.ofInt 32 1)⟩, false, 0, i, 0, 0, fun _ => 0⟩ := by
  have hc : wroteC (okO s i) = false := by
    unfold wroteC
    show (wrtB i && _) = false
    rw [h]; rfl
  unfold incO
  rw [hc]
  rfl
theorem step_mret {st : Nat} {me : MeS} {m : Nat → BitVec 8} {w : Nat → BitVec 32} {s : CoS} {t : Bool} {wd : BitVec 32} (hi : ¬ intB (tmS s t)) (ha : Al4 s.pc) (hf : (ftK st s.pc).2.2 = 0) (hw : fwV st me m w s.pc = wd) (hv : isV wd = true) (ho : opV wd = BitVec.ofInt 8 41) :
    stepO st me m w s t = ⟨⟨(backS (tmS s t)).x, (backS (tmS s t)).pc, upW (backS (tmS s t)).c 8 ((backS (tmS s t)).c 8 + BitVec.ofInt 32 1)⟩, false, 0, dcS wd, 0, 0, fun _ => 0⟩ ∧ stepM st me m w s t = me := by
  obtain ⟨e, e'⟩ := step_at (m := m) (w := w) hi ha hf hw hv
  obtain ⟨e1, e2, e3⟩ := ex_mret (st := st) (me := me) (m := m) (w := w) (s := tmS s t) (i := dcS wd) (wd := wd) ho
  rw [e, e1, e', e2, inc_ok e3]
  exact ⟨rfl, rfl⟩
theorem back_is (s : CoS) : (backS s).x = s.x ∧ (backS s).pc = s.c 4 ∧ (backS s).c 8 = s.c 8 ∧ (backS s).c 1 = s.c 1 ∧ (backS s).c 2 = s.c 2 ∧ (backS s).c 0 = if s.c 0 &&& BitVec.ofInt 32 128 = BitVec.ofInt 32 0 then BitVec.ofInt 32 128 else BitVec.ofInt 32 136 := by
  refine ⟨rfl, rfl, rfl, rfl, rfl, ?_⟩
  show (if s.c 0 &&& BitVec.ofInt 32 128 = BitVec.ofInt 32 0 then BitVec.ofInt 32 128 else BitVec.ofInt 32 128 ||| BitVec.ofInt 32 8) &&& btV 0 = _
  split
  · decide
  · decide
theorem tm_is (s : CoS) (t : Bool) : (∀ j, (tmS s t).x j = if j = 0 then 0 else s.x j) ∧ (tmS s t).pc = s.pc ∧ (∀ j, ¬ j = 7 → (tmS s t).c j = s.c j) := by
  refine ⟨fun j => rfl, rfl, fun j h => if_neg h⟩
end Go.Proofs.YtglijhimopdgkaaGreatDoor
