/- The core: what traps, and what a trap leaves. -/
import Derived.Test.YtglijhimopdgkaaGreatDoorCS
import Derived.Test.YtglijhimopdgkaaGreatDoorCY
namespace Go.Proofs.YtglijhimopdgkaaGreatDoor
open Go.RowKit
set_option maxRecDepth 100000
set_option maxHeartbeats 20000000
attribute [local irreducible] wdV opV fR fA fB fI fC isV layF stX cdV enK enW plN aluG takB ldV byV szV chgV
theorem no_tr {p : Prop} (h : false = true) : p := absurd h (by decide)
def TrapX (o : CoO) (s : CoS) : Prop := ∃ ca va, o = trapO s ca va
theorem jmp_tr {s : CoS} {i : InS} {to : BitVec 32} (h : (jmpO s i to).tr = true) : TrapX (jmpO s i to) s := by
  unfold jmpO at h ⊢
  by_cases ha : Al4 to
  · rw [if_pos ha] at h; exact no_tr h
  · rw [if_neg ha]; exact ⟨_, _, rfl⟩
theorem bra_tr {s : CoS} {i : InS} (h : (braO s i).tr = true) : TrapX (braO s i) s := by
  unfold braO at h ⊢
  cases ht : takB i.o (s.x i.a.toNat) (s.x i.b.toNat) with
  | true => rw [ht] at h; exact jmp_tr h
  | false => rw [ht] at h; exact absurd (show false = true from h) (by decide)
theorem loa_tr {st : Nat} {ra po m : Nat → BitVec 8} {w : Nat → BitVec 32} {s : CoS} {i : InS} (h : (loaO st ra po m w s i).tr = true) : TrapX (loaO st ra po m w s i) s := by
  unfold loaO at h ⊢
  by_cases h1 : ¬ adS s i % szV i.o = BitVec.ofInt 32 0
  · rw [if_pos h1]; exact ⟨_, _, rfl⟩
  · rw [if_neg h1] at h ⊢
    by_cases h2 : ¬ (ldK st (adS s i) (szV i.o).toNat).2.2 = 0
    · rw [if_pos h2]; exact ⟨_, _, rfl⟩
    · rw [if_neg h2] at h; exact absurd (show false = true from h) (by decide)
theorem sto_tr {st : Nat} {me : MeS} {s : CoS} {i : InS} (h : (stoO st s i).tr = true) : TrapX (stoO st s i) s ∧ stoM st me s i = me := by
  unfold stoO at h ⊢
  unfold stoM
  by_cases h1 : ¬ adS s i % szV i.o = BitVec.ofInt 32 0
  · rw [if_pos h1, if_pos h1]; exact ⟨⟨_, _, rfl⟩, rfl⟩
  · rw [if_neg h1] at h ⊢
    rw [if_neg h1]
    by_cases h2 : ¬ (stK st (adS s i) (szV i.o).toNat).2.2 = 0
    · rw [if_pos h2, if_pos h2]; exact ⟨⟨_, _, rfl⟩, rfl⟩
    · rw [if_neg h2] at h; exact absurd (show false = true from h) (by decide)
theorem exc_tr {s : CoS} {i : InS} {w : BitVec 32} (h : (excO s i w).tr = true) : TrapX (excO s i w) s := by
  unfold excO at h ⊢
  by_cases h1 : ¬ plN i.c < 10
  · rw [if_pos h1]; exact ⟨_, _, rfl⟩
  · rw [if_neg h1] at h ⊢
    cases hw : wrtB i with
    | true =>
      rw [hw, cond_true] at h
      rw [cond_true]
      by_cases h2 : canS i.c
      · rw [if_pos h2] at h; exact absurd (show false = true from h) (by decide)
      · rw [if_neg h2]; exact ⟨_, _, rfl⟩
    | false => rw [hw, cond_false] at h; exact absurd (show false = true from h) (by decide)
theorem ex_tr {st : Nat} {me : MeS} {m : Nat → BitVec 8} {w : Nat → BitVec 32} {s : CoS} {i : InS} {wd : BitVec 32} (h : (exO st me m w s i wd).tr = true) : TrapX (exO st me m w s i wd) s ∧ exM st me s i = me := by
  by_cases hs : i.o = BitVec.ofInt 8 16 ∨ i.o = BitVec.ofInt 8 17 ∨ i.o = BitVec.ofInt 8 18
  · have e : exO st me m w s i wd = stoO st s i := by
      unfold exO
      rcases hs with q | q | q <;> rw [if_neg (by rw [q]; decide), if_neg (by rw [q]; decide), if_neg (by rw [q]; decide), if_neg (by rw [q]; decide), if_neg (by rw [q]; decide), if_neg (by rw [q]; decide), if_pos (by rw [q]; decide)]
    rw [e] at h ⊢
    unfold exM
    rw [if_pos hs]
    exact sto_tr h
  · refine ⟨?_, by unfold exM; rw [if_neg hs]⟩
    unfold exO at h ⊢
    by_cases c1 : i.o = BitVec.ofInt 8 1
    · rw [if_pos c1] at h; exact no_tr h
    rw [if_neg c1] at h ⊢
    by_cases c2 : i.o = BitVec.ofInt 8 2
    · rw [if_pos c2] at h; exact no_tr h
    rw [if_neg c2] at h ⊢
    by_cases c3 : i.o = BitVec.ofInt 8 3
    · rw [if_pos c3] at h ⊢; exact jmp_tr h
    rw [if_neg c3] at h ⊢
    by_cases c4 : i.o = BitVec.ofInt 8 4
    · rw [if_pos c4] at h ⊢; exact jmp_tr h
    rw [if_neg c4] at h ⊢
    by_cases c5 : i.o = BitVec.ofInt 8 5 ∨ i.o = BitVec.ofInt 8 6 ∨ i.o = BitVec.ofInt 8 7 ∨ i.o = BitVec.ofInt 8 8 ∨ i.o = BitVec.ofInt 8 9 ∨ i.o = BitVec.ofInt 8 10
    · rw [if_pos c5] at h ⊢; exact bra_tr h
    rw [if_neg c5] at h ⊢
    by_cases c6 : i.o = BitVec.ofInt 8 11 ∨ i.o = BitVec.ofInt 8 12 ∨ i.o = BitVec.ofInt 8 13 ∨ i.o = BitVec.ofInt 8 14 ∨ i.o = BitVec.ofInt 8 15
    · rw [if_pos c6] at h ⊢; exact loa_tr h
    rw [if_neg c6, if_neg hs] at h ⊢
    by_cases c7 : i.o = BitVec.ofInt 8 38 ∨ i.o = BitVec.ofInt 8 42
    · rw [if_pos c7] at h; exact no_tr h
    rw [if_neg c7] at h ⊢
    by_cases c8 : i.o = BitVec.ofInt 8 39
    · rw [if_pos c8]; exact ⟨_, _, rfl⟩
    rw [if_neg c8] at h ⊢
    by_cases c9 : i.o = BitVec.ofInt 8 40
    · rw [if_pos c9]; exact ⟨_, _, rfl⟩
    rw [if_neg c9] at h ⊢
    by_cases c10 : i.o = BitVec.ofInt 8 41
    · rw [if_pos c10] at h; exact no_tr h
    rw [if_neg c10] at h ⊢
    by_cases c11 : i.o = BitVec.ofInt 8 43 ∨ i.o = BitVec.ofInt 8 44 ∨ i.o = BitVec.ofInt 8 45 ∨ i.o = BitVec.ofInt 8 46 ∨ i.o = BitVec.ofInt 8 47 ∨ i.o = BitVec.ofInt 8 48
    · rw [if_pos c11] at h ⊢; exact exc_tr h
    rw [if_neg c11] at h
    exact no_tr h
theorem act_tr {st : Nat} {me : MeS} {m : Nat → BitVec 8} {w : Nat → BitVec 32} {s : CoS} (h : (actO st me m w s).tr = true) : TrapX (actO st me m w s) s ∧ actM st me m w s = me := by
  unfold actO at h ⊢
  unfold actM
  by_cases h1 : intB s
  · rw [if_pos h1, if_pos h1]; exact ⟨⟨_, _, rfl⟩, rfl⟩
  rw [if_neg h1] at h ⊢
  rw [if_neg h1]
  by_cases h2 : ¬ Al4 s.pc
  · rw [if_pos h2, if_pos h2]; exact ⟨⟨_, _, rfl⟩, rfl⟩
  rw [if_neg h2] at h ⊢
  rw [if_neg h2]
  by_cases h3 : ¬ (ftK st s.pc).2.2 = 0
  · rw [if_pos h3, if_pos h3]; exact ⟨⟨_, _, rfl⟩, rfl⟩
  rw [if_neg h3] at h ⊢
  rw [if_neg h3]
  by_cases h4 : isV (fwV st me m w s.pc) = false
  · rw [if_pos h4, if_pos h4]; exact ⟨⟨_, _, rfl⟩, rfl⟩
  rw [if_neg h4] at h ⊢
  rw [if_neg h4]
  exact ex_tr h
theorem inc_tr (o : CoO) : (incO o).tr = o.tr := by
  unfold incO
  cases wroteC o <;> rfl
theorem step_tr {st : Nat} {me : MeS} {m : Nat → BitVec 8} {w : Nat → BitVec 32} {s : CoS} {t : Bool} (h0 : s.x 0 = 0) (h : (stepO st me m w s t).tr = true) :
    (∀ j, (stepO st me m w s t).s.x j = s.x j) ∧ (stepO st me m w s t).s.pc = s.c 2 ∧ (stepO st me m w s t).s.c 4 = s.pc &&& BitVec.ofInt 32 4294967292 ∧ (stepO st me m w s t).s.c 5 = (stepO st me m w s t).ca ∧
    ((stepO st me m w s t).s.c 0 = if s.c 0 &&& BitVec.ofInt 32 8 = BitVec.ofInt 32 0 then BitVec.ofInt 32 0 else BitVec.ofInt 32 128) ∧ stepM st me m w s t = me := by
  have h' : (actO st me m w (tmS s t)).tr = true := (inc_tr _).symm.trans h
  obtain ⟨⟨ca, va, e⟩, em⟩ := act_tr h'
  have e2 : stepO st me m w s t = incO (actO st me m w (tmS s t)) := rfl
  rw [e2, e, inc_trap]
  obtain ⟨t1, t2, t3, t4, t5, t6, t7⟩ := trap_is (tmS s t) ca va
  have tm := tm_is s t
  refine ⟨fun j => ?_, ?_, ?_, ?_, ?_, em⟩
  · show (trapS (tmS s t) ca va).x j = s.x j
    rw [t1, tm.1 j]
    by_cases e : j = 0
    · rw [if_pos e, e, h0]
    · rw [if_neg e]
  · show (trapS (tmS s t) ca va).pc = s.c 2
    rw [t2, tm.2.2 2 (by decide)]
  · show upW (trapS (tmS s t) ca va).c 8 ((trapS (tmS s t) ca va).c 8 + BitVec.ofInt 32 1) 4 = _
    unfold upW
    rw [if_neg (by decide), t3, tm.2.1]
  · show upW (trapS (tmS s t) ca va).c 8 ((trapS (tmS s t) ca va).c 8 + BitVec.ofInt 32 1) 5 = ca
    unfold upW
    rw [if_neg (by decide), t4]
    exact (congrArg (ca &&& ·) (show BitVec.ofInt 32 4294967295 = BitVec.allOnes 32 by decide)).trans BitVec.and_allOnes
  · show upW (trapS (tmS s t) ca va).c 8 ((trapS (tmS s t) ca va).c 8 + BitVec.ofInt 32 1) 0 = _
    unfold upW
    rw [if_neg (by decide), trap_0, tm.2.2 0 (by decide)]
theorem tr_back {ra po m : Nat → BitVec 8} {w : Nat → BitVec 32} {s : CoS} (hp : s.pc = codeA) (h4 : ftW ra = wdM) :
    (stepO 1 ⟨ra, po⟩ m w s false).tr = false ∧ (stepO 1 ⟨ra, po⟩ m w s false).s.pc = s.c 4 ∧ ((stepO 1 ⟨ra, po⟩ m w s false).s.c 0 = if s.c 0 &&& BitVec.ofInt 32 128 = BitVec.ofInt 32 0 then BitVec.ofInt 32 128 else BitVec.ofInt 32 136) := by
  obtain ⟨i0, i1, _⟩ := in_mret
  obtain ⟨e, e'⟩ := step_mret (st := 1) (me := ⟨ra, po⟩) (m := m) (w := w) (s := s) (t := false) (int_f s) (by rw [hp]; decide) (by rw [hp, code_at]) (by rw [hp, fw_code, h4]) i0 i1
  rw [e]
  obtain ⟨b1, b2, b3, b4, b5, b6⟩ := back_is (tmS s false)
  have tm := tm_is s false
  refine ⟨rfl, b2.trans (tm.2.2 4 (by decide)), ?_⟩
  show upW (backS (tmS s false)).c 8 ((backS (tmS s false)).c 8 + BitVec.ofInt 32 1) 0 = _
  unfold upW
  rw [if_neg (by decide), b6, tm.2.2 0 (by decide)]
end Go.Proofs.YtglijhimopdgkaaGreatDoor
