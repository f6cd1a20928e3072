/- The core's laws: the example, cores with some registers, the memory held against the document's. -/
import Derived.Test.YtglijhimopdgkaaGreatDoorCI
import Derived.Test.YtglijhimopdgkaaGreatDoorCK
namespace Go.Proofs.YtglijhimopdgkaaGreatDoor
open Go.RowKit
set_option maxRecDepth 100000
set_option maxHeartbeats 20000000
attribute [local irreducible] fdk ck rdF wrRa wrPo layF
def C_l20_memory : SpecP := fun A K => ∃ st ra po P m w l st' a b c d e, A [spI st ra po P m w l, .ipt TMm (mmV st' (bsl 4096 a) (bsl 4096 b) (bsl 10240 c) (bsl 64 d) (bsl 256 e))] ∧
  ((∀ i, i < 4096 → ra i = a i) ∧ (∀ i, i < 4096 → ra (4096 + i) = b i) ∧ ∀ i, i < 64 → po i = d i) ∧ K (.bo true)
theorem g_l20_memory : Gd 17 (pureP ty C_l20_memory) := by
  refine goodP (E := PG [(19, pureP ty C_r1_Same)]) (pgOK ⟨g_r1_Same, trivial⟩) mixes Tryz.func17 (by kernel_rfl) (by kernel_rfl) ?_
  rintro A K ⟨st, ra, po, P, m, w, l, st', a, b, c, d, e, hA, ⟨h1, h2, h3⟩, hK⟩
  refine ⟨_, _, fun _ => none, hA, hK, by kernel_rfl, trivial, ?_⟩
  have e1 : lw 4096 (fun i => ra (0 + i)) = lw 4096 a := lw_c8 fun i hi => by rw [Nat.zero_add]; exact h1 i hi
  have e2 : lw 4096 (fun i => ra (4096 + i)) = lw 4096 b := lw_c8 h2
  have e3 : lw 64 (fun i => po (0 + i)) = lw 64 d := lw_c8 fun i hi => by rw [Nat.zero_add]; exact h3 i hi
  repeat ((conv => whnf); first | refine sdO ?_ | refine nlO ?_ | refine goA ?_ | refine goB ?_ | (apply Exists.intro; (repeat apply Exists.intro); refine caO ?_) | (refine Or.inl ?_; (conv => whnf); (repeat apply Exists.intro); refine caO ?_) | (refine Or.inr ?_; (conv => whnf); first | ((repeat apply Exists.intro); refine caO ?_) | (refine Or.inl ?_; (conv => whnf); (repeat apply Exists.intro); refine caO ?_) | (refine Or.inr ?_; (conv => whnf); (repeat apply Exists.intro); refine caO ?_)) | refine And.intro (by assumption) ?_ | refine goT ?_ | refine goF ?_ | refine goL ?_ | refine goR ?_ | refine goRL ?_ | refine goRR ?_)
  all_goals try (conv => whnf)
  exact decide_eq_true e3
theorem code_at : ftK 1 (BitVec.ofInt 32 536870912) = (1, 0, 0) := by
  have h : ck 1 (1 : Nat) (BitVec.ofInt 32 536870912).toNat 4 false true = (1, 0, 0) := by unfold ck; decide
  unfold ftK fdk
  rw [h]
  rfl
theorem step_at {st : Nat} {me : MeS} {m : Nat → BitVec 8} {w : Nat → BitVec 32} {s : CoS} {t : Bool} {wd : BitVec 32} (hi : ¬ intB (tmS s t)) (ha : Al4 s.pc) (hf : (ftK st s.pc).2.2 = 0) (hw : fwV st me m w s.pc = wd) (hv : isV wd = true) :
    stepO st me m w s t = incO (exO st me m w (tmS s t) (dcS wd) wd) ∧ stepM st me m w s t = exM st me (tmS s t) (dcS wd) := by
  have e : (tmS s t).pc = s.pc := rfl
  unfold stepO stepM actO actM
  rw [e, hw]
  refine ⟨?_, ?_⟩
  · rw [if_neg hi, if_neg fun q => q ha, if_neg fun q => q hf, if_neg (by rw [hv]; decide)]
  · rw [if_neg hi, if_neg fun q => q ha, if_neg fun q => q hf, if_neg (by rw [hv]; decide)]
theorem ex_addi {st : Nat} {me : MeS} {m : Nat → BitVec 8} {w : Nat → BitVec 32} {s : CoS} {i : InS} {wd : BitVec 32} (h : i.o = BitVec.ofInt 8 19) :
    exO st me m w s i wd = okO (resS s i (s.x i.a.toNat + i.i)) i ∧ exM st me s i = me ∧ wrtB i = false := by
  refine ⟨?_, ?_, ?_⟩
  · unfold exO
    rw [if_neg (by rw [h]; decide), if_neg (by rw [h]; decide), if_neg (by rw [h]; decide), if_neg (by rw [h]; decide), if_neg (by rw [h]; decide), if_neg (by rw [h]; decide), if_neg (by rw [h]; decide), if_neg (by rw [h]; decide), if_neg (by rw [h]; decide), if_neg (by rw [h]; decide), if_neg (by rw [h]; decide), if_neg (by rw [h]; decide)]
    unfold compO
    rw [if_pos ⟨by rw [h]; decide, by rw [h]; decide⟩]
    unfold aluG
    rw [if_pos (.inl h)]
  · unfold exM
    rw [if_neg (by rw [h]; decide)]
  · unfold wrtB
    rw [if_neg (by rw [h]; decide), if_neg (by rw [h]; decide), if_neg (by rw [h]; decide)]
theorem dc_awake : opV (BitVec.ofInt 32 5243027) = BitVec.ofInt 8 19 ∧ fR (BitVec.ofInt 32 5243027) = 1 ∧ fA (BitVec.ofInt 32 5243027) = 0 ∧ isV (BitVec.ofInt 32 5243027) = true := by decide +kernel
theorem dc_awake2 : fI (BitVec.ofInt 32 5243027) = BitVec.ofInt 32 5 := by decide +kernel
abbrev codeA : BitVec 32 := BitVec.ofInt 32 536870912
theorem fw_code {ra po m : Nat → BitVec 8} {w : Nat → BitVec 32} : fwV 1 ⟨ra, po⟩ m w codeA = ftW ra := by
  unfold fwV
  rw [code_at]
  show ftW (fun j => rdF 1 ra po m w (0 + j)) = ftW ra
  congr 1
  funext j
  rw [Nat.zero_add]
  unfold rdF
  rw [if_neg (by decide), if_neg (by decide)]
  unfold mmF
  rw [if_pos rfl]
abbrev co0 (pc : BitVec 32) : CoS := ⟨fun _ => 0, pc, fun _ => 0⟩
theorem no_int {s : CoS} (h : s.c 1 = 0) (t : Bool) : ¬ intB (tmS s t) := fun q => by
  have : (tmS s t).c 1 = 0 := h
  have h1 := q.1
  rw [this] at h1
  exact h1 (by show (tmS s t).c 7 &&& 0#32 &&& BitVec.ofInt 32 128 = _; rw [BitVec.and_zero, BitVec.zero_and]; rfl)
theorem lay_at {n : Nat} {p : Nat → BitVec 8} {i : Nat} (h : i < n) : layF n p i = p i := by
  unfold layF
  rw [if_pos h]
theorem lay_cong {n : Nat} {p q : Nat → BitVec 8} (h : ∀ i, i < n → p i = q i) (x : Nat) : layF n p x = layF n q x := by
  unfold layF
  by_cases e : x < n
  · rw [if_pos e, if_pos e, h x e]
  · rw [if_neg e, if_neg e]
theorem awk (p : Nat → BitVec 8) (po m : Nat → BitVec 8) (w : Nat → BitVec 32) (h0 : p 0 = BitVec.ofInt 8 147) (h1 : p 1 = BitVec.ofInt 8 0) (h2 : p 2 = BitVec.ofInt 8 80) (h3 : p 3 = BitVec.ofInt 8 0) :
    (stepO 1 ⟨layF 4 p, po⟩ m w (co0 codeA) false).s.x 1 = BitVec.ofInt 32 5 ∧ (stepO 1 ⟨layF 4 p, po⟩ m w (co0 codeA) false).s.pc = BitVec.ofInt 32 536870916 ∧ (stepO 1 ⟨layF 4 p, po⟩ m w (co0 codeA) false).tr = false ∧ (stepO 1 ⟨layF 4 p, po⟩ m w (co0 codeA) false).i.o = BitVec.ofInt 8 19 := by
  have hw : fwV 1 ⟨layF 4 p, po⟩ m w codeA = BitVec.ofInt 32 5243027 := by
    rw [fw_code]
    unfold ftW
    rw [lay_at (by decide), lay_at (by decide), lay_at (by decide), lay_at (by decide), h0, h1, h2, h3]
    decide
  obtain ⟨d1, d2, d3, d4⟩ := dc_awake
  have e := (step_at (st := 1) (me := ⟨layF 4 p, po⟩) (m := m) (w := w) (s := co0 codeA) (t := false) (no_int rfl false) (by decide) (by rw [code_at]) hw d4).1
  obtain ⟨e1, _, e3⟩ := ex_addi (st := 1) (me := ⟨layF 4 p, po⟩) (m := m) (w := w) (s := tmS (co0 codeA) false) (i := dcS (BitVec.ofInt 32 5243027)) (wd := BitVec.ofInt 32 5243027) d1
  rw [e, e1]
  have hc : wroteC (okO (resS (tmS (co0 codeA) false) (dcS (BitVec.ofInt 32 5243027)) ((tmS (co0 codeA) false).x (fA (BitVec.ofInt 32 5243027)).toNat + fI (BitVec.ofInt 32 5243027))) (dcS (BitVec.ofInt 32 5243027))) = false := by
    unfold wroteC
    show (wrtB (dcS (BitVec.ofInt 32 5243027)) && _) = false
    rw [e3]; rfl
  unfold incO
  rw [hc]
  refine ⟨?_, ?_, rfl, d1⟩
  · show withX (tmS (co0 codeA) false).x (fR (BitVec.ofInt 32 5243027)).toNat ((tmS (co0 codeA) false).x (fA (BitVec.ofInt 32 5243027)).toNat + fI (BitVec.ofInt 32 5243027)) 1 = _
    rw [d2, d3, dc_awake2]
    decide
  · show codeA + BitVec.ofInt 32 4 = _
    decide
def C_co_New : SpecP := fun A K => ∃ pc, A [.u32 pc] ∧ K (coA (co0 pc))
theorem g_co_New : Gd 23 (pureP ty C_co_New) := by
  refine goodP (E := PG []) (pgOK trivial) mixes Tryz.func23 (by kernel_rfl) (by kernel_rfl) ?_
  rintro A K ⟨pc, hA, hK⟩
  refine ⟨_, _, fun _ => none, hA, hK, by kernel_rfl, own_co _, ?_⟩
  repeat ((conv => whnf); first | refine sdO ?_ | refine nlO ?_ | refine goA ?_ | refine goB ?_ | (apply Exists.intro; (repeat apply Exists.intro); refine caO ?_) | (refine Or.inl ?_; (conv => whnf); (repeat apply Exists.intro); refine caO ?_) | (refine Or.inr ?_; (conv => whnf); first | ((repeat apply Exists.intro); refine caO ?_) | (refine Or.inl ?_; (conv => whnf); (repeat apply Exists.intro); refine caO ?_) | (refine Or.inr ?_; (conv => whnf); (repeat apply Exists.intro); refine caO ?_)) | refine And.intro (by assumption) ?_ | refine goT ?_ | refine goF ?_ | refine goL ?_ | refine goR ?_ | refine goRL ?_ | refine goRR ?_)
  all_goals try (conv => whnf)
  ((repeat' ((conv => whnf) <;> first | exact trivial | (with_reducible first | refine And.intro ?_ ?_ | refine qL1 ?_ | refine qL2 ?_ ?_ | refine qL3 ?_ ?_ ?_ | refine qL4 ?_ ?_ ?_ ?_ | refine qL5 ?_ ?_ ?_ ?_ ?_ | refine yL1 ?_ | refine yL2 ?_ ?_ | refine yL3 ?_ ?_ ?_ | refine qL7 ?_ ?_ ?_ ?_ ?_ ?_ ?_ | refine zL1 ?_ | refine zL2 ?_ ?_ | refine zL3 ?_ ?_ ?_ | refine fun (_ : Nat) => ?_) | refine fun (_ : (_ : Nat) < _) => ?_ | exact rfl | exact Nat.le_of_ble_eq_true rfl | (change (_ : Nat) ≤ _; omega) | (change (_ : Nat) = _; omega) | (change (_ : Int) = _; omega))); (all_goals try (conv => whnf)))
attribute [local irreducible] stepO stepM
def pAw (i : Nat) : BitVec 8 := [BitVec.ofInt 8 147, BitVec.ofInt 8 0, BitVec.ofInt 8 80, BitVec.ofInt 8 0].getD i 0
def C_l20_awake : SpecP := fun A K => A [] ∧ K (.bo true)
theorem g_l20_awake : Gd 7 (pureP ty C_l20_awake) := by
  refine goodP (E := PG [(9, pureR ty C_l20_lay), (23, pureP ty C_co_New), (14, mutD ty [false, true, false] C_co_Step)]) (pgOK ⟨g_l20_lay, g_co_New, g_co_Step, trivial⟩) mixes Tryz.func7 (by kernel_rfl) (by kernel_rfl) ?_
  rintro A K ⟨hA, hK⟩
  refine ⟨_, _, fun _ => none, hA, hK, by kernel_rfl, trivial, ?_⟩
  have hmx : (4 : Nat) ≤ maxLen := by decide
  obtain ⟨a1, a2, a3, a4⟩ := awk pAw (fun _ => 0) (fun _ => 255) (fun _ => 0) rfl rfl rfl rfl
  have a5 : (!(stepO 1 ⟨layF 4 pAw, fun _ => 0⟩ (fun _ => 255) (fun _ => 0) (co0 codeA) false).tr) = true := by rw [a3]; rfl
  repeat ((conv => whnf); first | refine sdO ?_ | refine nlO ?_ | refine goA ?_ | refine goB ?_ | (apply Exists.intro; (repeat apply Exists.intro); refine caO ?_) | (refine Or.inl ?_; (conv => whnf); (repeat apply Exists.intro); refine caO ?_) | (refine Or.inr ?_; (conv => whnf); first | ((repeat apply Exists.intro); refine caO ?_) | (refine Or.inl ?_; (conv => whnf); (repeat apply Exists.intro); refine caO ?_) | (refine Or.inr ?_; (conv => whnf); (repeat apply Exists.intro); refine caO ?_)) | refine And.intro (by assumption) ?_ | refine goT ?_ | refine goF ?_ | refine goL ?_ | refine goR ?_ | refine goRL ?_ | refine goRR ?_)
  all_goals try (conv => whnf)
  refine ⟨1, ⟨layF 4 pAw, fun _ => 0⟩, fun _ => 255, fun _ => 0, fun _ => false, co0 codeA, false, ?_, fun _ _ => rfl, ?_⟩
  · ((repeat' ((conv => whnf) <;> first | exact trivial | (with_reducible first | refine And.intro ?_ ?_ | refine qL1 ?_ | refine qL2 ?_ ?_ | refine qL3 ?_ ?_ ?_ | refine qL4 ?_ ?_ ?_ ?_ | refine qL5 ?_ ?_ ?_ ?_ ?_ | refine yL1 ?_ | refine yL2 ?_ ?_ | refine yL3 ?_ ?_ ?_ | refine qL7 ?_ ?_ ?_ ?_ ?_ ?_ ?_ | refine zL1 ?_ | refine zL2 ?_ ?_ | refine zL3 ?_ ?_ ?_ | refine fun (_ : Nat) => ?_) | refine fun (_ : (_ : Nat) < _) => ?_ | exact rfl | exact Nat.le_of_ble_eq_true rfl | (change (_ : Nat) ≤ _; omega) | (change (_ : Nat) = _; omega) | (change (_ : Int) = _; omega))); (all_goals try (conv => whnf)))
    all_goals (rename_i x hx; exact lay_cong (n := 4) (fun i (hi : i < 4) => by rcases (show i = 0 ∨ i = 1 ∨ i = 2 ∨ i = 3 by omega) with rfl | rfl | rfl | rfl <;> rfl) x)
  repeat ((conv => whnf); first | refine sdO ?_ | refine nlO ?_ | refine goA ?_ | refine goB ?_ | (apply Exists.intro; (repeat apply Exists.intro); refine caO ?_) | (refine Or.inl ?_; (conv => whnf); (repeat apply Exists.intro); refine caO ?_) | (refine Or.inr ?_; (conv => whnf); first | ((repeat apply Exists.intro); refine caO ?_) | (refine Or.inl ?_; (conv => whnf); (repeat apply Exists.intro); refine caO ?_) | (refine Or.inr ?_; (conv => whnf); (repeat apply Exists.intro); refine caO ?_)) | refine And.intro (by assumption) ?_ | refine goT ?_ | refine goF ?_ | refine goL ?_ | refine goR ?_ | refine goRL ?_ | refine goRR ?_)
  all_goals try (conv => whnf)
  ((repeat' ((conv => whnf) <;> first | exact trivial | (with_reducible first | refine And.intro ?_ ?_ | refine qL1 ?_ | refine qL2 ?_ ?_ | refine qL3 ?_ ?_ ?_ | refine qL4 ?_ ?_ ?_ ?_ | refine qL5 ?_ ?_ ?_ ?_ ?_ | refine yL1 ?_ | refine yL2 ?_ ?_ | refine yL3 ?_ ?_ ?_ | refine qL7 ?_ ?_ ?_ ?_ ?_ ?_ ?_ | refine zL1 ?_ | refine zL2 ?_ ?_ | refine zL3 ?_ ?_ ?_ | refine fun (_ : Nat) => ?_) | refine fun (_ : (_ : Nat) < _) => ?_ | exact rfl | exact Nat.le_of_ble_eq_true rfl | (change (_ : Nat) ≤ _; omega) | (change (_ : Nat) = _; omega) | (change (_ : Int) = _; omega))); (all_goals try (conv => whnf)))
  exact decide_eq_true a4
def stX (x : Nat → BitVec 32) (k : Nat) (j : Nat) : BitVec 32 := if 0 < j ∧ j ≤ k ∧ j < 32 then x (j - 1) else 0
theorem stX_0 (x : Nat → BitVec 32) (k : Nat) : stX x k 0 = 0 := if_neg fun q => absurd q.1 (Nat.lt_irrefl 0)
abbrev TRf : Ty := ty 47
abbrev rfV (x : Nat → BitVec 32) (pc : BitVec 32) (c : Nat → BitVec 32) (t : Bool) : AV := .agg false 4 (nth .junk [arr32 32 x, .u32 pc, arr32 8 c, .bo t])
theorem own_rf (x : Nat → BitVec 32) (pc : BitVec 32) (c : Nat → BitVec 32) (t : Bool) : Own (rfV x pc c t) := fun i hi => by
  rcases i with _ | _ | _ | _ | i
  · exact fun _ _ => trivial
  · exact trivial
  · exact fun _ _ => trivial
  · exact trivial
  · exact absurd hi (by omega)
abbrev w32 (n : Nat) (x : Nat → BitVec 32) : AV := .imm false (.int .u32) n (wds x)
theorem stX_nil (x : Nat → BitVec 32) (j : Nat) : stX x 0 j = 0 := if_neg (by omega)
theorem stX_with (x : Nat → BitVec 32) (k : Nat) (hk : k < 31) (j : Nat) : withX (stX x k) (k + 1) (x k) j = stX x (k + 1) j := by
  unfold withX
  rw [if_pos ⟨Nat.succ_pos k, by omega⟩]
  unfold upW stX
  by_cases e : j = k + 1
  · rw [if_pos e, e, if_pos ⟨Nat.succ_pos k, Nat.le_refl _, by omega⟩]; rfl
  · rw [if_neg e]
    by_cases e2 : 0 < j ∧ j ≤ k ∧ j < 32
    · rw [if_pos e2, if_pos ⟨e2.1, by omega, e2.2.2⟩]
    · rw [if_neg e2, if_neg (by omega)]
theorem stX_up (x : Nat → BitVec 32) (k : Nat) (hk : k < 31) (j : Nat) : (if j = k + 1 then x k else stX x k j) = stX x (k + 1) j := by
  have h := stX_with x k hk j
  unfold withX at h
  rw [if_pos ⟨Nat.succ_pos k, by omega⟩] at h
  exact h
theorem stX_skip (x : Nat → BitVec 32) (k : Nat) (hk : ¬ k < 31) (j : Nat) : stX x k j = stX x (k + 1) j := by
  unfold stX
  by_cases e2 : 0 < j ∧ j ≤ k ∧ j < 32
  · rw [if_pos e2, if_pos ⟨e2.1, by omega, e2.2.2⟩]
  · rw [if_neg e2, if_neg (by omega)]
attribute [local irreducible] stX
end Go.Proofs.YtglijhimopdgkaaGreatDoor
