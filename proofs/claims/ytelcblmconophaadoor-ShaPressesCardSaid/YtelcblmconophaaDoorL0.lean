/- From a law's walk to its statement: what every law of this seat shares. -/
import Derived.Test.YtelcblmconophaaDoorR2
import Derived.Test.YtelcblmconophaaDoorCards
import Derived.Test.YtelcblmconophaaDoorTie
import Derived.ProofKit
import Derived.OpenShut
import Derived.Deep.DeepHandedRow
import Derived.Lib.LaidTab
namespace Go.Proofs.YtelcblmconophaaDoor
open Go.ChangeShapes Go.WideShapes Go.ChangeAt Go.RowKit
theorem own : ownKnob Tryd.prog.godebug = none := by kernel_rfl
theorem laidOut : laidOutB Tryd.prog = true := by kernel_rfl
section
variable {H : Type} {enc : TypeId × Value → H} {P : Program}
theorem trodAll_stays (hl : laidOutB P = true) {W W' : World} (hb : Below W.heap.size W W') {sp : Nat → Bool} :
    ∀ {ts : List TypeId} {vs : List Value} {ds : List (DataW H)} {ps : List MemPlace}, (∀ t ∈ ts, P.readableRec t = true ∧ t < P.types.size) → DataW.TrodAll enc P W 0 (fun _ => true) true ts vs ds ps →
      (∀ x ∈ ps, x.block < W.heap.size) → (∀ x ∈ ps, sp x.block = true) → DataW.TrodAll enc P W' 0 sp true ts vs ds ps
  | [], _, _, _, _, h, _, _ => by
    obtain ⟨rfl, rfl, rfl⟩ := trodAll_nil h
    exact trodAll_mk0
  | t :: ts, _, _, _, hr, h, hlt, hsp => by
    obtain ⟨v, vs1, d, ds1, a, b, rfl, rfl, rfl, h1, h2⟩ := trodAll_cons h
    have ht := hr t (by simp)
    exact ⟨a, b, WideElems.Trod_stays hl ht.1 ht.2 h1 (fun x hx => hb.same (hlt x (by simp [hx]))) (fun x hx => hsp x (by simp [hx])),
      trodAll_stays hl hb (fun t ht => hr t (by simp [ht])) h2 (fun x hx => hlt x (by simp [hx])) (fun x hx => hsp x (by simp [hx])), rfl⟩
/-- A law that answers true and touches nothing that was there meets its specification. -/
theorem law_post (hl : laidOutB P = true) {f : Func} {s : ChangeSpec} {W W' : World} {args : Array Value} {ds gs : List (DataW H)} {before : List MemPlace}
    (hW : DataW.Whole enc P f.params.toList s.vars false W args.toList ds gs before) (hv : s.vars = []) (hrow0 : (f.params.toList.all fun t => P.readableRec t && decide (t < P.types.size)) = true)
    (hfn : s.fn H (ds ++ gs) = { results := [.lit (.bool true)], args := ds }) {tb : TypeId} (hrt : f.resultTypes = #[tb]) (htb : P.underlying tb = some .bool) (hb : Below W.heap.size W W') :
    s.post enc P f false true false false W args (.bool true) W' := by
  have hrow : ∀ t ∈ f.params.toList, P.readableRec t = true ∧ t < P.types.size := fun t ht => by simpa using List.all_eq_true.1 hrow0 t ht
  have hlt := hW.lt
  have hW' := hW
  obtain ⟨p, q, hA, hV, rfl, hfz, hnd⟩ := hW'
  rw [hv] at hV
  obtain ⟨rfl, rfl⟩ := trodVars_none hV
  have hold : ∀ x ∈ p, x.block < W.heap.size := fun x hx => hlt x (by simp [hx])
  refine ⟨ds, [], p ++ [], [], p, [], hW, ?_, ?_, ?_, ?_, fun h => by cases h⟩
  · rw [hfn, hrt]
    exact trodAll_mk1 (shut_bool htb true)
  · rw [hfn]
    exact trodAll_stays hl hb hrow hA hold (fun x hx => by simpa using hold x hx)
  · rw [hfn, hv]; rfl
  · exact World.keptBut_mono (fun x hx => hx) (hb.frame _)
theorem laidMet_tail {W : World} {n : String} {d : DataW Unit} {rest : List (String × DataW Unit)} (h : laidMet P ((n, d) :: rest) W) : laidMet P rest W := by
  obtain ⟨ps, ⟨g, t, cs, fuel, p, q, _, _, _, _, hr, rfl⟩, hnd, hc⟩ := h
  exact ⟨q, hr, (List.nodup_append.1 hnd).2.1, fun b off hm => hc b off (by simp [hm])⟩
end
theorem tab_of {W : World} (h : laidMetH Tryd.prog [("curtilage/sha.initial", Rows.laid_curtilage_sha_initial), ("curtilage/sha.constants", Rows.laid_curtilage_sha_constants)] W) : Tab W := by
  have h0 : laidMet Tryd.prog [("curtilage/sha.initial", Rows.laid_curtilage_sha_initial), ("curtilage/sha.constants", Rows.laid_curtilage_sha_constants)] W := h
  have t0 : Lib.TabIs Tryd.prog W "curtilage/sha.initial" .u32 (H0.map U32) :=
    Lib.tabIs_of_head (g := 0) (t := 31) (e := 30) (n := 8) (by kernel_rfl) (by kernel_rfl) Tryd.underlying31 Tryd.underlying30 (by kernel_rfl) (by kernel_rfl) h0
  have t1 : Lib.TabIs Tryd.prog W "curtilage/sha.constants" .u32 (KK.map U32) :=
    Lib.tabIs_of_head (g := 1) (t := 68) (e := 30) (n := 64) (by kernel_rfl) (by kernel_rfl) Tryd.underlying68 Tryd.underlying30 (by kernel_rfl) (by kernel_rfl) (laidMet_tail h0)
  have c0 : ∀ i, i < 8 → W.cell? ⟨0, i, none⟩ = some (.int .u32 (U32 (at32 H0 i))) := fun i hi => by
    rw [t0.cell (g := 0) (by kernel_rfl) i (by simpa [H0] using hi)]
    simp [at32, List.getD, show i < H0.length from hi]
  have c1 : ∀ i, i < 64 → W.cell? ⟨1, i, none⟩ = some (.int .u32 (U32 (at32 KK i))) := fun i hi => by
    rw [t1.cell (g := 1) (by kernel_rfl) i (by simpa [KK] using hi)]
    simp [at32, List.getD, show i < KK.length from hi]
  exact ⟨by have := World.block_lt_of_cell? W _ (c1 0 (by omega)); exact this, c0, c1⟩
/-- Bytes that came in. -/
theorem open_msg {H : Type} {enc : TypeId × Value → H} {W : World} {v : Value} {d : DataW H} {p : List MemPlace} {r : Reach} {b0 : Nat} (hval : Value.okWide Tryd.prog W r b0 22 v)
    (h : DataW.Trod enc Tryd.prog W 0 (fun _ => true) true 22 v d p) : ∃ (A : Option Addr) (xs : Msg) (c : Nat), v = .slice A xs.length c ∧ xs.length ≤ c ∧ c ≤ maxLen ∧ RdB W A xs := by
  obtain ⟨a0, l0, c0, rfl⟩ := okWide_slice Tryd.underlying22 hval
  obtain ⟨fuel, hf⟩ := h
  rcases open_ints Tryd.underlying22 Tryd.underlying5 (by kernel_rfl) hf with ⟨h, _⟩ | ⟨a, len, cap, zs, h, _, hl, hm, hzl, _, hc, hwf⟩
  · simp only [Value.cells, List.cons.injEq, and_true] at h
    exact ⟨none, [], 0, h, Nat.le_refl _, Nat.zero_le _, RdB.nil _ _⟩
  · simp only [Value.cells, List.cons.injEq, and_true] at h
    rw [if_pos rfl] at hzl
    refine ⟨some a, (zs.take len).map (fun z => BitVec.ofInt 8 z), cap, ?_, by simp; omega, hm, fun hk => ?_⟩
    · rw [h]; congr 1; simp; omega
    · have hlen : ((zs.take len).map (fun z => BitVec.ofInt 8 z)).length = len := by simp; omega
      rw [hlen] at hk
      have h00 := hc 0 (by omega)
      have hspot : a.spot = none := by
        have : a.add 0 = a := by simp [Addr.add]
        rw [this] at h00
        unfold World.cell? at h00
        cases hs : a.spot with
        | none => rfl
        | some s => rw [hs] at h00; split at h00 <;> simp at h00
      obtain ⟨ab, ao, asp⟩ := a
      simp only at hspot
      subst hspot
      refine ⟨ab, ao, rfl, ?_, fun j hj => ?_⟩
      · have := World.block_lt_of_cell? W _ h00
        simpa [Addr.add] using this
      · rw [hlen] at hj
        have hcj := hc j (by omega)
        rw [Addr.add_mid] at hcj
        rw [hcj]
        have hz : j < zs.length := by omega
        have hw := hwf (zs.getD j 0) (by simp [List.getD, hz])
        have e : at8 ((zs.take len).map (fun z => BitVec.ofInt 8 z)) j = BitVec.ofInt 8 (zs.getD j 0) := by
          simp [at8, List.getD, hj, hz]
        rw [e]
        generalize zs.getD j 0 = z at hw
        have hb : 0 ≤ z ∧ z < 256 := by
          simp [Lit.wf, IntKind.min, IntKind.max, IntKind.signed, IntKind.bits] at hw; omega
        congr 2
        unfold U8
        rw [BitVec.toNat_ofInt]
        omega
/-- A word that came in. -/
theorem u64_of (n : Int) (h : (Lit.int .u64 n).wf = true) : ∃ x : BitVec 64, n = U64 x := ⟨BitVec.ofInt 64 n, by
  have hb : 0 ≤ n ∧ n < 18446744073709551616 := by
    simp [Lit.wf, IntKind.min, IntKind.max, IntKind.signed, IntKind.bits] at h; omega
  unfold U64
  rw [BitVec.toNat_ofInt]; omega⟩
theorem u8_of (n : Int) (h : (Lit.int .u8 n).wf = true) : ∃ x : BitVec 8, n = U8 x := ⟨BitVec.ofInt 8 n, by
  have hb : 0 ≤ n ∧ n < 256 := by
    simp [Lit.wf, IntKind.min, IntKind.max, IntKind.signed, IntKind.bits] at h; omega
  unfold U8
  rw [BitVec.toNat_ofInt]; omega⟩
theorem u16_of (n : Int) (h : (Lit.int .u16 n).wf = true) : ∃ x : Nat, n = (x : Int) ∧ x < 65536 := by
  have hb : 0 ≤ n ∧ n < 65536 := by
    simp [Lit.wf, IntKind.min, IntKind.max, IntKind.signed, IntKind.bits] at h; omega
  exact ⟨n.toNat, by omega, by omega⟩
def lay (cs : Array Value) : Obj → Obj
  | .cells _ t frozen => .cells cs t frozen
  | o => o
/-- A world for the witness: the settled one, both tables holding what their initialisers lay. -/
noncomputable def laidWorld (os : Os) : World :=
  { World.holding Tryd.prog os ⟨#[], #[], []⟩ with heap := ((World.holding Tryd.prog os ⟨#[], #[], []⟩).heap.modify 0 (lay (e32 H0))).modify 1 (lay (e32 KK)) }
end Go.Proofs.YtelcblmconophaaDoor
