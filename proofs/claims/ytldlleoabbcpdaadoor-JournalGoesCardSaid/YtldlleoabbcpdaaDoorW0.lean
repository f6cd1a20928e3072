/- From a law's walk to its statement. -/
import Derived.Test.YtldlleoabbcpdaaDoorP7
import Derived.Test.YtldlleoabbcpdaaDoorCards
import Derived.Test.YtldlleoabbcpdaaDoorTie
import Derived.ProofKit
import Derived.OpenShut
import Derived.Deep.DeepHandedRow
import Derived.Lib.LaidTab
namespace Go.Proofs.YtldlleoabbcpdaaDoor
open Go.ChangeShapes Go.WideShapes Go.ChangeAt Go.RowKit
set_option maxRecDepth 100000
theorem own : ownKnob Tryd.prog.godebug = none := by kernel_rfl
theorem laidOut : laidOutB Tryd.prog = true := by kernel_rfl
section
variable {H : Type} {enc : TypeId × Value → H} {P : Program}
theorem trodAll_stays (hl : laidOutB P = true) {W W' : World} (hb : Below W.heap.size W W') {sp : Nat → Bool} :
    ∀ {ts : List TypeId} {vs : List Value} {ds : List (DataW H)} {ps : List MemPlace}, (∀ t ∈ ts, P.readableRec t = true ∧ t < P.types.size) → DataW.TrodAll enc P W 0 (fun _ => true) true ts vs ds ps →
      (∀ x ∈ ps, x.block < W.heap.size) → (∀ x ∈ ps, sp x.block = true) → DataW.TrodAll enc P W' 0 sp true ts vs ds ps
  | [], _, _, _, _, h, _, _ => by
    obtain ⟨rfl, rfl, rfl⟩ := trodAll_nil h
    exact trodAll_mk0
  | t :: ts, _, _, _, hr, h, hlt, hsp => by
    obtain ⟨v, vs1, d, ds1, a, b, rfl, rfl, rfl, h1, h2⟩ := trodAll_cons h
    have ht := hr t (by simp)
    exact ⟨a, b, WideElems.Trod_stays hl ht.1 ht.2 h1 (fun x hx => hb.same (hlt x (by simp [hx]))) (fun x hx => hsp x (by simp [hx])),
      trodAll_stays hl hb (fun t ht => hr t (by simp [ht])) h2 (fun x hx => hlt x (by simp [hx])) (fun x hx => hsp x (by simp [hx])), rfl⟩
/-- A law that answers true and touches nothing that was there meets its specification. -/
theorem law_post (hl : laidOutB P = true) {f : Func} {s : ChangeSpec} {W W' : World} {args : Array Value} {ds gs : List (DataW H)} {before : List MemPlace}
    (hW : DataW.Whole enc P f.params.toList s.vars false W args.toList ds gs before) (hv : s.vars = []) (hrow0 : (f.params.toList.all fun t => P.readableRec t && decide (t < P.types.size)) = true)
    (hfn : s.fn H (ds ++ gs) = { results := [.lit (.bool true)], args := ds }) {tb : TypeId} (hrt : f.resultTypes = #[tb]) (htb : P.underlying tb = some .bool) (hb : Below W.heap.size W W') :
    s.post enc P f false true false false W args (.bool true) W' := by
  have hrow : ∀ t ∈ f.params.toList, P.readableRec t = true ∧ t < P.types.size := fun t ht => by simpa using List.all_eq_true.1 hrow0 t ht
  have hlt := hW.lt
  have hW' := hW
  obtain ⟨p, q, hA, hV, rfl, hfz, hnd⟩ := hW'
  rw [hv] at hV
  obtain ⟨rfl, rfl⟩ := trodVars_none hV
  have hold : ∀ x ∈ p, x.block < W.heap.size := fun x hx => hlt x (by simp [hx])
  refine ⟨ds, [], p ++ [], [], p, [], hW, ?_, ?_, ?_, ?_, fun h => by cases h⟩
  · rw [hfn, hrt]
    exact trodAll_mk1 (shut_bool htb true)
  · rw [hfn]
    exact trodAll_stays hl hb hrow hA hold (fun x hx => by simpa using hold x hx)
  · rw [hfn, hv]; rfl
  · exact World.keptBut_mono (fun x hx => hx) (hb.frame _)
theorem laidMet_tail {W : World} {n : String} {d : DataW Unit} {rest : List (String × DataW Unit)} (h : laidMet P ((n, d) :: rest) W) : laidMet P rest W := by
  obtain ⟨ps, ⟨g, t, cs, fuel, p, q, _, _, _, _, hr, rfl⟩, hnd, hc⟩ := h
  exact ⟨q, hr, (List.nodup_append.1 hnd).2.1, fun b off hm => hc b off (by simp [hm])⟩
end
/-- A call's world, where nothing is the call's own yet. -/
def lawCx (W : World) : Cx := ⟨fun _ => False, W.heap.size, W.heap.size, ty, fun _ => none, fun _ => none, fun _ => undef, W, False⟩
def GlOK (W : World) : Prop := ∀ g, RV (lawCx W) (gl g) (.pointer (some ⟨g, 0, none⟩))
/-- A law that is known to answer true. -/
theorem law_calls {f : FuncId} {C : SpecP} (hg : Gd f (pureP ty C)) {W : World} {args : List AV} {vals : List Value} (hgl : GlOK W) (hv : RVs (lawCx W) args vals) (hC : C (fun vs => LeLW (restr (rdA ty (fun _ => none) args) fun _ => none) ty [] noK args vs ∧ NoFrLW vs) fun b => b.ren (sig noK 8) = .bo true)
    (hbd : (Tryd.prog.funcs[f]?.bind fun fn => fn.body).isSome = true := by kernel_rfl) :
    Calls Tryd.prog f vals.toArray W fun e W' => e = .returned (.bool true) ∧ Below W.heap.size W W' := by
  obtain ⟨r, hr, ⟨_, hval⟩ | ⟨fn, _, hfn, _, hbn, _⟩⟩ := hg args (fun _ => none) 8 (fun r => r.v = .bo true) (by rw [pureP_eq]; exact hC)
  rotate_left
  · rw [hfn] at hbd
    have hbd : fn.body.isSome = true := hbd
    rw [Option.isNone_iff_eq_none] at hbn
    rw [hbn] at hbd; cases hbd
  refine (hval (lawCx W) vals rfl ⟨fun _ _ h => (by cases h), fun _ _ _ _ _ h => (by cases h), fun _ _ _ h => (by cases h), Nat.le_refl _⟩ (Nat.le_refl _) (fun _ _ => rfl) (fun _ _ _ => rfl) hgl hv).mono ?_
  rintro e W' ⟨c', v, rfl, rfl, hst, hrv⟩
  rw [hr] at hrv
  exact ⟨by rw [rv_bo hrv], hst.low⟩
/-! ### What comes in -/
section
variable {H : Type} {enc : TypeId × Value → H} {W : World}
theorem in_u64 {n : Int} (h : (Lit.int .u64 n).wf = true) : ∃ x : BitVec 64, RV (lawCx W) (.u64 x) (.int .u64 n) := ⟨BitVec.ofInt 64 n, by
  have hb : 0 ≤ n ∧ n < 18446744073709551616 := by
    simp [Lit.wf, IntKind.min, IntKind.max, IntKind.signed, IntKind.bits] at h; omega
  show [_] = [_]
  unfold U64; rw [BitVec.toNat_ofInt]; congr 2; omega⟩
theorem in_u32 {n : Int} (h : (Lit.int .u32 n).wf = true) : ∃ x : BitVec 32, RV (lawCx W) (.u32 x) (.int .u32 n) := ⟨BitVec.ofInt 32 n, by
  have hb : 0 ≤ n ∧ n < 4294967296 := by
    simp [Lit.wf, IntKind.min, IntKind.max, IntKind.signed, IntKind.bits] at h; omega
  show [_] = [_]
  unfold U32; rw [BitVec.toNat_ofInt]; congr 2; omega⟩
theorem in_u16 {n : Int} (h : (Lit.int .u16 n).wf = true) : ∃ x : BitVec 16, RV (lawCx W) (.u16 x) (.int .u16 n) := ⟨BitVec.ofInt 16 n, by
  have hb : 0 ≤ n ∧ n < 65536 := by
    simp [Lit.wf, IntKind.min, IntKind.max, IntKind.signed, IntKind.bits] at h; omega
  show [_] = [_]
  unfold U16; rw [BitVec.toNat_ofInt]; congr 2; omega⟩
theorem in_u8 {n : Int} (h : (Lit.int .u8 n).wf = true) : ∃ x : BitVec 8, RV (lawCx W) (.u8 x) (.int .u8 n) := ⟨BitVec.ofInt 8 n, by
  have hb : 0 ≤ n ∧ n < 256 := by
    simp [Lit.wf, IntKind.min, IntKind.max, IntKind.signed, IntKind.bits] at h; omega
  show [_] = [_]
  unfold U8; rw [BitVec.toNat_ofInt]; congr 2; omega⟩
theorem in_int {n : Int} : RV (lawCx W) (.int n) (.int .i64 n) := rfl
theorem in_string {v : Value} {d : DataW H} {p : List MemPlace} {r : Reach} {b0 : Nat} {t : TypeId} (ht : Tryd.prog.underlying t = some .string) (hval : Value.okWide Tryd.prog W r b0 t v)
    (h : DataW.Trod enc Tryd.prog W 0 (fun _ => true) true t v d p) : ∃ s : List UInt8, s.length ≤ maxLen ∧ RV (lawCx W) (.str s) v := by
  obtain ⟨s, rfl⟩ := okWide_string ht hval
  obtain ⟨fuel, hf⟩ := h
  obtain ⟨s', hs, _, hm⟩ := DataW.trod_string ht hf
  simp only [Value.cells, List.cons.injEq, and_true] at hs
  obtain rfl : s = s' := by injection hs
  exact ⟨s.data.toList, hm, rfl⟩
/-- Bytes. -/
theorem in_bytes {v : Value} {d : DataW H} {p : List MemPlace} {r : Reach} {b0 : Nat} {t e : TypeId} (ht : Tryd.prog.underlying t = some (.slice e)) (he : Tryd.prog.underlying e = some (.int .u8)) (hc1 : Tryd.prog.cellsOf e = 1) (hval : Value.okWide Tryd.prog W r b0 t v)
    (h : DataW.Trod enc Tryd.prog W 0 (fun _ => true) true t v d p) : ∃ (l : Nat) (b : Nat → BitVec 8), l ≤ maxLen ∧ RV (lawCx W) (bsl l b) v := by
  obtain ⟨a0, l0, c0, rfl⟩ := okWide_slice ht hval
  obtain ⟨fuel, hf⟩ := h
  rcases open_ints ht he hc1 hf with ⟨h, _⟩ | ⟨a, len, cap, zs, h, _, hl, hm, hzl, _, hc, hwf⟩
  · simp only [Value.cells, List.cons.injEq, and_true] at h
    exact ⟨0, fun _ => 0, Nat.zero_le _, none, 0, by rw [h], Nat.le_refl _, Nat.zero_le _, fun h => absurd h (by omega)⟩
  · simp only [Value.cells, List.cons.injEq, and_true] at h
    rw [if_pos rfl] at hzl
    refine ⟨len, fun i => BitVec.ofInt 8 (zs.getD i 0), Nat.le_trans hl hm, some a, cap, by rw [h], hl, hm, fun hk => ?_⟩
    have h00 := hc 0 (by omega)
    have hspot : a.spot = none := by
      have : a.add 0 = a := by simp [Addr.add]
      rw [this] at h00
      unfold World.cell? at h00
      cases hs : a.spot with
      | none => rfl
      | some s => rw [hs] at h00; split at h00 <;> simp at h00
    obtain ⟨ab, ao, asp⟩ := a
    simp only at hspot
    subst hspot
    refine ⟨ab, ao, rfl, ?_, fun h => h, fun h => (by cases h), fun i hi => ⟨trivial, [.int .u8 (zs.getD i 0)], ?_, ?_⟩⟩
    · have := World.block_lt_of_cell? W _ h00
      simpa [Addr.add, lawCx] using this
    · have hw := hwf (zs.getD i 0) (by simp [List.getD, show i < zs.length by omega])
      have hb : 0 ≤ zs.getD i 0 ∧ zs.getD i 0 < 256 := by
        generalize zs.getD i 0 = z at hw
        simp [Lit.wf, IntKind.min, IntKind.max, IntKind.signed, IntKind.bits] at hw; omega
      show [_] = [_]
      unfold U8; rw [BitVec.toNat_ofInt]; congr 2; omega
    · intro j v hj
      have hj0 : j = 0 := by
        have := (List.getElem?_eq_some_iff.1 hj).1
        simp at this; exact this
      subst hj0
      simp only [List.getElem?_cons_zero, Option.some.injEq] at hj
      subst hj
      have := hc i (by omega)
      rw [Addr.add_mid] at this
      simpa [Ty.size, lawCx] using this
/-- An array of numbers that came in by value. -/
theorem open_row {v : Value} {d : DataW H} {p : List MemPlace} {r : Reach} {b0 : Nat} {t e n : Nat} {k : IntKind} (ht : Tryd.prog.underlying t = some (.array n e)) (he : Tryd.prog.underlying e = some (.int k))
    (hce : Tryd.prog.cellsOf e = 1) (hct : Tryd.prog.cellsOf t = n) (hval : Value.okWide Tryd.prog W r b0 t v)
    (h : DataW.Trod enc Tryd.prog W 0 (fun _ => true) true t v d p) : ∃ cs : Array Value, v = .agg cs ∧ cs.size = n ∧ ∀ i, i < n → ∃ z, cs[i]? = some (.int k z) ∧ (Lit.int k z).wf = true := by
  unfold Value.okWide at hval
  rw [ht] at hval
  obtain ⟨cs, rfl, hsz, _⟩ := hval
  obtain ⟨fuel, hf⟩ := h
  obtain ⟨xs, m, rfl, hx, hl, hxs, hel⟩ := DataW.trod_array ht hf
  refine ⟨cs, rfl, hsz.trans hct, fun i hi => ?_⟩
  have h1 := hel i hi
  rw [hce, Nat.mul_one, List.getElem?_eq_getElem (by omega)] at h1
  obtain ⟨z, hz, _, hw⟩ := DataW.trod_int he h1
  refine ⟨z, ?_, hw⟩
  have := congrArg (fun l => l[0]?) hz
  simpa [Value.cells] using this
theorem fm_one (g : Nat → Value) : ∀ n, (List.range n).flatMap (fun i => [g i]) = (List.range n).map g
  | 0 => rfl
  | n + 1 => by rw [fm_succ, fm_one g n, List.range_succ, List.map_append]; rfl
theorem row_cells {cs : Array Value} {n : Nat} {g : Nat → Value} (hn : cs.size = n) (h : ∀ i, i < n → cs[i]? = some (g i)) : cs.toList = (List.range n).flatMap fun i => [g i] := by
  apply List.ext_getElem?
  intro i
  rw [Array.getElem?_toList, fm_one]
  by_cases hi : i < n
  · rw [h i hi]; simp [hi]
  · rw [Array.getElem?_eq_none (by omega), List.getElem?_eq_none (by simp; omega)]
theorem in_arr8 {v : Value} {d : DataW H} {p : List MemPlace} {r : Reach} {b0 : Nat} {t e n : Nat} (ht : Tryd.prog.underlying t = some (.array n e)) (he : Tryd.prog.underlying e = some (.int .u8))
    (hce : Tryd.prog.cellsOf e = 1) (hct : Tryd.prog.cellsOf t = n) (hval : Value.okWide Tryd.prog W r b0 t v)
    (h : DataW.Trod enc Tryd.prog W 0 (fun _ => true) true t v d p) : ∃ b : Nat → BitVec 8, RV (lawCx W) (arr8 n b) v := by
  obtain ⟨cs, rfl, hn, hi⟩ := open_row ht he hce hct hval h
  refine ⟨fun i => BitVec.ofInt 8 (intOf (cs.getD i undef)), cs.toList, by simp, fun i => [.int .u8 (U8 (BitVec.ofInt 8 (intOf (cs.getD i undef))))], fun i _ => rfl, row_cells hn fun i h => ?_⟩
  obtain ⟨z, hz, hw⟩ := hi i h
  rw [hz, Array.getD_eq_getD_getElem?, hz]
  have hb : 0 ≤ z ∧ z < 256 := by
    simp [Lit.wf, IntKind.min, IntKind.max, IntKind.signed, IntKind.bits] at hw; omega
  simp only [Option.getD_some, intOf]
  unfold U8; rw [BitVec.toNat_ofInt]; congr 2; omega
theorem in_arr32 {v : Value} {d : DataW H} {p : List MemPlace} {r : Reach} {b0 : Nat} {t e n : Nat} (ht : Tryd.prog.underlying t = some (.array n e)) (he : Tryd.prog.underlying e = some (.int .u32))
    (hce : Tryd.prog.cellsOf e = 1) (hct : Tryd.prog.cellsOf t = n) (hval : Value.okWide Tryd.prog W r b0 t v)
    (h : DataW.Trod enc Tryd.prog W 0 (fun _ => true) true t v d p) : ∃ b : Nat → BitVec 32, RV (lawCx W) (arr32 n b) v := by
  obtain ⟨cs, rfl, hn, hi⟩ := open_row ht he hce hct hval h
  refine ⟨fun i => BitVec.ofInt 32 (intOf (cs.getD i undef)), cs.toList, by simp, fun i => [.int .u32 (U32 (BitVec.ofInt 32 (intOf (cs.getD i undef))))], fun i _ => rfl, row_cells hn fun i h => ?_⟩
  obtain ⟨z, hz, hw⟩ := hi i h
  rw [hz, Array.getD_eq_getD_getElem?, hz]
  have hb : 0 ≤ z ∧ z < 4294967296 := by
    simp [Lit.wf, IntKind.min, IntKind.max, IntKind.signed, IntKind.bits] at hw; omega
  simp only [Option.getD_some, intOf]
  unfold U32; rw [BitVec.toNat_ofInt]; congr 2; omega
end
/-! ### The tables -/
theorem gl_of {W : World} (h : laidMetH Tryd.prog [("curtilage/sha.initial", Rows.laid_curtilage_sha_initial), ("curtilage/sha.constants", Rows.laid_curtilage_sha_constants)] W) : GlOK W := by
  have h0 : laidMet Tryd.prog [("curtilage/sha.initial", Rows.laid_curtilage_sha_initial), ("curtilage/sha.constants", Rows.laid_curtilage_sha_constants)] W := h
  have t0 : Lib.TabIs Tryd.prog W "curtilage/sha.initial" .u32 (H0.map U32) :=
    Lib.tabIs_of_head (g := 0) (t := 89) (e := 22) (n := 8) (by kernel_rfl) (by kernel_rfl) Tryd.underlying89 Tryd.underlying22 (by kernel_rfl) (by kernel_rfl) h0
  have t1 : Lib.TabIs Tryd.prog W "curtilage/sha.constants" .u32 (KK.map U32) :=
    Lib.tabIs_of_head (g := 2) (t := 111) (e := 22) (n := 64) (by kernel_rfl) (by kernel_rfl) Tryd.underlying111 Tryd.underlying22 (by kernel_rfl) (by kernel_rfl) (laidMet_tail h0)
  have c0 : ∀ i, i < 8 → W.cell? ⟨0, i, none⟩ = some (.int .u32 (U32 (at32 H0 i))) := fun i hi => by
    rw [t0.cell (g := 0) (by kernel_rfl) i (by simpa [H0] using hi)]
    simp [at32, List.getD, show i < H0.length from hi]
  have c1 : ∀ i, i < 64 → W.cell? ⟨2, i, none⟩ = some (.int .u32 (U32 (at32 KK i))) := fun i hi => by
    rw [t1.cell (g := 2) (by kernel_rfl) i (by simpa [KK] using hi)]
    simp [at32, List.getD, show i < KK.length from hi]
  have tab : ∀ (g n : Nat) (l : List (BitVec 32)), 0 < n → (∀ i, i < n → W.cell? ⟨g, i, none⟩ = some (.int .u32 (U32 (at32 l i)))) → RV (lawCx W) (.ipt (.agg true n fun _ => .int .u32) (.agg true n fun i => .u32 (at32 l i))) (.pointer (some ⟨g, 0, none⟩)) := fun g n l h0 hc =>
    ⟨g, 0, (List.range n).flatMap fun i => [.int .u32 (U32 (at32 l i))], rfl, World.block_lt_of_cell? W _ (hc 0 h0), fun h => h, ⟨fun i => [.int .u32 (U32 (at32 l i))], fun _ _ => rfl, rfl⟩, ⟨rfl, rfl, fun _ _ => trivial⟩, fun j v hj => by
      rw [fm_one, List.getElem?_map] at hj
      by_cases hjn : j < n
      · rw [List.getElem?_range hjn] at hj
        simp only [Option.map_some, Option.some.injEq] at hj
        subst hj
        show W.cell? ⟨g, 0 + j, none⟩ = _
        rw [Nat.zero_add]; exact hc j hjn
      · rw [List.getElem?_eq_none (by simp; omega)] at hj; cases hj⟩
  intro g
  show RV (lawCx W) (bif Nat.beq g 0 then _ else bif Nat.beq g 2 then _ else .junk) _
  cases h0 : Nat.beq g 0
  · cases h1 : Nat.beq g 2
    · exact trivial
    · obtain rfl := Nat.eq_of_beq_eq_true h1
      exact tab _ 64 KK (by omega) c1
  · obtain rfl := Nat.eq_of_beq_eq_true h0
    exact tab _ 8 H0 (by omega) c0
def lay (cs : Array Value) : Obj → Obj
  | .cells _ t frozen => .cells cs t frozen
  | o => o
/-- A world for the witness: the settled one, both tables holding what their initialisers lay. -/
noncomputable def laidWorld (os : Os) : World :=
  { World.holding Tryd.prog os ⟨#[], #[], []⟩ with heap := ((World.holding Tryd.prog os ⟨#[], #[], []⟩).heap.modify 0 (lay (H0.map fun x => Value.int .u32 (U32 x)).toArray)).modify 2 (lay (KK.map fun x => Value.int .u32 (U32 x)).toArray) }
end Go.Proofs.YtldlleoabbcpdaaDoor
