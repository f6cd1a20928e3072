/- From a law's walk to its statement. -/
import Derived.Test.YtonggppknpbhiaaDoorP0
import Derived.Test.YtonggppknpbhiaaDoorCards
import Derived.Test.YtonggppknpbhiaaDoorTie
import Derived.ProofKit
import Derived.OpenShut
import Derived.Deep.DeepHandedRow
import Derived.Lib.LaidTab
namespace Go.Proofs.YtonggppknpbhiaaDoor
open Go.ChangeShapes Go.WideShapes Go.ChangeAt Go.RowKit
set_option maxRecDepth 100000
theorem own : ownKnob Tryd.prog.godebug = none := by kernel_rfl
theorem laidOut : laidOutB Tryd.prog = true := by kernel_rfl
section
variable {H : Type} {enc : TypeId × Value → H} {P : Program}
theorem trodAll_stays (hl : laidOutB P = true) {W W' : World} (hb : Below W.heap.size W W') {sp : Nat → Bool} :
    ∀ {ts : List TypeId} {vs : List Value} {ds : List (DataW H)} {ps : List MemPlace}, (∀ t ∈ ts, P.readableRec t = true ∧ t < P.types.size) → DataW.TrodAll enc P W 0 (fun _ => true) true ts vs ds ps →
      (∀ x ∈ ps, x.block < W.heap.size) → (∀ x ∈ ps, sp x.block = true) → DataW.TrodAll enc P W' 0 sp true ts vs ds ps
  | [], _, _, _, _, h, _, _ => by
    obtain ⟨rfl, rfl, rfl⟩ := trodAll_nil h
    exact trodAll_mk0
  | t :: ts, _, _, _, hr, h, hlt, hsp => by
    obtain ⟨v, vs1, d, ds1, a, b, rfl, rfl, rfl, h1, h2⟩ := trodAll_cons h
    have ht := hr t (by simp)
    exact ⟨a, b, WideElems.Trod_stays hl ht.1 ht.2 h1 (fun x hx => hb.same (hlt x (by simp [hx]))) (fun x hx => hsp x (by simp [hx])),
      trodAll_stays hl hb (fun t ht => hr t (by simp [ht])) h2 (fun x hx => hlt x (by simp [hx])) (fun x hx => hsp x (by simp [hx])), rfl⟩
/-- A law that answers true and touches nothing that was there meets its specification. -/
theorem law_post (hl : laidOutB P = true) {f : Func} {s : ChangeSpec} {W W' : World} {args : Array Value} {ds gs : List (DataW H)} {before : List MemPlace}
    (hW : DataW.Whole enc P f.params.toList s.vars false W args.toList ds gs before) (hv : s.vars = []) (hrow0 : (f.params.toList.all fun t => P.readableRec t && decide (t < P.types.size)) = true)
    (hfn : s.fn H (ds ++ gs) = { results := [.lit (.bool true)], args := ds }) {tb : TypeId} (hrt : f.resultTypes = #[tb]) (htb : P.underlying tb = some .bool) (hb : Below W.heap.size W W') :
    s.post enc P f false true false false W args (.bool true) W' := by
  have hrow : ∀ t ∈ f.params.toList, P.readableRec t = true ∧ t < P.types.size := fun t ht => by simpa using List.all_eq_true.1 hrow0 t ht
  have hlt := hW.lt
  have hW' := hW
  obtain ⟨p, q, hA, hV, rfl, hfz, hnd⟩ := hW'
  rw [hv] at hV
  obtain ⟨rfl, rfl⟩ := trodVars_none hV
  have hold : ∀ x ∈ p, x.block < W.heap.size := fun x hx => hlt x (by simp [hx])
  refine ⟨ds, [], p ++ [], [], p, [], hW, ?_, ?_, ?_, ?_, fun h => by cases h⟩
  · rw [hfn, hrt]
    exact trodAll_mk1 (shut_bool htb true)
  · rw [hfn]
    exact trodAll_stays hl hb hrow hA hold (fun x hx => by simpa using hold x hx)
  · rw [hfn, hv]; rfl
  · exact World.keptBut_mono (fun x hx => hx) (hb.frame _)
theorem laidMet_tail {W : World} {n : String} {d : DataW Unit} {rest : List (String × DataW Unit)} (h : laidMet P ((n, d) :: rest) W) : laidMet P rest W := by
  obtain ⟨ps, ⟨g, t, cs, fuel, p, q, _, _, _, _, hr, rfl⟩, hnd, hc⟩ := h
  exact ⟨q, hr, (List.nodup_append.1 hnd).2.1, fun b off hm => hc b off (by simp [hm])⟩
end
/-- A call's world, where nothing is the call's own yet. -/
def lawCx (W : World) : Cx := ⟨fun _ => False, W.heap.size, W.heap.size, ty, fun _ => none, fun _ => none, fun _ => undef, W, False⟩
def GlOK (W : World) : Prop := ∀ g, RV (lawCx W) (gl g) (.pointer (some ⟨g, 0, none⟩))
/-- A law that is known to answer true. -/
theorem law_calls {f : FuncId} {C : SpecP} (hg : Gd f (pureP ty C)) {W : World} {args : List AV} {vals : List Value} (hgl : GlOK W) (hv : RVs (lawCx W) args vals) (hC : C (fun vs => LeLW (restr (rdA ty (fun _ => none) args) fun _ => none) ty [] noK args vs ∧ NoFrLW vs) fun b => b.ren (sig noK 8) = .bo true)
    (hbd : (Tryd.prog.funcs[f]?.bind fun fn => fn.body).isSome = true := by kernel_rfl) :
    Calls Tryd.prog f vals.toArray W fun e W' => e = .returned (.bool true) ∧ Below W.heap.size W W' := by
  obtain ⟨r, hr, ⟨_, hval⟩ | ⟨fn, _, hfn, _, hbn, _⟩⟩ := hg args (fun _ => none) 8 (fun r => r.v = .bo true) (by rw [pureP_eq]; exact hC)
  rotate_left
  · rw [hfn] at hbd
    have hbd : fn.body.isSome = true := hbd
    rw [Option.isNone_iff_eq_none] at hbn
    rw [hbn] at hbd; cases hbd
  refine (hval (lawCx W) vals rfl ⟨fun _ _ h => (by cases h), fun _ _ _ _ _ h => (by cases h), fun _ _ _ h => (by cases h), Nat.le_refl _⟩ (Nat.le_refl _) (fun _ _ => rfl) (fun _ _ _ => rfl) hgl hv).mono ?_
  rintro e W' ⟨c', v, rfl, rfl, hst, hrv⟩
  rw [hr] at hrv
  exact ⟨by rw [rv_bo hrv], hst.low⟩
/-! ### What comes in -/
section
variable {H : Type} {enc : TypeId × Value → H} {W : World}
theorem in_u64 {n : Int} (h : (Lit.int .u64 n).wf = true) : ∃ x : BitVec 64, RV (lawCx W) (.u64 x) (.int .u64 n) := ⟨BitVec.ofInt 64 n, by
  have hb : 0 ≤ n ∧ n < 18446744073709551616 := by
    simp [Lit.wf, IntKind.min, IntKind.max, IntKind.signed, IntKind.bits] at h; omega
  show [_] = [_]
  unfold U64; rw [BitVec.toNat_ofInt]; congr 2; omega⟩
theorem in_u32 {n : Int} (h : (Lit.int .u32 n).wf = true) : ∃ x : BitVec 32, RV (lawCx W) (.u32 x) (.int .u32 n) := ⟨BitVec.ofInt 32 n, by
  have hb : 0 ≤ n ∧ n < 4294967296 := by
    simp [Lit.wf, IntKind.min, IntKind.max, IntKind.signed, IntKind.bits] at h; omega
  show [_] = [_]
  unfold U32; rw [BitVec.toNat_ofInt]; congr 2; omega⟩
theorem in_u16 {n : Int} (h : (Lit.int .u16 n).wf = true) : ∃ x : BitVec 16, RV (lawCx W) (.u16 x) (.int .u16 n) := ⟨BitVec.ofInt 16 n, by
  have hb : 0 ≤ n ∧ n < 65536 := by
    simp [Lit.wf, IntKind.min, IntKind.max, IntKind.signed, IntKind.bits] at h; omega
  show [_] = [_]
  unfold U16; rw [BitVec.toNat_ofInt]; congr 2; omega⟩
theorem in_u8 {n : Int} (h : (Lit.int .u8 n).wf = true) : ∃ x : BitVec 8, RV (lawCx W) (.u8 x) (.int .u8 n) := ⟨BitVec.ofInt 8 n, by
  have hb : 0 ≤ n ∧ n < 256 := by
    simp [Lit.wf, IntKind.min, IntKind.max, IntKind.signed, IntKind.bits] at h; omega
  show [_] = [_]
  unfold U8; rw [BitVec.toNat_ofInt]; congr 2; omega⟩
theorem in_int {n : Int} : RV (lawCx W) (.int n) (.int .i64 n) := rfl
end
/-! ### The table -/
def nmD : List (DataW Unit) := match Rows.laid_curtilage_rv_names (H := Unit) with
  | .agg ds => ds
  | _ => []
theorem gl_of {W : World} (h : laidMetH Tryd.prog [("curtilage/rv.names", Rows.laid_curtilage_rv_names)] W) : GlOK W := by
  have h0 : laidMet Tryd.prog [("curtilage/rv.names", Rows.laid_curtilage_rv_names)] W := h
  have c2 : RV (lawCx W) (.ipt TNam namA) (.pointer (some ⟨0, 0, none⟩)) := by
    obtain ⟨ps, ⟨g', t', cs, fuel, p, q, hg', ht', hvar, hd, _, _⟩, _⟩ := h0
    obtain rfl : 0 = g' := Option.some.inj ((show Tryd.prog.globalNamed "curtilage/rv.names" = some 0 by kernel_rfl).symm.trans hg')
    obtain rfl : 66 = t' := Option.some.inj ((show (Tryd.prog.globals[0]?).map (·.type) = some 66 by kernel_rfl).symm.trans ht')
    obtain ⟨hr, hs⟩ := in_raw (c := lawCx W) ok66 (by kernel_rfl) _ _ _ hd
    have hcell : ∀ j, W.cell? ⟨0, j, none⟩ = cs[j]? := fun j => World.var?_cell (by kernel_rfl) hvar j
    have hl := R_len hr hs
    have h0 : 0 < cs.size := by
      have : cs.toList.length = 57 := hl
      simp at this; omega
    have hq : (List.range 57).map (fun i => avD .str (nmD.getD i .nil)) = (List.range 57).map (fun i => AV.str (nm i)) := by kernel_rfl
    have hr1 : R (lawCx W) (.agg true 57 fun i => avD .str (nmD.getD i .nil)) cs.toList := hr
    have hr2 : R (lawCx W) namA cs.toList := R_agg_congr (fun i hi => List.map_inj_left.1 hq i (List.mem_range.2 hi)) hr1
    refine ⟨0, 0, cs.toList, rfl, World.block_lt_of_cell? W _ ((hcell 0).trans (Array.getElem?_eq_getElem h0)), fun h => h, hr2, ⟨rfl, rfl, fun _ _ => trivial⟩, fun j v hj => ?_⟩
    show W.cell? ⟨0, 0 + j, none⟩ = _
    rw [Nat.zero_add, hcell j]; simpa using hj
  intro g
  show RV (lawCx W) (bif Nat.beq g 0 then _ else .junk) _
  cases h0 : Nat.beq g 0
  · exact trivial
  · obtain rfl := Nat.eq_of_beq_eq_true h0
    exact c2
def lay (cs : Array Value) : Obj → Obj
  | .cells _ t frozen => .cells cs t frozen
  | o => o
/-- A world for the witness: the settled one, the table holding what its initialiser lays. -/
noncomputable def laidWorld (os : Os) : World :=
  { World.holding Tryd.prog os ⟨#[], #[], []⟩ with heap := (World.holding Tryd.prog os ⟨#[], #[], []⟩).heap.modify 0 (lay (([[], [108, 117, 105], [97, 117, 105, 112, 99], [106, 97, 108], [106, 97, 108, 114], [98, 101, 113], [98, 110, 101], [98, 108, 116], [98, 103, 101], [98, 108, 116, 117], [98, 103, 101, 117], [108, 98], [108, 104], [108, 119], [108, 98, 117], [108, 104, 117], [115, 98], [115, 104], [115, 119], [97, 100, 100, 105], [115, 108, 116, 105], [115, 108, 116, 105, 117], [120, 111, 114, 105], [111, 114, 105], [97, 110, 100, 105], [115, 108, 108, 105], [115, 114, 108, 105], [115, 114, 97, 105], [97, 100, 100], [115, 117, 98], [115, 108, 108], [115, 108, 116], [115, 108, 116, 117], [120, 111, 114], [115, 114, 108], [115, 114, 97], [111, 114], [97, 110, 100], [102, 101, 110, 99, 101], [101, 99, 97, 108, 108], [101, 98, 114, 101, 97, 107], [109, 114, 101, 116], [119, 102, 105], [99, 115, 114, 114, 119], [99, 115, 114, 114, 115], [99, 115, 114, 114, 99], [99, 115, 114, 114, 119, 105], [99, 115, 114, 114, 115, 105], [99, 115, 114, 114, 99, 105], [109, 117, 108], [109, 117, 108, 104], [109, 117, 108, 104, 115, 117], [109, 117, 108, 104, 117], [100, 105, 118], [100, 105, 118, 117], [114, 101, 109], [114, 101, 109, 117]] : List (List UInt8)).map fun s => Value.string ⟨s.toArray⟩).toArray) }
end Go.Proofs.YtonggppknpbhiaaDoor
