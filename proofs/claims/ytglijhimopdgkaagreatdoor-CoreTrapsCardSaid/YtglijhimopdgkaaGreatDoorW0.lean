/- From a law's walk to its statement. -/
import Derived.Test.YtglijhimopdgkaaGreatDoorWB
import Derived.Test.YtglijhimopdgkaaGreatDoorCards
import Derived.Test.YtglijhimopdgkaaGreatDoorTie
import Derived.ProofKit
import Derived.OpenShut
import Derived.Deep.DeepHandedRow
import Derived.Lib.LaidTab
namespace Go.Proofs.YtglijhimopdgkaaGreatDoor
open Go.ChangeShapes Go.WideShapes Go.ChangeAt Go.RowKit
set_option maxRecDepth 100000
theorem own : ownKnob Tryz.prog.godebug = none := by kernel_rfl
theorem laidOut : laidOutB Tryz.prog = true := by kernel_rfl
section
variable {H : Type} {enc : TypeId × Value → H} {P : Program}
theorem trodAll_stays (hl : laidOutB P = true) {W W' : World} (hb : Below W.heap.size W W') {sp : Nat → Bool} :
    ∀ {ts : List TypeId} {vs : List Value} {ds : List (DataW H)} {ps : List MemPlace}, (∀ t ∈ ts, P.readableRec t = true ∧ t < P.types.size) → DataW.TrodAll enc P W 0 (fun _ => true) true ts vs ds ps →
      (∀ x ∈ ps, x.block < W.heap.size) → (∀ x ∈ ps, sp x.block = true) → DataW.TrodAll enc P W' 0 sp true ts vs ds ps
  | [], _, _, _, _, h, _, _ => by
    obtain ⟨rfl, rfl, rfl⟩ := trodAll_nil h
    exact trodAll_mk0
  | t :: ts, _, _, _, hr, h, hlt, hsp => by
    obtain ⟨v, vs1, d, ds1, a, b, rfl, rfl, rfl, h1, h2⟩ := trodAll_cons h
    have ht := hr t (by simp)
    exact ⟨a, b, WideElems.Trod_stays hl ht.1 ht.2 h1 (fun x hx => hb.same (hlt x (by simp [hx]))) (fun x hx => hsp x (by simp [hx])),
      trodAll_stays hl hb (fun t ht => hr t (by simp [ht])) h2 (fun x hx => hlt x (by simp [hx])) (fun x hx => hsp x (by simp [hx])), rfl⟩
theorem law_post (hl : laidOutB P = true) {f : Func} {s : ChangeSpec} {W W' : World} {args : Array Value} {ds gs : List (DataW H)} {before : List MemPlace}
    (hW : DataW.Whole enc P f.params.toList s.vars false W args.toList ds gs before) (hv : s.vars = []) (hrow0 : (f.params.toList.all fun t => P.readableRec t && decide (t < P.types.size)) = true)
    (hfn : s.fn H (ds ++ gs) = { results := [.lit (.bool true)], args := ds }) {tb : TypeId} (hrt : f.resultTypes = #[tb]) (htb : P.underlying tb = some .bool) (hb : Below W.heap.size W W') :
    s.post enc P f false true false false W args (.bool true) W' := by
  have hrow : ∀ t ∈ f.params.toList, P.readableRec t = true ∧ t < P.types.size := fun t ht => by simpa using List.all_eq_true.1 hrow0 t ht
  have hlt := hW.lt
  have hW' := hW
  obtain ⟨p, q, hA, hV, rfl, hfz, hnd⟩ := hW'
  rw [hv] at hV
  obtain ⟨rfl, rfl⟩ := trodVars_none hV
  have hold : ∀ x ∈ p, x.block < W.heap.size := fun x hx => hlt x (by simp [hx])
  refine ⟨ds, [], p ++ [], [], p, [], hW, ?_, ?_, ?_, ?_, fun h => by cases h⟩
  · rw [hfn, hrt]
    exact trodAll_mk1 (shut_bool htb true)
  · rw [hfn]
    exact trodAll_stays hl hb hrow hA hold (fun x hx => by simpa using hold x hx)
  · rw [hfn, hv]; rfl
  · exact World.keptBut_mono (fun x hx => hx) (hb.frame _)
theorem laidMet_tail {W : World} {n : String} {d : DataW Unit} {rest : List (String × DataW Unit)} (h : laidMet P ((n, d) :: rest) W) : laidMet P rest W := by
  obtain ⟨ps, ⟨g, t, cs, fuel, p, q, _, _, _, _, hr, rfl⟩, hnd, hc⟩ := h
  exact ⟨q, hr, (List.nodup_append.1 hnd).2.1, fun b off hm => hc b off (by simp [hm])⟩
end
def lawCx (W : World) : Cx := ⟨fun _ => False, W.heap.size, W.heap.size, ty, fun _ => none, fun _ => none, fun _ => undef, W, False⟩
def GlOK (W : World) : Prop := ∀ g, RV (lawCx W) (gl g) (.pointer (some ⟨g, 0, none⟩))
theorem law_calls {f : FuncId} {C : SpecP} (hg : Gd f (pureP ty C)) {W : World} {args : List AV} {vals : List Value} (hgl : GlOK W) (hv : RVs (lawCx W) args vals) (hC : C (fun vs => LeLW (restr (rdA ty (fun _ => none) args) fun _ => none) ty [] noK args vs ∧ NoFrLW vs) fun b => b.ren (sig noK 8) = .bo true)
    (hbd : (Tryz.prog.funcs[f]?.bind fun fn => fn.body).isSome = true := by kernel_rfl) :
    Calls Tryz.prog f vals.toArray W fun e W' => e = .returned (.bool true) ∧ Below W.heap.size W W' := by
  obtain ⟨r, hr, ⟨_, hval⟩ | ⟨fn, _, hfn, _, hbn, _⟩⟩ := hg args (fun _ => none) 8 (fun r => r.v = .bo true) (by rw [pureP_eq]; exact hC)
  rotate_left
  · rw [hfn] at hbd
    have hbd : fn.body.isSome = true := hbd
    rw [Option.isNone_iff_eq_none] at hbn
    rw [hbn] at hbd; cases hbd
  refine (hval (lawCx W) vals rfl ⟨fun _ _ h => (by cases h), fun _ _ _ _ _ h => (by cases h), fun _ _ _ h => (by cases h), Nat.le_refl _⟩ (Nat.le_refl _) (fun _ _ => rfl) (fun _ _ _ => rfl) hgl hv).mono ?_
  rintro e W' ⟨c', v, rfl, rfl, hst, hrv⟩
  rw [hr] at hrv
  exact ⟨by rw [rv_bo hrv], hst.low⟩
section
variable {H : Type} {enc : TypeId × Value → H} {W : World}
end
theorem gl_of {W : World} (h : laidMetH Tryz.prog [("curtilage/grant.regions", Rows.laid_curtilage_grant_regions), ("curtilage/core.csrs", Rows.laid_curtilage_core_csrs)] W) : GlOK W := by
  have h0 : laidMet Tryz.prog [("curtilage/grant.regions", Rows.laid_curtilage_grant_regions), ("curtilage/core.csrs", Rows.laid_curtilage_core_csrs)] W := h
  have h1 := laidMet_tail h0
  have c2 : RV (lawCx W) (.ipt TReg regsA) (.pointer (some ⟨1, 0, none⟩)) := by
    obtain ⟨ps, ⟨g', t', cs, fuel, p, q, hg', ht', hvar, hd, _, _⟩, _⟩ := h0
    obtain rfl : 1 = g' := Option.some.inj ((show Tryz.prog.globalNamed "curtilage/grant.regions" = some 1 by kernel_rfl).symm.trans hg')
    obtain rfl : 170 = t' := Option.some.inj ((show (Tryz.prog.globals[1]?).map (·.type) = some 170 by kernel_rfl).symm.trans ht')
    obtain ⟨hr, hs⟩ := in_raw (c := lawCx W) ok170 (by kernel_rfl) _ _ _ hd
    have hcell : ∀ j, W.cell? ⟨1, j, none⟩ = cs[j]? := fun j => World.var?_cell (by kernel_rfl) hvar j
    have hl := R_len hr hs
    have h0 : 0 < cs.size := by
      have : cs.toList.length = 12 := hl
      simp at this; omega
    have hr2 : R (lawCx W) regsA cs.toList := by
      obtain ⟨g, hg, e⟩ := hr
      refine ⟨g, fun i hi => ?_, e⟩
      rcases (show i = 0 ∨ i = 1 ∨ i = 2 ∨ i = 3 ∨ i = 4 ∨ i = 5 by omega) with rfl | rfl | rfl | rfl | rfl | rfl
      · exact R_agg_congr (fun j hj => by rcases (show j = 0 ∨ j = 1 by omega) with rfl | rfl <;> rfl) (hg 0 hi)
      · exact R_agg_congr (fun j hj => by rcases (show j = 0 ∨ j = 1 by omega) with rfl | rfl <;> rfl) (hg 1 hi)
      · exact R_agg_congr (fun j hj => by rcases (show j = 0 ∨ j = 1 by omega) with rfl | rfl <;> rfl) (hg 2 hi)
      · exact R_agg_congr (fun j hj => by rcases (show j = 0 ∨ j = 1 by omega) with rfl | rfl <;> rfl) (hg 3 hi)
      · exact R_agg_congr (fun j hj => by rcases (show j = 0 ∨ j = 1 by omega) with rfl | rfl <;> rfl) (hg 4 hi)
      · exact R_agg_congr (fun j hj => by rcases (show j = 0 ∨ j = 1 by omega) with rfl | rfl <;> rfl) (hg 5 hi)
    refine ⟨1, 0, cs.toList, rfl, World.block_lt_of_cell? W _ ((hcell 0).trans (Array.getElem?_eq_getElem h0)), fun h => h, hr2, ⟨rfl, rfl, fun i _ => ⟨rfl, rfl, fun j hj => by
      rcases (show j = 0 ∨ j = 1 by omega) with rfl | rfl <;> exact trivial⟩⟩, fun j v hj => ?_⟩
    show W.cell? ⟨1, 0 + j, none⟩ = _
    rw [Nat.zero_add, hcell j]; simpa using hj
  have c3 : RV (lawCx W) (.ipt TCsr csrsA) (.pointer (some ⟨0, 0, none⟩)) := by
    obtain ⟨ps, ⟨g', t', cs, fuel, p, q, hg', ht', hvar, hd, _, _⟩, _⟩ := h1
    obtain rfl : 0 = g' := Option.some.inj ((show Tryz.prog.globalNamed "curtilage/core.csrs" = some 0 by kernel_rfl).symm.trans hg')
    obtain rfl : 113 = t' := Option.some.inj ((show (Tryz.prog.globals[0]?).map (·.type) = some 113 by kernel_rfl).symm.trans ht')
    obtain ⟨hr, hs⟩ := in_rawU (c := lawCx W) ok113 (by kernel_rfl) _ _ _ hd
    have hcell : ∀ j, W.cell? ⟨0, j, none⟩ = cs[j]? := fun j => World.var?_cell (by kernel_rfl) hvar j
    have hl := R_len hr hs
    have h0 : 0 < cs.size := by
      have : cs.toList.length = 20 := hl
      simp at this; omega
    have hr2 : R (lawCx W) csrsA cs.toList := by
      obtain ⟨g, hg, e⟩ := hr
      refine ⟨g, fun i hi => ?_, e⟩
      rcases (show i = 0 ∨ i = 1 ∨ i = 2 ∨ i = 3 ∨ i = 4 ∨ i = 5 ∨ i = 6 ∨ i = 7 ∨ i = 8 ∨ i = 9 by omega) with rfl | rfl | rfl | rfl | rfl | rfl | rfl | rfl | rfl | rfl
      · exact R_agg_congr (fun j hj => by rcases (show j = 0 ∨ j = 1 by omega) with rfl | rfl <;> rfl) (hg 0 hi)
      · exact R_agg_congr (fun j hj => by rcases (show j = 0 ∨ j = 1 by omega) with rfl | rfl <;> rfl) (hg 1 hi)
      · exact R_agg_congr (fun j hj => by rcases (show j = 0 ∨ j = 1 by omega) with rfl | rfl <;> rfl) (hg 2 hi)
      · exact R_agg_congr (fun j hj => by rcases (show j = 0 ∨ j = 1 by omega) with rfl | rfl <;> rfl) (hg 3 hi)
      · exact R_agg_congr (fun j hj => by rcases (show j = 0 ∨ j = 1 by omega) with rfl | rfl <;> rfl) (hg 4 hi)
      · exact R_agg_congr (fun j hj => by rcases (show j = 0 ∨ j = 1 by omega) with rfl | rfl <;> rfl) (hg 5 hi)
      · exact R_agg_congr (fun j hj => by rcases (show j = 0 ∨ j = 1 by omega) with rfl | rfl <;> rfl) (hg 6 hi)
      · exact R_agg_congr (fun j hj => by rcases (show j = 0 ∨ j = 1 by omega) with rfl | rfl <;> rfl) (hg 7 hi)
      · exact R_agg_congr (fun j hj => by rcases (show j = 0 ∨ j = 1 by omega) with rfl | rfl <;> rfl) (hg 8 hi)
      · exact R_agg_congr (fun j hj => by rcases (show j = 0 ∨ j = 1 by omega) with rfl | rfl <;> rfl) (hg 9 hi)
    refine ⟨0, 0, cs.toList, rfl, World.block_lt_of_cell? W _ ((hcell 0).trans (Array.getElem?_eq_getElem h0)), fun h => h, hr2, ⟨rfl, rfl, fun i _ => ⟨rfl, rfl, fun j hj => by
      rcases (show j = 0 ∨ j = 1 by omega) with rfl | rfl <;> exact trivial⟩⟩, fun j v hj => ?_⟩
    show W.cell? ⟨0, 0 + j, none⟩ = _
    rw [Nat.zero_add, hcell j]; simpa using hj
  intro g
  show RV (lawCx W) (bif Nat.beq g 1 then _ else bif Nat.beq g 0 then _ else .junk) _
  cases h0 : Nat.beq g 1
  · cases h1 : Nat.beq g 0
    · exact trivial
    · obtain rfl := Nat.eq_of_beq_eq_true h1
      exact c3
  · obtain rfl := Nat.eq_of_beq_eq_true h0
    exact c2
def lay (cs : Array Value) : Obj → Obj
  | .cells _ t frozen => .cells cs t frozen
  | o => o
noncomputable def laidWorld (os : Os) : World :=
  { World.holding Tryz.prog os ⟨#[], #[], []⟩ with heap := ((World.holding Tryz.prog os ⟨#[], #[], []⟩).heap.modify 1 (lay (([0, 0, 536870912, 4096, 536875008, 4096, 268435456, 10240, 1073741824, 64, 1610612736, 256] : List Int).map fun x => Value.int .u32 x).toArray)).modify 0 (lay #[.int .u16 768, .int .u32 136, .int .u16 772, .int .u32 128, .int .u16 773, .int .u32 4294967292, .int .u16 832, .int .u32 4294967295, .int .u16 833, .int .u32 4294967292, .int .u16 834, .int .u32 4294967295, .int .u16 835, .int .u32 4294967295, .int .u16 836, .int .u32 0, .int .u16 2816, .int .u32 4294967295, .int .u16 3860, .int .u32 0]) }
end Go.Proofs.YtglijhimopdgkaaGreatDoor
