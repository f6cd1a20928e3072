/- ShaPads: what stands behind any number of bytes fills up to blocks, as short as can be, and tells how many bits there were. For every number. -/
import Derived.Test.YtelcblmconophaaDoorL0
namespace Go.Proofs.YtelcblmconophaaDoor.lPads
open Go.ChangeShapes Go.WideShapes Go.ChangeAt Go.RowKit
theorem u64_inj_nat {x y : BitVec 64} (h : x.toNat = y.toNat) : x = y := BitVec.eq_of_toNat_eq h
theorem val_be (v : BitVec 64) : val (be v 8) = v := by
  apply u64_inj_nat
  have hv := v.isLt
  have e : be v 8 = [byt v 7, byt v 6, byt v 5, byt v 4, byt v 3, byt v 2, byt v 1, byt v 0] := rfl
  rw [e, val]
  simp only [List.foldl_cons, List.foldl_nil]
  have hb : ∀ i, (byt v i).toNat = v.toNat / 2 ^ (8 * i) % 256 := fun i => by
    unfold byt; rw [BitVec.toNat_setWidth, BitVec.toNat_ushiftRight, Nat.shiftRight_eq_div_pow]
  simp only [BitVec.toNat_add, BitVec.toNat_mul, BitVec.toNat_setWidth, BitVec.toNat_ofNat, hb]
  generalize v.toNat = n at *
  simp only [Nat.reduceMul, Nat.reducePow]
  have d1 : n / 256 / 256 = n / 65536 := by rw [Nat.div_div_eq_div_mul]
  omega
theorem padL_at0 (n : BitVec 64) : at8 (padL n) 0 = 128 := rfl
theorem padL_mid (n : BitVec 64) (k : Nat) (hk : k < padZs n) : at8 (padL n) (1 + k) = 0 := by
  have : 1 + k = k + 1 := by omega
  rw [this]
  simp only [at8, padL, List.getD_eq_getElem?_getD, List.getElem?_cons_succ]
  rw [List.getElem?_append_left (by simpa using hk), List.getElem?_replicate, if_pos hk]; rfl
theorem padL_end (n : BitVec 64) (j : Nat) : at8 (padL n) (padZs n + 1 + j) = at8 (be (8#64 * n) 8) j := by
  have : padZs n + 1 + j = (padZs n + j) + 1 := by omega
  rw [this]
  simp only [at8, padL, List.getD_eq_getElem?_getD, List.getElem?_cons_succ]
  rw [List.getElem?_append_right (by simp), List.length_replicate, Nat.add_sub_cancel_left]
set_option maxHeartbeats 2000000 in
theorem walk (n : BitVec 64) (w : World) (hT : Tab w) :
    Calls Tryd.prog 6 #[.int .u64 (U64 n)] w fun e w' => e = .returned (.bool true) ∧ Below w.heap.size w w' := by
  obtain ⟨r, hr⟩ : ∃ r : Nat, r = n.toNat % 64 := ⟨_, rfl⟩
  have hrm : (U64 n).tmod 64 = (r : Int) := by unfold U64; rw [Int.tmod_eq_emod_of_nonneg (by omega), hr]; omega
  have hpl := padL_len n
  have hpm := padL_mid n
  have hpe := padL_end n
  have hzr : (r + (padZs n + 9)) % 64 = 0 ∧ padZs n < 64 := by
    unfold padZs; rw [BitVec.toNat_sub, hr]; simp only [BitVec.toNat_ofNat]; have := n.isLt; omega
  generalize hz : padZs n = z at *
  obtain ⟨hz1, hz2⟩ := hzr
  have hr64 : r < 64 := by omega
  have HP := Lib.hid hpl
  have HPM := Lib.hid hpm
  have HPE := Lib.hid hpe
  have HZ := Lib.hid hz
  have HV := Lib.hid (val_be (8#64 * n))
  have HBL := Lib.hid (be_len (8#64 * n) 8)
  have d0 : ((r : Int) + (↑z + 9)) % 64 = 0 := by omega
  clear hpl hr hpm hpe hz hz1
  have d1 : decide ((z : Int) + 9 < 9) = false := by simp; omega
  have d2 : decide ((72 : Int) < ↑z + 9) = false := by simp; omega
  have i1 : (0 : Int) ≤ ↑z + 9 - 8 := by omega
  have i2 : (z : Int) + 9 - 8 ≤ ↑z + 9 := by omega
  have i3 : (1 : Int) ≤ ↑z + 9 - 8 := by omega
  generalize be (8#64 * n) 8 = B at *
  go_enter Tryd.func6, Tryd.ntmps6
  go_wp2_with (first
    | (go_at_call 12; refine (awake1 _ hT).mono ?_; rintro e w1 ⟨rfl, hb⟩)
    | (go_at_call 26; refine (pad_walk n _).mono ?_; rw [HZ.out]; rintro e w2 ⟨rfl, b2, hb2, hs2⟩; replace hb := hb.trans (hb2.mono hb.size)
       have c0 := (b2.cell 0).trans (e8_at (padL n) 0 (by rw [HP.out]; omega))
       rw [padL_at0, show U8 128 = 128 from rfl] at c0
       have HC : Hid (∀ k, k < z → w2.cell? ⟨w1.heap.size, 1 + k, none⟩ = some (.int .u8 0)) := Lib.hid (fun k hk => by
         rw [b2.cell, e8_at _ _ (by rw [HP.out]; omega), HPM.out k hk]; rfl)
       have rV : RdB w2 (some ⟨w1.heap.size, z + 1, none⟩) B := fun _ => ⟨_, _, rfl, b2.lt, fun j hj => by
         rw [b2.cell, e8_at _ _ (by rw [HP.out]; rw [HBL.out] at hj; omega), HPE.out j]⟩
       clear hb2 hs2 b2))
  have hvw := value_walk B (some ⟨w1.heap.size, z + 1, none⟩) 8 w2 (by rw [HBL.out]; omega) rV
  rw [HBL.out, HV.out] at hvw
  refine hvw.mono ?_
  rintro e w' ⟨rfl, rfl⟩
  clear hvw rV
  go_wp2_with fail
  go_loop [51] (fun i => ∃ k : Nat, k ≤ z ∧ i = .int .i64 k) (fun i => z - (intOf i).toNat)
  case atStart => exact ⟨0, by omega, rfl⟩
  case round =>
    obtain ⟨k, hk, rfl⟩ := hrel
    by_cases hlt : k < z
    · have ck := HC.out k hlt
      go_wp2_with fail
      go_round
      case rel => exact ⟨k + 1, by omega, by go_num⟩
      case measure => simp [intOf]; omega
    · go_wp2_with fail
      go_ret
      exact ⟨rfl, hb⟩

theorem contract (H : Type) (enc : TypeId × Value → H) (W : World) (base : Nat) (args : Array Value) (ds gs : List (DataW H)) (before : List MemPlace)
    (hval : ∀ (j : Nat) t v, Tryd.f6.params[j]? = some t → args[j]? = some v → Value.okWide Tryd.prog W .any base t v)
    (hW : DataW.Whole enc Tryd.prog Tryd.f6.params.toList Rows.shaPadsSpec.vars false W args.toList ds gs before) (hL : laidMetH Tryd.prog Rows.shaPadsRow.laid W) :
    Calls Tryd.prog 6 args W fun e W' => ∃ v, e = .returned v ∧ Rows.shaPadsSpec.post enc Tryd.prog Tryd.f6 false true false false W args v W' := by
  have hW' := hW
  obtain ⟨p, q, hA0, hV, rfl, hfz, hnd⟩ := hW
  have hA : DataW.TrodAll enc Tryd.prog W 0 (fun _ => true) true Tryd.f6.params.toList args.toList ds p := hA0
  rw [Tryd.params6] at hA hval
  obtain ⟨v0, vs0, d0, ds0, p0, q0, hargs, rfl, rfl, h0, r0⟩ := trodAll_cons hA
  obtain ⟨rfl, rfl, rfl⟩ := trodAll_nil r0
  obtain rfl : args = #[v0] := by cases args; simp_all
  obtain ⟨rfl, rfl⟩ := trodVars_none hV
  obtain ⟨n0, rfl, rfl, rfl, w0⟩ := open_int Tryd.underlying33 (hval 0 33 v0 rfl rfl) h0
  obtain ⟨x0, rfl⟩ := u64_of n0 w0
  refine (walk x0 W (tab_of hL)).mono fun e W' ⟨he, hb⟩ => ?_
  subst he
  exact ⟨_, rfl, law_post laidOut hW' rfl (by kernel_rfl) rfl rfl Tryd.underlying4 hb⟩
def wit : Array Value := #[.int .u64 0]
theorem laid_met (os : Os) : laidMet Tryd.prog Rows.shaPadsRow.laid ((laidWorld os).forCall (fun _ _ => 0) ⟨#[], wit, []⟩).memory :=
  laidMet_of_run' 8 (by kernel_rfl) (by kernel_rfl)
theorem reads (os : Os) {H : Type} (enc : TypeId × Value → H) : ∃ places, DataW.whole enc Tryd.prog ((laidWorld os).forCall (fun _ _ => 0) ⟨#[], wit, []⟩).memory Tryd.f6.params.toList Rows.shaPadsSpec.vars false wit.toList 8 = some ([.lit (.int .u64 0)], [], places) :=
  ⟨[], by kernel_rfl⟩
set_option maxRecDepth 100000 in
theorem lifted (os : Os) (started : os.Started) (H : Type) (enc : TypeId × Value → H) (F : Stop.Interp) :
    ReturnsInHanded {} Tryd.checked os 6 .any ((OpenSpec.ofChange Rows.shaPadsSpec).preRow enc Tryd.prog Tryd.f6 Rows.shaPadsRow.domain false Rows.shaPadsRow.laid) (((OpenSpec.ofChange Rows.shaPadsSpec).at F).post enc Tryd.prog Tryd.f6 false true false false) := by
  obtain ⟨places, hx⟩ := reads os enc
  refine returnsInHanded_of_row (C := Tryd.checked) (s := OpenSpec.ofChange Rows.shaPadsSpec) own started (by kernel_rfl) Tryd.func6
    (witness_row_at (enc := enc) (C := Tryd.checked) false (laidWorld os) wit rfl (by kernel_rfl) (by kernel_rfl) (by kernel_rfl)
      (OpenSpec.preRow_of_cond 8 hx (by kernel_rfl) (fun k hk => by cases hk) (by kernel_rfl) (laid_met os))) ?_
  intro W base args ds gs before hval hW _ _ _ hL _ _
  exact contract H enc W base args ds gs before hval hW hL
theorem said : Rows.ShaPadsSaid :=
  OpenClaim.holds_of_cond 6 Tryd.f6 rfl rfl rfl rfl rfl rfl rfl ⟨rfl, rfl, rfl, rfl, rfl⟩ rfl rfl rfl rfl rfl (by kernel_rfl) Tryd.func6 (by kernel_rfl)
    (of_decide_eq_true (by kernel_rfl)) (by unfold Func.isWrapper; first | (rw [if_pos (by decide +kernel)]; kernel_rfl) | (rw [if_neg (by decide +kernel)]; exact ⟨rfl, rfl⟩))
    (fun os started H enc _ F => by rw [OpenClaim.pre_eq_preRow]; exact lifted os started H enc F)
theorem plain (f : FuncId) (fn : Func) (hf : Tryd.pinned.checked.prog.funcNamed "curtilage/curtilagelaw01.ShaPads" = some f) (hfn : Tryd.pinned.checked.prog.funcs[f]? = some fn) :
    false = Tryd.pinned.checked.prog.looks [] ∧ ∀ (j : Nat) t, fn.params[j]? = some t → Tryd.pinned.checked.prog.wantsStandIn t = false := by
  obtain rfl : f = 6 := Option.some.inj ((show Tryd.prog.funcNamed "curtilage/curtilagelaw01.ShaPads" = some 6 by kernel_rfl).symm.trans hf) |>.symm
  obtain rfl : fn = Tryd.f6 := (Option.some.inj (Tryd.func6.symm.trans hfn)).symm
  refine ⟨by kernel_rfl, fun j t ht => ?_⟩
  rw [Tryd.params6] at ht
  have hm : t ∈ [33] := by simpa using Array.mem_of_getElem? ht
  have hall : ([33].all fun u => !Tryd.prog.wantsStandIn u) = true := by kernel_rfl
  exact (show Tryd.prog.wantsStandIn t = false by simpa using List.all_eq_true.1 hall t hm)
theorem card : Rows.ShaPadsCardSaid :=
  Claim7.holds_tied_plain_at .later [] _ _ _ _ said (fun _ h => by cases h) (by kernel_rfl) (fun _ h => by cases h) shaPads_row_tie rfl ⟨rfl, rfl⟩ (by kernel_rfl) rfl plain (by kernel_rfl)

end Go.Proofs.YtelcblmconophaaDoor.lPads
