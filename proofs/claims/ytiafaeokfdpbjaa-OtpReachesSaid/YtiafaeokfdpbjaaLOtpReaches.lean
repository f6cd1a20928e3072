/- OtpReaches: OtpReaches: what is programmed wholly is as it should be, and nothing else has changed; what cannot be is refused, and nothing is to be programmed. For all words and all acts. -/
import Derived.Test.YtiafaeokfdpbjaaW0
import Derived.Test.YtiafaeokfdpbjaaGF
import Derived.Test.YtiafaeokfdpbjaaVG
namespace Go.Proofs.Ytiafaeokfdpbjaa.lOtpReaches
open Go.ChangeShapes Go.WideShapes Go.ChangeAt Go.RowKit
set_option maxRecDepth 100000
set_option maxHeartbeats 4000000
theorem contract (H : Type) (enc : TypeId × Value → H) (W : World) (base : Nat) (args : Array Value) (ds gs : List (DataW H)) (before : List MemPlace)
    (hval : ∀ (j : Nat) t v, Try.f4.params[j]? = some t → args[j]? = some v → Value.okWide Try.prog W .any base t v)
    (hW : DataW.Whole enc Try.prog Try.f4.params.toList Rows.otpReachesSpec.vars false W args.toList ds gs before) (hL : laidMetH Try.prog Rows.otpReachesRow.laid W) :
    Calls Try.prog 4 args W fun e W' => ∃ v, e = .returned v ∧ Rows.otpReachesSpec.post enc Try.prog Try.f4 false true false false W args v W' := by
  have hW' := hW
  obtain ⟨p, q, hA0, hV, rfl, hfz, hnd⟩ := hW
  have hA : DataW.TrodAll enc Try.prog W 0 (fun _ => true) true Try.f4.params.toList args.toList ds p := hA0
  rw [Try.params4] at hA hval
  obtain ⟨v0, vs0, d0, ds0, p0, q0, hargs, rfl, rfl, h0, t0⟩ := trodAll_cons hA
  obtain ⟨v1, vs1, d1, ds1, p1, q1, rfl, rfl, rfl, h1, t1⟩ := trodAll_cons t0
  obtain ⟨v2, vs2, d2, ds2, p2, q2, rfl, rfl, rfl, h2, t2⟩ := trodAll_cons t1
  obtain ⟨rfl, rfl, rfl⟩ := trodAll_nil t2
  obtain rfl : args = #[v0, v1, v2] := by cases args; simp_all
  obtain ⟨rfl, rfl⟩ := trodVars_none hV
  obtain ⟨x0, r0⟩ := in_val (c := lawCx W) rfl (fun _ h => h) ok23 4 (by kernel_rfl) (hval 0 23 v0 rfl rfl) h0
  obtain ⟨x1, r1⟩ := in_bool (d := d1) (p := p1) Try.underlying4 (hval 1 4 v1 rfl rfl)
  obtain ⟨x2, r2⟩ := in_val (c := lawCx W) rfl (fun _ h => h) ok32 4 (by kernel_rfl) (hval 2 32 v2 rfl rfl) h2
  refine (law_calls g_l11_OtpReaches gl_of (.cons r0 (.cons r1 (.cons r2 .nil))) ⟨(fun k => asU32 (elI x0 k)), x1, (asU8 (elI x2 0)), ((BitVec.ofInt 64 (intV (elI x2 1))).toInt), (fun i => asU8 (elI (elI x2 2) i)), (asU8 (elI x2 3)), (asBo (elI x2 4)), (asU32 (elI x2 5)), (by ((repeat' ((conv => whnf) <;> first | exact trivial | (with_reducible first | refine And.intro ?_ ?_ | refine rows_lt1 ?_ | refine rows_lt2 ?_ ?_ | refine rows_lt3 ?_ ?_ ?_ | refine rows_lt4 ?_ ?_ ?_ ?_ | refine rows_lt5 ?_ ?_ ?_ ?_ ?_ | refine aggs_lt1 ?_ | refine aggs_lt2 ?_ ?_ | refine aggs_lt3 ?_ ?_ ?_ | refine fun (_ : Nat) => ?_) | refine fun (_ : (_ : Nat) < _) => ?_ | exact rfl | exact Nat.le_of_ble_eq_true rfl | (change (_ : Nat) ≤ _; omega) | (change (_ : Nat) = _; omega) | (change (_ : Int) = _; omega))); (all_goals try (conv => whnf)))), (i64_toInt _), rfl⟩).mono fun e W' ⟨he, hb⟩ => ?_
  subst he
  exact ⟨_, rfl, law_post laidOut hW' rfl (by kernel_rfl) rfl rfl Try.underlying4 hb⟩
def wit : Array Value := #[.agg (Array.replicate 64 (.int .u32 0)), .bool false, .agg (#[.int .u8 0, .int .i64 0] ++ Array.replicate 32 (.int .u8 0) ++ #[.int .u8 0, .bool false, .int .u32 0])]
theorem laid_met (os : Os) : laidMet Try.prog Rows.otpReachesRow.laid ((World.holding Try.prog os ⟨#[], #[], []⟩).forCall (fun _ _ => 0) ⟨#[], wit, []⟩).memory :=
  laidMet_of_run' 8 (by kernel_rfl) (by kernel_rfl)
theorem reads (os : Os) {H : Type} (enc : TypeId × Value → H) : ∃ places, DataW.whole enc Try.prog ((World.holding Try.prog os ⟨#[], #[], []⟩).forCall (fun _ _ => 0) ⟨#[], wit, []⟩).memory Try.f4.params.toList Rows.otpReachesSpec.vars false wit.toList 8 = some ([.agg (List.replicate 64 (.lit (.int .u32 0))), .lit (.bool false), .agg [.lit (.int .u8 0), .lit (.int .i64 0), .agg (List.replicate 32 (.lit (.int .u8 0))), .lit (.int .u8 0), .lit (.bool false), .lit (.int .u32 0)]], [], places) :=
  ⟨[], by kernel_rfl⟩
set_option maxRecDepth 100000 in
theorem lifted (os : Os) (started : os.Started) (H : Type) (enc : TypeId × Value → H) (F : Stop.Interp) :
    ReturnsInHanded {} Try.checked os 4 .any ((OpenSpec.ofChange Rows.otpReachesSpec).preRow enc Try.prog Try.f4 Rows.otpReachesRow.domain false Rows.otpReachesRow.laid) (((OpenSpec.ofChange Rows.otpReachesSpec).at F).post enc Try.prog Try.f4 false true false false) := by
  obtain ⟨places, hx⟩ := reads os enc
  refine returnsInHanded_of_row (C := Try.checked) (s := OpenSpec.ofChange Rows.otpReachesSpec) own started (by kernel_rfl) Try.func4
    (witness_row_at (enc := enc) (C := Try.checked) false (World.holding Try.prog os ⟨#[], #[], []⟩) wit rfl (by kernel_rfl) (by kernel_rfl) (by kernel_rfl)
      (OpenSpec.preRow_of_cond 8 hx (by kernel_rfl) (fun k hk => by cases hk) (by kernel_rfl) (laid_met os))) ?_
  intro W base args ds gs before hval hW _ _ _ hL _ _
  exact contract H enc W base args ds gs before hval hW hL
theorem said : Rows.OtpReachesSaid :=
  OpenClaim.holds_of_cond 4 Try.f4 rfl rfl rfl rfl rfl rfl rfl ⟨rfl, rfl, rfl, rfl, rfl⟩ rfl rfl rfl rfl rfl (by kernel_rfl) Try.func4 (by kernel_rfl)
    (of_decide_eq_true (by kernel_rfl)) (by unfold Func.isWrapper; first | (rw [if_pos (by decide +kernel)]; kernel_rfl) | (rw [if_neg (by decide +kernel)]; exact ⟨rfl, rfl⟩))
    (fun os started H enc _ F => by rw [OpenClaim.pre_eq_preRow]; exact lifted os started H enc F)
end Go.Proofs.Ytiafaeokfdpbjaa.lOtpReaches
