/-
  NARROWER THAN 'FOR EVERY INPUT', by the rows' own cells (each row's printed sentence says how): CoreOne: laid · CoreTraps: laid · CoreTimer: laid · CoreAdds: laid.
  DERIVED. THE GIVEN ROWS OF THIS SEAT. 4 by the template 'for every input the law returns true; each argument reads behind the call as it read before'; 0 by the template 'total and deterministic' (their statements: YtglijhimopdgkaaGreatDoorTotals.lean).
  GIVEN WITH THE SEED: the statements are not yours to turn. If you find one false, say at which input.
  Laid BY PROGRAM, IN A SANDBOX (cutbox-rows.mjs): the forced cells as the released guide's own fill.sh prints them over the translation 07c96d15862b98b7… (all of the seat's roots in one cut). By AI agents, Wed Nov 11 2026. No macro, syntax, notation, axiom, sorry.
-/
import Derived.Test.YtglijhimopdgkaaGreatDoorChecked
import GoSem.Claim
import GoSem.ClaimJoined
import GoSem.ClaimMapViews
import Derived.JoinedTies
import Derived.KernelRfl
namespace Go.Proofs.YtglijhimopdgkaaGreatDoor
/- THE CELL 'sum', in the pinned program and in every row, IS THE sha256 OF THE DUMP (.gsa) THAT YtglijhimopdgkaaGreatDoorProg.lean LOADS. Nothing in Lean hashes anything: it is a label: what it is worth is what the hold of that sum in a sandbox is worth. -/
noncomputable def Tryz.pinned : Pinned := { name := "ytglijhimopdgkaagreatdoor", sum := "07c96d15862b98b798a850c130739f78d5d7c8fb3378eddac351ae59eabc5f61", checked := Tryz.checked }
namespace Rows
def none {H : Type} : Left H := { results := [], args := [] }

/- WHAT THE LISTED PACKAGE-LEVEL VARIABLES READ AS WHEN THE CALL BEGINS. Each datum BY PROGRAM (the guide's laid-datum.mjs) off the statement by which the dump's own 'gosem.cut.vars' lays the variable. In a bare row this is a premise. The card (YtglijhimopdgkaaGreatDoorCards.lean) ties it to the program's text. -/
def laid_curtilage_grant_regions {H : Type} : DataW H := .agg [.agg [.lit (.int .u32 0), .lit (.int .u32 0)], .agg [.lit (.int .u32 536870912), .lit (.int .u32 4096)], .agg [.lit (.int .u32 536875008), .lit (.int .u32 4096)], .agg [.lit (.int .u32 268435456), .lit (.int .u32 10240)], .agg [.lit (.int .u32 1073741824), .lit (.int .u32 64)], .agg [.lit (.int .u32 1610612736), .lit (.int .u32 256)]]
def laid_curtilage_core_csrs {H : Type} : DataW H := .agg [.agg [.lit (.int .u16 768), .lit (.int .u32 136)], .agg [.lit (.int .u16 772), .lit (.int .u32 128)], .agg [.lit (.int .u16 773), .lit (.int .u32 4294967292)], .agg [.lit (.int .u16 832), .lit (.int .u32 4294967295)], .agg [.lit (.int .u16 833), .lit (.int .u32 4294967292)], .agg [.lit (.int .u16 834), .lit (.int .u32 4294967295)], .agg [.lit (.int .u16 835), .lit (.int .u32 4294967295)], .agg [.lit (.int .u16 836), .lit (.int .u32 0)], .agg [.lit (.int .u16 2816), .lit (.int .u32 4294967295)], .agg [.lit (.int .u16 3860), .lit (.int .u32 0)]]

/-- 'curtilagelaw20.CoreOne': WHATEVER THE INPUT: true; the input reads as it did. -/
def coreOneSpec : ChangeSpec := { name := "coreOne", fn := fun _ => fun
  | [d1, d2, d3, d4, d5, d6] => { results := [.lit (.bool true)], args := [d1, d2, d3, d4, d5, d6] }
  | _ => none }
def coreOneRow : OpenClaim := { program := "ytglijhimopdgkaagreatdoor", sum := "07c96d15862b98b798a850c130739f78d5d7c8fb3378eddac351ae59eabc5f61", func := "curtilage/curtilagelaw20.CoreOne", spec := "coreOne", inPlace := ["internal/bytealg.MakeNoZero"], unfollowed := true, recurses := true, named := ["curtilage/grant.regions", "curtilage/core.csrs"], plainKeys := false, apart := false, laid := [("curtilage/grant.regions", laid_curtilage_grant_regions), ("curtilage/core.csrs", laid_curtilage_core_csrs)] }
def CoreOneSaid : Prop := coreOneRow.holds Tryz.pinned (OpenSpec.ofChange coreOneSpec)

/-- ITS FALSE NEIGHBOUR: 'it returns false'. Refute it at one input. -/
def coreOneWrong : ChangeSpec := { name := "coreOne", fn := fun _ => fun
  | [d1, d2, d3, d4, d5, d6] => { results := [.lit (.bool false)], args := [d1, d2, d3, d4, d5, d6] }
  | _ => none }
def CoreOneWrongFalsely : Prop := coreOneRow.holds Tryz.pinned (OpenSpec.ofChange coreOneWrong)

/-- 'curtilagelaw20.CoreTraps': WHATEVER THE INPUT: true; the input reads as it did. -/
def coreTrapsSpec : ChangeSpec := { name := "coreTraps", fn := fun _ => fun
  | [d1, d2, d3, d4] => { results := [.lit (.bool true)], args := [d1, d2, d3, d4] }
  | _ => none }
def coreTrapsRow : OpenClaim := { program := "ytglijhimopdgkaagreatdoor", sum := "07c96d15862b98b798a850c130739f78d5d7c8fb3378eddac351ae59eabc5f61", func := "curtilage/curtilagelaw20.CoreTraps", spec := "coreTraps", inPlace := ["internal/bytealg.MakeNoZero"], unfollowed := true, recurses := true, named := ["curtilage/grant.regions", "curtilage/core.csrs"], plainKeys := false, apart := false, laid := [("curtilage/grant.regions", laid_curtilage_grant_regions), ("curtilage/core.csrs", laid_curtilage_core_csrs)] }
def CoreTrapsSaid : Prop := coreTrapsRow.holds Tryz.pinned (OpenSpec.ofChange coreTrapsSpec)

/-- ITS FALSE NEIGHBOUR: 'it returns false'. Refute it at one input. -/
def coreTrapsWrong : ChangeSpec := { name := "coreTraps", fn := fun _ => fun
  | [d1, d2, d3, d4] => { results := [.lit (.bool false)], args := [d1, d2, d3, d4] }
  | _ => none }
def CoreTrapsWrongFalsely : Prop := coreTrapsRow.holds Tryz.pinned (OpenSpec.ofChange coreTrapsWrong)

/-- 'curtilagelaw20.CoreTimer': WHATEVER THE INPUT: true; the input reads as it did. -/
def coreTimerSpec : ChangeSpec := { name := "coreTimer", fn := fun _ => fun
  | [d1, d2, d3, d4] => { results := [.lit (.bool true)], args := [d1, d2, d3, d4] }
  | _ => none }
def coreTimerRow : OpenClaim := { program := "ytglijhimopdgkaagreatdoor", sum := "07c96d15862b98b798a850c130739f78d5d7c8fb3378eddac351ae59eabc5f61", func := "curtilage/curtilagelaw20.CoreTimer", spec := "coreTimer", inPlace := ["internal/bytealg.MakeNoZero"], unfollowed := true, recurses := true, named := ["curtilage/grant.regions", "curtilage/core.csrs"], plainKeys := false, apart := false, laid := [("curtilage/grant.regions", laid_curtilage_grant_regions), ("curtilage/core.csrs", laid_curtilage_core_csrs)] }
def CoreTimerSaid : Prop := coreTimerRow.holds Tryz.pinned (OpenSpec.ofChange coreTimerSpec)

/-- ITS FALSE NEIGHBOUR: 'it returns false'. Refute it at one input. -/
def coreTimerWrong : ChangeSpec := { name := "coreTimer", fn := fun _ => fun
  | [d1, d2, d3, d4] => { results := [.lit (.bool false)], args := [d1, d2, d3, d4] }
  | _ => none }
def CoreTimerWrongFalsely : Prop := coreTimerRow.holds Tryz.pinned (OpenSpec.ofChange coreTimerWrong)

/-- 'curtilagelaw20.CoreAdds': WHATEVER THE INPUT: true; the input reads as it did. -/
def coreAddsSpec : ChangeSpec := { name := "coreAdds", fn := fun _ => fun
  | [d1, d2] => { results := [.lit (.bool true)], args := [d1, d2] }
  | _ => none }
def coreAddsRow : OpenClaim := { program := "ytglijhimopdgkaagreatdoor", sum := "07c96d15862b98b798a850c130739f78d5d7c8fb3378eddac351ae59eabc5f61", func := "curtilage/curtilagelaw20.CoreAdds", spec := "coreAdds", inPlace := ["internal/bytealg.MakeNoZero"], unfollowed := true, recurses := true, named := ["curtilage/grant.regions", "curtilage/core.csrs"], plainKeys := false, apart := false, laid := [("curtilage/grant.regions", laid_curtilage_grant_regions), ("curtilage/core.csrs", laid_curtilage_core_csrs)] }
def CoreAddsSaid : Prop := coreAddsRow.holds Tryz.pinned (OpenSpec.ofChange coreAddsSpec)

/-- ITS FALSE NEIGHBOUR: 'it returns false'. Refute it at one input. -/
def coreAddsWrong : ChangeSpec := { name := "coreAdds", fn := fun _ => fun
  | [d1, d2] => { results := [.lit (.bool false)], args := [d1, d2] }
  | _ => none }
def CoreAddsWrongFalsely : Prop := coreAddsRow.holds Tryz.pinned (OpenSpec.ofChange coreAddsWrong)

/- THE SECOND FORM. 'bulk': how many values and letters a reading holds, each counted each time it is reached (what is shared counts as often as it is met; a slice's spare places count too). A statement '..UptoSaid' is the law's where the arguments, and the package variables that the reading takes, are together of bulk at most 1048576: NARROWER than '..Said'. Prove '..Said' where nothing that the law and all that it calls make is longer than what came in: it says more and counts as full. Else prove '..UptoSaid'. A law counts once. -/
mutual
def uptoBulk {H : Type} : DataW H → Nat
  | .lit (.string bytes) => bytes.length + 1
  | .lit _ => 1
  | .nil => 1
  | .ptr d => uptoBulk d + 1
  | .slice elems spare => uptoBulkAll elems + uptoBulkAll spare + 1
  | .agg parts => uptoBulkAll parts + 1
  | .iface _ d => uptoBulk d + 1
  | .map entries => uptoBulkEntries entries + 1
  | .held _ => 1
def uptoBulkAll {H : Type} : List (DataW H) → Nat
  | [] => 0
  | d :: r => uptoBulk d + uptoBulkAll r
def uptoBulkEntries {H : Type} : List (Lit × DataW H) → Nat
  | [] => 0
  | x :: r => uptoBulkEntry x + uptoBulkEntries r
def uptoBulkEntry {H : Type} : Lit × DataW H → Nat
  | (.string bytes, d) => bytes.length + uptoBulk d + 1
  | (_, d) => uptoBulk d + 1
 end
def uptoSmall : (H : Type) → List (DataW H) → Bool := fun _ ds => decide (uptoBulkAll ds ≤ 1048576)
def OpenSpec.upto (s : _root_.Go.ChangeSpec) : _root_.Go.OpenSpec := { _root_.Go.OpenSpec.ofChange s with cond := some uptoSmall }

/-- 'curtilagelaw20.CoreOne', WHERE WHAT IT READS IS OF BULK AT MOST 1048576: true; the input reads as it did. -/
def coreOneUptoRow : OpenClaim := { program := "ytglijhimopdgkaagreatdoor", sum := "07c96d15862b98b798a850c130739f78d5d7c8fb3378eddac351ae59eabc5f61", func := "curtilage/curtilagelaw20.CoreOne", spec := "coreOne", inPlace := ["internal/bytealg.MakeNoZero"], unfollowed := true, recurses := true, named := ["curtilage/grant.regions", "curtilage/core.csrs"], plainKeys := false, apart := false, laid := [("curtilage/grant.regions", laid_curtilage_grant_regions), ("curtilage/core.csrs", laid_curtilage_core_csrs)], narrowed := true }
def CoreOneUptoSaid : Prop := coreOneUptoRow.holds Tryz.pinned (OpenSpec.upto coreOneSpec)

/-- 'curtilagelaw20.CoreTraps', WHERE WHAT IT READS IS OF BULK AT MOST 1048576: true; the input reads as it did. -/
def coreTrapsUptoRow : OpenClaim := { program := "ytglijhimopdgkaagreatdoor", sum := "07c96d15862b98b798a850c130739f78d5d7c8fb3378eddac351ae59eabc5f61", func := "curtilage/curtilagelaw20.CoreTraps", spec := "coreTraps", inPlace := ["internal/bytealg.MakeNoZero"], unfollowed := true, recurses := true, named := ["curtilage/grant.regions", "curtilage/core.csrs"], plainKeys := false, apart := false, laid := [("curtilage/grant.regions", laid_curtilage_grant_regions), ("curtilage/core.csrs", laid_curtilage_core_csrs)], narrowed := true }
def CoreTrapsUptoSaid : Prop := coreTrapsUptoRow.holds Tryz.pinned (OpenSpec.upto coreTrapsSpec)

/-- 'curtilagelaw20.CoreTimer', WHERE WHAT IT READS IS OF BULK AT MOST 1048576: true; the input reads as it did. -/
def coreTimerUptoRow : OpenClaim := { program := "ytglijhimopdgkaagreatdoor", sum := "07c96d15862b98b798a850c130739f78d5d7c8fb3378eddac351ae59eabc5f61", func := "curtilage/curtilagelaw20.CoreTimer", spec := "coreTimer", inPlace := ["internal/bytealg.MakeNoZero"], unfollowed := true, recurses := true, named := ["curtilage/grant.regions", "curtilage/core.csrs"], plainKeys := false, apart := false, laid := [("curtilage/grant.regions", laid_curtilage_grant_regions), ("curtilage/core.csrs", laid_curtilage_core_csrs)], narrowed := true }
def CoreTimerUptoSaid : Prop := coreTimerUptoRow.holds Tryz.pinned (OpenSpec.upto coreTimerSpec)

/-- 'curtilagelaw20.CoreAdds', WHERE WHAT IT READS IS OF BULK AT MOST 1048576: true; the input reads as it did. -/
def coreAddsUptoRow : OpenClaim := { program := "ytglijhimopdgkaagreatdoor", sum := "07c96d15862b98b798a850c130739f78d5d7c8fb3378eddac351ae59eabc5f61", func := "curtilage/curtilagelaw20.CoreAdds", spec := "coreAdds", inPlace := ["internal/bytealg.MakeNoZero"], unfollowed := true, recurses := true, named := ["curtilage/grant.regions", "curtilage/core.csrs"], plainKeys := false, apart := false, laid := [("curtilage/grant.regions", laid_curtilage_grant_regions), ("curtilage/core.csrs", laid_curtilage_core_csrs)], narrowed := true }
def CoreAddsUptoSaid : Prop := coreAddsUptoRow.holds Tryz.pinned (OpenSpec.upto coreAddsSpec)

end Rows
end Go.Proofs.YtglijhimopdgkaaGreatDoor
