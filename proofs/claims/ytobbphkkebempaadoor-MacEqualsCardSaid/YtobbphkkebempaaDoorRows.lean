/-
  NARROWER THAN 'FOR EVERY INPUT', by the rows' own cells (each row's printed sentence says how): ShaSums: laid · ShaStates: laid · ShaPresses: laid · ShaPads: laid · ShaRuns: laid · MacSums: laid · MacDerives: laid · MacEquals: laid · MacKeys: laid · OtsDigits: laid · OtsChecks: laid · OtsChains: laid · OtsFolds: laid · OtsSigns: laid · OtsSplits: laid.
  DERIVED. THE GIVEN ROWS OF THIS SEAT. 15 by the template 'for every input the law returns true; each argument reads behind the call as it read before'; 0 by the template 'total and deterministic' (their statements: YtobbphkkebempaaDoorTotals.lean).
  GIVEN WITH THE SEED: the statements are not yours to turn. If you find one false, say at which input.
  Laid BY PROGRAM, IN A SANDBOX (cutbox-rows.mjs): the forced cells as the released guide's own fill.sh prints them over the translation df342e3c37dd2217… (all of the seat's roots in one cut). By AI agents, Wed Nov 11 2026. No macro, syntax, notation, axiom, sorry.
-/
import Derived.Test.YtobbphkkebempaaDoorChecked
import GoSem.Claim
import GoSem.ClaimJoined
import GoSem.ClaimMapViews
import Derived.JoinedTies
import Derived.KernelRfl
namespace Go.Proofs.YtobbphkkebempaaDoor
/- THE CELL 'sum', in the pinned program and in every row, IS THE sha256 OF THE DUMP (.gsa) THAT YtobbphkkebempaaDoorProg.lean LOADS. Nothing in Lean hashes anything: it is a label: what it is worth is what the hold of that sum in a sandbox is worth. -/
noncomputable def Tryd.pinned : Pinned := { name := "ytobbphkkebempaadoor", sum := "df342e3c37dd2217aa4ce1dc7e19dfa407bd6e8cdd1087c5e0996cac160075ad", checked := Tryd.checked }
namespace Rows
def none {H : Type} : Left H := { results := [], args := [] }

/- WHAT THE LISTED PACKAGE-LEVEL VARIABLES READ AS WHEN THE CALL BEGINS. Each datum BY PROGRAM (the guide's laid-datum.mjs) off the statement by which the dump's own 'gosem.cut.vars' lays the variable. In a bare row this is a premise. The card (YtobbphkkebempaaDoorCards.lean) ties it to the program's text. -/
def laid_curtilage_sha_initial {H : Type} : DataW H := .agg [.lit (.int .u32 1779033703), .lit (.int .u32 3144134277), .lit (.int .u32 1013904242), .lit (.int .u32 2773480762), .lit (.int .u32 1359893119), .lit (.int .u32 2600822924), .lit (.int .u32 528734635), .lit (.int .u32 1541459225)]
def laid_curtilage_sha_constants {H : Type} : DataW H := .agg [.lit (.int .u32 1116352408), .lit (.int .u32 1899447441), .lit (.int .u32 3049323471), .lit (.int .u32 3921009573), .lit (.int .u32 961987163), .lit (.int .u32 1508970993), .lit (.int .u32 2453635748), .lit (.int .u32 2870763221), .lit (.int .u32 3624381080), .lit (.int .u32 310598401), .lit (.int .u32 607225278), .lit (.int .u32 1426881987), .lit (.int .u32 1925078388), .lit (.int .u32 2162078206), .lit (.int .u32 2614888103), .lit (.int .u32 3248222580), .lit (.int .u32 3835390401), .lit (.int .u32 4022224774), .lit (.int .u32 264347078), .lit (.int .u32 604807628), .lit (.int .u32 770255983), .lit (.int .u32 1249150122), .lit (.int .u32 1555081692), .lit (.int .u32 1996064986), .lit (.int .u32 2554220882), .lit (.int .u32 2821834349), .lit (.int .u32 2952996808), .lit (.int .u32 3210313671), .lit (.int .u32 3336571891), .lit (.int .u32 3584528711), .lit (.int .u32 113926993), .lit (.int .u32 338241895), .lit (.int .u32 666307205), .lit (.int .u32 773529912), .lit (.int .u32 1294757372), .lit (.int .u32 1396182291), .lit (.int .u32 1695183700), .lit (.int .u32 1986661051), .lit (.int .u32 2177026350), .lit (.int .u32 2456956037), .lit (.int .u32 2730485921), .lit (.int .u32 2820302411), .lit (.int .u32 3259730800), .lit (.int .u32 3345764771), .lit (.int .u32 3516065817), .lit (.int .u32 3600352804), .lit (.int .u32 4094571909), .lit (.int .u32 275423344), .lit (.int .u32 430227734), .lit (.int .u32 506948616), .lit (.int .u32 659060556), .lit (.int .u32 883997877), .lit (.int .u32 958139571), .lit (.int .u32 1322822218), .lit (.int .u32 1537002063), .lit (.int .u32 1747873779), .lit (.int .u32 1955562222), .lit (.int .u32 2024104815), .lit (.int .u32 2227730452), .lit (.int .u32 2361852424), .lit (.int .u32 2428436474), .lit (.int .u32 2756734187), .lit (.int .u32 3204031479), .lit (.int .u32 3329325298)]
def laid_curtilage_ots_params {H : Type} : DataW H := .agg [.agg [.lit (.int .i64 1), .lit (.int .i64 265), .lit (.int .i64 7)], .agg [.lit (.int .i64 2), .lit (.int .i64 133), .lit (.int .i64 6)], .agg [.lit (.int .i64 4), .lit (.int .i64 67), .lit (.int .i64 4)], .agg [.lit (.int .i64 8), .lit (.int .i64 34), .lit (.int .i64 0)]]

/-- 'curtilagelaw01.ShaSums': WHATEVER THE INPUT: true; the input reads as it did. -/
def shaSumsSpec : ChangeSpec := { name := "shaSums", fn := fun _ => fun
  | [d1, d2, d3] => { results := [.lit (.bool true)], args := [d1, d2, d3] }
  | _ => none }
def shaSumsRow : OpenClaim := { program := "ytobbphkkebempaadoor", sum := "df342e3c37dd2217aa4ce1dc7e19dfa407bd6e8cdd1087c5e0996cac160075ad", func := "curtilage/curtilagelaw01.ShaSums", spec := "shaSums", named := ["curtilage/sha.initial", "curtilage/sha.constants"], apart := false, laid := [("curtilage/sha.initial", laid_curtilage_sha_initial), ("curtilage/sha.constants", laid_curtilage_sha_constants)] }
def ShaSumsSaid : Prop := shaSumsRow.holds Tryd.pinned (OpenSpec.ofChange shaSumsSpec)

/-- ITS FALSE NEIGHBOUR: 'it returns false'. Refute it at one input. -/
def shaSumsWrong : ChangeSpec := { name := "shaSums", fn := fun _ => fun
  | [d1, d2, d3] => { results := [.lit (.bool false)], args := [d1, d2, d3] }
  | _ => none }
def ShaSumsWrongFalsely : Prop := shaSumsRow.holds Tryd.pinned (OpenSpec.ofChange shaSumsWrong)

/-- 'curtilagelaw01.ShaStates': WHATEVER THE INPUT: true; the input reads as it did. -/
def shaStatesSpec : ChangeSpec := { name := "shaStates", fn := fun _ => fun
  | [d1, d2, d3] => { results := [.lit (.bool true)], args := [d1, d2, d3] }
  | _ => none }
def shaStatesRow : OpenClaim := { program := "ytobbphkkebempaadoor", sum := "df342e3c37dd2217aa4ce1dc7e19dfa407bd6e8cdd1087c5e0996cac160075ad", func := "curtilage/curtilagelaw01.ShaStates", spec := "shaStates", named := ["curtilage/sha.initial", "curtilage/sha.constants"], apart := false, laid := [("curtilage/sha.initial", laid_curtilage_sha_initial), ("curtilage/sha.constants", laid_curtilage_sha_constants)] }
def ShaStatesSaid : Prop := shaStatesRow.holds Tryd.pinned (OpenSpec.ofChange shaStatesSpec)

/-- ITS FALSE NEIGHBOUR: 'it returns false'. Refute it at one input. -/
def shaStatesWrong : ChangeSpec := { name := "shaStates", fn := fun _ => fun
  | [d1, d2, d3] => { results := [.lit (.bool false)], args := [d1, d2, d3] }
  | _ => none }
def ShaStatesWrongFalsely : Prop := shaStatesRow.holds Tryd.pinned (OpenSpec.ofChange shaStatesWrong)

/-- 'curtilagelaw01.ShaPresses': WHATEVER THE INPUT: true; the input reads as it did. -/
def shaPressesSpec : ChangeSpec := { name := "shaPresses", fn := fun _ => fun
  | [d1, d2, d3] => { results := [.lit (.bool true)], args := [d1, d2, d3] }
  | _ => none }
def shaPressesRow : OpenClaim := { program := "ytobbphkkebempaadoor", sum := "df342e3c37dd2217aa4ce1dc7e19dfa407bd6e8cdd1087c5e0996cac160075ad", func := "curtilage/curtilagelaw01.ShaPresses", spec := "shaPresses", named := ["curtilage/sha.initial", "curtilage/sha.constants"], apart := false, laid := [("curtilage/sha.initial", laid_curtilage_sha_initial), ("curtilage/sha.constants", laid_curtilage_sha_constants)] }
def ShaPressesSaid : Prop := shaPressesRow.holds Tryd.pinned (OpenSpec.ofChange shaPressesSpec)

/-- ITS FALSE NEIGHBOUR: 'it returns false'. Refute it at one input. -/
def shaPressesWrong : ChangeSpec := { name := "shaPresses", fn := fun _ => fun
  | [d1, d2, d3] => { results := [.lit (.bool false)], args := [d1, d2, d3] }
  | _ => none }
def ShaPressesWrongFalsely : Prop := shaPressesRow.holds Tryd.pinned (OpenSpec.ofChange shaPressesWrong)

/-- 'curtilagelaw01.ShaPads': WHATEVER THE INPUT: true; the input reads as it did. -/
def shaPadsSpec : ChangeSpec := { name := "shaPads", fn := fun _ => fun
  | [d] => { results := [.lit (.bool true)], args := [d] }
  | _ => none }
def shaPadsRow : OpenClaim := { program := "ytobbphkkebempaadoor", sum := "df342e3c37dd2217aa4ce1dc7e19dfa407bd6e8cdd1087c5e0996cac160075ad", func := "curtilage/curtilagelaw01.ShaPads", spec := "shaPads", named := ["curtilage/sha.initial", "curtilage/sha.constants"], apart := false, laid := [("curtilage/sha.initial", laid_curtilage_sha_initial), ("curtilage/sha.constants", laid_curtilage_sha_constants)] }
def ShaPadsSaid : Prop := shaPadsRow.holds Tryd.pinned (OpenSpec.ofChange shaPadsSpec)

/-- ITS FALSE NEIGHBOUR: 'it returns false'. Refute it at one input. -/
def shaPadsWrong : ChangeSpec := { name := "shaPads", fn := fun _ => fun
  | [d] => { results := [.lit (.bool false)], args := [d] }
  | _ => none }
def ShaPadsWrongFalsely : Prop := shaPadsRow.holds Tryd.pinned (OpenSpec.ofChange shaPadsWrong)

/-- 'curtilagelaw01.ShaRuns': WHATEVER THE INPUT: true; the input reads as it did. -/
def shaRunsSpec : ChangeSpec := { name := "shaRuns", fn := fun _ => fun
  | [d1, d2] => { results := [.lit (.bool true)], args := [d1, d2] }
  | _ => none }
def shaRunsRow : OpenClaim := { program := "ytobbphkkebempaadoor", sum := "df342e3c37dd2217aa4ce1dc7e19dfa407bd6e8cdd1087c5e0996cac160075ad", func := "curtilage/curtilagelaw01.ShaRuns", spec := "shaRuns", named := ["curtilage/sha.initial", "curtilage/sha.constants"], apart := false, laid := [("curtilage/sha.initial", laid_curtilage_sha_initial), ("curtilage/sha.constants", laid_curtilage_sha_constants)] }
def ShaRunsSaid : Prop := shaRunsRow.holds Tryd.pinned (OpenSpec.ofChange shaRunsSpec)

/-- ITS FALSE NEIGHBOUR: 'it returns false'. Refute it at one input. -/
def shaRunsWrong : ChangeSpec := { name := "shaRuns", fn := fun _ => fun
  | [d1, d2] => { results := [.lit (.bool false)], args := [d1, d2] }
  | _ => none }
def ShaRunsWrongFalsely : Prop := shaRunsRow.holds Tryd.pinned (OpenSpec.ofChange shaRunsWrong)

/-- 'curtilagelaw02.MacSums': WHATEVER THE INPUT: true; the input reads as it did. -/
def macSumsSpec : ChangeSpec := { name := "macSums", fn := fun _ => fun
  | [d1, d2, d3] => { results := [.lit (.bool true)], args := [d1, d2, d3] }
  | _ => none }
def macSumsRow : OpenClaim := { program := "ytobbphkkebempaadoor", sum := "df342e3c37dd2217aa4ce1dc7e19dfa407bd6e8cdd1087c5e0996cac160075ad", func := "curtilage/curtilagelaw02.MacSums", spec := "macSums", named := ["curtilage/sha.initial", "curtilage/sha.constants"], apart := false, laid := [("curtilage/sha.initial", laid_curtilage_sha_initial), ("curtilage/sha.constants", laid_curtilage_sha_constants)] }
def MacSumsSaid : Prop := macSumsRow.holds Tryd.pinned (OpenSpec.ofChange macSumsSpec)

/-- ITS FALSE NEIGHBOUR: 'it returns false'. Refute it at one input. -/
def macSumsWrong : ChangeSpec := { name := "macSums", fn := fun _ => fun
  | [d1, d2, d3] => { results := [.lit (.bool false)], args := [d1, d2, d3] }
  | _ => none }
def MacSumsWrongFalsely : Prop := macSumsRow.holds Tryd.pinned (OpenSpec.ofChange macSumsWrong)

/-- 'curtilagelaw02.MacDerives': WHATEVER THE INPUT: true; the input reads as it did. -/
def macDerivesSpec : ChangeSpec := { name := "macDerives", fn := fun _ => fun
  | [d1, d2, d3, d4] => { results := [.lit (.bool true)], args := [d1, d2, d3, d4] }
  | _ => none }
def macDerivesRow : OpenClaim := { program := "ytobbphkkebempaadoor", sum := "df342e3c37dd2217aa4ce1dc7e19dfa407bd6e8cdd1087c5e0996cac160075ad", func := "curtilage/curtilagelaw02.MacDerives", spec := "macDerives", named := ["curtilage/sha.initial", "curtilage/sha.constants"], apart := false, laid := [("curtilage/sha.initial", laid_curtilage_sha_initial), ("curtilage/sha.constants", laid_curtilage_sha_constants)] }
def MacDerivesSaid : Prop := macDerivesRow.holds Tryd.pinned (OpenSpec.ofChange macDerivesSpec)

/-- ITS FALSE NEIGHBOUR: 'it returns false'. Refute it at one input. -/
def macDerivesWrong : ChangeSpec := { name := "macDerives", fn := fun _ => fun
  | [d1, d2, d3, d4] => { results := [.lit (.bool false)], args := [d1, d2, d3, d4] }
  | _ => none }
def MacDerivesWrongFalsely : Prop := macDerivesRow.holds Tryd.pinned (OpenSpec.ofChange macDerivesWrong)

/-- 'curtilagelaw02.MacEquals': WHATEVER THE INPUT: true; the input reads as it did. -/
def macEqualsSpec : ChangeSpec := { name := "macEquals", fn := fun _ => fun
  | [d1, d2, d3, d4] => { results := [.lit (.bool true)], args := [d1, d2, d3, d4] }
  | _ => none }
def macEqualsRow : OpenClaim := { program := "ytobbphkkebempaadoor", sum := "df342e3c37dd2217aa4ce1dc7e19dfa407bd6e8cdd1087c5e0996cac160075ad", func := "curtilage/curtilagelaw02.MacEquals", spec := "macEquals", named := ["curtilage/sha.initial", "curtilage/sha.constants"], apart := false, laid := [("curtilage/sha.initial", laid_curtilage_sha_initial), ("curtilage/sha.constants", laid_curtilage_sha_constants)] }
def MacEqualsSaid : Prop := macEqualsRow.holds Tryd.pinned (OpenSpec.ofChange macEqualsSpec)

/-- ITS FALSE NEIGHBOUR: 'it returns false'. Refute it at one input. -/
def macEqualsWrong : ChangeSpec := { name := "macEquals", fn := fun _ => fun
  | [d1, d2, d3, d4] => { results := [.lit (.bool false)], args := [d1, d2, d3, d4] }
  | _ => none }
def MacEqualsWrongFalsely : Prop := macEqualsRow.holds Tryd.pinned (OpenSpec.ofChange macEqualsWrong)

/-- 'curtilagelaw02.MacKeys': WHATEVER THE INPUT: true; the input reads as it did. -/
def macKeysSpec : ChangeSpec := { name := "macKeys", fn := fun _ => fun
  | [d1, d2, d3] => { results := [.lit (.bool true)], args := [d1, d2, d3] }
  | _ => none }
def macKeysRow : OpenClaim := { program := "ytobbphkkebempaadoor", sum := "df342e3c37dd2217aa4ce1dc7e19dfa407bd6e8cdd1087c5e0996cac160075ad", func := "curtilage/curtilagelaw02.MacKeys", spec := "macKeys", named := ["curtilage/sha.initial", "curtilage/sha.constants"], apart := false, laid := [("curtilage/sha.initial", laid_curtilage_sha_initial), ("curtilage/sha.constants", laid_curtilage_sha_constants)] }
def MacKeysSaid : Prop := macKeysRow.holds Tryd.pinned (OpenSpec.ofChange macKeysSpec)

/-- ITS FALSE NEIGHBOUR: 'it returns false'. Refute it at one input. -/
def macKeysWrong : ChangeSpec := { name := "macKeys", fn := fun _ => fun
  | [d1, d2, d3] => { results := [.lit (.bool false)], args := [d1, d2, d3] }
  | _ => none }
def MacKeysWrongFalsely : Prop := macKeysRow.holds Tryd.pinned (OpenSpec.ofChange macKeysWrong)

/-- 'curtilagelaw05.OtsDigits': WHATEVER THE INPUT: true; the input reads as it did. -/
def otsDigitsSpec : ChangeSpec := { name := "otsDigits", fn := fun _ => fun
  | [d1, d2, d3, d4, d5] => { results := [.lit (.bool true)], args := [d1, d2, d3, d4, d5] }
  | _ => none }
def otsDigitsRow : OpenClaim := { program := "ytobbphkkebempaadoor", sum := "df342e3c37dd2217aa4ce1dc7e19dfa407bd6e8cdd1087c5e0996cac160075ad", func := "curtilage/curtilagelaw05.OtsDigits", spec := "otsDigits", named := ["curtilage/ots.params", "curtilage/sha.initial", "curtilage/sha.constants"], apart := false, laid := [("curtilage/sha.initial", laid_curtilage_sha_initial), ("curtilage/sha.constants", laid_curtilage_sha_constants), ("curtilage/ots.params", laid_curtilage_ots_params)] }
def OtsDigitsSaid : Prop := otsDigitsRow.holds Tryd.pinned (OpenSpec.ofChange otsDigitsSpec)

/-- ITS FALSE NEIGHBOUR: 'it returns false'. Refute it at one input. -/
def otsDigitsWrong : ChangeSpec := { name := "otsDigits", fn := fun _ => fun
  | [d1, d2, d3, d4, d5] => { results := [.lit (.bool false)], args := [d1, d2, d3, d4, d5] }
  | _ => none }
def OtsDigitsWrongFalsely : Prop := otsDigitsRow.holds Tryd.pinned (OpenSpec.ofChange otsDigitsWrong)

/-- 'curtilagelaw05.OtsChecks': WHATEVER THE INPUT: true; the input reads as it did. -/
def otsChecksSpec : ChangeSpec := { name := "otsChecks", fn := fun _ => fun
  | [d1, d2, d3, d4, d5] => { results := [.lit (.bool true)], args := [d1, d2, d3, d4, d5] }
  | _ => none }
def otsChecksRow : OpenClaim := { program := "ytobbphkkebempaadoor", sum := "df342e3c37dd2217aa4ce1dc7e19dfa407bd6e8cdd1087c5e0996cac160075ad", func := "curtilage/curtilagelaw05.OtsChecks", spec := "otsChecks", named := ["curtilage/ots.params", "curtilage/sha.initial", "curtilage/sha.constants"], apart := false, laid := [("curtilage/sha.initial", laid_curtilage_sha_initial), ("curtilage/sha.constants", laid_curtilage_sha_constants), ("curtilage/ots.params", laid_curtilage_ots_params)] }
def OtsChecksSaid : Prop := otsChecksRow.holds Tryd.pinned (OpenSpec.ofChange otsChecksSpec)

/-- ITS FALSE NEIGHBOUR: 'it returns false'. Refute it at one input. -/
def otsChecksWrong : ChangeSpec := { name := "otsChecks", fn := fun _ => fun
  | [d1, d2, d3, d4, d5] => { results := [.lit (.bool false)], args := [d1, d2, d3, d4, d5] }
  | _ => none }
def OtsChecksWrongFalsely : Prop := otsChecksRow.holds Tryd.pinned (OpenSpec.ofChange otsChecksWrong)

/-- 'curtilagelaw05.OtsChains': WHATEVER THE INPUT: true; the input reads as it did. -/
def otsChainsSpec : ChangeSpec := { name := "otsChains", fn := fun _ => fun
  | [d1, d2, d3, d4, d5, d6, d7] => { results := [.lit (.bool true)], args := [d1, d2, d3, d4, d5, d6, d7] }
  | _ => none }
def otsChainsRow : OpenClaim := { program := "ytobbphkkebempaadoor", sum := "df342e3c37dd2217aa4ce1dc7e19dfa407bd6e8cdd1087c5e0996cac160075ad", func := "curtilage/curtilagelaw05.OtsChains", spec := "otsChains", named := ["curtilage/ots.params", "curtilage/sha.initial", "curtilage/sha.constants"], apart := false, laid := [("curtilage/sha.initial", laid_curtilage_sha_initial), ("curtilage/sha.constants", laid_curtilage_sha_constants), ("curtilage/ots.params", laid_curtilage_ots_params)] }
def OtsChainsSaid : Prop := otsChainsRow.holds Tryd.pinned (OpenSpec.ofChange otsChainsSpec)

/-- ITS FALSE NEIGHBOUR: 'it returns false'. Refute it at one input. -/
def otsChainsWrong : ChangeSpec := { name := "otsChains", fn := fun _ => fun
  | [d1, d2, d3, d4, d5, d6, d7] => { results := [.lit (.bool false)], args := [d1, d2, d3, d4, d5, d6, d7] }
  | _ => none }
def OtsChainsWrongFalsely : Prop := otsChainsRow.holds Tryd.pinned (OpenSpec.ofChange otsChainsWrong)

/-- 'curtilagelaw05.OtsFolds': WHATEVER THE INPUT: true; the input reads as it did. -/
def otsFoldsSpec : ChangeSpec := { name := "otsFolds", fn := fun _ => fun
  | [d1, d2, d3, d4, d5] => { results := [.lit (.bool true)], args := [d1, d2, d3, d4, d5] }
  | _ => none }
def otsFoldsRow : OpenClaim := { program := "ytobbphkkebempaadoor", sum := "df342e3c37dd2217aa4ce1dc7e19dfa407bd6e8cdd1087c5e0996cac160075ad", func := "curtilage/curtilagelaw05.OtsFolds", spec := "otsFolds", named := ["curtilage/ots.params", "curtilage/sha.initial", "curtilage/sha.constants"], apart := false, laid := [("curtilage/sha.initial", laid_curtilage_sha_initial), ("curtilage/sha.constants", laid_curtilage_sha_constants), ("curtilage/ots.params", laid_curtilage_ots_params)] }
def OtsFoldsSaid : Prop := otsFoldsRow.holds Tryd.pinned (OpenSpec.ofChange otsFoldsSpec)

/-- ITS FALSE NEIGHBOUR: 'it returns false'. Refute it at one input. -/
def otsFoldsWrong : ChangeSpec := { name := "otsFolds", fn := fun _ => fun
  | [d1, d2, d3, d4, d5] => { results := [.lit (.bool false)], args := [d1, d2, d3, d4, d5] }
  | _ => none }
def OtsFoldsWrongFalsely : Prop := otsFoldsRow.holds Tryd.pinned (OpenSpec.ofChange otsFoldsWrong)

/-- 'curtilagelaw05.OtsSigns': WHATEVER THE INPUT: true; the input reads as it did. -/
def otsSignsSpec : ChangeSpec := { name := "otsSigns", fn := fun _ => fun
  | [d1, d2, d3, d4, d5, d6] => { results := [.lit (.bool true)], args := [d1, d2, d3, d4, d5, d6] }
  | _ => none }
def otsSignsRow : OpenClaim := { program := "ytobbphkkebempaadoor", sum := "df342e3c37dd2217aa4ce1dc7e19dfa407bd6e8cdd1087c5e0996cac160075ad", func := "curtilage/curtilagelaw05.OtsSigns", spec := "otsSigns", named := ["curtilage/ots.params", "curtilage/sha.initial", "curtilage/sha.constants"], apart := false, laid := [("curtilage/sha.initial", laid_curtilage_sha_initial), ("curtilage/sha.constants", laid_curtilage_sha_constants), ("curtilage/ots.params", laid_curtilage_ots_params)] }
def OtsSignsSaid : Prop := otsSignsRow.holds Tryd.pinned (OpenSpec.ofChange otsSignsSpec)

/-- ITS FALSE NEIGHBOUR: 'it returns false'. Refute it at one input. -/
def otsSignsWrong : ChangeSpec := { name := "otsSigns", fn := fun _ => fun
  | [d1, d2, d3, d4, d5, d6] => { results := [.lit (.bool false)], args := [d1, d2, d3, d4, d5, d6] }
  | _ => none }
def OtsSignsWrongFalsely : Prop := otsSignsRow.holds Tryd.pinned (OpenSpec.ofChange otsSignsWrong)

/-- 'curtilagelaw05.OtsSplits': WHATEVER THE INPUT: true; the input reads as it did. -/
def otsSplitsSpec : ChangeSpec := { name := "otsSplits", fn := fun _ => fun
  | [d1, d2, d3] => { results := [.lit (.bool true)], args := [d1, d2, d3] }
  | _ => none }
def otsSplitsRow : OpenClaim := { program := "ytobbphkkebempaadoor", sum := "df342e3c37dd2217aa4ce1dc7e19dfa407bd6e8cdd1087c5e0996cac160075ad", func := "curtilage/curtilagelaw05.OtsSplits", spec := "otsSplits", named := ["curtilage/ots.params", "curtilage/sha.initial", "curtilage/sha.constants"], apart := false, laid := [("curtilage/sha.initial", laid_curtilage_sha_initial), ("curtilage/sha.constants", laid_curtilage_sha_constants), ("curtilage/ots.params", laid_curtilage_ots_params)] }
def OtsSplitsSaid : Prop := otsSplitsRow.holds Tryd.pinned (OpenSpec.ofChange otsSplitsSpec)

/-- ITS FALSE NEIGHBOUR: 'it returns false'. Refute it at one input. -/
def otsSplitsWrong : ChangeSpec := { name := "otsSplits", fn := fun _ => fun
  | [d1, d2, d3] => { results := [.lit (.bool false)], args := [d1, d2, d3] }
  | _ => none }
def OtsSplitsWrongFalsely : Prop := otsSplitsRow.holds Tryd.pinned (OpenSpec.ofChange otsSplitsWrong)

/- THE SECOND FORM. 'bulk': how many values and letters a reading holds, each counted each time it is reached (what is shared counts as often as it is met; a slice's spare places count too). A statement '..UptoSaid' is the law's where the arguments, and the package variables that the reading takes, are together of bulk at most 1048576: NARROWER than '..Said'. Prove '..Said' where nothing that the law and all that it calls make is longer than what came in: it says more and counts as full. Else prove '..UptoSaid'. A law counts once. -/
mutual
def uptoBulk {H : Type} : DataW H → Nat
  | .lit (.string bytes) => bytes.length + 1
  | .lit _ => 1
  | .nil => 1
  | .ptr d => uptoBulk d + 1
  | .slice elems spare => uptoBulkAll elems + uptoBulkAll spare + 1
  | .agg parts => uptoBulkAll parts + 1
  | .iface _ d => uptoBulk d + 1
  | .map entries => uptoBulkEntries entries + 1
  | .held _ => 1
def uptoBulkAll {H : Type} : List (DataW H) → Nat
  | [] => 0
  | d :: r => uptoBulk d + uptoBulkAll r
def uptoBulkEntries {H : Type} : List (Lit × DataW H) → Nat
  | [] => 0
  | x :: r => uptoBulkEntry x + uptoBulkEntries r
def uptoBulkEntry {H : Type} : Lit × DataW H → Nat
  | (.string bytes, d) => bytes.length + uptoBulk d + 1
  | (_, d) => uptoBulk d + 1
 end
def uptoSmall : (H : Type) → List (DataW H) → Bool := fun _ ds => decide (uptoBulkAll ds ≤ 1048576)
def OpenSpec.upto (s : _root_.Go.ChangeSpec) : _root_.Go.OpenSpec := { _root_.Go.OpenSpec.ofChange s with cond := some uptoSmall }

/-- 'curtilagelaw01.ShaSums', WHERE WHAT IT READS IS OF BULK AT MOST 1048576: true; the input reads as it did. -/
def shaSumsUptoRow : OpenClaim := { program := "ytobbphkkebempaadoor", sum := "df342e3c37dd2217aa4ce1dc7e19dfa407bd6e8cdd1087c5e0996cac160075ad", func := "curtilage/curtilagelaw01.ShaSums", spec := "shaSums", named := ["curtilage/sha.initial", "curtilage/sha.constants"], apart := false, laid := [("curtilage/sha.initial", laid_curtilage_sha_initial), ("curtilage/sha.constants", laid_curtilage_sha_constants)], narrowed := true }
def ShaSumsUptoSaid : Prop := shaSumsUptoRow.holds Tryd.pinned (OpenSpec.upto shaSumsSpec)

/-- 'curtilagelaw01.ShaStates', WHERE WHAT IT READS IS OF BULK AT MOST 1048576: true; the input reads as it did. -/
def shaStatesUptoRow : OpenClaim := { program := "ytobbphkkebempaadoor", sum := "df342e3c37dd2217aa4ce1dc7e19dfa407bd6e8cdd1087c5e0996cac160075ad", func := "curtilage/curtilagelaw01.ShaStates", spec := "shaStates", named := ["curtilage/sha.initial", "curtilage/sha.constants"], apart := false, laid := [("curtilage/sha.initial", laid_curtilage_sha_initial), ("curtilage/sha.constants", laid_curtilage_sha_constants)], narrowed := true }
def ShaStatesUptoSaid : Prop := shaStatesUptoRow.holds Tryd.pinned (OpenSpec.upto shaStatesSpec)

/-- 'curtilagelaw01.ShaPresses', WHERE WHAT IT READS IS OF BULK AT MOST 1048576: true; the input reads as it did. -/
def shaPressesUptoRow : OpenClaim := { program := "ytobbphkkebempaadoor", sum := "df342e3c37dd2217aa4ce1dc7e19dfa407bd6e8cdd1087c5e0996cac160075ad", func := "curtilage/curtilagelaw01.ShaPresses", spec := "shaPresses", named := ["curtilage/sha.initial", "curtilage/sha.constants"], apart := false, laid := [("curtilage/sha.initial", laid_curtilage_sha_initial), ("curtilage/sha.constants", laid_curtilage_sha_constants)], narrowed := true }
def ShaPressesUptoSaid : Prop := shaPressesUptoRow.holds Tryd.pinned (OpenSpec.upto shaPressesSpec)

/-- 'curtilagelaw01.ShaPads', WHERE WHAT IT READS IS OF BULK AT MOST 1048576: true; the input reads as it did. -/
def shaPadsUptoRow : OpenClaim := { program := "ytobbphkkebempaadoor", sum := "df342e3c37dd2217aa4ce1dc7e19dfa407bd6e8cdd1087c5e0996cac160075ad", func := "curtilage/curtilagelaw01.ShaPads", spec := "shaPads", named := ["curtilage/sha.initial", "curtilage/sha.constants"], apart := false, laid := [("curtilage/sha.initial", laid_curtilage_sha_initial), ("curtilage/sha.constants", laid_curtilage_sha_constants)], narrowed := true }
def ShaPadsUptoSaid : Prop := shaPadsUptoRow.holds Tryd.pinned (OpenSpec.upto shaPadsSpec)

/-- 'curtilagelaw01.ShaRuns', WHERE WHAT IT READS IS OF BULK AT MOST 1048576: true; the input reads as it did. -/
def shaRunsUptoRow : OpenClaim := { program := "ytobbphkkebempaadoor", sum := "df342e3c37dd2217aa4ce1dc7e19dfa407bd6e8cdd1087c5e0996cac160075ad", func := "curtilage/curtilagelaw01.ShaRuns", spec := "shaRuns", named := ["curtilage/sha.initial", "curtilage/sha.constants"], apart := false, laid := [("curtilage/sha.initial", laid_curtilage_sha_initial), ("curtilage/sha.constants", laid_curtilage_sha_constants)], narrowed := true }
def ShaRunsUptoSaid : Prop := shaRunsUptoRow.holds Tryd.pinned (OpenSpec.upto shaRunsSpec)

/-- 'curtilagelaw02.MacSums', WHERE WHAT IT READS IS OF BULK AT MOST 1048576: true; the input reads as it did. -/
def macSumsUptoRow : OpenClaim := { program := "ytobbphkkebempaadoor", sum := "df342e3c37dd2217aa4ce1dc7e19dfa407bd6e8cdd1087c5e0996cac160075ad", func := "curtilage/curtilagelaw02.MacSums", spec := "macSums", named := ["curtilage/sha.initial", "curtilage/sha.constants"], apart := false, laid := [("curtilage/sha.initial", laid_curtilage_sha_initial), ("curtilage/sha.constants", laid_curtilage_sha_constants)], narrowed := true }
def MacSumsUptoSaid : Prop := macSumsUptoRow.holds Tryd.pinned (OpenSpec.upto macSumsSpec)

/-- 'curtilagelaw02.MacDerives', WHERE WHAT IT READS IS OF BULK AT MOST 1048576: true; the input reads as it did. -/
def macDerivesUptoRow : OpenClaim := { program := "ytobbphkkebempaadoor", sum := "df342e3c37dd2217aa4ce1dc7e19dfa407bd6e8cdd1087c5e0996cac160075ad", func := "curtilage/curtilagelaw02.MacDerives", spec := "macDerives", named := ["curtilage/sha.initial", "curtilage/sha.constants"], apart := false, laid := [("curtilage/sha.initial", laid_curtilage_sha_initial), ("curtilage/sha.constants", laid_curtilage_sha_constants)], narrowed := true }
def MacDerivesUptoSaid : Prop := macDerivesUptoRow.holds Tryd.pinned (OpenSpec.upto macDerivesSpec)

/-- 'curtilagelaw02.MacEquals', WHERE WHAT IT READS IS OF BULK AT MOST 1048576: true; the input reads as it did. -/
def macEqualsUptoRow : OpenClaim := { program := "ytobbphkkebempaadoor", sum := "df342e3c37dd2217aa4ce1dc7e19dfa407bd6e8cdd1087c5e0996cac160075ad", func := "curtilage/curtilagelaw02.MacEquals", spec := "macEquals", named := ["curtilage/sha.initial", "curtilage/sha.constants"], apart := false, laid := [("curtilage/sha.initial", laid_curtilage_sha_initial), ("curtilage/sha.constants", laid_curtilage_sha_constants)], narrowed := true }
def MacEqualsUptoSaid : Prop := macEqualsUptoRow.holds Tryd.pinned (OpenSpec.upto macEqualsSpec)

/-- 'curtilagelaw02.MacKeys', WHERE WHAT IT READS IS OF BULK AT MOST 1048576: true; the input reads as it did. -/
def macKeysUptoRow : OpenClaim := { program := "ytobbphkkebempaadoor", sum := "df342e3c37dd2217aa4ce1dc7e19dfa407bd6e8cdd1087c5e0996cac160075ad", func := "curtilage/curtilagelaw02.MacKeys", spec := "macKeys", named := ["curtilage/sha.initial", "curtilage/sha.constants"], apart := false, laid := [("curtilage/sha.initial", laid_curtilage_sha_initial), ("curtilage/sha.constants", laid_curtilage_sha_constants)], narrowed := true }
def MacKeysUptoSaid : Prop := macKeysUptoRow.holds Tryd.pinned (OpenSpec.upto macKeysSpec)

/-- 'curtilagelaw05.OtsDigits', WHERE WHAT IT READS IS OF BULK AT MOST 1048576: true; the input reads as it did. -/
def otsDigitsUptoRow : OpenClaim := { program := "ytobbphkkebempaadoor", sum := "df342e3c37dd2217aa4ce1dc7e19dfa407bd6e8cdd1087c5e0996cac160075ad", func := "curtilage/curtilagelaw05.OtsDigits", spec := "otsDigits", named := ["curtilage/ots.params", "curtilage/sha.initial", "curtilage/sha.constants"], apart := false, laid := [("curtilage/sha.initial", laid_curtilage_sha_initial), ("curtilage/sha.constants", laid_curtilage_sha_constants), ("curtilage/ots.params", laid_curtilage_ots_params)], narrowed := true }
def OtsDigitsUptoSaid : Prop := otsDigitsUptoRow.holds Tryd.pinned (OpenSpec.upto otsDigitsSpec)

/-- 'curtilagelaw05.OtsChecks', WHERE WHAT IT READS IS OF BULK AT MOST 1048576: true; the input reads as it did. -/
def otsChecksUptoRow : OpenClaim := { program := "ytobbphkkebempaadoor", sum := "df342e3c37dd2217aa4ce1dc7e19dfa407bd6e8cdd1087c5e0996cac160075ad", func := "curtilage/curtilagelaw05.OtsChecks", spec := "otsChecks", named := ["curtilage/ots.params", "curtilage/sha.initial", "curtilage/sha.constants"], apart := false, laid := [("curtilage/sha.initial", laid_curtilage_sha_initial), ("curtilage/sha.constants", laid_curtilage_sha_constants), ("curtilage/ots.params", laid_curtilage_ots_params)], narrowed := true }
def OtsChecksUptoSaid : Prop := otsChecksUptoRow.holds Tryd.pinned (OpenSpec.upto otsChecksSpec)

/-- 'curtilagelaw05.OtsChains', WHERE WHAT IT READS IS OF BULK AT MOST 1048576: true; the input reads as it did. -/
def otsChainsUptoRow : OpenClaim := { program := "ytobbphkkebempaadoor", sum := "df342e3c37dd2217aa4ce1dc7e19dfa407bd6e8cdd1087c5e0996cac160075ad", func := "curtilage/curtilagelaw05.OtsChains", spec := "otsChains", named := ["curtilage/ots.params", "curtilage/sha.initial", "curtilage/sha.constants"], apart := false, laid := [("curtilage/sha.initial", laid_curtilage_sha_initial), ("curtilage/sha.constants", laid_curtilage_sha_constants), ("curtilage/ots.params", laid_curtilage_ots_params)], narrowed := true }
def OtsChainsUptoSaid : Prop := otsChainsUptoRow.holds Tryd.pinned (OpenSpec.upto otsChainsSpec)

/-- 'curtilagelaw05.OtsFolds', WHERE WHAT IT READS IS OF BULK AT MOST 1048576: true; the input reads as it did. -/
def otsFoldsUptoRow : OpenClaim := { program := "ytobbphkkebempaadoor", sum := "df342e3c37dd2217aa4ce1dc7e19dfa407bd6e8cdd1087c5e0996cac160075ad", func := "curtilage/curtilagelaw05.OtsFolds", spec := "otsFolds", named := ["curtilage/ots.params", "curtilage/sha.initial", "curtilage/sha.constants"], apart := false, laid := [("curtilage/sha.initial", laid_curtilage_sha_initial), ("curtilage/sha.constants", laid_curtilage_sha_constants), ("curtilage/ots.params", laid_curtilage_ots_params)], narrowed := true }
def OtsFoldsUptoSaid : Prop := otsFoldsUptoRow.holds Tryd.pinned (OpenSpec.upto otsFoldsSpec)

/-- 'curtilagelaw05.OtsSigns', WHERE WHAT IT READS IS OF BULK AT MOST 1048576: true; the input reads as it did. -/
def otsSignsUptoRow : OpenClaim := { program := "ytobbphkkebempaadoor", sum := "df342e3c37dd2217aa4ce1dc7e19dfa407bd6e8cdd1087c5e0996cac160075ad", func := "curtilage/curtilagelaw05.OtsSigns", spec := "otsSigns", named := ["curtilage/ots.params", "curtilage/sha.initial", "curtilage/sha.constants"], apart := false, laid := [("curtilage/sha.initial", laid_curtilage_sha_initial), ("curtilage/sha.constants", laid_curtilage_sha_constants), ("curtilage/ots.params", laid_curtilage_ots_params)], narrowed := true }
def OtsSignsUptoSaid : Prop := otsSignsUptoRow.holds Tryd.pinned (OpenSpec.upto otsSignsSpec)

/-- 'curtilagelaw05.OtsSplits', WHERE WHAT IT READS IS OF BULK AT MOST 1048576: true; the input reads as it did. -/
def otsSplitsUptoRow : OpenClaim := { program := "ytobbphkkebempaadoor", sum := "df342e3c37dd2217aa4ce1dc7e19dfa407bd6e8cdd1087c5e0996cac160075ad", func := "curtilage/curtilagelaw05.OtsSplits", spec := "otsSplits", named := ["curtilage/ots.params", "curtilage/sha.initial", "curtilage/sha.constants"], apart := false, laid := [("curtilage/sha.initial", laid_curtilage_sha_initial), ("curtilage/sha.constants", laid_curtilage_sha_constants), ("curtilage/ots.params", laid_curtilage_ots_params)], narrowed := true }
def OtsSplitsUptoSaid : Prop := otsSplitsUptoRow.holds Tryd.pinned (OpenSpec.upto otsSplitsSpec)

end Rows
end Go.Proofs.YtobbphkkebempaaDoor
