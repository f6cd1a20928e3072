/-
  DERIVED. GIVEN WITH THE SEED: THE CARDS: each row of YtobbphkkebempaaDoorRows.lean that lists a variable, with what it lists TIED to the program's text (the seventh form; the later family's looks); each row that meets fmt, with fmt's text TOLD by the authors' own Lean function (tested against real Go, not proved from fmt's source: count such statements apart). THE CARD IS WHAT COUNTS. Prove the row's statement (the work); the ties are given (YtobbphkkebempaaDoorTie.lean); close each card by the builder's one call (the guide's Derived/Test/ToyasCard.lean, 'card_holds'). Laid BY PROGRAM, IN A SANDBOX (cutbox-door.mjs). By AI agents, Wed Nov 11 2026. No macro, syntax, notation, axiom, sorry.
-/
import Derived.Test.YtobbphkkebempaaDoorRows
import GoSem.ClaimSeven
namespace Go.Proofs.YtobbphkkebempaaDoor
namespace Rows

/-- THE TIED CARD OF 'curtilagelaw01.ShaSums'. -/
def shaSumsCard : Claim7 := { stood := { row := shaSumsRow, standIns := [], harness := (true, "7586af1a844dee8e46be8aabe8898acdb0d50ca26255354b7b191526fb5248f2"), looks := false }, kinds := [], alts := [], laidByText := true, laidKinds := [.data, .data], laidTests := true, laidLooks := .later }
def ShaSumsCardSaid : Prop := Claim7.holds Tryd.pinned (.plain (OpenSpec.ofChange shaSumsSpec)) shaSumsCard

/-- THE TIED CARD OF 'curtilagelaw01.ShaStates'. -/
def shaStatesCard : Claim7 := { stood := { row := shaStatesRow, standIns := [], harness := (true, "7586af1a844dee8e46be8aabe8898acdb0d50ca26255354b7b191526fb5248f2"), looks := false }, kinds := [], alts := [], laidByText := true, laidKinds := [.data, .data], laidTests := true, laidLooks := .later }
def ShaStatesCardSaid : Prop := Claim7.holds Tryd.pinned (.plain (OpenSpec.ofChange shaStatesSpec)) shaStatesCard

/-- THE TIED CARD OF 'curtilagelaw01.ShaPresses'. -/
def shaPressesCard : Claim7 := { stood := { row := shaPressesRow, standIns := [], harness := (true, "7586af1a844dee8e46be8aabe8898acdb0d50ca26255354b7b191526fb5248f2"), looks := false }, kinds := [], alts := [], laidByText := true, laidKinds := [.data, .data], laidTests := true, laidLooks := .later }
def ShaPressesCardSaid : Prop := Claim7.holds Tryd.pinned (.plain (OpenSpec.ofChange shaPressesSpec)) shaPressesCard

/-- THE TIED CARD OF 'curtilagelaw01.ShaPads'. -/
def shaPadsCard : Claim7 := { stood := { row := shaPadsRow, standIns := [], harness := (true, "7586af1a844dee8e46be8aabe8898acdb0d50ca26255354b7b191526fb5248f2"), looks := false }, kinds := [], alts := [], laidByText := true, laidKinds := [.data, .data], laidTests := true, laidLooks := .later }
def ShaPadsCardSaid : Prop := Claim7.holds Tryd.pinned (.plain (OpenSpec.ofChange shaPadsSpec)) shaPadsCard

/-- THE TIED CARD OF 'curtilagelaw01.ShaRuns'. -/
def shaRunsCard : Claim7 := { stood := { row := shaRunsRow, standIns := [], harness := (true, "7586af1a844dee8e46be8aabe8898acdb0d50ca26255354b7b191526fb5248f2"), looks := false }, kinds := [], alts := [], laidByText := true, laidKinds := [.data, .data], laidTests := true, laidLooks := .later }
def ShaRunsCardSaid : Prop := Claim7.holds Tryd.pinned (.plain (OpenSpec.ofChange shaRunsSpec)) shaRunsCard

/-- THE TIED CARD OF 'curtilagelaw02.MacSums'. -/
def macSumsCard : Claim7 := { stood := { row := macSumsRow, standIns := [], harness := (true, "7586af1a844dee8e46be8aabe8898acdb0d50ca26255354b7b191526fb5248f2"), looks := false }, kinds := [], alts := [], laidByText := true, laidKinds := [.data, .data], laidTests := true, laidLooks := .later }
def MacSumsCardSaid : Prop := Claim7.holds Tryd.pinned (.plain (OpenSpec.ofChange macSumsSpec)) macSumsCard

/-- THE TIED CARD OF 'curtilagelaw02.MacDerives'. -/
def macDerivesCard : Claim7 := { stood := { row := macDerivesRow, standIns := [], harness := (true, "7586af1a844dee8e46be8aabe8898acdb0d50ca26255354b7b191526fb5248f2"), looks := false }, kinds := [], alts := [], laidByText := true, laidKinds := [.data, .data], laidTests := true, laidLooks := .later }
def MacDerivesCardSaid : Prop := Claim7.holds Tryd.pinned (.plain (OpenSpec.ofChange macDerivesSpec)) macDerivesCard

/-- THE TIED CARD OF 'curtilagelaw02.MacEquals'. -/
def macEqualsCard : Claim7 := { stood := { row := macEqualsRow, standIns := [], harness := (true, "7586af1a844dee8e46be8aabe8898acdb0d50ca26255354b7b191526fb5248f2"), looks := false }, kinds := [], alts := [], laidByText := true, laidKinds := [.data, .data], laidTests := true, laidLooks := .later }
def MacEqualsCardSaid : Prop := Claim7.holds Tryd.pinned (.plain (OpenSpec.ofChange macEqualsSpec)) macEqualsCard

/-- THE TIED CARD OF 'curtilagelaw02.MacKeys'. -/
def macKeysCard : Claim7 := { stood := { row := macKeysRow, standIns := [], harness := (true, "7586af1a844dee8e46be8aabe8898acdb0d50ca26255354b7b191526fb5248f2"), looks := false }, kinds := [], alts := [], laidByText := true, laidKinds := [.data, .data], laidTests := true, laidLooks := .later }
def MacKeysCardSaid : Prop := Claim7.holds Tryd.pinned (.plain (OpenSpec.ofChange macKeysSpec)) macKeysCard

/-- THE TIED CARD OF 'curtilagelaw05.OtsDigits'. -/
def otsDigitsCard : Claim7 := { stood := { row := otsDigitsRow, standIns := [], harness := (true, "7586af1a844dee8e46be8aabe8898acdb0d50ca26255354b7b191526fb5248f2"), looks := false }, kinds := [], alts := [], laidByText := true, laidKinds := [.data, .data, .data], laidTests := true, laidLooks := .later }
def OtsDigitsCardSaid : Prop := Claim7.holds Tryd.pinned (.plain (OpenSpec.ofChange otsDigitsSpec)) otsDigitsCard

/-- THE TIED CARD OF 'curtilagelaw05.OtsChecks'. -/
def otsChecksCard : Claim7 := { stood := { row := otsChecksRow, standIns := [], harness := (true, "7586af1a844dee8e46be8aabe8898acdb0d50ca26255354b7b191526fb5248f2"), looks := false }, kinds := [], alts := [], laidByText := true, laidKinds := [.data, .data, .data], laidTests := true, laidLooks := .later }
def OtsChecksCardSaid : Prop := Claim7.holds Tryd.pinned (.plain (OpenSpec.ofChange otsChecksSpec)) otsChecksCard

/-- THE TIED CARD OF 'curtilagelaw05.OtsChains'. -/
def otsChainsCard : Claim7 := { stood := { row := otsChainsRow, standIns := [], harness := (true, "7586af1a844dee8e46be8aabe8898acdb0d50ca26255354b7b191526fb5248f2"), looks := false }, kinds := [], alts := [], laidByText := true, laidKinds := [.data, .data, .data], laidTests := true, laidLooks := .later }
def OtsChainsCardSaid : Prop := Claim7.holds Tryd.pinned (.plain (OpenSpec.ofChange otsChainsSpec)) otsChainsCard

/-- THE TIED CARD OF 'curtilagelaw05.OtsFolds'. -/
def otsFoldsCard : Claim7 := { stood := { row := otsFoldsRow, standIns := [], harness := (true, "7586af1a844dee8e46be8aabe8898acdb0d50ca26255354b7b191526fb5248f2"), looks := false }, kinds := [], alts := [], laidByText := true, laidKinds := [.data, .data, .data], laidTests := true, laidLooks := .later }
def OtsFoldsCardSaid : Prop := Claim7.holds Tryd.pinned (.plain (OpenSpec.ofChange otsFoldsSpec)) otsFoldsCard

/-- THE TIED CARD OF 'curtilagelaw05.OtsSigns'. -/
def otsSignsCard : Claim7 := { stood := { row := otsSignsRow, standIns := [], harness := (true, "7586af1a844dee8e46be8aabe8898acdb0d50ca26255354b7b191526fb5248f2"), looks := false }, kinds := [], alts := [], laidByText := true, laidKinds := [.data, .data, .data], laidTests := true, laidLooks := .later }
def OtsSignsCardSaid : Prop := Claim7.holds Tryd.pinned (.plain (OpenSpec.ofChange otsSignsSpec)) otsSignsCard

/-- THE TIED CARD OF 'curtilagelaw05.OtsSplits'. -/
def otsSplitsCard : Claim7 := { stood := { row := otsSplitsRow, standIns := [], harness := (true, "7586af1a844dee8e46be8aabe8898acdb0d50ca26255354b7b191526fb5248f2"), looks := false }, kinds := [], alts := [], laidByText := true, laidKinds := [.data, .data, .data], laidTests := true, laidLooks := .later }
def OtsSplitsCardSaid : Prop := Claim7.holds Tryd.pinned (.plain (OpenSpec.ofChange otsSplitsSpec)) otsSplitsCard

/-- THE SECOND FORM's CARD OF 'curtilagelaw01.ShaSums'. -/
def shaSumsUptoCard : Claim7 := { stood := { row := shaSumsUptoRow, standIns := [], harness := (true, "7586af1a844dee8e46be8aabe8898acdb0d50ca26255354b7b191526fb5248f2"), looks := false }, kinds := [], alts := [], laidByText := true, laidKinds := [.data, .data], laidTests := true, laidLooks := .later }
def ShaSumsUptoCardSaid : Prop := Claim7.holds Tryd.pinned (.plain (OpenSpec.upto shaSumsSpec)) shaSumsUptoCard

/-- THE SECOND FORM's CARD OF 'curtilagelaw01.ShaStates'. -/
def shaStatesUptoCard : Claim7 := { stood := { row := shaStatesUptoRow, standIns := [], harness := (true, "7586af1a844dee8e46be8aabe8898acdb0d50ca26255354b7b191526fb5248f2"), looks := false }, kinds := [], alts := [], laidByText := true, laidKinds := [.data, .data], laidTests := true, laidLooks := .later }
def ShaStatesUptoCardSaid : Prop := Claim7.holds Tryd.pinned (.plain (OpenSpec.upto shaStatesSpec)) shaStatesUptoCard

/-- THE SECOND FORM's CARD OF 'curtilagelaw01.ShaPresses'. -/
def shaPressesUptoCard : Claim7 := { stood := { row := shaPressesUptoRow, standIns := [], harness := (true, "7586af1a844dee8e46be8aabe8898acdb0d50ca26255354b7b191526fb5248f2"), looks := false }, kinds := [], alts := [], laidByText := true, laidKinds := [.data, .data], laidTests := true, laidLooks := .later }
def ShaPressesUptoCardSaid : Prop := Claim7.holds Tryd.pinned (.plain (OpenSpec.upto shaPressesSpec)) shaPressesUptoCard

/-- THE SECOND FORM's CARD OF 'curtilagelaw01.ShaPads'. -/
def shaPadsUptoCard : Claim7 := { stood := { row := shaPadsUptoRow, standIns := [], harness := (true, "7586af1a844dee8e46be8aabe8898acdb0d50ca26255354b7b191526fb5248f2"), looks := false }, kinds := [], alts := [], laidByText := true, laidKinds := [.data, .data], laidTests := true, laidLooks := .later }
def ShaPadsUptoCardSaid : Prop := Claim7.holds Tryd.pinned (.plain (OpenSpec.upto shaPadsSpec)) shaPadsUptoCard

/-- THE SECOND FORM's CARD OF 'curtilagelaw01.ShaRuns'. -/
def shaRunsUptoCard : Claim7 := { stood := { row := shaRunsUptoRow, standIns := [], harness := (true, "7586af1a844dee8e46be8aabe8898acdb0d50ca26255354b7b191526fb5248f2"), looks := false }, kinds := [], alts := [], laidByText := true, laidKinds := [.data, .data], laidTests := true, laidLooks := .later }
def ShaRunsUptoCardSaid : Prop := Claim7.holds Tryd.pinned (.plain (OpenSpec.upto shaRunsSpec)) shaRunsUptoCard

/-- THE SECOND FORM's CARD OF 'curtilagelaw02.MacSums'. -/
def macSumsUptoCard : Claim7 := { stood := { row := macSumsUptoRow, standIns := [], harness := (true, "7586af1a844dee8e46be8aabe8898acdb0d50ca26255354b7b191526fb5248f2"), looks := false }, kinds := [], alts := [], laidByText := true, laidKinds := [.data, .data], laidTests := true, laidLooks := .later }
def MacSumsUptoCardSaid : Prop := Claim7.holds Tryd.pinned (.plain (OpenSpec.upto macSumsSpec)) macSumsUptoCard

/-- THE SECOND FORM's CARD OF 'curtilagelaw02.MacDerives'. -/
def macDerivesUptoCard : Claim7 := { stood := { row := macDerivesUptoRow, standIns := [], harness := (true, "7586af1a844dee8e46be8aabe8898acdb0d50ca26255354b7b191526fb5248f2"), looks := false }, kinds := [], alts := [], laidByText := true, laidKinds := [.data, .data], laidTests := true, laidLooks := .later }
def MacDerivesUptoCardSaid : Prop := Claim7.holds Tryd.pinned (.plain (OpenSpec.upto macDerivesSpec)) macDerivesUptoCard

/-- THE SECOND FORM's CARD OF 'curtilagelaw02.MacEquals'. -/
def macEqualsUptoCard : Claim7 := { stood := { row := macEqualsUptoRow, standIns := [], harness := (true, "7586af1a844dee8e46be8aabe8898acdb0d50ca26255354b7b191526fb5248f2"), looks := false }, kinds := [], alts := [], laidByText := true, laidKinds := [.data, .data], laidTests := true, laidLooks := .later }
def MacEqualsUptoCardSaid : Prop := Claim7.holds Tryd.pinned (.plain (OpenSpec.upto macEqualsSpec)) macEqualsUptoCard

/-- THE SECOND FORM's CARD OF 'curtilagelaw02.MacKeys'. -/
def macKeysUptoCard : Claim7 := { stood := { row := macKeysUptoRow, standIns := [], harness := (true, "7586af1a844dee8e46be8aabe8898acdb0d50ca26255354b7b191526fb5248f2"), looks := false }, kinds := [], alts := [], laidByText := true, laidKinds := [.data, .data], laidTests := true, laidLooks := .later }
def MacKeysUptoCardSaid : Prop := Claim7.holds Tryd.pinned (.plain (OpenSpec.upto macKeysSpec)) macKeysUptoCard

/-- THE SECOND FORM's CARD OF 'curtilagelaw05.OtsDigits'. -/
def otsDigitsUptoCard : Claim7 := { stood := { row := otsDigitsUptoRow, standIns := [], harness := (true, "7586af1a844dee8e46be8aabe8898acdb0d50ca26255354b7b191526fb5248f2"), looks := false }, kinds := [], alts := [], laidByText := true, laidKinds := [.data, .data, .data], laidTests := true, laidLooks := .later }
def OtsDigitsUptoCardSaid : Prop := Claim7.holds Tryd.pinned (.plain (OpenSpec.upto otsDigitsSpec)) otsDigitsUptoCard

/-- THE SECOND FORM's CARD OF 'curtilagelaw05.OtsChecks'. -/
def otsChecksUptoCard : Claim7 := { stood := { row := otsChecksUptoRow, standIns := [], harness := (true, "7586af1a844dee8e46be8aabe8898acdb0d50ca26255354b7b191526fb5248f2"), looks := false }, kinds := [], alts := [], laidByText := true, laidKinds := [.data, .data, .data], laidTests := true, laidLooks := .later }
def OtsChecksUptoCardSaid : Prop := Claim7.holds Tryd.pinned (.plain (OpenSpec.upto otsChecksSpec)) otsChecksUptoCard

/-- THE SECOND FORM's CARD OF 'curtilagelaw05.OtsChains'. -/
def otsChainsUptoCard : Claim7 := { stood := { row := otsChainsUptoRow, standIns := [], harness := (true, "7586af1a844dee8e46be8aabe8898acdb0d50ca26255354b7b191526fb5248f2"), looks := false }, kinds := [], alts := [], laidByText := true, laidKinds := [.data, .data, .data], laidTests := true, laidLooks := .later }
def OtsChainsUptoCardSaid : Prop := Claim7.holds Tryd.pinned (.plain (OpenSpec.upto otsChainsSpec)) otsChainsUptoCard

/-- THE SECOND FORM's CARD OF 'curtilagelaw05.OtsFolds'. -/
def otsFoldsUptoCard : Claim7 := { stood := { row := otsFoldsUptoRow, standIns := [], harness := (true, "7586af1a844dee8e46be8aabe8898acdb0d50ca26255354b7b191526fb5248f2"), looks := false }, kinds := [], alts := [], laidByText := true, laidKinds := [.data, .data, .data], laidTests := true, laidLooks := .later }
def OtsFoldsUptoCardSaid : Prop := Claim7.holds Tryd.pinned (.plain (OpenSpec.upto otsFoldsSpec)) otsFoldsUptoCard

/-- THE SECOND FORM's CARD OF 'curtilagelaw05.OtsSigns'. -/
def otsSignsUptoCard : Claim7 := { stood := { row := otsSignsUptoRow, standIns := [], harness := (true, "7586af1a844dee8e46be8aabe8898acdb0d50ca26255354b7b191526fb5248f2"), looks := false }, kinds := [], alts := [], laidByText := true, laidKinds := [.data, .data, .data], laidTests := true, laidLooks := .later }
def OtsSignsUptoCardSaid : Prop := Claim7.holds Tryd.pinned (.plain (OpenSpec.upto otsSignsSpec)) otsSignsUptoCard

/-- THE SECOND FORM's CARD OF 'curtilagelaw05.OtsSplits'. -/
def otsSplitsUptoCard : Claim7 := { stood := { row := otsSplitsUptoRow, standIns := [], harness := (true, "7586af1a844dee8e46be8aabe8898acdb0d50ca26255354b7b191526fb5248f2"), looks := false }, kinds := [], alts := [], laidByText := true, laidKinds := [.data, .data, .data], laidTests := true, laidLooks := .later }
def OtsSplitsUptoCardSaid : Prop := Claim7.holds Tryd.pinned (.plain (OpenSpec.upto otsSplitsSpec)) otsSplitsUptoCard
end Rows
end Go.Proofs.YtobbphkkebempaaDoor
