/-
  DERIVED. GIVEN WITH THE SEED: THE CARDS: each row of YtjmeihmioecciaaDoorRows.lean that lists a variable, with what it lists TIED to the program's text (the seventh form; the later family's looks); each row that meets fmt, with fmt's text TOLD by the authors' own Lean function (tested against real Go, not proved from fmt's source: count such statements apart). THE CARD IS WHAT COUNTS. Prove the row's statement (the work); the ties are given (YtjmeihmioecciaaDoorTie.lean); close each card by the builder's one call (the guide's Derived/Test/ToyasCard.lean, 'card_holds'). Laid BY PROGRAM, IN A SANDBOX (cutbox-door.mjs). By AI agents, Wed Nov 11 2026. No macro, syntax, notation, axiom, sorry.
-/
import Derived.Test.YtjmeihmioecciaaDoorRows
import GoSem.ClaimSeven
namespace Go.Proofs.YtjmeihmioecciaaDoor
namespace Rows

/-- THE TIED CARD OF 'curtilagelaw15.SlotHides'. -/
def slotHidesCard : Claim7 := { stood := { row := slotHidesRow, standIns := [], harness := (true, "f4ab001f09ce559d4fadf50719788d413b0a3937b9a6636b39bb34cfa7bf99f5"), looks := false }, kinds := [], alts := [], laidByText := true, laidKinds := [.data, .data], laidTests := true, laidLooks := .later }
def SlotHidesCardSaid : Prop := Claim7.holds Tryd.pinned (.plain (OpenSpec.ofChange slotHidesSpec)) slotHidesCard

/-- THE TIED CARD OF 'curtilagelaw15.SlotChains'. -/
def slotChainsCard : Claim7 := { stood := { row := slotChainsRow, standIns := [], harness := (true, "f4ab001f09ce559d4fadf50719788d413b0a3937b9a6636b39bb34cfa7bf99f5"), looks := false }, kinds := [], alts := [], laidByText := true, laidKinds := [.data, .data], laidTests := true, laidLooks := .later }
def SlotChainsCardSaid : Prop := Claim7.holds Tryd.pinned (.plain (OpenSpec.ofChange slotChainsSpec)) slotChainsCard

/-- THE TIED CARD OF 'curtilagelaw16.MeasQuotes'. -/
def measQuotesCard : Claim7 := { stood := { row := measQuotesRow, standIns := [], harness := (true, "f4ab001f09ce559d4fadf50719788d413b0a3937b9a6636b39bb34cfa7bf99f5"), looks := false }, kinds := [], alts := [], laidByText := true, laidKinds := [.data, .data], laidTests := true, laidLooks := .later }
def MeasQuotesCardSaid : Prop := Claim7.holds Tryd.pinned (.plain (OpenSpec.ofChange measQuotesSpec)) measQuotesCard

/-- THE SECOND FORM's CARD OF 'curtilagelaw15.SlotHides'. -/
def slotHidesUptoCard : Claim7 := { stood := { row := slotHidesUptoRow, standIns := [], harness := (true, "f4ab001f09ce559d4fadf50719788d413b0a3937b9a6636b39bb34cfa7bf99f5"), looks := false }, kinds := [], alts := [], laidByText := true, laidKinds := [.data, .data], laidTests := true, laidLooks := .later }
def SlotHidesUptoCardSaid : Prop := Claim7.holds Tryd.pinned (.plain (OpenSpec.upto slotHidesSpec)) slotHidesUptoCard

/-- THE SECOND FORM's CARD OF 'curtilagelaw15.SlotChains'. -/
def slotChainsUptoCard : Claim7 := { stood := { row := slotChainsUptoRow, standIns := [], harness := (true, "f4ab001f09ce559d4fadf50719788d413b0a3937b9a6636b39bb34cfa7bf99f5"), looks := false }, kinds := [], alts := [], laidByText := true, laidKinds := [.data, .data], laidTests := true, laidLooks := .later }
def SlotChainsUptoCardSaid : Prop := Claim7.holds Tryd.pinned (.plain (OpenSpec.upto slotChainsSpec)) slotChainsUptoCard

/-- THE SECOND FORM's CARD OF 'curtilagelaw16.MeasQuotes'. -/
def measQuotesUptoCard : Claim7 := { stood := { row := measQuotesUptoRow, standIns := [], harness := (true, "f4ab001f09ce559d4fadf50719788d413b0a3937b9a6636b39bb34cfa7bf99f5"), looks := false }, kinds := [], alts := [], laidByText := true, laidKinds := [.data, .data], laidTests := true, laidLooks := .later }
def MeasQuotesUptoCardSaid : Prop := Claim7.holds Tryd.pinned (.plain (OpenSpec.upto measQuotesSpec)) measQuotesUptoCard
end Rows
end Go.Proofs.YtjmeihmioecciaaDoor
