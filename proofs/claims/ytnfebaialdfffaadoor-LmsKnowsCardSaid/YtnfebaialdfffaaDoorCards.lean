/-
  DERIVED. GIVEN WITH THE SEED: THE CARDS: each row of YtnfebaialdfffaaDoorRows.lean that lists a variable, with what it lists TIED to the program's text (the seventh form; the later family's looks); each row that meets fmt, with fmt's text TOLD by the authors' own Lean function (tested against real Go, not proved from fmt's source: count such statements apart). THE CARD IS WHAT COUNTS. Prove the row's statement (the work); the ties are given (YtnfebaialdfffaaDoorTie.lean); close each card by the builder's one call (the guide's Derived/Test/ToyasCard.lean, 'card_holds'). Laid BY PROGRAM, IN A SANDBOX (cutbox-door.mjs). By AI agents, Wed Nov 11 2026. No macro, syntax, notation, axiom, sorry.
-/
import Derived.Test.YtnfebaialdfffaaDoorRows
import GoSem.ClaimSeven
namespace Go.Proofs.YtnfebaialdfffaaDoor
namespace Rows

/-- THE TIED CARD OF 'curtilagelaw06.LmsKnows'. -/
def lmsKnowsCard : Claim7 := { stood := { row := lmsKnowsRow, standIns := [], harness := (true, "5e6ac67f7388839d8312e4537f1dc634e7b6bedf77a7f58a35cfdbb85d2f9ed3"), looks := false }, kinds := [], alts := [], laidByText := true, laidKinds := [.data, .data, .data], laidTests := true, laidLooks := .later }
def LmsKnowsCardSaid : Prop := Claim7.holds Tryd.pinned (.plain (OpenSpec.ofChange lmsKnowsSpec)) lmsKnowsCard

/-- THE TIED CARD OF 'curtilagelaw06.LmsForces'. -/
def lmsForcesCard : Claim7 := { stood := { row := lmsForcesRow, standIns := [], harness := (true, "5e6ac67f7388839d8312e4537f1dc634e7b6bedf77a7f58a35cfdbb85d2f9ed3"), looks := false }, kinds := [], alts := [], laidByText := true, laidKinds := [.data, .data, .data], laidTests := true, laidLooks := .later }
def LmsForcesCardSaid : Prop := Claim7.holds Tryd.pinned (.plain (OpenSpec.ofChange lmsForcesSpec)) lmsForcesCard

/-- THE SECOND FORM's CARD OF 'curtilagelaw06.LmsKnows'. -/
def lmsKnowsUptoCard : Claim7 := { stood := { row := lmsKnowsUptoRow, standIns := [], harness := (true, "5e6ac67f7388839d8312e4537f1dc634e7b6bedf77a7f58a35cfdbb85d2f9ed3"), looks := false }, kinds := [], alts := [], laidByText := true, laidKinds := [.data, .data, .data], laidTests := true, laidLooks := .later }
def LmsKnowsUptoCardSaid : Prop := Claim7.holds Tryd.pinned (.plain (OpenSpec.upto lmsKnowsSpec)) lmsKnowsUptoCard

/-- THE SECOND FORM's CARD OF 'curtilagelaw06.LmsForces'. -/
def lmsForcesUptoCard : Claim7 := { stood := { row := lmsForcesUptoRow, standIns := [], harness := (true, "5e6ac67f7388839d8312e4537f1dc634e7b6bedf77a7f58a35cfdbb85d2f9ed3"), looks := false }, kinds := [], alts := [], laidByText := true, laidKinds := [.data, .data, .data], laidTests := true, laidLooks := .later }
def LmsForcesUptoCardSaid : Prop := Claim7.holds Tryd.pinned (.plain (OpenSpec.upto lmsForcesSpec)) lmsForcesUptoCard
end Rows
end Go.Proofs.YtnfebaialdfffaaDoor
