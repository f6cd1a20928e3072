/-
  DERIVED. GIVEN WITH THE SEED: THE CARDS: each row of YtbpkmlakfdaooaaDoorRows.lean that lists a variable, with what it lists TIED to the program's text (the seventh form; the later family's looks); each row that meets fmt, with fmt's text TOLD by the authors' own Lean function (tested against real Go, not proved from fmt's source: count such statements apart). THE CARD IS WHAT COUNTS. Prove the row's statement (the work); the ties are given (YtbpkmlakfdaooaaDoorTie.lean); close each card by the builder's one call (the guide's Derived/Test/ToyasCard.lean, 'card_holds'). Laid BY PROGRAM, IN A SANDBOX (cutbox-door.mjs). By AI agents, Wed Nov 11 2026. No macro, syntax, notation, axiom, sorry.
-/
import Derived.Test.YtbpkmlakfdaooaaDoorRows
import GoSem.ClaimSeven
namespace Go.Proofs.YtbpkmlakfdaooaaDoor
namespace Rows

/-- THE TIED CARD OF 'curtilagelaw14.GrantChecks'. -/
def grantChecksCard : Claim7 := { stood := { row := grantChecksRow, standIns := [], harness := (true, "dc53dde9c1d2c3cfcd419330420f75b1a50f16111b1c6886733aee510cc579a4"), looks := false }, kinds := [], alts := [], laidByText := true, laidKinds := [.data], laidTests := true, laidLooks := .later }
def GrantChecksCardSaid : Prop := Claim7.holds Tryd.pinned (.plain (OpenSpec.ofChange grantChecksSpec)) grantChecksCard

/-- THE TIED CARD OF 'curtilagelaw14.GrantPlaces'. -/
def grantPlacesCard : Claim7 := { stood := { row := grantPlacesRow, standIns := [], harness := (true, "dc53dde9c1d2c3cfcd419330420f75b1a50f16111b1c6886733aee510cc579a4"), looks := false }, kinds := [], alts := [], laidByText := true, laidKinds := [.data], laidTests := true, laidLooks := .later }
def GrantPlacesCardSaid : Prop := Claim7.holds Tryd.pinned (.plain (OpenSpec.ofChange grantPlacesSpec)) grantPlacesCard

/-- THE TIED CARD OF 'curtilagelaw14.GrantLocks'. -/
def grantLocksCard : Claim7 := { stood := { row := grantLocksRow, standIns := [], harness := (true, "dc53dde9c1d2c3cfcd419330420f75b1a50f16111b1c6886733aee510cc579a4"), looks := false }, kinds := [], alts := [], laidByText := true, laidKinds := [.data], laidTests := true, laidLooks := .later }
def GrantLocksCardSaid : Prop := Claim7.holds Tryd.pinned (.plain (OpenSpec.ofChange grantLocksSpec)) grantLocksCard

/-- THE TIED CARD OF 'curtilagelaw14.GrantWays'. -/
def grantWaysCard : Claim7 := { stood := { row := grantWaysRow, standIns := [], harness := (true, "dc53dde9c1d2c3cfcd419330420f75b1a50f16111b1c6886733aee510cc579a4"), looks := false }, kinds := [], alts := [], laidByText := true, laidKinds := [.data], laidTests := true, laidLooks := .later }
def GrantWaysCardSaid : Prop := Claim7.holds Tryd.pinned (.plain (OpenSpec.ofChange grantWaysSpec)) grantWaysCard

/-- THE SECOND FORM's CARD OF 'curtilagelaw14.GrantChecks'. -/
def grantChecksUptoCard : Claim7 := { stood := { row := grantChecksUptoRow, standIns := [], harness := (true, "dc53dde9c1d2c3cfcd419330420f75b1a50f16111b1c6886733aee510cc579a4"), looks := false }, kinds := [], alts := [], laidByText := true, laidKinds := [.data], laidTests := true, laidLooks := .later }
def GrantChecksUptoCardSaid : Prop := Claim7.holds Tryd.pinned (.plain (OpenSpec.upto grantChecksSpec)) grantChecksUptoCard

/-- THE SECOND FORM's CARD OF 'curtilagelaw14.GrantPlaces'. -/
def grantPlacesUptoCard : Claim7 := { stood := { row := grantPlacesUptoRow, standIns := [], harness := (true, "dc53dde9c1d2c3cfcd419330420f75b1a50f16111b1c6886733aee510cc579a4"), looks := false }, kinds := [], alts := [], laidByText := true, laidKinds := [.data], laidTests := true, laidLooks := .later }
def GrantPlacesUptoCardSaid : Prop := Claim7.holds Tryd.pinned (.plain (OpenSpec.upto grantPlacesSpec)) grantPlacesUptoCard

/-- THE SECOND FORM's CARD OF 'curtilagelaw14.GrantLocks'. -/
def grantLocksUptoCard : Claim7 := { stood := { row := grantLocksUptoRow, standIns := [], harness := (true, "dc53dde9c1d2c3cfcd419330420f75b1a50f16111b1c6886733aee510cc579a4"), looks := false }, kinds := [], alts := [], laidByText := true, laidKinds := [.data], laidTests := true, laidLooks := .later }
def GrantLocksUptoCardSaid : Prop := Claim7.holds Tryd.pinned (.plain (OpenSpec.upto grantLocksSpec)) grantLocksUptoCard

/-- THE SECOND FORM's CARD OF 'curtilagelaw14.GrantWays'. -/
def grantWaysUptoCard : Claim7 := { stood := { row := grantWaysUptoRow, standIns := [], harness := (true, "dc53dde9c1d2c3cfcd419330420f75b1a50f16111b1c6886733aee510cc579a4"), looks := false }, kinds := [], alts := [], laidByText := true, laidKinds := [.data], laidTests := true, laidLooks := .later }
def GrantWaysUptoCardSaid : Prop := Claim7.holds Tryd.pinned (.plain (OpenSpec.upto grantWaysSpec)) grantWaysUptoCard
end Rows
end Go.Proofs.YtbpkmlakfdaooaaDoor
