/-
  DERIVED. GIVEN WITH THE SEED: THE CARDS: each row of YtifmnjpjddefpaaDoorRows.lean that lists a variable, with what it lists TIED to the program's text (the seventh form; the later family's looks); each row that meets fmt, with fmt's text TOLD by the authors' own Lean function (tested against real Go, not proved from fmt's source: count such statements apart). THE CARD IS WHAT COUNTS. Prove the row's statement (the work); the ties are given (YtifmnjpjddefpaaDoorTie.lean); close each card by the builder's one call (the guide's Derived/Test/ToyasCard.lean, 'card_holds'). Laid BY PROGRAM, IN A SANDBOX (cutbox-door.mjs). By AI agents, Wed Nov 11 2026. No macro, syntax, notation, axiom, sorry.
-/
import Derived.Test.YtifmnjpjddefpaaDoorRows
import GoSem.ClaimSeven
namespace Go.Proofs.YtifmnjpjddefpaaDoor
namespace Rows

/-- THE TIED CARD OF 'curtilagelaw15.SlotCiphers'. -/
def slotCiphersCard : Claim7 := { stood := { row := slotCiphersRow, standIns := [], harness := (true, "22d810b499258402593b24398b7e9d2ea16800f028230e3c2ca70004e9522399"), looks := false }, kinds := [], alts := [], laidByText := true, laidKinds := [.data, .data], laidTests := true, laidLooks := .later }
def SlotCiphersCardSaid : Prop := Claim7.holds Tryd.pinned (.plain (OpenSpec.ofChange slotCiphersSpec)) slotCiphersCard

/-- THE TIED CARD OF 'curtilagelaw15.SlotNil'. -/
def slotNilCard : Claim7 := { stood := { row := slotNilRow, standIns := [], harness := (true, "22d810b499258402593b24398b7e9d2ea16800f028230e3c2ca70004e9522399"), looks := false }, kinds := [], alts := [], laidByText := true, laidKinds := [.data, .data], laidTests := true, laidLooks := .later }
def SlotNilCardSaid : Prop := Claim7.holds Tryd.pinned (.plain (OpenSpec.ofChange slotNilSpec)) slotNilCard

/-- THE SECOND FORM's CARD OF 'curtilagelaw15.SlotCiphers'. -/
def slotCiphersUptoCard : Claim7 := { stood := { row := slotCiphersUptoRow, standIns := [], harness := (true, "22d810b499258402593b24398b7e9d2ea16800f028230e3c2ca70004e9522399"), looks := false }, kinds := [], alts := [], laidByText := true, laidKinds := [.data, .data], laidTests := true, laidLooks := .later }
def SlotCiphersUptoCardSaid : Prop := Claim7.holds Tryd.pinned (.plain (OpenSpec.upto slotCiphersSpec)) slotCiphersUptoCard

/-- THE SECOND FORM's CARD OF 'curtilagelaw15.SlotNil'. -/
def slotNilUptoCard : Claim7 := { stood := { row := slotNilUptoRow, standIns := [], harness := (true, "22d810b499258402593b24398b7e9d2ea16800f028230e3c2ca70004e9522399"), looks := false }, kinds := [], alts := [], laidByText := true, laidKinds := [.data, .data], laidTests := true, laidLooks := .later }
def SlotNilUptoCardSaid : Prop := Claim7.holds Tryd.pinned (.plain (OpenSpec.upto slotNilSpec)) slotNilUptoCard
end Rows
end Go.Proofs.YtifmnjpjddefpaaDoor
