/-
  DERIVED. GIVEN WITH THE SEED: THE CARDS: each row of YtglijhimopdgkaaGreatDoorRows.lean that lists a variable, with what it lists TIED to the program's text (the seventh form; the later family's looks); each row that meets fmt, with fmt's text TOLD by the authors' own Lean function (tested against real Go, not proved from fmt's source: count such statements apart). THE CARD IS WHAT COUNTS. Prove the row's statement (the work); the ties are given (YtglijhimopdgkaaGreatDoorTie.lean); close each card by the builder's one call (the guide's Derived/Test/ToyasCard.lean, 'card_holds'). Laid BY PROGRAM, IN A SANDBOX (cutbox-door.mjs). By AI agents, Wed Nov 11 2026. No macro, syntax, notation, axiom, sorry.
-/
import Derived.Test.YtglijhimopdgkaaGreatDoorRows
import GoSem.ClaimSeven
namespace Go.Proofs.YtglijhimopdgkaaGreatDoor
namespace Rows

/-- THE TIED CARD OF 'curtilagelaw20.CoreOne'. -/
def coreOneCard : Claim7 := { stood := { row := coreOneRow, standIns := [], harness := (true, "63b8c38b3a3c5105cf28bd93533a629354ce69d574a8f1034c332835cab5d616"), looks := false }, kinds := [], alts := [], laidByText := true, laidKinds := [.data, .data], laidTests := true, laidLooks := .later }
def CoreOneCardSaid : Prop := Claim7.holds Tryz.pinned (.plain (OpenSpec.ofChange coreOneSpec)) coreOneCard

/-- THE TIED CARD OF 'curtilagelaw20.CoreTraps'. -/
def coreTrapsCard : Claim7 := { stood := { row := coreTrapsRow, standIns := [], harness := (true, "63b8c38b3a3c5105cf28bd93533a629354ce69d574a8f1034c332835cab5d616"), looks := false }, kinds := [], alts := [], laidByText := true, laidKinds := [.data, .data], laidTests := true, laidLooks := .later }
def CoreTrapsCardSaid : Prop := Claim7.holds Tryz.pinned (.plain (OpenSpec.ofChange coreTrapsSpec)) coreTrapsCard

/-- THE TIED CARD OF 'curtilagelaw20.CoreTimer'. -/
def coreTimerCard : Claim7 := { stood := { row := coreTimerRow, standIns := [], harness := (true, "63b8c38b3a3c5105cf28bd93533a629354ce69d574a8f1034c332835cab5d616"), looks := false }, kinds := [], alts := [], laidByText := true, laidKinds := [.data, .data], laidTests := true, laidLooks := .later }
def CoreTimerCardSaid : Prop := Claim7.holds Tryz.pinned (.plain (OpenSpec.ofChange coreTimerSpec)) coreTimerCard

/-- THE TIED CARD OF 'curtilagelaw20.CoreAdds'. -/
def coreAddsCard : Claim7 := { stood := { row := coreAddsRow, standIns := [], harness := (true, "63b8c38b3a3c5105cf28bd93533a629354ce69d574a8f1034c332835cab5d616"), looks := false }, kinds := [], alts := [], laidByText := true, laidKinds := [.data, .data], laidTests := true, laidLooks := .later }
def CoreAddsCardSaid : Prop := Claim7.holds Tryz.pinned (.plain (OpenSpec.ofChange coreAddsSpec)) coreAddsCard

/-- THE SECOND FORM's CARD OF 'curtilagelaw20.CoreOne'. -/
def coreOneUptoCard : Claim7 := { stood := { row := coreOneUptoRow, standIns := [], harness := (true, "63b8c38b3a3c5105cf28bd93533a629354ce69d574a8f1034c332835cab5d616"), looks := false }, kinds := [], alts := [], laidByText := true, laidKinds := [.data, .data], laidTests := true, laidLooks := .later }
def CoreOneUptoCardSaid : Prop := Claim7.holds Tryz.pinned (.plain (OpenSpec.upto coreOneSpec)) coreOneUptoCard

/-- THE SECOND FORM's CARD OF 'curtilagelaw20.CoreTraps'. -/
def coreTrapsUptoCard : Claim7 := { stood := { row := coreTrapsUptoRow, standIns := [], harness := (true, "63b8c38b3a3c5105cf28bd93533a629354ce69d574a8f1034c332835cab5d616"), looks := false }, kinds := [], alts := [], laidByText := true, laidKinds := [.data, .data], laidTests := true, laidLooks := .later }
def CoreTrapsUptoCardSaid : Prop := Claim7.holds Tryz.pinned (.plain (OpenSpec.upto coreTrapsSpec)) coreTrapsUptoCard

/-- THE SECOND FORM's CARD OF 'curtilagelaw20.CoreTimer'. -/
def coreTimerUptoCard : Claim7 := { stood := { row := coreTimerUptoRow, standIns := [], harness := (true, "63b8c38b3a3c5105cf28bd93533a629354ce69d574a8f1034c332835cab5d616"), looks := false }, kinds := [], alts := [], laidByText := true, laidKinds := [.data, .data], laidTests := true, laidLooks := .later }
def CoreTimerUptoCardSaid : Prop := Claim7.holds Tryz.pinned (.plain (OpenSpec.upto coreTimerSpec)) coreTimerUptoCard

/-- THE SECOND FORM's CARD OF 'curtilagelaw20.CoreAdds'. -/
def coreAddsUptoCard : Claim7 := { stood := { row := coreAddsUptoRow, standIns := [], harness := (true, "63b8c38b3a3c5105cf28bd93533a629354ce69d574a8f1034c332835cab5d616"), looks := false }, kinds := [], alts := [], laidByText := true, laidKinds := [.data, .data], laidTests := true, laidLooks := .later }
def CoreAddsUptoCardSaid : Prop := Claim7.holds Tryz.pinned (.plain (OpenSpec.upto coreAddsSpec)) coreAddsUptoCard
end Rows
end Go.Proofs.YtglijhimopdgkaaGreatDoor
