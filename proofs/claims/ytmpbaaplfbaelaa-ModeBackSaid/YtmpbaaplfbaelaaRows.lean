/-
  No cell of these rows narrows 'for every input' (looked for: loops, veiled, ifaces, maps, wideKeys, modest, calm, conditions, laid).
  DERIVED. THE GIVEN ROWS OF THIS SEAT. 6 by the template 'for every input the law returns true; each argument reads behind the call as it read before'; 0 by the template 'total and deterministic' (their statements: YtmpbaaplfbaelaaTotals.lean).
  GIVEN WITH THE SEED: the statements are not yours to turn. If you find one false, say at which input.
  Laid BY PROGRAM, IN A SANDBOX (cutbox-rows.mjs): the forced cells as the released guide's own fill.sh prints them over the translation 2df8aae68f4e2926… (all of the seat's roots in one cut). By AI agents, Wed Nov 11 2026. No macro, syntax, notation, axiom, sorry.
-/
import Derived.Test.YtmpbaaplfbaelaaChecked
import GoSem.Claim
import GoSem.ClaimJoined
import GoSem.ClaimMapViews
import Derived.JoinedTies
import Derived.KernelRfl
namespace Go.Proofs.Ytmpbaaplfbaelaa
/- THE CELL 'sum', in the pinned program and in every row, IS THE sha256 OF THE DUMP (.gsa) THAT YtmpbaaplfbaelaaProg.lean LOADS. Nothing in Lean hashes anything: it is a label: what it is worth is what the hold of that sum in a sandbox is worth. -/
noncomputable def Try.pinned : Pinned := { name := "ytmpbaaplfbaelaa", sum := "2df8aae68f4e2926538a8bc27b6c89d9cd11590fc294bb2a47959f7cc53fc40d", checked := Try.checked }
namespace Rows
def none {H : Type} : Left H := { results := [], args := [] }

/-- 'curtilagelaw03.AesEncrypts': WHATEVER THE INPUT: true; the input reads as it did. -/
def aesEncryptsSpec : ChangeSpec := { name := "aesEncrypts", fn := fun _ => fun
  | [d1, d2, d3] => { results := [.lit (.bool true)], args := [d1, d2, d3] }
  | _ => none }
def aesEncryptsRow : OpenClaim := { program := "ytmpbaaplfbaelaa", sum := "2df8aae68f4e2926538a8bc27b6c89d9cd11590fc294bb2a47959f7cc53fc40d", func := "curtilage/curtilagelaw03.AesEncrypts", spec := "aesEncrypts", apart := false }
def AesEncryptsSaid : Prop := aesEncryptsRow.holds Try.pinned (OpenSpec.ofChange aesEncryptsSpec)

/-- ITS FALSE NEIGHBOUR: 'it returns false'. Refute it at one input. -/
def aesEncryptsWrong : ChangeSpec := { name := "aesEncrypts", fn := fun _ => fun
  | [d1, d2, d3] => { results := [.lit (.bool false)], args := [d1, d2, d3] }
  | _ => none }
def AesEncryptsWrongFalsely : Prop := aesEncryptsRow.holds Try.pinned (OpenSpec.ofChange aesEncryptsWrong)

/-- 'curtilagelaw04.ModeRuns': WHATEVER THE INPUT: true; the input reads as it did. -/
def modeRunsSpec : ChangeSpec := { name := "modeRuns", fn := fun _ => fun
  | [d1, d2, d3, d4, d5] => { results := [.lit (.bool true)], args := [d1, d2, d3, d4, d5] }
  | _ => none }
def modeRunsRow : OpenClaim := { program := "ytmpbaaplfbaelaa", sum := "2df8aae68f4e2926538a8bc27b6c89d9cd11590fc294bb2a47959f7cc53fc40d", func := "curtilage/curtilagelaw04.ModeRuns", spec := "modeRuns", apart := false }
def ModeRunsSaid : Prop := modeRunsRow.holds Try.pinned (OpenSpec.ofChange modeRunsSpec)

/-- ITS FALSE NEIGHBOUR: 'it returns false'. Refute it at one input. -/
def modeRunsWrong : ChangeSpec := { name := "modeRuns", fn := fun _ => fun
  | [d1, d2, d3, d4, d5] => { results := [.lit (.bool false)], args := [d1, d2, d3, d4, d5] }
  | _ => none }
def ModeRunsWrongFalsely : Prop := modeRunsRow.holds Try.pinned (OpenSpec.ofChange modeRunsWrong)

/-- 'curtilagelaw04.ModeBack': WHATEVER THE INPUT: true; the input reads as it did. -/
def modeBackSpec : ChangeSpec := { name := "modeBack", fn := fun _ => fun
  | [d1, d2, d3, d4, d5] => { results := [.lit (.bool true)], args := [d1, d2, d3, d4, d5] }
  | _ => none }
def modeBackRow : OpenClaim := { program := "ytmpbaaplfbaelaa", sum := "2df8aae68f4e2926538a8bc27b6c89d9cd11590fc294bb2a47959f7cc53fc40d", func := "curtilage/curtilagelaw04.ModeBack", spec := "modeBack", apart := false }
def ModeBackSaid : Prop := modeBackRow.holds Try.pinned (OpenSpec.ofChange modeBackSpec)

/-- ITS FALSE NEIGHBOUR: 'it returns false'. Refute it at one input. -/
def modeBackWrong : ChangeSpec := { name := "modeBack", fn := fun _ => fun
  | [d1, d2, d3, d4, d5] => { results := [.lit (.bool false)], args := [d1, d2, d3, d4, d5] }
  | _ => none }
def ModeBackWrongFalsely : Prop := modeBackRow.holds Try.pinned (OpenSpec.ofChange modeBackWrong)

/-- 'curtilagelaw04.ModeParts': WHATEVER THE INPUT: true; the input reads as it did. -/
def modePartsSpec : ChangeSpec := { name := "modeParts", fn := fun _ => fun
  | [d1, d2, d3, d4, d5, d6] => { results := [.lit (.bool true)], args := [d1, d2, d3, d4, d5, d6] }
  | _ => none }
def modePartsRow : OpenClaim := { program := "ytmpbaaplfbaelaa", sum := "2df8aae68f4e2926538a8bc27b6c89d9cd11590fc294bb2a47959f7cc53fc40d", func := "curtilage/curtilagelaw04.ModeParts", spec := "modeParts", apart := false }
def ModePartsSaid : Prop := modePartsRow.holds Try.pinned (OpenSpec.ofChange modePartsSpec)

/-- ITS FALSE NEIGHBOUR: 'it returns false'. Refute it at one input. -/
def modePartsWrong : ChangeSpec := { name := "modeParts", fn := fun _ => fun
  | [d1, d2, d3, d4, d5, d6] => { results := [.lit (.bool false)], args := [d1, d2, d3, d4, d5, d6] }
  | _ => none }
def ModePartsWrongFalsely : Prop := modePartsRow.holds Try.pinned (OpenSpec.ofChange modePartsWrong)

/-- 'curtilagelaw04.ModeArgs': WHATEVER THE INPUT: true; the input reads as it did. -/
def modeArgsSpec : ChangeSpec := { name := "modeArgs", fn := fun _ => fun
  | [d1, d2, d3] => { results := [.lit (.bool true)], args := [d1, d2, d3] }
  | _ => none }
def modeArgsRow : OpenClaim := { program := "ytmpbaaplfbaelaa", sum := "2df8aae68f4e2926538a8bc27b6c89d9cd11590fc294bb2a47959f7cc53fc40d", func := "curtilage/curtilagelaw04.ModeArgs", spec := "modeArgs", apart := false }
def ModeArgsSaid : Prop := modeArgsRow.holds Try.pinned (OpenSpec.ofChange modeArgsSpec)

/-- ITS FALSE NEIGHBOUR: 'it returns false'. Refute it at one input. -/
def modeArgsWrong : ChangeSpec := { name := "modeArgs", fn := fun _ => fun
  | [d1, d2, d3] => { results := [.lit (.bool false)], args := [d1, d2, d3] }
  | _ => none }
def ModeArgsWrongFalsely : Prop := modeArgsRow.holds Try.pinned (OpenSpec.ofChange modeArgsWrong)

/-- 'curtilagelaw04.ModeReach': WHATEVER THE INPUT: true; the input reads as it did. -/
def modeReachSpec : ChangeSpec := { name := "modeReach", fn := fun _ => fun
  | [d1, d2, d3, d4, d5, d6] => { results := [.lit (.bool true)], args := [d1, d2, d3, d4, d5, d6] }
  | _ => none }
def modeReachRow : OpenClaim := { program := "ytmpbaaplfbaelaa", sum := "2df8aae68f4e2926538a8bc27b6c89d9cd11590fc294bb2a47959f7cc53fc40d", func := "curtilage/curtilagelaw04.ModeReach", spec := "modeReach", apart := false }
def ModeReachSaid : Prop := modeReachRow.holds Try.pinned (OpenSpec.ofChange modeReachSpec)

/-- ITS FALSE NEIGHBOUR: 'it returns false'. Refute it at one input. -/
def modeReachWrong : ChangeSpec := { name := "modeReach", fn := fun _ => fun
  | [d1, d2, d3, d4, d5, d6] => { results := [.lit (.bool false)], args := [d1, d2, d3, d4, d5, d6] }
  | _ => none }
def ModeReachWrongFalsely : Prop := modeReachRow.holds Try.pinned (OpenSpec.ofChange modeReachWrong)

/- THE SECOND FORM. 'bulk': how many values and letters a reading holds, each counted each time it is reached (what is shared counts as often as it is met; a slice's spare places count too). A statement '..UptoSaid' is the law's where the arguments, and the package variables that the reading takes, are together of bulk at most 1048576: NARROWER than '..Said'. Prove '..Said' where nothing that the law and all that it calls make is longer than what came in: it says more and counts as full. Else prove '..UptoSaid'. A law counts once. -/
mutual
def uptoBulk {H : Type} : DataW H → Nat
  | .lit (.string bytes) => bytes.length + 1
  | .lit _ => 1
  | .nil => 1
  | .ptr d => uptoBulk d + 1
  | .slice elems spare => uptoBulkAll elems + uptoBulkAll spare + 1
  | .agg parts => uptoBulkAll parts + 1
  | .iface _ d => uptoBulk d + 1
  | .map entries => uptoBulkEntries entries + 1
  | .held _ => 1
def uptoBulkAll {H : Type} : List (DataW H) → Nat
  | [] => 0
  | d :: r => uptoBulk d + uptoBulkAll r
def uptoBulkEntries {H : Type} : List (Lit × DataW H) → Nat
  | [] => 0
  | x :: r => uptoBulkEntry x + uptoBulkEntries r
def uptoBulkEntry {H : Type} : Lit × DataW H → Nat
  | (.string bytes, d) => bytes.length + uptoBulk d + 1
  | (_, d) => uptoBulk d + 1
 end
def uptoSmall : (H : Type) → List (DataW H) → Bool := fun _ ds => decide (uptoBulkAll ds ≤ 1048576)
def OpenSpec.upto (s : _root_.Go.ChangeSpec) : _root_.Go.OpenSpec := { _root_.Go.OpenSpec.ofChange s with cond := some uptoSmall }

/-- 'curtilagelaw03.AesEncrypts', WHERE WHAT IT READS IS OF BULK AT MOST 1048576: true; the input reads as it did. -/
def aesEncryptsUptoRow : OpenClaim := { program := "ytmpbaaplfbaelaa", sum := "2df8aae68f4e2926538a8bc27b6c89d9cd11590fc294bb2a47959f7cc53fc40d", func := "curtilage/curtilagelaw03.AesEncrypts", spec := "aesEncrypts", apart := false, narrowed := true }
def AesEncryptsUptoSaid : Prop := aesEncryptsUptoRow.holds Try.pinned (OpenSpec.upto aesEncryptsSpec)

/-- 'curtilagelaw04.ModeRuns', WHERE WHAT IT READS IS OF BULK AT MOST 1048576: true; the input reads as it did. -/
def modeRunsUptoRow : OpenClaim := { program := "ytmpbaaplfbaelaa", sum := "2df8aae68f4e2926538a8bc27b6c89d9cd11590fc294bb2a47959f7cc53fc40d", func := "curtilage/curtilagelaw04.ModeRuns", spec := "modeRuns", apart := false, narrowed := true }
def ModeRunsUptoSaid : Prop := modeRunsUptoRow.holds Try.pinned (OpenSpec.upto modeRunsSpec)

/-- 'curtilagelaw04.ModeBack', WHERE WHAT IT READS IS OF BULK AT MOST 1048576: true; the input reads as it did. -/
def modeBackUptoRow : OpenClaim := { program := "ytmpbaaplfbaelaa", sum := "2df8aae68f4e2926538a8bc27b6c89d9cd11590fc294bb2a47959f7cc53fc40d", func := "curtilage/curtilagelaw04.ModeBack", spec := "modeBack", apart := false, narrowed := true }
def ModeBackUptoSaid : Prop := modeBackUptoRow.holds Try.pinned (OpenSpec.upto modeBackSpec)

/-- 'curtilagelaw04.ModeParts', WHERE WHAT IT READS IS OF BULK AT MOST 1048576: true; the input reads as it did. -/
def modePartsUptoRow : OpenClaim := { program := "ytmpbaaplfbaelaa", sum := "2df8aae68f4e2926538a8bc27b6c89d9cd11590fc294bb2a47959f7cc53fc40d", func := "curtilage/curtilagelaw04.ModeParts", spec := "modeParts", apart := false, narrowed := true }
def ModePartsUptoSaid : Prop := modePartsUptoRow.holds Try.pinned (OpenSpec.upto modePartsSpec)

/-- 'curtilagelaw04.ModeArgs', WHERE WHAT IT READS IS OF BULK AT MOST 1048576: true; the input reads as it did. -/
def modeArgsUptoRow : OpenClaim := { program := "ytmpbaaplfbaelaa", sum := "2df8aae68f4e2926538a8bc27b6c89d9cd11590fc294bb2a47959f7cc53fc40d", func := "curtilage/curtilagelaw04.ModeArgs", spec := "modeArgs", apart := false, narrowed := true }
def ModeArgsUptoSaid : Prop := modeArgsUptoRow.holds Try.pinned (OpenSpec.upto modeArgsSpec)

/-- 'curtilagelaw04.ModeReach', WHERE WHAT IT READS IS OF BULK AT MOST 1048576: true; the input reads as it did. -/
def modeReachUptoRow : OpenClaim := { program := "ytmpbaaplfbaelaa", sum := "2df8aae68f4e2926538a8bc27b6c89d9cd11590fc294bb2a47959f7cc53fc40d", func := "curtilage/curtilagelaw04.ModeReach", spec := "modeReach", apart := false, narrowed := true }
def ModeReachUptoSaid : Prop := modeReachUptoRow.holds Try.pinned (OpenSpec.upto modeReachSpec)

end Rows
end Go.Proofs.Ytmpbaaplfbaelaa
