/-
  No cell of these rows narrows 'for every input' (looked for: loops, veiled, ifaces, maps, wideKeys, modest, calm, conditions, laid).
  DERIVED. THE GIVEN ROWS OF THIS SEAT. 4 by the template 'for every input the law returns true; each argument reads behind the call as it read before'; 0 by the template 'total and deterministic' (their statements: YtaajedeapmphpaaTotals.lean).
  GIVEN WITH THE SEED: the statements are not yours to turn. If you find one false, say at which input.
  Laid BY PROGRAM, IN A SANDBOX (cutbox-rows.mjs): the forced cells as the released guide's own fill.sh prints them over the translation b0967e524e7b13dc… (all of the seat's roots in one cut). By AI agents, Wed Nov 11 2026. No macro, syntax, notation, axiom, sorry.
-/
import Derived.Test.YtaajedeapmphpaaChecked
import GoSem.Claim
import GoSem.ClaimJoined
import GoSem.ClaimMapViews
import Derived.JoinedTies
import Derived.KernelRfl
namespace Go.Proofs.Ytaajedeapmphpaa
/- THE CELL 'sum', in the pinned program and in every row, IS THE sha256 OF THE DUMP (.gsa) THAT YtaajedeapmphpaaProg.lean LOADS. Nothing in Lean hashes anything: it is a label: what it is worth is what the hold of that sum in a sandbox is worth. -/
noncomputable def Try.pinned : Pinned := { name := "ytaajedeapmphpaa", sum := "b0967e524e7b13dcae609c9ccbd937fdbb514126b0500906abf87365372153cc", checked := Try.checked }
namespace Rows
def none {H : Type} : Left H := { results := [], args := [] }

/-- 'curtilagelaw04.ModeParts': WHATEVER THE INPUT: true; the input reads as it did. -/
def modePartsSpec : ChangeSpec := { name := "modeParts", fn := fun _ => fun
  | [d1, d2, d3, d4, d5, d6] => { results := [.lit (.bool true)], args := [d1, d2, d3, d4, d5, d6] }
  | _ => none }
def modePartsRow : OpenClaim := { program := "ytaajedeapmphpaa", sum := "b0967e524e7b13dcae609c9ccbd937fdbb514126b0500906abf87365372153cc", func := "curtilage/curtilagelaw04.ModeParts", spec := "modeParts", apart := false }
def ModePartsSaid : Prop := modePartsRow.holds Try.pinned (OpenSpec.ofChange modePartsSpec)

/-- ITS FALSE NEIGHBOUR: 'it returns false'. Refute it at one input. -/
def modePartsWrong : ChangeSpec := { name := "modeParts", fn := fun _ => fun
  | [d1, d2, d3, d4, d5, d6] => { results := [.lit (.bool false)], args := [d1, d2, d3, d4, d5, d6] }
  | _ => none }
def ModePartsWrongFalsely : Prop := modePartsRow.holds Try.pinned (OpenSpec.ofChange modePartsWrong)

/-- 'curtilagelaw04.ModeArgs': WHATEVER THE INPUT: true; the input reads as it did. -/
def modeArgsSpec : ChangeSpec := { name := "modeArgs", fn := fun _ => fun
  | [d1, d2, d3] => { results := [.lit (.bool true)], args := [d1, d2, d3] }
  | _ => none }
def modeArgsRow : OpenClaim := { program := "ytaajedeapmphpaa", sum := "b0967e524e7b13dcae609c9ccbd937fdbb514126b0500906abf87365372153cc", func := "curtilage/curtilagelaw04.ModeArgs", spec := "modeArgs", apart := false }
def ModeArgsSaid : Prop := modeArgsRow.holds Try.pinned (OpenSpec.ofChange modeArgsSpec)

/-- ITS FALSE NEIGHBOUR: 'it returns false'. Refute it at one input. -/
def modeArgsWrong : ChangeSpec := { name := "modeArgs", fn := fun _ => fun
  | [d1, d2, d3] => { results := [.lit (.bool false)], args := [d1, d2, d3] }
  | _ => none }
def ModeArgsWrongFalsely : Prop := modeArgsRow.holds Try.pinned (OpenSpec.ofChange modeArgsWrong)

/-- 'curtilagelaw09.TokenBodies': WHATEVER THE INPUT: true; the input reads as it did. -/
def tokenBodiesSpec : ChangeSpec := { name := "tokenBodies", fn := fun _ => fun
  | [d1, d2, d3, d4, d5, d6] => { results := [.lit (.bool true)], args := [d1, d2, d3, d4, d5, d6] }
  | _ => none }
def tokenBodiesRow : OpenClaim := { program := "ytaajedeapmphpaa", sum := "b0967e524e7b13dcae609c9ccbd937fdbb514126b0500906abf87365372153cc", func := "curtilage/curtilagelaw09.TokenBodies", spec := "tokenBodies", apart := false }
def TokenBodiesSaid : Prop := tokenBodiesRow.holds Try.pinned (OpenSpec.ofChange tokenBodiesSpec)

/-- ITS FALSE NEIGHBOUR: 'it returns false'. Refute it at one input. -/
def tokenBodiesWrong : ChangeSpec := { name := "tokenBodies", fn := fun _ => fun
  | [d1, d2, d3, d4, d5, d6] => { results := [.lit (.bool false)], args := [d1, d2, d3, d4, d5, d6] }
  | _ => none }
def TokenBodiesWrongFalsely : Prop := tokenBodiesRow.holds Try.pinned (OpenSpec.ofChange tokenBodiesWrong)

/-- 'curtilagelaw09.TokenLives': WHATEVER THE INPUT: true; the input reads as it did. -/
def tokenLivesSpec : ChangeSpec := { name := "tokenLives", fn := fun _ => fun
  | [d1, d2] => { results := [.lit (.bool true)], args := [d1, d2] }
  | _ => none }
def tokenLivesRow : OpenClaim := { program := "ytaajedeapmphpaa", sum := "b0967e524e7b13dcae609c9ccbd937fdbb514126b0500906abf87365372153cc", func := "curtilage/curtilagelaw09.TokenLives", spec := "tokenLives", apart := false }
def TokenLivesSaid : Prop := tokenLivesRow.holds Try.pinned (OpenSpec.ofChange tokenLivesSpec)

/-- ITS FALSE NEIGHBOUR: 'it returns false'. Refute it at one input. -/
def tokenLivesWrong : ChangeSpec := { name := "tokenLives", fn := fun _ => fun
  | [d1, d2] => { results := [.lit (.bool false)], args := [d1, d2] }
  | _ => none }
def TokenLivesWrongFalsely : Prop := tokenLivesRow.holds Try.pinned (OpenSpec.ofChange tokenLivesWrong)

/- THE SECOND FORM. 'bulk': how many values and letters a reading holds, each counted each time it is reached (what is shared counts as often as it is met; a slice's spare places count too). A statement '..UptoSaid' is the law's where the arguments, and the package variables that the reading takes, are together of bulk at most 1048576: NARROWER than '..Said'. Prove '..Said' where nothing that the law and all that it calls make is longer than what came in: it says more and counts as full. Else prove '..UptoSaid'. A law counts once. -/
mutual
def uptoBulk {H : Type} : DataW H → Nat
  | .lit (.string bytes) => bytes.length + 1
  | .lit _ => 1
  | .nil => 1
  | .ptr d => uptoBulk d + 1
  | .slice elems spare => uptoBulkAll elems + uptoBulkAll spare + 1
  | .agg parts => uptoBulkAll parts + 1
  | .iface _ d => uptoBulk d + 1
  | .map entries => uptoBulkEntries entries + 1
  | .held _ => 1
def uptoBulkAll {H : Type} : List (DataW H) → Nat
  | [] => 0
  | d :: r => uptoBulk d + uptoBulkAll r
def uptoBulkEntries {H : Type} : List (Lit × DataW H) → Nat
  | [] => 0
  | x :: r => uptoBulkEntry x + uptoBulkEntries r
def uptoBulkEntry {H : Type} : Lit × DataW H → Nat
  | (.string bytes, d) => bytes.length + uptoBulk d + 1
  | (_, d) => uptoBulk d + 1
 end
def uptoSmall : (H : Type) → List (DataW H) → Bool := fun _ ds => decide (uptoBulkAll ds ≤ 1048576)
def OpenSpec.upto (s : _root_.Go.ChangeSpec) : _root_.Go.OpenSpec := { _root_.Go.OpenSpec.ofChange s with cond := some uptoSmall }

/-- 'curtilagelaw04.ModeParts', WHERE WHAT IT READS IS OF BULK AT MOST 1048576: true; the input reads as it did. -/
def modePartsUptoRow : OpenClaim := { program := "ytaajedeapmphpaa", sum := "b0967e524e7b13dcae609c9ccbd937fdbb514126b0500906abf87365372153cc", func := "curtilage/curtilagelaw04.ModeParts", spec := "modeParts", apart := false, narrowed := true }
def ModePartsUptoSaid : Prop := modePartsUptoRow.holds Try.pinned (OpenSpec.upto modePartsSpec)

/-- 'curtilagelaw04.ModeArgs', WHERE WHAT IT READS IS OF BULK AT MOST 1048576: true; the input reads as it did. -/
def modeArgsUptoRow : OpenClaim := { program := "ytaajedeapmphpaa", sum := "b0967e524e7b13dcae609c9ccbd937fdbb514126b0500906abf87365372153cc", func := "curtilage/curtilagelaw04.ModeArgs", spec := "modeArgs", apart := false, narrowed := true }
def ModeArgsUptoSaid : Prop := modeArgsUptoRow.holds Try.pinned (OpenSpec.upto modeArgsSpec)

/-- 'curtilagelaw09.TokenBodies', WHERE WHAT IT READS IS OF BULK AT MOST 1048576: true; the input reads as it did. -/
def tokenBodiesUptoRow : OpenClaim := { program := "ytaajedeapmphpaa", sum := "b0967e524e7b13dcae609c9ccbd937fdbb514126b0500906abf87365372153cc", func := "curtilage/curtilagelaw09.TokenBodies", spec := "tokenBodies", apart := false, narrowed := true }
def TokenBodiesUptoSaid : Prop := tokenBodiesUptoRow.holds Try.pinned (OpenSpec.upto tokenBodiesSpec)

/-- 'curtilagelaw09.TokenLives', WHERE WHAT IT READS IS OF BULK AT MOST 1048576: true; the input reads as it did. -/
def tokenLivesUptoRow : OpenClaim := { program := "ytaajedeapmphpaa", sum := "b0967e524e7b13dcae609c9ccbd937fdbb514126b0500906abf87365372153cc", func := "curtilage/curtilagelaw09.TokenLives", spec := "tokenLives", apart := false, narrowed := true }
def TokenLivesUptoSaid : Prop := tokenLivesUptoRow.holds Try.pinned (OpenSpec.upto tokenLivesSpec)

end Rows
end Go.Proofs.Ytaajedeapmphpaa
