/-
  NARROWER THAN 'FOR EVERY INPUT', by the rows' own cells (each row's printed sentence says how): RvEncodes: laid · RvDivides: laid · RvNames: laid · RvWords: laid.
  DERIVED. THE GIVEN ROWS OF THIS SEAT. 4 by the template 'for every input the law returns true; each argument reads behind the call as it read before'; 0 by the template 'total and deterministic' (their statements: YtonggppknpbhiaaDoorTotals.lean).
  GIVEN WITH THE SEED: the statements are not yours to turn. If you find one false, say at which input.
  Laid BY PROGRAM, IN A SANDBOX (cutbox-rows.mjs): the forced cells as the released guide's own fill.sh prints them over the translation d592e6c7032ada6e… (all of the seat's roots in one cut). By AI agents, Wed Nov 11 2026. No macro, syntax, notation, axiom, sorry.
-/
import Derived.Test.YtonggppknpbhiaaDoorChecked
import GoSem.Claim
import GoSem.ClaimJoined
import GoSem.ClaimMapViews
import Derived.JoinedTies
import Derived.KernelRfl
namespace Go.Proofs.YtonggppknpbhiaaDoor
/- THE CELL 'sum', in the pinned program and in every row, IS THE sha256 OF THE DUMP (.gsa) THAT YtonggppknpbhiaaDoorProg.lean LOADS. Nothing in Lean hashes anything: it is a label: what it is worth is what the hold of that sum in a sandbox is worth. -/
noncomputable def Tryd.pinned : Pinned := { name := "ytonggppknpbhiaadoor", sum := "d592e6c7032ada6e0f86908a715eb2ee62cb744ebccc9bc7fdcc86d1a5964912", checked := Tryd.checked }
namespace Rows
def none {H : Type} : Left H := { results := [], args := [] }

/- WHAT THE LISTED PACKAGE-LEVEL VARIABLES READ AS WHEN THE CALL BEGINS. Each datum BY PROGRAM (the guide's laid-datum.mjs) off the statement by which the dump's own 'gosem.cut.vars' lays the variable. In a bare row this is a premise. The card (YtonggppknpbhiaaDoorCards.lean) ties it to the program's text. -/
def laid_curtilage_rv_names {H : Type} : DataW H := .agg [.lit (.string []), .lit (.string [108, 117, 105]), .lit (.string [97, 117, 105, 112, 99]), .lit (.string [106, 97, 108]), .lit (.string [106, 97, 108, 114]), .lit (.string [98, 101, 113]), .lit (.string [98, 110, 101]), .lit (.string [98, 108, 116]), .lit (.string [98, 103, 101]), .lit (.string [98, 108, 116, 117]), .lit (.string [98, 103, 101, 117]), .lit (.string [108, 98]), .lit (.string [108, 104]), .lit (.string [108, 119]), .lit (.string [108, 98, 117]), .lit (.string [108, 104, 117]), .lit (.string [115, 98]), .lit (.string [115, 104]), .lit (.string [115, 119]), .lit (.string [97, 100, 100, 105]), .lit (.string [115, 108, 116, 105]), .lit (.string [115, 108, 116, 105, 117]), .lit (.string [120, 111, 114, 105]), .lit (.string [111, 114, 105]), .lit (.string [97, 110, 100, 105]), .lit (.string [115, 108, 108, 105]), .lit (.string [115, 114, 108, 105]), .lit (.string [115, 114, 97, 105]), .lit (.string [97, 100, 100]), .lit (.string [115, 117, 98]), .lit (.string [115, 108, 108]), .lit (.string [115, 108, 116]), .lit (.string [115, 108, 116, 117]), .lit (.string [120, 111, 114]), .lit (.string [115, 114, 108]), .lit (.string [115, 114, 97]), .lit (.string [111, 114]), .lit (.string [97, 110, 100]), .lit (.string [102, 101, 110, 99, 101]), .lit (.string [101, 99, 97, 108, 108]), .lit (.string [101, 98, 114, 101, 97, 107]), .lit (.string [109, 114, 101, 116]), .lit (.string [119, 102, 105]), .lit (.string [99, 115, 114, 114, 119]), .lit (.string [99, 115, 114, 114, 115]), .lit (.string [99, 115, 114, 114, 99]), .lit (.string [99, 115, 114, 114, 119, 105]), .lit (.string [99, 115, 114, 114, 115, 105]), .lit (.string [99, 115, 114, 114, 99, 105]), .lit (.string [109, 117, 108]), .lit (.string [109, 117, 108, 104]), .lit (.string [109, 117, 108, 104, 115, 117]), .lit (.string [109, 117, 108, 104, 117]), .lit (.string [100, 105, 118]), .lit (.string [100, 105, 118, 117]), .lit (.string [114, 101, 109]), .lit (.string [114, 101, 109, 117])]

/-- 'curtilagelaw19.RvEncodes': WHATEVER THE INPUT: true; the input reads as it did. -/
def rvEncodesSpec : ChangeSpec := { name := "rvEncodes", fn := fun _ => fun
  | [d1, d2] => { results := [.lit (.bool true)], args := [d1, d2] }
  | _ => none }
def rvEncodesRow : OpenClaim := { program := "ytonggppknpbhiaadoor", sum := "d592e6c7032ada6e0f86908a715eb2ee62cb744ebccc9bc7fdcc86d1a5964912", func := "curtilage/curtilagelaw19.RvEncodes", spec := "rvEncodes", named := ["curtilage/rv.names"], apart := false, laid := [("curtilage/rv.names", laid_curtilage_rv_names)] }
def RvEncodesSaid : Prop := rvEncodesRow.holds Tryd.pinned (OpenSpec.ofChange rvEncodesSpec)

/-- ITS FALSE NEIGHBOUR: 'it returns false'. Refute it at one input. -/
def rvEncodesWrong : ChangeSpec := { name := "rvEncodes", fn := fun _ => fun
  | [d1, d2] => { results := [.lit (.bool false)], args := [d1, d2] }
  | _ => none }
def RvEncodesWrongFalsely : Prop := rvEncodesRow.holds Tryd.pinned (OpenSpec.ofChange rvEncodesWrong)

/-- 'curtilagelaw19.RvDivides': WHATEVER THE INPUT: true; the input reads as it did. -/
def rvDividesSpec : ChangeSpec := { name := "rvDivides", fn := fun _ => fun
  | [d1, d2] => { results := [.lit (.bool true)], args := [d1, d2] }
  | _ => none }
def rvDividesRow : OpenClaim := { program := "ytonggppknpbhiaadoor", sum := "d592e6c7032ada6e0f86908a715eb2ee62cb744ebccc9bc7fdcc86d1a5964912", func := "curtilage/curtilagelaw19.RvDivides", spec := "rvDivides", named := ["curtilage/rv.names"], apart := false, laid := [("curtilage/rv.names", laid_curtilage_rv_names)] }
def RvDividesSaid : Prop := rvDividesRow.holds Tryd.pinned (OpenSpec.ofChange rvDividesSpec)

/-- ITS FALSE NEIGHBOUR: 'it returns false'. Refute it at one input. -/
def rvDividesWrong : ChangeSpec := { name := "rvDivides", fn := fun _ => fun
  | [d1, d2] => { results := [.lit (.bool false)], args := [d1, d2] }
  | _ => none }
def RvDividesWrongFalsely : Prop := rvDividesRow.holds Tryd.pinned (OpenSpec.ofChange rvDividesWrong)

/-- 'curtilagelaw19.RvNames': WHATEVER THE INPUT: true; the input reads as it did. -/
def rvNamesSpec : ChangeSpec := { name := "rvNames", fn := fun _ => fun
  | [d1, d2] => { results := [.lit (.bool true)], args := [d1, d2] }
  | _ => none }
def rvNamesRow : OpenClaim := { program := "ytonggppknpbhiaadoor", sum := "d592e6c7032ada6e0f86908a715eb2ee62cb744ebccc9bc7fdcc86d1a5964912", func := "curtilage/curtilagelaw19.RvNames", spec := "rvNames", named := ["curtilage/rv.names"], apart := false, laid := [("curtilage/rv.names", laid_curtilage_rv_names)] }
def RvNamesSaid : Prop := rvNamesRow.holds Tryd.pinned (OpenSpec.ofChange rvNamesSpec)

/-- ITS FALSE NEIGHBOUR: 'it returns false'. Refute it at one input. -/
def rvNamesWrong : ChangeSpec := { name := "rvNames", fn := fun _ => fun
  | [d1, d2] => { results := [.lit (.bool false)], args := [d1, d2] }
  | _ => none }
def RvNamesWrongFalsely : Prop := rvNamesRow.holds Tryd.pinned (OpenSpec.ofChange rvNamesWrong)

/-- 'curtilagelaw19.RvWords': WHATEVER THE INPUT: true; the input reads as it did. -/
def rvWordsSpec : ChangeSpec := { name := "rvWords", fn := fun _ => fun
  | [d] => { results := [.lit (.bool true)], args := [d] }
  | _ => none }
def rvWordsRow : OpenClaim := { program := "ytonggppknpbhiaadoor", sum := "d592e6c7032ada6e0f86908a715eb2ee62cb744ebccc9bc7fdcc86d1a5964912", func := "curtilage/curtilagelaw19.RvWords", spec := "rvWords", named := ["curtilage/rv.names"], apart := false, laid := [("curtilage/rv.names", laid_curtilage_rv_names)] }
def RvWordsSaid : Prop := rvWordsRow.holds Tryd.pinned (OpenSpec.ofChange rvWordsSpec)

/-- ITS FALSE NEIGHBOUR: 'it returns false'. Refute it at one input. -/
def rvWordsWrong : ChangeSpec := { name := "rvWords", fn := fun _ => fun
  | [d] => { results := [.lit (.bool false)], args := [d] }
  | _ => none }
def RvWordsWrongFalsely : Prop := rvWordsRow.holds Tryd.pinned (OpenSpec.ofChange rvWordsWrong)

/- THE SECOND FORM. 'bulk': how many values and letters a reading holds, each counted each time it is reached (what is shared counts as often as it is met; a slice's spare places count too). A statement '..UptoSaid' is the law's where the arguments, and the package variables that the reading takes, are together of bulk at most 1048576: NARROWER than '..Said'. Prove '..Said' where nothing that the law and all that it calls make is longer than what came in: it says more and counts as full. Else prove '..UptoSaid'. A law counts once. -/
mutual
def uptoBulk {H : Type} : DataW H → Nat
  | .lit (.string bytes) => bytes.length + 1
  | .lit _ => 1
  | .nil => 1
  | .ptr d => uptoBulk d + 1
  | .slice elems spare => uptoBulkAll elems + uptoBulkAll spare + 1
  | .agg parts => uptoBulkAll parts + 1
  | .iface _ d => uptoBulk d + 1
  | .map entries => uptoBulkEntries entries + 1
  | .held _ => 1
def uptoBulkAll {H : Type} : List (DataW H) → Nat
  | [] => 0
  | d :: r => uptoBulk d + uptoBulkAll r
def uptoBulkEntries {H : Type} : List (Lit × DataW H) → Nat
  | [] => 0
  | x :: r => uptoBulkEntry x + uptoBulkEntries r
def uptoBulkEntry {H : Type} : Lit × DataW H → Nat
  | (.string bytes, d) => bytes.length + uptoBulk d + 1
  | (_, d) => uptoBulk d + 1
 end
def uptoSmall : (H : Type) → List (DataW H) → Bool := fun _ ds => decide (uptoBulkAll ds ≤ 1048576)
def OpenSpec.upto (s : _root_.Go.ChangeSpec) : _root_.Go.OpenSpec := { _root_.Go.OpenSpec.ofChange s with cond := some uptoSmall }

/-- 'curtilagelaw19.RvEncodes', WHERE WHAT IT READS IS OF BULK AT MOST 1048576: true; the input reads as it did. -/
def rvEncodesUptoRow : OpenClaim := { program := "ytonggppknpbhiaadoor", sum := "d592e6c7032ada6e0f86908a715eb2ee62cb744ebccc9bc7fdcc86d1a5964912", func := "curtilage/curtilagelaw19.RvEncodes", spec := "rvEncodes", named := ["curtilage/rv.names"], apart := false, laid := [("curtilage/rv.names", laid_curtilage_rv_names)], narrowed := true }
def RvEncodesUptoSaid : Prop := rvEncodesUptoRow.holds Tryd.pinned (OpenSpec.upto rvEncodesSpec)

/-- 'curtilagelaw19.RvDivides', WHERE WHAT IT READS IS OF BULK AT MOST 1048576: true; the input reads as it did. -/
def rvDividesUptoRow : OpenClaim := { program := "ytonggppknpbhiaadoor", sum := "d592e6c7032ada6e0f86908a715eb2ee62cb744ebccc9bc7fdcc86d1a5964912", func := "curtilage/curtilagelaw19.RvDivides", spec := "rvDivides", named := ["curtilage/rv.names"], apart := false, laid := [("curtilage/rv.names", laid_curtilage_rv_names)], narrowed := true }
def RvDividesUptoSaid : Prop := rvDividesUptoRow.holds Tryd.pinned (OpenSpec.upto rvDividesSpec)

/-- 'curtilagelaw19.RvNames', WHERE WHAT IT READS IS OF BULK AT MOST 1048576: true; the input reads as it did. -/
def rvNamesUptoRow : OpenClaim := { program := "ytonggppknpbhiaadoor", sum := "d592e6c7032ada6e0f86908a715eb2ee62cb744ebccc9bc7fdcc86d1a5964912", func := "curtilage/curtilagelaw19.RvNames", spec := "rvNames", named := ["curtilage/rv.names"], apart := false, laid := [("curtilage/rv.names", laid_curtilage_rv_names)], narrowed := true }
def RvNamesUptoSaid : Prop := rvNamesUptoRow.holds Tryd.pinned (OpenSpec.upto rvNamesSpec)

/-- 'curtilagelaw19.RvWords', WHERE WHAT IT READS IS OF BULK AT MOST 1048576: true; the input reads as it did. -/
def rvWordsUptoRow : OpenClaim := { program := "ytonggppknpbhiaadoor", sum := "d592e6c7032ada6e0f86908a715eb2ee62cb744ebccc9bc7fdcc86d1a5964912", func := "curtilage/curtilagelaw19.RvWords", spec := "rvWords", named := ["curtilage/rv.names"], apart := false, laid := [("curtilage/rv.names", laid_curtilage_rv_names)], narrowed := true }
def RvWordsUptoSaid : Prop := rvWordsUptoRow.holds Tryd.pinned (OpenSpec.upto rvWordsSpec)

end Rows
end Go.Proofs.YtonggppknpbhiaaDoor
