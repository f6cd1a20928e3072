/- Fuses: the other laws. -/
import Derived.Test.YtiafaeokfdpbjaaU4
import Derived.Test.YtiafaeokfdpbjaaGF
namespace Go.Proofs.Ytiafaeokfdpbjaa
open Go.RowKit
set_option maxRecDepth 100000
set_option maxHeartbeats 20000000
theorem len_of {c : Cx} {fr : Bool} {et : Ty} {l : Nat} {f : Nat → AV} {v : Value} (h : RV c (.imm fr et l f) v) : l ≤ maxLen := by
  obtain ⟨A, q, _, h1, h2, _⟩ := rv_imm h
  omega
theorem i64_toInt (x : BitVec 64) : i64 x.toInt := by
  have h1 := BitVec.toInt_lt (x := x)
  have h2 := BitVec.le_toInt (x := x)
  unfold i64; omega
theorem i64_of {n : Int} (h : (Lit.int .i64 n).wf = true) : i64 n := by
  simp [Lit.wf, IntKind.min, IntKind.max, IntKind.signed, IntKind.bits] at h
  unfold i64; omega
end Go.Proofs.Ytiafaeokfdpbjaa
