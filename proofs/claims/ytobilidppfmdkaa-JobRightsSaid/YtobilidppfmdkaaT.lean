/- The types of this program. -/
import Derived.Test.YtobilidppfmdkaaGE
import Derived.Test.YtobilidppfmdkaaProg
namespace Go.Proofs.Ytobilidppfmdkaa
open Go.RowKit
def tyTab : List (Nat × Ty) := [(2, .int .i64),
  (3, .int .i64),
  (4, .bo),
  (5, .int .u8),
  (9, .str),
  (12, .int .u64),
  (15, .pt),
  (16, .pt),
  (21, .int .i32),
  (22, .int .u32),
  (23, .agg false 9 (nth .no [.int .u8, .int .u8, .int .u8, .int .u8, .int .u32, .int .u32, .int .u32, .int .u32, .int .u32])),
  (24, .agg false 9 (nth .no [.int .u8, .int .u8, .int .u8, .int .u8, .int .u32, .int .u32, .int .u32, .int .u32, .int .u32])),
  (25, .sl 5),
  (31, .agg false 9 (nth .no [.int .u8, .int .u8, .int .u8, .int .u8, .int .u32, .int .u32, .int .u32, .int .u32, .int .u32])),
  (32, .int .i64),
  (36, .sl 25),
  (42, .sl 24),
  (47, .agg true 7 (fun _ => .int .u32)),
  (48, .int .u64),
  (49, .sl 22),
  (51, .int .u64),
  (64, .pt)]
def ty : TypeId → Ty := tyAt tyTab
theorem ok2 : TyOK Try.prog ty 2 := .int 2 .i64 (by decide) (by kernel_rfl) (.mk (by kernel_rfl)) rfl
theorem ok3 : TyOK Try.prog ty 3 := .int 3 .i64 (by decide) (by kernel_rfl) (.mk (by kernel_rfl)) rfl
theorem ok4 : TyOK Try.prog ty 4 := .bo 4 (by kernel_rfl) (.mk (by kernel_rfl)) rfl
theorem ok5 : TyOK Try.prog ty 5 := .int 5 .u8 (by decide) (by kernel_rfl) (.mk (by kernel_rfl)) rfl
theorem ok9 : TyOK Try.prog ty 9 := .str 9 (by kernel_rfl) (.mk (by kernel_rfl)) rfl
theorem ok12 : TyOK Try.prog ty 12 := .int 12 .u64 (by decide) (by kernel_rfl) (.mk (by kernel_rfl)) rfl
theorem ok15 : TyOK Try.prog ty 15 := .pt 15 56 (by kernel_rfl) (.mk (by kernel_rfl)) rfl
theorem ok16 : TyOK Try.prog ty 16 := .pt 16 59 (by kernel_rfl) (.mk (by kernel_rfl)) rfl
theorem ok21 : TyOK Try.prog ty 21 := .int 21 .i32 (by decide) (by kernel_rfl) (.mk (by kernel_rfl)) rfl
theorem ok22 : TyOK Try.prog ty 22 := .int 22 .u32 (by decide) (by kernel_rfl) (.mk (by kernel_rfl)) rfl
theorem ok23 : TyOK Try.prog ty 23 := .struct [(5, 0), (5, 1), (5, 2), (5, 3), (22, 4), (22, 5), (22, 6), (22, 7), (22, 8)] rfl rfl ⟨ok5, ok5, ok5, ok5, ok22, ok22, ok22, ok22, ok22, trivial⟩ ⟨⟨rfl, rfl, rfl⟩, ⟨rfl, rfl, rfl⟩, ⟨rfl, rfl, rfl⟩, ⟨rfl, rfl, rfl⟩, ⟨rfl, rfl, rfl⟩, ⟨rfl, rfl, rfl⟩, ⟨rfl, rfl, rfl⟩, ⟨rfl, rfl, rfl⟩, ⟨rfl, rfl, rfl⟩, trivial⟩ (by kernel_rfl) (by kernel_rfl) (by kernel_rfl) (by kernel_rfl) (by kernel_rfl) (by kernel_rfl)
theorem ok24 : TyOK Try.prog ty 24 := .struct [(5, 0), (5, 1), (5, 2), (5, 3), (22, 4), (22, 5), (22, 6), (22, 7), (22, 8)] rfl rfl ⟨ok5, ok5, ok5, ok5, ok22, ok22, ok22, ok22, ok22, trivial⟩ ⟨⟨rfl, rfl, rfl⟩, ⟨rfl, rfl, rfl⟩, ⟨rfl, rfl, rfl⟩, ⟨rfl, rfl, rfl⟩, ⟨rfl, rfl, rfl⟩, ⟨rfl, rfl, rfl⟩, ⟨rfl, rfl, rfl⟩, ⟨rfl, rfl, rfl⟩, ⟨rfl, rfl, rfl⟩, trivial⟩ (by kernel_rfl) (by kernel_rfl) (by kernel_rfl) (by kernel_rfl) (by kernel_rfl) (by kernel_rfl)
theorem ok25 : TyOK Try.prog ty 25 := .slice 5 ok5 rfl (by kernel_rfl) (by kernel_rfl) (by kernel_rfl)
theorem ok31 : TyOK Try.prog ty 31 := .struct [(5, 0), (5, 1), (5, 2), (5, 3), (22, 4), (22, 5), (22, 6), (22, 7), (22, 8)] rfl rfl ⟨ok5, ok5, ok5, ok5, ok22, ok22, ok22, ok22, ok22, trivial⟩ ⟨⟨rfl, rfl, rfl⟩, ⟨rfl, rfl, rfl⟩, ⟨rfl, rfl, rfl⟩, ⟨rfl, rfl, rfl⟩, ⟨rfl, rfl, rfl⟩, ⟨rfl, rfl, rfl⟩, ⟨rfl, rfl, rfl⟩, ⟨rfl, rfl, rfl⟩, ⟨rfl, rfl, rfl⟩, trivial⟩ (by kernel_rfl) (by kernel_rfl) (by kernel_rfl) (by kernel_rfl) (by kernel_rfl) (by kernel_rfl)
theorem ok32 : TyOK Try.prog ty 32 := .int 32 .i64 (by decide) (by kernel_rfl) (.mk (by kernel_rfl)) rfl
theorem ok36 : TyOK Try.prog ty 36 := .slice 25 ok25 rfl (by kernel_rfl) (by kernel_rfl) (by kernel_rfl)
theorem ok42 : TyOK Try.prog ty 42 := .slice 24 ok24 rfl (by kernel_rfl) (by kernel_rfl) (by kernel_rfl)
theorem ok47 : TyOK Try.prog ty 47 := .array 7 22 ok22 rfl (by kernel_rfl) (by kernel_rfl) (by kernel_rfl) (by kernel_rfl) (by kernel_rfl)
theorem ok48 : TyOK Try.prog ty 48 := .int 48 .u64 (by decide) (by kernel_rfl) (.mk (by kernel_rfl)) rfl
theorem ok49 : TyOK Try.prog ty 49 := .slice 22 ok22 rfl (by kernel_rfl) (by kernel_rfl) (by kernel_rfl)
theorem ok51 : TyOK Try.prog ty 51 := .int 51 .u64 (by decide) (by kernel_rfl) (.mk (by kernel_rfl)) rfl
theorem ok64 : TyOK Try.prog ty 64 := .pt 64 5 (by kernel_rfl) (.mk (by kernel_rfl)) rfl
theorem tysOK : TysOK Try.prog ty := tysOK_of (l := tyTab) rfl ⟨ok2, ok3, ok4, ok5, ok9, ok12, ok15, ok16, ok21, ok22, ok23, ok24, ok25, ok31, ok32, ok36, ok42, ok47, ok48, ok49, ok51, ok64, trivial⟩
theorem mixes : Try.prog.follows .mixedOrders = true := by kernel_rfl
theorem mxOK : ∀ t n f, ty t = .agg true n f → n ≤ maxLen := mx_of (l := tyTab) rfl (by kernel_rfl)
end Go.Proofs.Ytobilidppfmdkaa
