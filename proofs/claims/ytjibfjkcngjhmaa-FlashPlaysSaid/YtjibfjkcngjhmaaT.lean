/- The types of this program. -/
import Derived.Test.YtjibfjkcngjhmaaGE
import Derived.Test.YtjibfjkcngjhmaaProg
namespace Go.Proofs.Ytjibfjkcngjhmaa
open Go.RowKit
def tyTab : List (Nat × Ty) := [(2, .int .i64),
  (3, .int .i64),
  (4, .bo),
  (5, .int .u8),
  (9, .str),
  (12, .int .u64),
  (15, .pt),
  (16, .pt),
  (21, .int .i32),
  (22, .sl 31),
  (24, .pt),
  (25, .int .i64),
  (28, .sl 5),
  (30, .agg false 5 (nth .no [.int .u8, .int .i64, .int .i64, .sl 5, .sl 5])),
  (31, .agg false 5 (nth .no [.int .u8, .int .i64, .int .i64, .sl 5, .sl 5])),
  (40, .sl 28),
  (48, .int .u16),
  (55, .agg false 1 (nth .no [.sl 5])),
  (56, .agg false 1 (nth .no [.sl 5])),
  (62, .sl 3),
  (67, .int .u64),
  (70, .int .u32),
  (73, .int .u64),
  (85, .pt)]
def ty : TypeId → Ty := tyAt tyTab
theorem ok2 : TyOK Try.prog ty 2 := .int 2 .i64 (by decide) (by kernel_rfl) (.mk (by kernel_rfl)) rfl
theorem ok3 : TyOK Try.prog ty 3 := .int 3 .i64 (by decide) (by kernel_rfl) (.mk (by kernel_rfl)) rfl
theorem ok4 : TyOK Try.prog ty 4 := .bo 4 (by kernel_rfl) (.mk (by kernel_rfl)) rfl
theorem ok5 : TyOK Try.prog ty 5 := .int 5 .u8 (by decide) (by kernel_rfl) (.mk (by kernel_rfl)) rfl
theorem ok9 : TyOK Try.prog ty 9 := .str 9 (by kernel_rfl) (.mk (by kernel_rfl)) rfl
theorem ok12 : TyOK Try.prog ty 12 := .int 12 .u64 (by decide) (by kernel_rfl) (.mk (by kernel_rfl)) rfl
theorem ok15 : TyOK Try.prog ty 15 := .pt 15 78 (by kernel_rfl) (.mk (by kernel_rfl)) rfl
theorem ok16 : TyOK Try.prog ty 16 := .pt 16 81 (by kernel_rfl) (.mk (by kernel_rfl)) rfl
theorem ok21 : TyOK Try.prog ty 21 := .int 21 .i32 (by decide) (by kernel_rfl) (.mk (by kernel_rfl)) rfl
theorem ok28 : TyOK Try.prog ty 28 := .slice 5 ok5 rfl (by kernel_rfl) (by kernel_rfl) (by kernel_rfl)
theorem ok31 : TyOK Try.prog ty 31 := .struct [(5, 0), (3, 1), (3, 2), (28, 3), (28, 4)] rfl rfl ⟨ok5, ok3, ok3, ok28, ok28, trivial⟩ ⟨⟨rfl, rfl, rfl⟩, ⟨rfl, rfl, rfl⟩, ⟨rfl, rfl, rfl⟩, ⟨rfl, rfl, rfl⟩, ⟨rfl, rfl, rfl⟩, trivial⟩ (by kernel_rfl) (by kernel_rfl) (by kernel_rfl) (by kernel_rfl) (by kernel_rfl) (by kernel_rfl)
theorem ok22 : TyOK Try.prog ty 22 := .slice 31 ok31 rfl (by kernel_rfl) (by kernel_rfl) (by kernel_rfl)
theorem ok24 : TyOK Try.prog ty 24 := .pt 24 56 (by kernel_rfl) (.mk (by kernel_rfl)) rfl
theorem ok25 : TyOK Try.prog ty 25 := .int 25 .i64 (by decide) (by kernel_rfl) (.mk (by kernel_rfl)) rfl
theorem ok30 : TyOK Try.prog ty 30 := .struct [(5, 0), (3, 1), (3, 2), (28, 3), (28, 4)] rfl rfl ⟨ok5, ok3, ok3, ok28, ok28, trivial⟩ ⟨⟨rfl, rfl, rfl⟩, ⟨rfl, rfl, rfl⟩, ⟨rfl, rfl, rfl⟩, ⟨rfl, rfl, rfl⟩, ⟨rfl, rfl, rfl⟩, trivial⟩ (by kernel_rfl) (by kernel_rfl) (by kernel_rfl) (by kernel_rfl) (by kernel_rfl) (by kernel_rfl)
theorem ok40 : TyOK Try.prog ty 40 := .slice 28 ok28 rfl (by kernel_rfl) (by kernel_rfl) (by kernel_rfl)
theorem ok48 : TyOK Try.prog ty 48 := .int 48 .u16 (by decide) (by kernel_rfl) (.mk (by kernel_rfl)) rfl
theorem ok55 : TyOK Try.prog ty 55 := .struct [(28, 0)] rfl rfl ⟨ok28, trivial⟩ ⟨⟨rfl, rfl, rfl⟩, trivial⟩ (by kernel_rfl) (by kernel_rfl) (by kernel_rfl) (by kernel_rfl) (by kernel_rfl) (by kernel_rfl)
theorem ok56 : TyOK Try.prog ty 56 := .struct [(28, 0)] rfl rfl ⟨ok28, trivial⟩ ⟨⟨rfl, rfl, rfl⟩, trivial⟩ (by kernel_rfl) (by kernel_rfl) (by kernel_rfl) (by kernel_rfl) (by kernel_rfl) (by kernel_rfl)
theorem ok62 : TyOK Try.prog ty 62 := .slice 3 ok3 rfl (by kernel_rfl) (by kernel_rfl) (by kernel_rfl)
theorem ok67 : TyOK Try.prog ty 67 := .int 67 .u64 (by decide) (by kernel_rfl) (.mk (by kernel_rfl)) rfl
theorem ok70 : TyOK Try.prog ty 70 := .int 70 .u32 (by decide) (by kernel_rfl) (.mk (by kernel_rfl)) rfl
theorem ok73 : TyOK Try.prog ty 73 := .int 73 .u64 (by decide) (by kernel_rfl) (.mk (by kernel_rfl)) rfl
theorem ok85 : TyOK Try.prog ty 85 := .pt 85 5 (by kernel_rfl) (.mk (by kernel_rfl)) rfl
theorem tysOK : TysOK Try.prog ty := tysOK_of (l := tyTab) rfl ⟨ok2, ok3, ok4, ok5, ok9, ok12, ok15, ok16, ok21, ok22, ok24, ok25, ok28, ok30, ok31, ok40, ok48, ok55, ok56, ok62, ok67, ok70, ok73, ok85, trivial⟩
theorem mixes : Try.prog.follows .mixedOrders = true := by kernel_rfl
theorem mxOK : ∀ t n f, ty t = .agg true n f → n ≤ maxLen := mx_of (l := tyTab) rfl (by kernel_rfl)
end Go.Proofs.Ytjibfjkcngjhmaa
