/- The types of this program. -/
import Derived.Test.YtahiclllpaplgaaGE
import Derived.Test.YtahiclllpaplgaaProg
namespace Go.Proofs.Ytahiclllpaplgaa
open Go.RowKit
def tyTab : List (Nat × Ty) := [(2, .int .i64),
  (3, .int .i64),
  (4, .bo),
  (5, .int .u8),
  (9, .str),
  (12, .int .u64),
  (15, .pt),
  (16, .pt),
  (21, .int .i32),
  (22, .sl 29),
  (24, .pt),
  (26, .sl 5),
  (27, .sl 32),
  (28, .agg false 3 (nth .no [.int .i64, .int .i64, .sl 5])),
  (29, .agg false 3 (nth .no [.int .i64, .int .i64, .sl 5])),
  (32, .int .u32),
  (33, .int .u64),
  (40, .agg true 64 (fun _ => .int .u8)),
  (43, .pt),
  (47, .int .u64),
  (49, .agg false 3 (nth .no [.int .u32, .sl 5, .sl 32])),
  (50, .agg false 3 (nth .no [.int .u32, .sl 5, .sl 32])),
  (63, .pt)]
def ty : TypeId → Ty := tyAt tyTab
theorem ok2 : TyOK Try.prog ty 2 := .int 2 .i64 (by decide) (by kernel_rfl) (.mk (by kernel_rfl)) rfl
theorem ok3 : TyOK Try.prog ty 3 := .int 3 .i64 (by decide) (by kernel_rfl) (.mk (by kernel_rfl)) rfl
theorem ok4 : TyOK Try.prog ty 4 := .bo 4 (by kernel_rfl) (.mk (by kernel_rfl)) rfl
theorem ok5 : TyOK Try.prog ty 5 := .int 5 .u8 (by decide) (by kernel_rfl) (.mk (by kernel_rfl)) rfl
theorem ok9 : TyOK Try.prog ty 9 := .str 9 (by kernel_rfl) (.mk (by kernel_rfl)) rfl
theorem ok12 : TyOK Try.prog ty 12 := .int 12 .u64 (by decide) (by kernel_rfl) (.mk (by kernel_rfl)) rfl
theorem ok15 : TyOK Try.prog ty 15 := .pt 15 55 (by kernel_rfl) (.mk (by kernel_rfl)) rfl
theorem ok16 : TyOK Try.prog ty 16 := .pt 16 58 (by kernel_rfl) (.mk (by kernel_rfl)) rfl
theorem ok21 : TyOK Try.prog ty 21 := .int 21 .i32 (by decide) (by kernel_rfl) (.mk (by kernel_rfl)) rfl
theorem ok26 : TyOK Try.prog ty 26 := .slice 5 ok5 rfl (by kernel_rfl) (by kernel_rfl) (by kernel_rfl)
theorem ok29 : TyOK Try.prog ty 29 := .struct [(3, 0), (3, 1), (26, 2)] rfl rfl ⟨ok3, ok3, ok26, trivial⟩ ⟨⟨rfl, rfl, rfl⟩, ⟨rfl, rfl, rfl⟩, ⟨rfl, rfl, rfl⟩, trivial⟩ (by kernel_rfl) (by kernel_rfl) (by kernel_rfl) (by kernel_rfl) (by kernel_rfl) (by kernel_rfl)
theorem ok22 : TyOK Try.prog ty 22 := .slice 29 ok29 rfl (by kernel_rfl) (by kernel_rfl) (by kernel_rfl)
theorem ok24 : TyOK Try.prog ty 24 := .pt 24 50 (by kernel_rfl) (.mk (by kernel_rfl)) rfl
theorem ok32 : TyOK Try.prog ty 32 := .int 32 .u32 (by decide) (by kernel_rfl) (.mk (by kernel_rfl)) rfl
theorem ok27 : TyOK Try.prog ty 27 := .slice 32 ok32 rfl (by kernel_rfl) (by kernel_rfl) (by kernel_rfl)
theorem ok28 : TyOK Try.prog ty 28 := .struct [(3, 0), (3, 1), (26, 2)] rfl rfl ⟨ok3, ok3, ok26, trivial⟩ ⟨⟨rfl, rfl, rfl⟩, ⟨rfl, rfl, rfl⟩, ⟨rfl, rfl, rfl⟩, trivial⟩ (by kernel_rfl) (by kernel_rfl) (by kernel_rfl) (by kernel_rfl) (by kernel_rfl) (by kernel_rfl)
theorem ok33 : TyOK Try.prog ty 33 := .int 33 .u64 (by decide) (by kernel_rfl) (.mk (by kernel_rfl)) rfl
theorem ok40 : TyOK Try.prog ty 40 := .array 64 5 ok5 rfl (by kernel_rfl) (by kernel_rfl) (by kernel_rfl) (by kernel_rfl) (by kernel_rfl)
theorem ok43 : TyOK Try.prog ty 43 := .pt 43 40 (by kernel_rfl) (.mk (by kernel_rfl)) rfl
theorem ok47 : TyOK Try.prog ty 47 := .int 47 .u64 (by decide) (by kernel_rfl) (.mk (by kernel_rfl)) rfl
theorem ok49 : TyOK Try.prog ty 49 := .struct [(32, 0), (26, 1), (27, 2)] rfl rfl ⟨ok32, ok26, ok27, trivial⟩ ⟨⟨rfl, rfl, rfl⟩, ⟨rfl, rfl, rfl⟩, ⟨rfl, rfl, rfl⟩, trivial⟩ (by kernel_rfl) (by kernel_rfl) (by kernel_rfl) (by kernel_rfl) (by kernel_rfl) (by kernel_rfl)
theorem ok50 : TyOK Try.prog ty 50 := .struct [(32, 0), (26, 1), (27, 2)] rfl rfl ⟨ok32, ok26, ok27, trivial⟩ ⟨⟨rfl, rfl, rfl⟩, ⟨rfl, rfl, rfl⟩, ⟨rfl, rfl, rfl⟩, trivial⟩ (by kernel_rfl) (by kernel_rfl) (by kernel_rfl) (by kernel_rfl) (by kernel_rfl) (by kernel_rfl)
theorem ok63 : TyOK Try.prog ty 63 := .pt 63 5 (by kernel_rfl) (.mk (by kernel_rfl)) rfl
theorem tysOK : TysOK Try.prog ty := tysOK_of (l := tyTab) rfl ⟨ok2, ok3, ok4, ok5, ok9, ok12, ok15, ok16, ok21, ok22, ok24, ok26, ok27, ok28, ok29, ok32, ok33, ok40, ok43, ok47, ok49, ok50, ok63, trivial⟩
theorem mixes : Try.prog.follows .mixedOrders = true := by kernel_rfl
theorem mxOK : ∀ t n f, ty t = .agg true n f → n ≤ maxLen := mx_of (l := tyTab) rfl (by kernel_rfl)
end Go.Proofs.Ytahiclllpaplgaa
