/- The types of this program. -/
import Derived.Test.YtjammjefeiiaoaaGE
import Derived.Test.YtjammjefeiiaoaaProg
namespace Go.Proofs.Ytjammjefeiiaoaa
open Go.RowKit
def tyTab : List (Nat × Ty) := [(2, .int .i64),
  (3, .int .i64),
  (4, .bo),
  (5, .int .u8),
  (9, .str),
  (12, .int .u64),
  (15, .pt),
  (16, .pt),
  (21, .int .i32),
  (23, .agg true 4 (fun _ => .int .i64)),
  (24, .agg false 3 (nth .no [.agg true 4 (fun _ => .int .i64), .int .i64, .int .i64])),
  (25, .agg false 3 (nth .no [.agg true 4 (fun _ => .int .i64), .int .i64, .int .i64])),
  (26, .int .i64),
  (31, .agg true 4 (fun _ => .bo)),
  (44, .int .u32),
  (48, .pt)]
def ty : TypeId → Ty := tyAt tyTab
theorem ok2 : TyOK Try.prog ty 2 := .int 2 .i64 (by decide) (by kernel_rfl) (.mk (by kernel_rfl)) rfl
theorem ok3 : TyOK Try.prog ty 3 := .int 3 .i64 (by decide) (by kernel_rfl) (.mk (by kernel_rfl)) rfl
theorem ok4 : TyOK Try.prog ty 4 := .bo 4 (by kernel_rfl) (.mk (by kernel_rfl)) rfl
theorem ok5 : TyOK Try.prog ty 5 := .int 5 .u8 (by decide) (by kernel_rfl) (.mk (by kernel_rfl)) rfl
theorem ok9 : TyOK Try.prog ty 9 := .str 9 (by kernel_rfl) (.mk (by kernel_rfl)) rfl
theorem ok12 : TyOK Try.prog ty 12 := .int 12 .u64 (by decide) (by kernel_rfl) (.mk (by kernel_rfl)) rfl
theorem ok15 : TyOK Try.prog ty 15 := .pt 15 40 (by kernel_rfl) (.mk (by kernel_rfl)) rfl
theorem ok16 : TyOK Try.prog ty 16 := .pt 16 43 (by kernel_rfl) (.mk (by kernel_rfl)) rfl
theorem ok21 : TyOK Try.prog ty 21 := .int 21 .i32 (by decide) (by kernel_rfl) (.mk (by kernel_rfl)) rfl
theorem ok23 : TyOK Try.prog ty 23 := .array 4 3 ok3 rfl (by kernel_rfl) (by kernel_rfl) (by kernel_rfl) (by kernel_rfl) (by kernel_rfl)
theorem ok24 : TyOK Try.prog ty 24 := .struct [(23, 0), (3, 4), (3, 5)] rfl rfl ⟨ok23, ok3, ok3, trivial⟩ ⟨⟨rfl, rfl, rfl⟩, ⟨rfl, rfl, rfl⟩, ⟨rfl, rfl, rfl⟩, trivial⟩ (by kernel_rfl) (by kernel_rfl) (by kernel_rfl) (by kernel_rfl) (by kernel_rfl) (by kernel_rfl)
theorem ok25 : TyOK Try.prog ty 25 := .struct [(23, 0), (3, 4), (3, 5)] rfl rfl ⟨ok23, ok3, ok3, trivial⟩ ⟨⟨rfl, rfl, rfl⟩, ⟨rfl, rfl, rfl⟩, ⟨rfl, rfl, rfl⟩, trivial⟩ (by kernel_rfl) (by kernel_rfl) (by kernel_rfl) (by kernel_rfl) (by kernel_rfl) (by kernel_rfl)
theorem ok26 : TyOK Try.prog ty 26 := .int 26 .i64 (by decide) (by kernel_rfl) (.mk (by kernel_rfl)) rfl
theorem ok31 : TyOK Try.prog ty 31 := .array 4 4 ok4 rfl (by kernel_rfl) (by kernel_rfl) (by kernel_rfl) (by kernel_rfl) (by kernel_rfl)
theorem ok44 : TyOK Try.prog ty 44 := .int 44 .u32 (by decide) (by kernel_rfl) (.mk (by kernel_rfl)) rfl
theorem ok48 : TyOK Try.prog ty 48 := .pt 48 5 (by kernel_rfl) (.mk (by kernel_rfl)) rfl
theorem tysOK : TysOK Try.prog ty := tysOK_of (l := tyTab) rfl ⟨ok2, ok3, ok4, ok5, ok9, ok12, ok15, ok16, ok21, ok23, ok24, ok25, ok26, ok31, ok44, ok48, trivial⟩
theorem mixes : Try.prog.follows .mixedOrders = true := by kernel_rfl
theorem mxOK : ∀ t n f, ty t = .agg true n f → n ≤ maxLen := mx_of (l := tyTab) rfl (by kernel_rfl)
end Go.Proofs.Ytjammjefeiiaoaa
