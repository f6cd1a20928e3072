/- The types of this program. -/
import Derived.Test.YtlbghllhcihjcaaGE
import Derived.Test.YtlbghllhcihjcaaProg
namespace Go.Proofs.Ytlbghllhcihjcaa
open Go.RowKit
def tyTab : List (Nat × Ty) := [(2, .int .i64),
  (3, .int .i64),
  (4, .bo),
  (5, .int .u8),
  (9, .str),
  (12, .int .u64),
  (15, .pt),
  (16, .pt),
  (21, .int .i32),
  (22, .int .u32),
  (23, .agg false 4 (nth .no [.int .u32, .int .i64, .int .i64, .int .i64])),
  (24, .agg false 4 (nth .no [.int .u32, .int .i64, .int .i64, .int .i64])),
  (25, .int .i64),
  (28, .agg true 2 (fun _ => .int .i64)),
  (29, .agg false 5 (nth .no [.int .i64, .agg false 4 (nth .no [.int .u32, .int .i64, .int .i64, .int .i64]), .bo, .bo, .int .i64])),
  (30, .agg false 5 (nth .no [.int .i64, .agg false 4 (nth .no [.int .u32, .int .i64, .int .i64, .int .i64]), .bo, .bo, .int .i64])),
  (35, .agg false 4 (nth .no [.int .u32, .int .i64, .int .i64, .int .i64])),
  (39, .agg true 2 (fun _ => .int .i64)),
  (50, .pt)]
def ty : TypeId → Ty := tyAt tyTab
theorem ok2 : TyOK Try.prog ty 2 := .int 2 .i64 (by decide) (by kernel_rfl) (.mk (by kernel_rfl)) rfl
theorem ok3 : TyOK Try.prog ty 3 := .int 3 .i64 (by decide) (by kernel_rfl) (.mk (by kernel_rfl)) rfl
theorem ok4 : TyOK Try.prog ty 4 := .bo 4 (by kernel_rfl) (.mk (by kernel_rfl)) rfl
theorem ok5 : TyOK Try.prog ty 5 := .int 5 .u8 (by decide) (by kernel_rfl) (.mk (by kernel_rfl)) rfl
theorem ok9 : TyOK Try.prog ty 9 := .str 9 (by kernel_rfl) (.mk (by kernel_rfl)) rfl
theorem ok12 : TyOK Try.prog ty 12 := .int 12 .u64 (by decide) (by kernel_rfl) (.mk (by kernel_rfl)) rfl
theorem ok15 : TyOK Try.prog ty 15 := .pt 15 42 (by kernel_rfl) (.mk (by kernel_rfl)) rfl
theorem ok16 : TyOK Try.prog ty 16 := .pt 16 45 (by kernel_rfl) (.mk (by kernel_rfl)) rfl
theorem ok21 : TyOK Try.prog ty 21 := .int 21 .i32 (by decide) (by kernel_rfl) (.mk (by kernel_rfl)) rfl
theorem ok22 : TyOK Try.prog ty 22 := .int 22 .u32 (by decide) (by kernel_rfl) (.mk (by kernel_rfl)) rfl
theorem ok23 : TyOK Try.prog ty 23 := .struct [(22, 0), (3, 1), (3, 2), (3, 3)] rfl rfl ⟨ok22, ok3, ok3, ok3, trivial⟩ ⟨⟨rfl, rfl, rfl⟩, ⟨rfl, rfl, rfl⟩, ⟨rfl, rfl, rfl⟩, ⟨rfl, rfl, rfl⟩, trivial⟩ (by kernel_rfl) (by kernel_rfl) (by kernel_rfl) (by kernel_rfl) (by kernel_rfl) (by kernel_rfl)
theorem ok24 : TyOK Try.prog ty 24 := .struct [(22, 0), (3, 1), (3, 2), (3, 3)] rfl rfl ⟨ok22, ok3, ok3, ok3, trivial⟩ ⟨⟨rfl, rfl, rfl⟩, ⟨rfl, rfl, rfl⟩, ⟨rfl, rfl, rfl⟩, ⟨rfl, rfl, rfl⟩, trivial⟩ (by kernel_rfl) (by kernel_rfl) (by kernel_rfl) (by kernel_rfl) (by kernel_rfl) (by kernel_rfl)
theorem ok25 : TyOK Try.prog ty 25 := .int 25 .i64 (by decide) (by kernel_rfl) (.mk (by kernel_rfl)) rfl
theorem ok28 : TyOK Try.prog ty 28 := .array 2 25 ok25 rfl (by kernel_rfl) (by kernel_rfl) (by kernel_rfl) (by kernel_rfl) (by kernel_rfl)
theorem ok29 : TyOK Try.prog ty 29 := .struct [(3, 0), (24, 1), (4, 5), (4, 6), (25, 7)] rfl rfl ⟨ok3, ok24, ok4, ok4, ok25, trivial⟩ ⟨⟨rfl, rfl, rfl⟩, ⟨rfl, rfl, rfl⟩, ⟨rfl, rfl, rfl⟩, ⟨rfl, rfl, rfl⟩, ⟨rfl, rfl, rfl⟩, trivial⟩ (by kernel_rfl) (by kernel_rfl) (by kernel_rfl) (by kernel_rfl) (by kernel_rfl) (by kernel_rfl)
theorem ok30 : TyOK Try.prog ty 30 := .struct [(3, 0), (24, 1), (4, 5), (4, 6), (25, 7)] rfl rfl ⟨ok3, ok24, ok4, ok4, ok25, trivial⟩ ⟨⟨rfl, rfl, rfl⟩, ⟨rfl, rfl, rfl⟩, ⟨rfl, rfl, rfl⟩, ⟨rfl, rfl, rfl⟩, ⟨rfl, rfl, rfl⟩, trivial⟩ (by kernel_rfl) (by kernel_rfl) (by kernel_rfl) (by kernel_rfl) (by kernel_rfl) (by kernel_rfl)
theorem ok35 : TyOK Try.prog ty 35 := .struct [(22, 0), (3, 1), (3, 2), (3, 3)] rfl rfl ⟨ok22, ok3, ok3, ok3, trivial⟩ ⟨⟨rfl, rfl, rfl⟩, ⟨rfl, rfl, rfl⟩, ⟨rfl, rfl, rfl⟩, ⟨rfl, rfl, rfl⟩, trivial⟩ (by kernel_rfl) (by kernel_rfl) (by kernel_rfl) (by kernel_rfl) (by kernel_rfl) (by kernel_rfl)
theorem ok39 : TyOK Try.prog ty 39 := .array 2 3 ok3 rfl (by kernel_rfl) (by kernel_rfl) (by kernel_rfl) (by kernel_rfl) (by kernel_rfl)
theorem ok50 : TyOK Try.prog ty 50 := .pt 50 5 (by kernel_rfl) (.mk (by kernel_rfl)) rfl
theorem tysOK : TysOK Try.prog ty := tysOK_of (l := tyTab) rfl ⟨ok2, ok3, ok4, ok5, ok9, ok12, ok15, ok16, ok21, ok22, ok23, ok24, ok25, ok28, ok29, ok30, ok35, ok39, ok50, trivial⟩
theorem mixes : Try.prog.follows .mixedOrders = true := by kernel_rfl
theorem mxOK : ∀ t n f, ty t = .agg true n f → n ≤ maxLen := mx_of (l := tyTab) rfl (by kernel_rfl)
end Go.Proofs.Ytlbghllhcihjcaa
