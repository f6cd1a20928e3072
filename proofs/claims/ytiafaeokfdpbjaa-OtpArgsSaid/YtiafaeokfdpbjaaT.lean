/- The types of this program. -/
import Derived.Test.YtiafaeokfdpbjaaGE
import Derived.Test.YtiafaeokfdpbjaaProg
namespace Go.Proofs.Ytiafaeokfdpbjaa
open Go.RowKit
def tyTab : List (Nat × Ty) := [(2, .int .i64),
  (3, .int .i64),
  (4, .bo),
  (5, .int .u8),
  (9, .str),
  (12, .int .u64),
  (15, .pt),
  (16, .pt),
  (21, .int .i32),
  (22, .int .u32),
  (23, .agg true 64 (fun _ => .int .u32)),
  (24, .sl 32),
  (26, .pt),
  (29, .agg true 32 (fun _ => .int .u8)),
  (30, .agg true 32 (fun _ => .int .u8)),
  (31, .agg false 6 (nth .no [.int .u8, .int .i64, .agg true 32 (fun _ => .int .u8), .int .u8, .bo, .int .u32])),
  (32, .agg false 6 (nth .no [.int .u8, .int .i64, .agg true 32 (fun _ => .int .u8), .int .u8, .bo, .int .u32])),
  (33, .sl 22),
  (35, .sl 42),
  (36, .int .i64),
  (41, .agg false 2 (nth .no [.int .i64, .int .u32])),
  (42, .agg false 2 (nth .no [.int .i64, .int .u32])),
  (48, .agg true 16 (fun _ => .int .u8)),
  (51, .sl 5),
  (61, .int .u64),
  (69, .pt),
  (72, .agg false 1 (nth .no [.pt])),
  (73, .agg false 1 (nth .no [.pt])),
  (74, .agg false 1 (nth .no [.pt])),
  (80, .pt),
  (84, .sl 51),
  (93, .sl 4),
  (94, .agg false 2 (nth .no [.sl 22, .sl 4])),
  (95, .agg false 2 (nth .no [.sl 22, .sl 4])),
  (97, .agg true 64 (fun _ => .int .u32)),
  (99, .int .u64),
  (100, .agg true 9 (fun _ => .int .u32)),
  (110, .pt)]
def ty : TypeId → Ty := tyAt tyTab
theorem ok2 : TyOK Try.prog ty 2 := .int 2 .i64 (by decide) (by kernel_rfl) (.mk (by kernel_rfl)) rfl
theorem ok3 : TyOK Try.prog ty 3 := .int 3 .i64 (by decide) (by kernel_rfl) (.mk (by kernel_rfl)) rfl
theorem ok4 : TyOK Try.prog ty 4 := .bo 4 (by kernel_rfl) (.mk (by kernel_rfl)) rfl
theorem ok5 : TyOK Try.prog ty 5 := .int 5 .u8 (by decide) (by kernel_rfl) (.mk (by kernel_rfl)) rfl
theorem ok9 : TyOK Try.prog ty 9 := .str 9 (by kernel_rfl) (.mk (by kernel_rfl)) rfl
theorem ok12 : TyOK Try.prog ty 12 := .int 12 .u64 (by decide) (by kernel_rfl) (.mk (by kernel_rfl)) rfl
theorem ok15 : TyOK Try.prog ty 15 := .pt 15 103 (by kernel_rfl) (.mk (by kernel_rfl)) rfl
theorem ok16 : TyOK Try.prog ty 16 := .pt 16 106 (by kernel_rfl) (.mk (by kernel_rfl)) rfl
theorem ok21 : TyOK Try.prog ty 21 := .int 21 .i32 (by decide) (by kernel_rfl) (.mk (by kernel_rfl)) rfl
theorem ok22 : TyOK Try.prog ty 22 := .int 22 .u32 (by decide) (by kernel_rfl) (.mk (by kernel_rfl)) rfl
theorem ok23 : TyOK Try.prog ty 23 := .array 64 22 ok22 rfl (by kernel_rfl) (by kernel_rfl) (by kernel_rfl) (by kernel_rfl) (by kernel_rfl)
theorem ok30 : TyOK Try.prog ty 30 := .array 32 5 ok5 rfl (by kernel_rfl) (by kernel_rfl) (by kernel_rfl) (by kernel_rfl) (by kernel_rfl)
theorem ok32 : TyOK Try.prog ty 32 := .struct [(5, 0), (3, 1), (30, 2), (5, 34), (4, 35), (22, 36)] rfl rfl ⟨ok5, ok3, ok30, ok5, ok4, ok22, trivial⟩ ⟨⟨rfl, rfl, rfl⟩, ⟨rfl, rfl, rfl⟩, ⟨rfl, rfl, rfl⟩, ⟨rfl, rfl, rfl⟩, ⟨rfl, rfl, rfl⟩, ⟨rfl, rfl, rfl⟩, trivial⟩ (by kernel_rfl) (by kernel_rfl) (by kernel_rfl) (by kernel_rfl) (by kernel_rfl) (by kernel_rfl)
theorem ok24 : TyOK Try.prog ty 24 := .slice 32 ok32 rfl (by kernel_rfl) (by kernel_rfl) (by kernel_rfl)
theorem ok26 : TyOK Try.prog ty 26 := .pt 26 73 (by kernel_rfl) (.mk (by kernel_rfl)) rfl
theorem ok29 : TyOK Try.prog ty 29 := .array 32 5 ok5 rfl (by kernel_rfl) (by kernel_rfl) (by kernel_rfl) (by kernel_rfl) (by kernel_rfl)
theorem ok31 : TyOK Try.prog ty 31 := .struct [(5, 0), (3, 1), (30, 2), (5, 34), (4, 35), (22, 36)] rfl rfl ⟨ok5, ok3, ok30, ok5, ok4, ok22, trivial⟩ ⟨⟨rfl, rfl, rfl⟩, ⟨rfl, rfl, rfl⟩, ⟨rfl, rfl, rfl⟩, ⟨rfl, rfl, rfl⟩, ⟨rfl, rfl, rfl⟩, ⟨rfl, rfl, rfl⟩, trivial⟩ (by kernel_rfl) (by kernel_rfl) (by kernel_rfl) (by kernel_rfl) (by kernel_rfl) (by kernel_rfl)
theorem ok33 : TyOK Try.prog ty 33 := .slice 22 ok22 rfl (by kernel_rfl) (by kernel_rfl) (by kernel_rfl)
theorem ok42 : TyOK Try.prog ty 42 := .struct [(3, 0), (22, 1)] rfl rfl ⟨ok3, ok22, trivial⟩ ⟨⟨rfl, rfl, rfl⟩, ⟨rfl, rfl, rfl⟩, trivial⟩ (by kernel_rfl) (by kernel_rfl) (by kernel_rfl) (by kernel_rfl) (by kernel_rfl) (by kernel_rfl)
theorem ok35 : TyOK Try.prog ty 35 := .slice 42 ok42 rfl (by kernel_rfl) (by kernel_rfl) (by kernel_rfl)
theorem ok36 : TyOK Try.prog ty 36 := .int 36 .i64 (by decide) (by kernel_rfl) (.mk (by kernel_rfl)) rfl
theorem ok41 : TyOK Try.prog ty 41 := .struct [(3, 0), (22, 1)] rfl rfl ⟨ok3, ok22, trivial⟩ ⟨⟨rfl, rfl, rfl⟩, ⟨rfl, rfl, rfl⟩, trivial⟩ (by kernel_rfl) (by kernel_rfl) (by kernel_rfl) (by kernel_rfl) (by kernel_rfl) (by kernel_rfl)
theorem ok48 : TyOK Try.prog ty 48 := .array 16 5 ok5 rfl (by kernel_rfl) (by kernel_rfl) (by kernel_rfl) (by kernel_rfl) (by kernel_rfl)
theorem ok51 : TyOK Try.prog ty 51 := .slice 5 ok5 rfl (by kernel_rfl) (by kernel_rfl) (by kernel_rfl)
theorem ok61 : TyOK Try.prog ty 61 := .int 61 .u64 (by decide) (by kernel_rfl) (.mk (by kernel_rfl)) rfl
theorem ok69 : TyOK Try.prog ty 69 := .pt 69 95 (by kernel_rfl) (.mk (by kernel_rfl)) rfl
theorem ok72 : TyOK Try.prog ty 72 := .struct [(69, 0)] rfl rfl ⟨ok69, trivial⟩ ⟨⟨rfl, rfl, rfl⟩, trivial⟩ (by kernel_rfl) (by kernel_rfl) (by kernel_rfl) (by kernel_rfl) (by kernel_rfl) (by kernel_rfl)
theorem ok73 : TyOK Try.prog ty 73 := .struct [(69, 0)] rfl rfl ⟨ok69, trivial⟩ ⟨⟨rfl, rfl, rfl⟩, trivial⟩ (by kernel_rfl) (by kernel_rfl) (by kernel_rfl) (by kernel_rfl) (by kernel_rfl) (by kernel_rfl)
theorem ok74 : TyOK Try.prog ty 74 := .struct [(69, 0)] rfl rfl ⟨ok69, trivial⟩ ⟨⟨rfl, rfl, rfl⟩, trivial⟩ (by kernel_rfl) (by kernel_rfl) (by kernel_rfl) (by kernel_rfl) (by kernel_rfl) (by kernel_rfl)
theorem ok80 : TyOK Try.prog ty 80 := .pt 80 97 (by kernel_rfl) (.mk (by kernel_rfl)) rfl
theorem ok84 : TyOK Try.prog ty 84 := .slice 51 ok51 rfl (by kernel_rfl) (by kernel_rfl) (by kernel_rfl)
theorem ok93 : TyOK Try.prog ty 93 := .slice 4 ok4 rfl (by kernel_rfl) (by kernel_rfl) (by kernel_rfl)
theorem ok94 : TyOK Try.prog ty 94 := .struct [(33, 0), (93, 1)] rfl rfl ⟨ok33, ok93, trivial⟩ ⟨⟨rfl, rfl, rfl⟩, ⟨rfl, rfl, rfl⟩, trivial⟩ (by kernel_rfl) (by kernel_rfl) (by kernel_rfl) (by kernel_rfl) (by kernel_rfl) (by kernel_rfl)
theorem ok95 : TyOK Try.prog ty 95 := .struct [(33, 0), (93, 1)] rfl rfl ⟨ok33, ok93, trivial⟩ ⟨⟨rfl, rfl, rfl⟩, ⟨rfl, rfl, rfl⟩, trivial⟩ (by kernel_rfl) (by kernel_rfl) (by kernel_rfl) (by kernel_rfl) (by kernel_rfl) (by kernel_rfl)
theorem ok97 : TyOK Try.prog ty 97 := .array 64 22 ok22 rfl (by kernel_rfl) (by kernel_rfl) (by kernel_rfl) (by kernel_rfl) (by kernel_rfl)
theorem ok99 : TyOK Try.prog ty 99 := .int 99 .u64 (by decide) (by kernel_rfl) (.mk (by kernel_rfl)) rfl
theorem ok100 : TyOK Try.prog ty 100 := .array 9 22 ok22 rfl (by kernel_rfl) (by kernel_rfl) (by kernel_rfl) (by kernel_rfl) (by kernel_rfl)
theorem ok110 : TyOK Try.prog ty 110 := .pt 110 5 (by kernel_rfl) (.mk (by kernel_rfl)) rfl
theorem tysOK : TysOK Try.prog ty := tysOK_of (l := tyTab) rfl ⟨ok2, ok3, ok4, ok5, ok9, ok12, ok15, ok16, ok21, ok22, ok23, ok24, ok26, ok29, ok30, ok31, ok32, ok33, ok35, ok36, ok41, ok42, ok48, ok51, ok61, ok69, ok72, ok73, ok74, ok80, ok84, ok93, ok94, ok95, ok97, ok99, ok100, ok110, trivial⟩
theorem mixes : Try.prog.follows .mixedOrders = true := by kernel_rfl
theorem mxOK : ∀ t n f, ty t = .agg true n f → n ≤ maxLen := mx_of (l := tyTab) rfl (by kernel_rfl)
end Go.Proofs.Ytiafaeokfdpbjaa
