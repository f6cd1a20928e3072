/- The types of this program. -/
import Derived.Test.YtjhcehfliacjeaaDoorGE
import Derived.Test.YtjhcehfliacjeaaDoorProg
namespace Go.Proofs.YtjhcehfliacjeaaDoor
open Go.RowKit
def tyTab : List (Nat × Ty) := [(2, .int .i64),
  (3, .int .i64),
  (4, .bo),
  (5, .int .u8),
  (9, .str),
  (12, .int .u64),
  (15, .pt),
  (16, .pt),
  (21, .int .i32),
  (22, .agg true 32 (fun _ => .int .u8)),
  (23, .agg true 32 (fun _ => .int .u8)),
  (24, .agg false 4 (nth .no [.int .i64, .int .i64, .int .i64, .agg true 32 (fun _ => .int .u8)])),
  (25, .agg false 4 (nth .no [.int .i64, .int .i64, .int .i64, .agg true 32 (fun _ => .int .u8)])),
  (26, .sl 5),
  (29, .int .i64),
  (33, .agg false 4 (nth .no [.int .i64, .int .i64, .int .i64, .agg true 32 (fun _ => .int .u8)])),
  (40, .sl 26),
  (44, .int .u16),
  (57, .int .u64),
  (61, .int .u64),
  (62, .int .u32),
  (63, .agg true 8 (fun _ => .int .u32)),
  (65, .agg true 64 (fun _ => .int .u8)),
  (66, .agg false 3 (nth .no [.agg true 8 (fun _ => .int .u32), .agg true 64 (fun _ => .int .u8), .int .u64])),
  (67, .agg false 3 (nth .no [.agg true 8 (fun _ => .int .u32), .agg true 64 (fun _ => .int .u8), .int .u64])),
  (71, .sl 62),
  (73, .agg true 64 (fun _ => .int .u32)),
  (94, .pt)]
def ty : TypeId → Ty := tyAt tyTab
theorem ok2 : TyOK Tryd.prog ty 2 := .int 2 .i64 (by decide) (by kernel_rfl) (.mk (by kernel_rfl)) rfl
theorem ok3 : TyOK Tryd.prog ty 3 := .int 3 .i64 (by decide) (by kernel_rfl) (.mk (by kernel_rfl)) rfl
theorem ok4 : TyOK Tryd.prog ty 4 := .bo 4 (by kernel_rfl) (.mk (by kernel_rfl)) rfl
theorem ok5 : TyOK Tryd.prog ty 5 := .int 5 .u8 (by decide) (by kernel_rfl) (.mk (by kernel_rfl)) rfl
theorem ok9 : TyOK Tryd.prog ty 9 := .str 9 (by kernel_rfl) (.mk (by kernel_rfl)) rfl
theorem ok12 : TyOK Tryd.prog ty 12 := .int 12 .u64 (by decide) (by kernel_rfl) (.mk (by kernel_rfl)) rfl
theorem ok15 : TyOK Tryd.prog ty 15 := .pt 15 86 (by kernel_rfl) (.mk (by kernel_rfl)) rfl
theorem ok16 : TyOK Tryd.prog ty 16 := .pt 16 89 (by kernel_rfl) (.mk (by kernel_rfl)) rfl
theorem ok21 : TyOK Tryd.prog ty 21 := .int 21 .i32 (by decide) (by kernel_rfl) (.mk (by kernel_rfl)) rfl
theorem ok22 : TyOK Tryd.prog ty 22 := .array 32 5 ok5 rfl (by kernel_rfl) (by kernel_rfl) (by kernel_rfl) (by kernel_rfl) (by kernel_rfl)
theorem ok23 : TyOK Tryd.prog ty 23 := .array 32 5 ok5 rfl (by kernel_rfl) (by kernel_rfl) (by kernel_rfl) (by kernel_rfl) (by kernel_rfl)
theorem ok24 : TyOK Tryd.prog ty 24 := .struct [(3, 0), (3, 1), (3, 2), (23, 3)] rfl rfl ⟨ok3, ok3, ok3, ok23, trivial⟩ ⟨⟨rfl, rfl, rfl⟩, ⟨rfl, rfl, rfl⟩, ⟨rfl, rfl, rfl⟩, ⟨rfl, rfl, rfl⟩, trivial⟩ (by kernel_rfl) (by kernel_rfl) (by kernel_rfl) (by kernel_rfl) (by kernel_rfl) (by kernel_rfl)
theorem ok25 : TyOK Tryd.prog ty 25 := .struct [(3, 0), (3, 1), (3, 2), (23, 3)] rfl rfl ⟨ok3, ok3, ok3, ok23, trivial⟩ ⟨⟨rfl, rfl, rfl⟩, ⟨rfl, rfl, rfl⟩, ⟨rfl, rfl, rfl⟩, ⟨rfl, rfl, rfl⟩, trivial⟩ (by kernel_rfl) (by kernel_rfl) (by kernel_rfl) (by kernel_rfl) (by kernel_rfl) (by kernel_rfl)
theorem ok26 : TyOK Tryd.prog ty 26 := .slice 5 ok5 rfl (by kernel_rfl) (by kernel_rfl) (by kernel_rfl)
theorem ok29 : TyOK Tryd.prog ty 29 := .int 29 .i64 (by decide) (by kernel_rfl) (.mk (by kernel_rfl)) rfl
theorem ok33 : TyOK Tryd.prog ty 33 := .struct [(3, 0), (3, 1), (3, 2), (23, 3)] rfl rfl ⟨ok3, ok3, ok3, ok23, trivial⟩ ⟨⟨rfl, rfl, rfl⟩, ⟨rfl, rfl, rfl⟩, ⟨rfl, rfl, rfl⟩, ⟨rfl, rfl, rfl⟩, trivial⟩ (by kernel_rfl) (by kernel_rfl) (by kernel_rfl) (by kernel_rfl) (by kernel_rfl) (by kernel_rfl)
theorem ok40 : TyOK Tryd.prog ty 40 := .slice 26 ok26 rfl (by kernel_rfl) (by kernel_rfl) (by kernel_rfl)
theorem ok44 : TyOK Tryd.prog ty 44 := .int 44 .u16 (by decide) (by kernel_rfl) (.mk (by kernel_rfl)) rfl
theorem ok57 : TyOK Tryd.prog ty 57 := .int 57 .u64 (by decide) (by kernel_rfl) (.mk (by kernel_rfl)) rfl
theorem ok61 : TyOK Tryd.prog ty 61 := .int 61 .u64 (by decide) (by kernel_rfl) (.mk (by kernel_rfl)) rfl
theorem ok62 : TyOK Tryd.prog ty 62 := .int 62 .u32 (by decide) (by kernel_rfl) (.mk (by kernel_rfl)) rfl
theorem ok63 : TyOK Tryd.prog ty 63 := .array 8 62 ok62 rfl (by kernel_rfl) (by kernel_rfl) (by kernel_rfl) (by kernel_rfl) (by kernel_rfl)
theorem ok65 : TyOK Tryd.prog ty 65 := .array 64 5 ok5 rfl (by kernel_rfl) (by kernel_rfl) (by kernel_rfl) (by kernel_rfl) (by kernel_rfl)
theorem ok66 : TyOK Tryd.prog ty 66 := .struct [(63, 0), (65, 8), (57, 72)] rfl rfl ⟨ok63, ok65, ok57, trivial⟩ ⟨⟨rfl, rfl, rfl⟩, ⟨rfl, rfl, rfl⟩, ⟨rfl, rfl, rfl⟩, trivial⟩ (by kernel_rfl) (by kernel_rfl) (by kernel_rfl) (by kernel_rfl) (by kernel_rfl) (by kernel_rfl)
theorem ok67 : TyOK Tryd.prog ty 67 := .struct [(63, 0), (65, 8), (57, 72)] rfl rfl ⟨ok63, ok65, ok57, trivial⟩ ⟨⟨rfl, rfl, rfl⟩, ⟨rfl, rfl, rfl⟩, ⟨rfl, rfl, rfl⟩, trivial⟩ (by kernel_rfl) (by kernel_rfl) (by kernel_rfl) (by kernel_rfl) (by kernel_rfl) (by kernel_rfl)
theorem ok71 : TyOK Tryd.prog ty 71 := .slice 62 ok62 rfl (by kernel_rfl) (by kernel_rfl) (by kernel_rfl)
theorem ok73 : TyOK Tryd.prog ty 73 := .array 64 62 ok62 rfl (by kernel_rfl) (by kernel_rfl) (by kernel_rfl) (by kernel_rfl) (by kernel_rfl)
theorem ok94 : TyOK Tryd.prog ty 94 := .pt 94 5 (by kernel_rfl) (.mk (by kernel_rfl)) rfl
theorem tysOK : TysOK Tryd.prog ty := tysOK_of (l := tyTab) rfl ⟨ok2, ok3, ok4, ok5, ok9, ok12, ok15, ok16, ok21, ok22, ok23, ok24, ok25, ok26, ok29, ok33, ok40, ok44, ok57, ok61, ok62, ok63, ok65, ok66, ok67, ok71, ok73, ok94, trivial⟩
theorem mixes : Tryd.prog.follows .mixedOrders = true := by kernel_rfl
theorem mxOK : ∀ t n f, ty t = .agg true n f → n ≤ maxLen := mx_of (l := tyTab) rfl (by kernel_rfl)
end Go.Proofs.YtjhcehfliacjeaaDoor
