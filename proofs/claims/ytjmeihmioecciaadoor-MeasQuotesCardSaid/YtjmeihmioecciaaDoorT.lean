/- The types of this program. -/
import Derived.Test.YtjmeihmioecciaaDoorGE
import Derived.Test.YtjmeihmioecciaaDoorProg
namespace Go.Proofs.YtjmeihmioecciaaDoor
open Go.RowKit
def tyTab : List (Nat × Ty) := [(2, .int .i64),
  (3, .int .i64),
  (4, .bo),
  (5, .int .u8),
  (9, .str),
  (12, .int .u64),
  (15, .pt),
  (16, .pt),
  (21, .int .i32),
  (22, .sl 36),
  (23, .agg true 32 (fun _ => .int .u8)),
  (24, .agg true 32 (fun _ => .int .u8)),
  (26, .pt),
  (28, .pt),
  (29, .agg true 8 (fun _ => .int .i64)),
  (30, .agg true 8 (fun _ => .agg true 32 (fun _ => .int .u8))),
  (31, .agg false 4 (nth .no [.agg true 8 (fun _ => .int .i64), .agg true 8 (fun _ => .agg true 32 (fun _ => .int .u8)), .bo, .bo])),
  (32, .agg false 4 (nth .no [.agg true 8 (fun _ => .int .i64), .agg true 8 (fun _ => .agg true 32 (fun _ => .int .u8)), .bo, .bo])),
  (33, .agg true 8 (fun _ => .bo)),
  (34, .sl 5),
  (35, .agg false 7 (nth .no [.int .u8, .int .i64, .int .i64, .int .i64, .agg true 32 (fun _ => .int .u8), .str, .sl 5])),
  (36, .agg false 7 (nth .no [.int .u8, .int .i64, .int .i64, .int .i64, .agg true 32 (fun _ => .int .u8), .str, .sl 5])),
  (43, .sl 9),
  (44, .int .i64),
  (55, .sl 61),
  (56, .agg true 4 (fun _ => .agg true 32 (fun _ => .int .u8))),
  (57, .agg false 1 (nth .no [.agg true 4 (fun _ => .agg true 32 (fun _ => .int .u8))])),
  (58, .agg false 1 (nth .no [.agg true 4 (fun _ => .agg true 32 (fun _ => .int .u8))])),
  (60, .agg false 2 (nth .no [.int .i64, .sl 5])),
  (61, .agg false 2 (nth .no [.int .i64, .sl 5])),
  (69, .int .u64),
  (74, .agg false 2 (nth .no [.int .i64, .agg true 32 (fun _ => .int .u8)])),
  (75, .agg false 2 (nth .no [.int .i64, .agg true 32 (fun _ => .int .u8)])),
  (76, .agg true 8 (fun _ => .agg false 2 (nth .no [.int .i64, .agg true 32 (fun _ => .int .u8)]))),
  (77, .agg false 3 (nth .no [.agg true 8 (fun _ => .agg false 2 (nth .no [.int .i64, .agg true 32 (fun _ => .int .u8)])), .bo, .bo])),
  (78, .agg false 3 (nth .no [.agg true 8 (fun _ => .agg false 2 (nth .no [.int .i64, .agg true 32 (fun _ => .int .u8)])), .bo, .bo])),
  (81, .sl 3),
  (83, .sl 34),
  (93, .int .u32),
  (94, .agg true 8 (fun _ => .int .u32)),
  (95, .agg true 64 (fun _ => .int .u8)),
  (96, .agg false 3 (nth .no [.agg true 8 (fun _ => .int .u32), .agg true 64 (fun _ => .int .u8), .int .u64])),
  (97, .agg false 3 (nth .no [.agg true 8 (fun _ => .int .u32), .agg true 64 (fun _ => .int .u8), .int .u64])),
  (98, .agg false 2 (nth .no [.agg false 3 (nth .no [.agg true 8 (fun _ => .int .u32), .agg true 64 (fun _ => .int .u8), .int .u64]), .agg false 3 (nth .no [.agg true 8 (fun _ => .int .u32), .agg true 64 (fun _ => .int .u8), .int .u64])])),
  (99, .agg false 2 (nth .no [.agg false 3 (nth .no [.agg true 8 (fun _ => .int .u32), .agg true 64 (fun _ => .int .u8), .int .u64]), .agg false 3 (nth .no [.agg true 8 (fun _ => .int .u32), .agg true 64 (fun _ => .int .u8), .int .u64])])),
  (105, .sl 75),
  (107, .sl 24),
  (110, .int .u64),
  (114, .sl 93),
  (117, .agg true 64 (fun _ => .int .u32)),
  (137, .pt)]
def ty : TypeId → Ty := tyAt tyTab
theorem ok2 : TyOK Tryd.prog ty 2 := .int 2 .i64 (by decide) (by kernel_rfl) (.mk (by kernel_rfl)) rfl
theorem ok3 : TyOK Tryd.prog ty 3 := .int 3 .i64 (by decide) (by kernel_rfl) (.mk (by kernel_rfl)) rfl
theorem ok4 : TyOK Tryd.prog ty 4 := .bo 4 (by kernel_rfl) (.mk (by kernel_rfl)) rfl
theorem ok5 : TyOK Tryd.prog ty 5 := .int 5 .u8 (by decide) (by kernel_rfl) (.mk (by kernel_rfl)) rfl
theorem ok9 : TyOK Tryd.prog ty 9 := .str 9 (by kernel_rfl) (.mk (by kernel_rfl)) rfl
theorem ok12 : TyOK Tryd.prog ty 12 := .int 12 .u64 (by decide) (by kernel_rfl) (.mk (by kernel_rfl)) rfl
theorem ok15 : TyOK Tryd.prog ty 15 := .pt 15 130 (by kernel_rfl) (.mk (by kernel_rfl)) rfl
theorem ok16 : TyOK Tryd.prog ty 16 := .pt 16 133 (by kernel_rfl) (.mk (by kernel_rfl)) rfl
theorem ok21 : TyOK Tryd.prog ty 21 := .int 21 .i32 (by decide) (by kernel_rfl) (.mk (by kernel_rfl)) rfl
theorem ok24 : TyOK Tryd.prog ty 24 := .array 32 5 ok5 rfl (by kernel_rfl) (by kernel_rfl) (by kernel_rfl) (by kernel_rfl) (by kernel_rfl)
theorem ok34 : TyOK Tryd.prog ty 34 := .slice 5 ok5 rfl (by kernel_rfl) (by kernel_rfl) (by kernel_rfl)
theorem ok36 : TyOK Tryd.prog ty 36 := .struct [(5, 0), (3, 1), (3, 2), (3, 3), (24, 4), (9, 36), (34, 37)] rfl rfl ⟨ok5, ok3, ok3, ok3, ok24, ok9, ok34, trivial⟩ ⟨⟨rfl, rfl, rfl⟩, ⟨rfl, rfl, rfl⟩, ⟨rfl, rfl, rfl⟩, ⟨rfl, rfl, rfl⟩, ⟨rfl, rfl, rfl⟩, ⟨rfl, rfl, rfl⟩, ⟨rfl, rfl, rfl⟩, trivial⟩ (by kernel_rfl) (by kernel_rfl) (by kernel_rfl) (by kernel_rfl) (by kernel_rfl) (by kernel_rfl)
theorem ok22 : TyOK Tryd.prog ty 22 := .slice 36 ok36 rfl (by kernel_rfl) (by kernel_rfl) (by kernel_rfl)
theorem ok23 : TyOK Tryd.prog ty 23 := .array 32 5 ok5 rfl (by kernel_rfl) (by kernel_rfl) (by kernel_rfl) (by kernel_rfl) (by kernel_rfl)
theorem ok26 : TyOK Tryd.prog ty 26 := .pt 26 78 (by kernel_rfl) (.mk (by kernel_rfl)) rfl
theorem ok28 : TyOK Tryd.prog ty 28 := .pt 28 32 (by kernel_rfl) (.mk (by kernel_rfl)) rfl
theorem ok29 : TyOK Tryd.prog ty 29 := .array 8 3 ok3 rfl (by kernel_rfl) (by kernel_rfl) (by kernel_rfl) (by kernel_rfl) (by kernel_rfl)
theorem ok30 : TyOK Tryd.prog ty 30 := .array 8 24 ok24 rfl (by kernel_rfl) (by kernel_rfl) (by kernel_rfl) (by kernel_rfl) (by kernel_rfl)
theorem ok31 : TyOK Tryd.prog ty 31 := .struct [(29, 0), (30, 8), (4, 264), (4, 265)] rfl rfl ⟨ok29, ok30, ok4, ok4, trivial⟩ ⟨⟨rfl, rfl, rfl⟩, ⟨rfl, rfl, rfl⟩, ⟨rfl, rfl, rfl⟩, ⟨rfl, rfl, rfl⟩, trivial⟩ (by kernel_rfl) (by kernel_rfl) (by kernel_rfl) (by kernel_rfl) (by kernel_rfl) (by kernel_rfl)
theorem ok32 : TyOK Tryd.prog ty 32 := .struct [(29, 0), (30, 8), (4, 264), (4, 265)] rfl rfl ⟨ok29, ok30, ok4, ok4, trivial⟩ ⟨⟨rfl, rfl, rfl⟩, ⟨rfl, rfl, rfl⟩, ⟨rfl, rfl, rfl⟩, ⟨rfl, rfl, rfl⟩, trivial⟩ (by kernel_rfl) (by kernel_rfl) (by kernel_rfl) (by kernel_rfl) (by kernel_rfl) (by kernel_rfl)
theorem ok33 : TyOK Tryd.prog ty 33 := .array 8 4 ok4 rfl (by kernel_rfl) (by kernel_rfl) (by kernel_rfl) (by kernel_rfl) (by kernel_rfl)
theorem ok35 : TyOK Tryd.prog ty 35 := .struct [(5, 0), (3, 1), (3, 2), (3, 3), (24, 4), (9, 36), (34, 37)] rfl rfl ⟨ok5, ok3, ok3, ok3, ok24, ok9, ok34, trivial⟩ ⟨⟨rfl, rfl, rfl⟩, ⟨rfl, rfl, rfl⟩, ⟨rfl, rfl, rfl⟩, ⟨rfl, rfl, rfl⟩, ⟨rfl, rfl, rfl⟩, ⟨rfl, rfl, rfl⟩, ⟨rfl, rfl, rfl⟩, trivial⟩ (by kernel_rfl) (by kernel_rfl) (by kernel_rfl) (by kernel_rfl) (by kernel_rfl) (by kernel_rfl)
theorem ok43 : TyOK Tryd.prog ty 43 := .slice 9 ok9 rfl (by kernel_rfl) (by kernel_rfl) (by kernel_rfl)
theorem ok44 : TyOK Tryd.prog ty 44 := .int 44 .i64 (by decide) (by kernel_rfl) (.mk (by kernel_rfl)) rfl
theorem ok61 : TyOK Tryd.prog ty 61 := .struct [(3, 0), (34, 1)] rfl rfl ⟨ok3, ok34, trivial⟩ ⟨⟨rfl, rfl, rfl⟩, ⟨rfl, rfl, rfl⟩, trivial⟩ (by kernel_rfl) (by kernel_rfl) (by kernel_rfl) (by kernel_rfl) (by kernel_rfl) (by kernel_rfl)
theorem ok55 : TyOK Tryd.prog ty 55 := .slice 61 ok61 rfl (by kernel_rfl) (by kernel_rfl) (by kernel_rfl)
theorem ok56 : TyOK Tryd.prog ty 56 := .array 4 24 ok24 rfl (by kernel_rfl) (by kernel_rfl) (by kernel_rfl) (by kernel_rfl) (by kernel_rfl)
theorem ok57 : TyOK Tryd.prog ty 57 := .struct [(56, 0)] rfl rfl ⟨ok56, trivial⟩ ⟨⟨rfl, rfl, rfl⟩, trivial⟩ (by kernel_rfl) (by kernel_rfl) (by kernel_rfl) (by kernel_rfl) (by kernel_rfl) (by kernel_rfl)
theorem ok58 : TyOK Tryd.prog ty 58 := .struct [(56, 0)] rfl rfl ⟨ok56, trivial⟩ ⟨⟨rfl, rfl, rfl⟩, trivial⟩ (by kernel_rfl) (by kernel_rfl) (by kernel_rfl) (by kernel_rfl) (by kernel_rfl) (by kernel_rfl)
theorem ok60 : TyOK Tryd.prog ty 60 := .struct [(3, 0), (34, 1)] rfl rfl ⟨ok3, ok34, trivial⟩ ⟨⟨rfl, rfl, rfl⟩, ⟨rfl, rfl, rfl⟩, trivial⟩ (by kernel_rfl) (by kernel_rfl) (by kernel_rfl) (by kernel_rfl) (by kernel_rfl) (by kernel_rfl)
theorem ok69 : TyOK Tryd.prog ty 69 := .int 69 .u64 (by decide) (by kernel_rfl) (.mk (by kernel_rfl)) rfl
theorem ok74 : TyOK Tryd.prog ty 74 := .struct [(3, 0), (24, 1)] rfl rfl ⟨ok3, ok24, trivial⟩ ⟨⟨rfl, rfl, rfl⟩, ⟨rfl, rfl, rfl⟩, trivial⟩ (by kernel_rfl) (by kernel_rfl) (by kernel_rfl) (by kernel_rfl) (by kernel_rfl) (by kernel_rfl)
theorem ok75 : TyOK Tryd.prog ty 75 := .struct [(3, 0), (24, 1)] rfl rfl ⟨ok3, ok24, trivial⟩ ⟨⟨rfl, rfl, rfl⟩, ⟨rfl, rfl, rfl⟩, trivial⟩ (by kernel_rfl) (by kernel_rfl) (by kernel_rfl) (by kernel_rfl) (by kernel_rfl) (by kernel_rfl)
theorem ok76 : TyOK Tryd.prog ty 76 := .array 8 75 ok75 rfl (by kernel_rfl) (by kernel_rfl) (by kernel_rfl) (by kernel_rfl) (by kernel_rfl)
theorem ok77 : TyOK Tryd.prog ty 77 := .struct [(76, 0), (4, 264), (4, 265)] rfl rfl ⟨ok76, ok4, ok4, trivial⟩ ⟨⟨rfl, rfl, rfl⟩, ⟨rfl, rfl, rfl⟩, ⟨rfl, rfl, rfl⟩, trivial⟩ (by kernel_rfl) (by kernel_rfl) (by kernel_rfl) (by kernel_rfl) (by kernel_rfl) (by kernel_rfl)
theorem ok78 : TyOK Tryd.prog ty 78 := .struct [(76, 0), (4, 264), (4, 265)] rfl rfl ⟨ok76, ok4, ok4, trivial⟩ ⟨⟨rfl, rfl, rfl⟩, ⟨rfl, rfl, rfl⟩, ⟨rfl, rfl, rfl⟩, trivial⟩ (by kernel_rfl) (by kernel_rfl) (by kernel_rfl) (by kernel_rfl) (by kernel_rfl) (by kernel_rfl)
theorem ok81 : TyOK Tryd.prog ty 81 := .slice 3 ok3 rfl (by kernel_rfl) (by kernel_rfl) (by kernel_rfl)
theorem ok83 : TyOK Tryd.prog ty 83 := .slice 34 ok34 rfl (by kernel_rfl) (by kernel_rfl) (by kernel_rfl)
theorem ok93 : TyOK Tryd.prog ty 93 := .int 93 .u32 (by decide) (by kernel_rfl) (.mk (by kernel_rfl)) rfl
theorem ok94 : TyOK Tryd.prog ty 94 := .array 8 93 ok93 rfl (by kernel_rfl) (by kernel_rfl) (by kernel_rfl) (by kernel_rfl) (by kernel_rfl)
theorem ok95 : TyOK Tryd.prog ty 95 := .array 64 5 ok5 rfl (by kernel_rfl) (by kernel_rfl) (by kernel_rfl) (by kernel_rfl) (by kernel_rfl)
theorem ok96 : TyOK Tryd.prog ty 96 := .struct [(94, 0), (95, 8), (69, 72)] rfl rfl ⟨ok94, ok95, ok69, trivial⟩ ⟨⟨rfl, rfl, rfl⟩, ⟨rfl, rfl, rfl⟩, ⟨rfl, rfl, rfl⟩, trivial⟩ (by kernel_rfl) (by kernel_rfl) (by kernel_rfl) (by kernel_rfl) (by kernel_rfl) (by kernel_rfl)
theorem ok97 : TyOK Tryd.prog ty 97 := .struct [(94, 0), (95, 8), (69, 72)] rfl rfl ⟨ok94, ok95, ok69, trivial⟩ ⟨⟨rfl, rfl, rfl⟩, ⟨rfl, rfl, rfl⟩, ⟨rfl, rfl, rfl⟩, trivial⟩ (by kernel_rfl) (by kernel_rfl) (by kernel_rfl) (by kernel_rfl) (by kernel_rfl) (by kernel_rfl)
theorem ok98 : TyOK Tryd.prog ty 98 := .struct [(97, 0), (97, 73)] rfl rfl ⟨ok97, ok97, trivial⟩ ⟨⟨rfl, rfl, rfl⟩, ⟨rfl, rfl, rfl⟩, trivial⟩ (by kernel_rfl) (by kernel_rfl) (by kernel_rfl) (by kernel_rfl) (by kernel_rfl) (by kernel_rfl)
theorem ok99 : TyOK Tryd.prog ty 99 := .struct [(97, 0), (97, 73)] rfl rfl ⟨ok97, ok97, trivial⟩ ⟨⟨rfl, rfl, rfl⟩, ⟨rfl, rfl, rfl⟩, trivial⟩ (by kernel_rfl) (by kernel_rfl) (by kernel_rfl) (by kernel_rfl) (by kernel_rfl) (by kernel_rfl)
theorem ok105 : TyOK Tryd.prog ty 105 := .slice 75 ok75 rfl (by kernel_rfl) (by kernel_rfl) (by kernel_rfl)
theorem ok107 : TyOK Tryd.prog ty 107 := .slice 24 ok24 rfl (by kernel_rfl) (by kernel_rfl) (by kernel_rfl)
theorem ok110 : TyOK Tryd.prog ty 110 := .int 110 .u64 (by decide) (by kernel_rfl) (.mk (by kernel_rfl)) rfl
theorem ok114 : TyOK Tryd.prog ty 114 := .slice 93 ok93 rfl (by kernel_rfl) (by kernel_rfl) (by kernel_rfl)
theorem ok117 : TyOK Tryd.prog ty 117 := .array 64 93 ok93 rfl (by kernel_rfl) (by kernel_rfl) (by kernel_rfl) (by kernel_rfl) (by kernel_rfl)
theorem ok137 : TyOK Tryd.prog ty 137 := .pt 137 5 (by kernel_rfl) (.mk (by kernel_rfl)) rfl
theorem tysOK : TysOK Tryd.prog ty := tysOK_of (l := tyTab) rfl ⟨ok2, ok3, ok4, ok5, ok9, ok12, ok15, ok16, ok21, ok22, ok23, ok24, ok26, ok28, ok29, ok30, ok31, ok32, ok33, ok34, ok35, ok36, ok43, ok44, ok55, ok56, ok57, ok58, ok60, ok61, ok69, ok74, ok75, ok76, ok77, ok78, ok81, ok83, ok93, ok94, ok95, ok96, ok97, ok98, ok99, ok105, ok107, ok110, ok114, ok117, ok137, trivial⟩
theorem mixes : Tryd.prog.follows .mixedOrders = true := by kernel_rfl
theorem mxOK : ∀ t n f, ty t = .agg true n f → n ≤ maxLen := mx_of (l := tyTab) rfl (by kernel_rfl)
end Go.Proofs.YtjmeihmioecciaaDoor
