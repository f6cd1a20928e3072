/- The types of this program. -/
import Derived.Test.YtifmnjpjddefpaaDoorGE
import Derived.Test.YtifmnjpjddefpaaDoorProg
namespace Go.Proofs.YtifmnjpjddefpaaDoor
open Go.RowKit
def tyTab : List (Nat × Ty) := [(2, .int .i64),
  (3, .int .i64),
  (4, .bo),
  (5, .int .u8),
  (9, .str),
  (12, .int .u64),
  (15, .pt),
  (16, .pt),
  (21, .int .i32),
  (22, .agg true 32 (fun _ => .int .u8)),
  (23, .agg true 32 (fun _ => .int .u8)),
  (24, .agg true 16 (fun _ => .int .u8)),
  (25, .agg true 16 (fun _ => .int .u8)),
  (26, .sl 5),
  (29, .pt),
  (31, .int .i64),
  (35, .int .u32),
  (36, .agg true 60 (fun _ => .int .u32)),
  (37, .agg false 2 (nth .no [.int .i64, .agg true 60 (fun _ => .int .u32)])),
  (38, .agg false 2 (nth .no [.int .i64, .agg true 60 (fun _ => .int .u32)])),
  (39, .agg false 4 (nth .no [.agg false 2 (nth .no [.int .i64, .agg true 60 (fun _ => .int .u32)]), .int .i64, .bo, .agg true 16 (fun _ => .int .u8)])),
  (40, .agg false 4 (nth .no [.agg false 2 (nth .no [.int .i64, .agg true 60 (fun _ => .int .u32)]), .int .i64, .bo, .agg true 16 (fun _ => .int .u8)])),
  (56, .agg false 2 (nth .no [.int .i64, .agg true 32 (fun _ => .int .u8)])),
  (57, .agg false 2 (nth .no [.int .i64, .agg true 32 (fun _ => .int .u8)])),
  (58, .agg true 8 (fun _ => .agg false 2 (nth .no [.int .i64, .agg true 32 (fun _ => .int .u8)]))),
  (59, .agg false 3 (nth .no [.agg true 8 (fun _ => .agg false 2 (nth .no [.int .i64, .agg true 32 (fun _ => .int .u8)])), .bo, .bo])),
  (60, .agg false 3 (nth .no [.agg true 8 (fun _ => .agg false 2 (nth .no [.int .i64, .agg true 32 (fun _ => .int .u8)])), .bo, .bo])),
  (67, .sl 26),
  (70, .sl 3),
  (73, .int .u64),
  (78, .agg true 8 (fun _ => .int .u32)),
  (79, .agg true 64 (fun _ => .int .u8)),
  (80, .agg false 3 (nth .no [.agg true 8 (fun _ => .int .u32), .agg true 64 (fun _ => .int .u8), .int .u64])),
  (81, .agg false 3 (nth .no [.agg true 8 (fun _ => .int .u32), .agg true 64 (fun _ => .int .u8), .int .u64])),
  (82, .agg false 2 (nth .no [.agg false 3 (nth .no [.agg true 8 (fun _ => .int .u32), .agg true 64 (fun _ => .int .u8), .int .u64]), .agg false 3 (nth .no [.agg true 8 (fun _ => .int .u32), .agg true 64 (fun _ => .int .u8), .int .u64])])),
  (83, .agg false 2 (nth .no [.agg false 3 (nth .no [.agg true 8 (fun _ => .int .u32), .agg true 64 (fun _ => .int .u8), .int .u64]), .agg false 3 (nth .no [.agg true 8 (fun _ => .int .u32), .agg true 64 (fun _ => .int .u8), .int .u64])])),
  (88, .sl 57),
  (90, .int .u64),
  (91, .agg true 256 (fun _ => .int .u8)),
  (100, .agg true 4 (fun _ => .int .u8)),
  (104, .sl 35),
  (106, .agg true 64 (fun _ => .int .u32)),
  (108, .agg true 255 (fun _ => .int .u8)),
  (110, .sl 25),
  (132, .pt)]
def ty : TypeId → Ty := tyAt tyTab
theorem ok2 : TyOK Tryd.prog ty 2 := .int 2 .i64 (by decide) (by kernel_rfl) (.mk (by kernel_rfl)) rfl
theorem ok3 : TyOK Tryd.prog ty 3 := .int 3 .i64 (by decide) (by kernel_rfl) (.mk (by kernel_rfl)) rfl
theorem ok4 : TyOK Tryd.prog ty 4 := .bo 4 (by kernel_rfl) (.mk (by kernel_rfl)) rfl
theorem ok5 : TyOK Tryd.prog ty 5 := .int 5 .u8 (by decide) (by kernel_rfl) (.mk (by kernel_rfl)) rfl
theorem ok9 : TyOK Tryd.prog ty 9 := .str 9 (by kernel_rfl) (.mk (by kernel_rfl)) rfl
theorem ok12 : TyOK Tryd.prog ty 12 := .int 12 .u64 (by decide) (by kernel_rfl) (.mk (by kernel_rfl)) rfl
theorem ok15 : TyOK Tryd.prog ty 15 := .pt 15 125 (by kernel_rfl) (.mk (by kernel_rfl)) rfl
theorem ok16 : TyOK Tryd.prog ty 16 := .pt 16 128 (by kernel_rfl) (.mk (by kernel_rfl)) rfl
theorem ok21 : TyOK Tryd.prog ty 21 := .int 21 .i32 (by decide) (by kernel_rfl) (.mk (by kernel_rfl)) rfl
theorem ok22 : TyOK Tryd.prog ty 22 := .array 32 5 ok5 rfl (by kernel_rfl) (by kernel_rfl) (by kernel_rfl) (by kernel_rfl) (by kernel_rfl)
theorem ok23 : TyOK Tryd.prog ty 23 := .array 32 5 ok5 rfl (by kernel_rfl) (by kernel_rfl) (by kernel_rfl) (by kernel_rfl) (by kernel_rfl)
theorem ok24 : TyOK Tryd.prog ty 24 := .array 16 5 ok5 rfl (by kernel_rfl) (by kernel_rfl) (by kernel_rfl) (by kernel_rfl) (by kernel_rfl)
theorem ok25 : TyOK Tryd.prog ty 25 := .array 16 5 ok5 rfl (by kernel_rfl) (by kernel_rfl) (by kernel_rfl) (by kernel_rfl) (by kernel_rfl)
theorem ok26 : TyOK Tryd.prog ty 26 := .slice 5 ok5 rfl (by kernel_rfl) (by kernel_rfl) (by kernel_rfl)
theorem ok29 : TyOK Tryd.prog ty 29 := .pt 29 60 (by kernel_rfl) (.mk (by kernel_rfl)) rfl
theorem ok31 : TyOK Tryd.prog ty 31 := .int 31 .i64 (by decide) (by kernel_rfl) (.mk (by kernel_rfl)) rfl
theorem ok35 : TyOK Tryd.prog ty 35 := .int 35 .u32 (by decide) (by kernel_rfl) (.mk (by kernel_rfl)) rfl
theorem ok36 : TyOK Tryd.prog ty 36 := .array 60 35 ok35 rfl (by kernel_rfl) (by kernel_rfl) (by kernel_rfl) (by kernel_rfl) (by kernel_rfl)
theorem ok37 : TyOK Tryd.prog ty 37 := .struct [(3, 0), (36, 1)] rfl rfl ⟨ok3, ok36, trivial⟩ ⟨⟨rfl, rfl, rfl⟩, ⟨rfl, rfl, rfl⟩, trivial⟩ (by kernel_rfl) (by kernel_rfl) (by kernel_rfl) (by kernel_rfl) (by kernel_rfl) (by kernel_rfl)
theorem ok38 : TyOK Tryd.prog ty 38 := .struct [(3, 0), (36, 1)] rfl rfl ⟨ok3, ok36, trivial⟩ ⟨⟨rfl, rfl, rfl⟩, ⟨rfl, rfl, rfl⟩, trivial⟩ (by kernel_rfl) (by kernel_rfl) (by kernel_rfl) (by kernel_rfl) (by kernel_rfl) (by kernel_rfl)
theorem ok39 : TyOK Tryd.prog ty 39 := .struct [(38, 0), (3, 61), (4, 62), (25, 63)] rfl rfl ⟨ok38, ok3, ok4, ok25, trivial⟩ ⟨⟨rfl, rfl, rfl⟩, ⟨rfl, rfl, rfl⟩, ⟨rfl, rfl, rfl⟩, ⟨rfl, rfl, rfl⟩, trivial⟩ (by kernel_rfl) (by kernel_rfl) (by kernel_rfl) (by kernel_rfl) (by kernel_rfl) (by kernel_rfl)
theorem ok40 : TyOK Tryd.prog ty 40 := .struct [(38, 0), (3, 61), (4, 62), (25, 63)] rfl rfl ⟨ok38, ok3, ok4, ok25, trivial⟩ ⟨⟨rfl, rfl, rfl⟩, ⟨rfl, rfl, rfl⟩, ⟨rfl, rfl, rfl⟩, ⟨rfl, rfl, rfl⟩, trivial⟩ (by kernel_rfl) (by kernel_rfl) (by kernel_rfl) (by kernel_rfl) (by kernel_rfl) (by kernel_rfl)
theorem ok56 : TyOK Tryd.prog ty 56 := .struct [(3, 0), (23, 1)] rfl rfl ⟨ok3, ok23, trivial⟩ ⟨⟨rfl, rfl, rfl⟩, ⟨rfl, rfl, rfl⟩, trivial⟩ (by kernel_rfl) (by kernel_rfl) (by kernel_rfl) (by kernel_rfl) (by kernel_rfl) (by kernel_rfl)
theorem ok57 : TyOK Tryd.prog ty 57 := .struct [(3, 0), (23, 1)] rfl rfl ⟨ok3, ok23, trivial⟩ ⟨⟨rfl, rfl, rfl⟩, ⟨rfl, rfl, rfl⟩, trivial⟩ (by kernel_rfl) (by kernel_rfl) (by kernel_rfl) (by kernel_rfl) (by kernel_rfl) (by kernel_rfl)
theorem ok58 : TyOK Tryd.prog ty 58 := .array 8 57 ok57 rfl (by kernel_rfl) (by kernel_rfl) (by kernel_rfl) (by kernel_rfl) (by kernel_rfl)
theorem ok59 : TyOK Tryd.prog ty 59 := .struct [(58, 0), (4, 264), (4, 265)] rfl rfl ⟨ok58, ok4, ok4, trivial⟩ ⟨⟨rfl, rfl, rfl⟩, ⟨rfl, rfl, rfl⟩, ⟨rfl, rfl, rfl⟩, trivial⟩ (by kernel_rfl) (by kernel_rfl) (by kernel_rfl) (by kernel_rfl) (by kernel_rfl) (by kernel_rfl)
theorem ok60 : TyOK Tryd.prog ty 60 := .struct [(58, 0), (4, 264), (4, 265)] rfl rfl ⟨ok58, ok4, ok4, trivial⟩ ⟨⟨rfl, rfl, rfl⟩, ⟨rfl, rfl, rfl⟩, ⟨rfl, rfl, rfl⟩, trivial⟩ (by kernel_rfl) (by kernel_rfl) (by kernel_rfl) (by kernel_rfl) (by kernel_rfl) (by kernel_rfl)
theorem ok67 : TyOK Tryd.prog ty 67 := .slice 26 ok26 rfl (by kernel_rfl) (by kernel_rfl) (by kernel_rfl)
theorem ok70 : TyOK Tryd.prog ty 70 := .slice 3 ok3 rfl (by kernel_rfl) (by kernel_rfl) (by kernel_rfl)
theorem ok73 : TyOK Tryd.prog ty 73 := .int 73 .u64 (by decide) (by kernel_rfl) (.mk (by kernel_rfl)) rfl
theorem ok78 : TyOK Tryd.prog ty 78 := .array 8 35 ok35 rfl (by kernel_rfl) (by kernel_rfl) (by kernel_rfl) (by kernel_rfl) (by kernel_rfl)
theorem ok79 : TyOK Tryd.prog ty 79 := .array 64 5 ok5 rfl (by kernel_rfl) (by kernel_rfl) (by kernel_rfl) (by kernel_rfl) (by kernel_rfl)
theorem ok80 : TyOK Tryd.prog ty 80 := .struct [(78, 0), (79, 8), (73, 72)] rfl rfl ⟨ok78, ok79, ok73, trivial⟩ ⟨⟨rfl, rfl, rfl⟩, ⟨rfl, rfl, rfl⟩, ⟨rfl, rfl, rfl⟩, trivial⟩ (by kernel_rfl) (by kernel_rfl) (by kernel_rfl) (by kernel_rfl) (by kernel_rfl) (by kernel_rfl)
theorem ok81 : TyOK Tryd.prog ty 81 := .struct [(78, 0), (79, 8), (73, 72)] rfl rfl ⟨ok78, ok79, ok73, trivial⟩ ⟨⟨rfl, rfl, rfl⟩, ⟨rfl, rfl, rfl⟩, ⟨rfl, rfl, rfl⟩, trivial⟩ (by kernel_rfl) (by kernel_rfl) (by kernel_rfl) (by kernel_rfl) (by kernel_rfl) (by kernel_rfl)
theorem ok82 : TyOK Tryd.prog ty 82 := .struct [(81, 0), (81, 73)] rfl rfl ⟨ok81, ok81, trivial⟩ ⟨⟨rfl, rfl, rfl⟩, ⟨rfl, rfl, rfl⟩, trivial⟩ (by kernel_rfl) (by kernel_rfl) (by kernel_rfl) (by kernel_rfl) (by kernel_rfl) (by kernel_rfl)
theorem ok83 : TyOK Tryd.prog ty 83 := .struct [(81, 0), (81, 73)] rfl rfl ⟨ok81, ok81, trivial⟩ ⟨⟨rfl, rfl, rfl⟩, ⟨rfl, rfl, rfl⟩, trivial⟩ (by kernel_rfl) (by kernel_rfl) (by kernel_rfl) (by kernel_rfl) (by kernel_rfl) (by kernel_rfl)
theorem ok88 : TyOK Tryd.prog ty 88 := .slice 57 ok57 rfl (by kernel_rfl) (by kernel_rfl) (by kernel_rfl)
theorem ok90 : TyOK Tryd.prog ty 90 := .int 90 .u64 (by decide) (by kernel_rfl) (.mk (by kernel_rfl)) rfl
theorem ok91 : TyOK Tryd.prog ty 91 := .array 256 5 ok5 rfl (by kernel_rfl) (by kernel_rfl) (by kernel_rfl) (by kernel_rfl) (by kernel_rfl)
theorem ok100 : TyOK Tryd.prog ty 100 := .array 4 5 ok5 rfl (by kernel_rfl) (by kernel_rfl) (by kernel_rfl) (by kernel_rfl) (by kernel_rfl)
theorem ok104 : TyOK Tryd.prog ty 104 := .slice 35 ok35 rfl (by kernel_rfl) (by kernel_rfl) (by kernel_rfl)
theorem ok106 : TyOK Tryd.prog ty 106 := .array 64 35 ok35 rfl (by kernel_rfl) (by kernel_rfl) (by kernel_rfl) (by kernel_rfl) (by kernel_rfl)
theorem ok108 : TyOK Tryd.prog ty 108 := .array 255 5 ok5 rfl (by kernel_rfl) (by kernel_rfl) (by kernel_rfl) (by kernel_rfl) (by kernel_rfl)
theorem ok110 : TyOK Tryd.prog ty 110 := .slice 25 ok25 rfl (by kernel_rfl) (by kernel_rfl) (by kernel_rfl)
theorem ok132 : TyOK Tryd.prog ty 132 := .pt 132 5 (by kernel_rfl) (.mk (by kernel_rfl)) rfl
theorem tysOK : TysOK Tryd.prog ty := tysOK_of (l := tyTab) rfl ⟨ok2, ok3, ok4, ok5, ok9, ok12, ok15, ok16, ok21, ok22, ok23, ok24, ok25, ok26, ok29, ok31, ok35, ok36, ok37, ok38, ok39, ok40, ok56, ok57, ok58, ok59, ok60, ok67, ok70, ok73, ok78, ok79, ok80, ok81, ok82, ok83, ok88, ok90, ok91, ok100, ok104, ok106, ok108, ok110, ok132, trivial⟩
theorem mixes : Tryd.prog.follows .mixedOrders = true := by kernel_rfl
theorem mxOK : ∀ t n f, ty t = .agg true n f → n ≤ maxLen := mx_of (l := tyTab) rfl (by kernel_rfl)
end Go.Proofs.YtifmnjpjddefpaaDoor
