/- The types of this program. -/
import Derived.Test.YtnfebaialdfffaaDoorGE
import Derived.Test.YtnfebaialdfffaaDoorProg
namespace Go.Proofs.YtnfebaialdfffaaDoor
open Go.RowKit
def tyTab : List (Nat × Ty) := [(2, .int .i64),
  (3, .int .i64),
  (4, .bo),
  (5, .int .u8),
  (9, .str),
  (12, .int .u64),
  (15, .pt),
  (16, .pt),
  (21, .int .i32),
  (22, .agg true 32 (fun _ => .int .u8)),
  (23, .agg true 32 (fun _ => .int .u8)),
  (24, .sl 5),
  (25, .int .u32),
  (26, .agg false 3 (nth .no [.int .u32, .int .i64, .int .i64])),
  (27, .agg false 3 (nth .no [.int .u32, .int .i64, .int .i64])),
  (29, .pt),
  (32, .agg true 16 (fun _ => .int .u8)),
  (34, .int .i64),
  (39, .sl 3),
  (45, .sl 23),
  (49, .agg false 4 (nth .no [.int .u32, .sl 5, .int .u32, .sl 23])),
  (50, .agg false 4 (nth .no [.int .u32, .sl 5, .int .u32, .sl 23])),
  (60, .sl 25),
  (61, .agg false 3 (nth .no [.int .u32, .int .u32, .agg true 16 (fun _ => .int .u8)])),
  (62, .agg false 3 (nth .no [.int .u32, .int .u32, .agg true 16 (fun _ => .int .u8)])),
  (63, .mp 25 72),
  (64, .agg false 4 (nth .no [.agg false 3 (nth .no [.int .u32, .int .u32, .agg true 16 (fun _ => .int .u8)]), .agg true 32 (fun _ => .int .u8), .sl 23, .mp 25 72])),
  (65, .agg false 4 (nth .no [.agg false 3 (nth .no [.int .u32, .int .u32, .agg true 16 (fun _ => .int .u8)]), .agg true 32 (fun _ => .int .u8), .sl 23, .mp 25 72])),
  (68, .agg false 2 (nth .no [.agg true 16 (fun _ => .int .u8), .int .u32])),
  (69, .agg false 2 (nth .no [.agg true 16 (fun _ => .int .u8), .int .u32])),
  (71, .agg false 3 (nth .no [.agg true 32 (fun _ => .int .u8), .sl 5, .sl 3])),
  (72, .agg false 3 (nth .no [.agg true 32 (fun _ => .int .u8), .sl 5, .sl 3])),
  (74, .int .u64),
  (80, .agg false 3 (nth .no [.int .i64, .int .i64, .int .i64])),
  (81, .agg false 3 (nth .no [.int .i64, .int .i64, .int .i64])),
  (96, .int .u64),
  (98, .agg true 22 (fun _ => .int .u8)),
  (102, .sl 24),
  (103, .agg true 8 (fun _ => .int .u32)),
  (105, .agg true 4 (fun _ => .agg false 3 (nth .no [.int .i64, .int .i64, .int .i64]))),
  (116, .agg true 64 (fun _ => .int .u8)),
  (117, .agg false 3 (nth .no [.agg true 8 (fun _ => .int .u32), .agg true 64 (fun _ => .int .u8), .int .u64])),
  (118, .agg false 3 (nth .no [.agg true 8 (fun _ => .int .u32), .agg true 64 (fun _ => .int .u8), .int .u64])),
  (125, .agg true 64 (fun _ => .int .u32)),
  (155, .pt)]
def ty : TypeId → Ty := tyAt tyTab
theorem ok2 : TyOK Tryd.prog ty 2 := .int 2 .i64 (by decide) (by kernel_rfl) (.mk (by kernel_rfl)) rfl
theorem ok3 : TyOK Tryd.prog ty 3 := .int 3 .i64 (by decide) (by kernel_rfl) (.mk (by kernel_rfl)) rfl
theorem ok4 : TyOK Tryd.prog ty 4 := .bo 4 (by kernel_rfl) (.mk (by kernel_rfl)) rfl
theorem ok5 : TyOK Tryd.prog ty 5 := .int 5 .u8 (by decide) (by kernel_rfl) (.mk (by kernel_rfl)) rfl
theorem ok9 : TyOK Tryd.prog ty 9 := .str 9 (by kernel_rfl) (.mk (by kernel_rfl)) rfl
theorem ok12 : TyOK Tryd.prog ty 12 := .int 12 .u64 (by decide) (by kernel_rfl) (.mk (by kernel_rfl)) rfl
theorem ok15 : TyOK Tryd.prog ty 15 := .pt 15 148 (by kernel_rfl) (.mk (by kernel_rfl)) rfl
theorem ok16 : TyOK Tryd.prog ty 16 := .pt 16 151 (by kernel_rfl) (.mk (by kernel_rfl)) rfl
theorem ok21 : TyOK Tryd.prog ty 21 := .int 21 .i32 (by decide) (by kernel_rfl) (.mk (by kernel_rfl)) rfl
theorem ok22 : TyOK Tryd.prog ty 22 := .array 32 5 ok5 rfl (by kernel_rfl) (by kernel_rfl) (by kernel_rfl) (by kernel_rfl) (by kernel_rfl)
theorem ok23 : TyOK Tryd.prog ty 23 := .array 32 5 ok5 rfl (by kernel_rfl) (by kernel_rfl) (by kernel_rfl) (by kernel_rfl) (by kernel_rfl)
theorem ok24 : TyOK Tryd.prog ty 24 := .slice 5 ok5 rfl (by kernel_rfl) (by kernel_rfl) (by kernel_rfl)
theorem ok25 : TyOK Tryd.prog ty 25 := .int 25 .u32 (by decide) (by kernel_rfl) (.mk (by kernel_rfl)) rfl
theorem ok26 : TyOK Tryd.prog ty 26 := .struct [(25, 0), (3, 1), (3, 2)] rfl rfl ⟨ok25, ok3, ok3, trivial⟩ ⟨⟨rfl, rfl, rfl⟩, ⟨rfl, rfl, rfl⟩, ⟨rfl, rfl, rfl⟩, trivial⟩ (by kernel_rfl) (by kernel_rfl) (by kernel_rfl) (by kernel_rfl) (by kernel_rfl) (by kernel_rfl)
theorem ok27 : TyOK Tryd.prog ty 27 := .struct [(25, 0), (3, 1), (3, 2)] rfl rfl ⟨ok25, ok3, ok3, trivial⟩ ⟨⟨rfl, rfl, rfl⟩, ⟨rfl, rfl, rfl⟩, ⟨rfl, rfl, rfl⟩, trivial⟩ (by kernel_rfl) (by kernel_rfl) (by kernel_rfl) (by kernel_rfl) (by kernel_rfl) (by kernel_rfl)
theorem ok29 : TyOK Tryd.prog ty 29 := .pt 29 65 (by kernel_rfl) (.mk (by kernel_rfl)) rfl
theorem ok32 : TyOK Tryd.prog ty 32 := .array 16 5 ok5 rfl (by kernel_rfl) (by kernel_rfl) (by kernel_rfl) (by kernel_rfl) (by kernel_rfl)
theorem ok34 : TyOK Tryd.prog ty 34 := .int 34 .i64 (by decide) (by kernel_rfl) (.mk (by kernel_rfl)) rfl
theorem ok39 : TyOK Tryd.prog ty 39 := .slice 3 ok3 rfl (by kernel_rfl) (by kernel_rfl) (by kernel_rfl)
theorem ok45 : TyOK Tryd.prog ty 45 := .slice 23 ok23 rfl (by kernel_rfl) (by kernel_rfl) (by kernel_rfl)
theorem ok49 : TyOK Tryd.prog ty 49 := .struct [(25, 0), (24, 1), (25, 2), (45, 3)] rfl rfl ⟨ok25, ok24, ok25, ok45, trivial⟩ ⟨⟨rfl, rfl, rfl⟩, ⟨rfl, rfl, rfl⟩, ⟨rfl, rfl, rfl⟩, ⟨rfl, rfl, rfl⟩, trivial⟩ (by kernel_rfl) (by kernel_rfl) (by kernel_rfl) (by kernel_rfl) (by kernel_rfl) (by kernel_rfl)
theorem ok50 : TyOK Tryd.prog ty 50 := .struct [(25, 0), (24, 1), (25, 2), (45, 3)] rfl rfl ⟨ok25, ok24, ok25, ok45, trivial⟩ ⟨⟨rfl, rfl, rfl⟩, ⟨rfl, rfl, rfl⟩, ⟨rfl, rfl, rfl⟩, ⟨rfl, rfl, rfl⟩, trivial⟩ (by kernel_rfl) (by kernel_rfl) (by kernel_rfl) (by kernel_rfl) (by kernel_rfl) (by kernel_rfl)
theorem ok60 : TyOK Tryd.prog ty 60 := .slice 25 ok25 rfl (by kernel_rfl) (by kernel_rfl) (by kernel_rfl)
theorem ok61 : TyOK Tryd.prog ty 61 := .struct [(25, 0), (25, 1), (32, 2)] rfl rfl ⟨ok25, ok25, ok32, trivial⟩ ⟨⟨rfl, rfl, rfl⟩, ⟨rfl, rfl, rfl⟩, ⟨rfl, rfl, rfl⟩, trivial⟩ (by kernel_rfl) (by kernel_rfl) (by kernel_rfl) (by kernel_rfl) (by kernel_rfl) (by kernel_rfl)
theorem ok62 : TyOK Tryd.prog ty 62 := .struct [(25, 0), (25, 1), (32, 2)] rfl rfl ⟨ok25, ok25, ok32, trivial⟩ ⟨⟨rfl, rfl, rfl⟩, ⟨rfl, rfl, rfl⟩, ⟨rfl, rfl, rfl⟩, trivial⟩ (by kernel_rfl) (by kernel_rfl) (by kernel_rfl) (by kernel_rfl) (by kernel_rfl) (by kernel_rfl)
theorem ok72 : TyOK Tryd.prog ty 72 := .struct [(23, 0), (24, 32), (39, 33)] rfl rfl ⟨ok23, ok24, ok39, trivial⟩ ⟨⟨rfl, rfl, rfl⟩, ⟨rfl, rfl, rfl⟩, ⟨rfl, rfl, rfl⟩, trivial⟩ (by kernel_rfl) (by kernel_rfl) (by kernel_rfl) (by kernel_rfl) (by kernel_rfl) (by kernel_rfl)
theorem ok63 : TyOK Tryd.prog ty 63 := .mp 63 25 72 (by kernel_rfl) (.mk (by kernel_rfl)) ok25 ok72 rfl
theorem ok64 : TyOK Tryd.prog ty 64 := .struct [(62, 0), (23, 18), (45, 50), (63, 51)] rfl rfl ⟨ok62, ok23, ok45, ok63, trivial⟩ ⟨⟨rfl, rfl, rfl⟩, ⟨rfl, rfl, rfl⟩, ⟨rfl, rfl, rfl⟩, ⟨rfl, rfl, rfl⟩, trivial⟩ (by kernel_rfl) (by kernel_rfl) (by kernel_rfl) (by kernel_rfl) (by kernel_rfl) (by kernel_rfl)
theorem ok65 : TyOK Tryd.prog ty 65 := .struct [(62, 0), (23, 18), (45, 50), (63, 51)] rfl rfl ⟨ok62, ok23, ok45, ok63, trivial⟩ ⟨⟨rfl, rfl, rfl⟩, ⟨rfl, rfl, rfl⟩, ⟨rfl, rfl, rfl⟩, ⟨rfl, rfl, rfl⟩, trivial⟩ (by kernel_rfl) (by kernel_rfl) (by kernel_rfl) (by kernel_rfl) (by kernel_rfl) (by kernel_rfl)
theorem ok68 : TyOK Tryd.prog ty 68 := .struct [(32, 0), (25, 16)] rfl rfl ⟨ok32, ok25, trivial⟩ ⟨⟨rfl, rfl, rfl⟩, ⟨rfl, rfl, rfl⟩, trivial⟩ (by kernel_rfl) (by kernel_rfl) (by kernel_rfl) (by kernel_rfl) (by kernel_rfl) (by kernel_rfl)
theorem ok69 : TyOK Tryd.prog ty 69 := .struct [(32, 0), (25, 16)] rfl rfl ⟨ok32, ok25, trivial⟩ ⟨⟨rfl, rfl, rfl⟩, ⟨rfl, rfl, rfl⟩, trivial⟩ (by kernel_rfl) (by kernel_rfl) (by kernel_rfl) (by kernel_rfl) (by kernel_rfl) (by kernel_rfl)
theorem ok71 : TyOK Tryd.prog ty 71 := .struct [(23, 0), (24, 32), (39, 33)] rfl rfl ⟨ok23, ok24, ok39, trivial⟩ ⟨⟨rfl, rfl, rfl⟩, ⟨rfl, rfl, rfl⟩, ⟨rfl, rfl, rfl⟩, trivial⟩ (by kernel_rfl) (by kernel_rfl) (by kernel_rfl) (by kernel_rfl) (by kernel_rfl) (by kernel_rfl)
theorem ok74 : TyOK Tryd.prog ty 74 := .int 74 .u64 (by decide) (by kernel_rfl) (.mk (by kernel_rfl)) rfl
theorem ok80 : TyOK Tryd.prog ty 80 := .struct [(3, 0), (3, 1), (3, 2)] rfl rfl ⟨ok3, ok3, ok3, trivial⟩ ⟨⟨rfl, rfl, rfl⟩, ⟨rfl, rfl, rfl⟩, ⟨rfl, rfl, rfl⟩, trivial⟩ (by kernel_rfl) (by kernel_rfl) (by kernel_rfl) (by kernel_rfl) (by kernel_rfl) (by kernel_rfl)
theorem ok81 : TyOK Tryd.prog ty 81 := .struct [(3, 0), (3, 1), (3, 2)] rfl rfl ⟨ok3, ok3, ok3, trivial⟩ ⟨⟨rfl, rfl, rfl⟩, ⟨rfl, rfl, rfl⟩, ⟨rfl, rfl, rfl⟩, trivial⟩ (by kernel_rfl) (by kernel_rfl) (by kernel_rfl) (by kernel_rfl) (by kernel_rfl) (by kernel_rfl)
theorem ok96 : TyOK Tryd.prog ty 96 := .int 96 .u64 (by decide) (by kernel_rfl) (.mk (by kernel_rfl)) rfl
theorem ok98 : TyOK Tryd.prog ty 98 := .array 22 5 ok5 rfl (by kernel_rfl) (by kernel_rfl) (by kernel_rfl) (by kernel_rfl) (by kernel_rfl)
theorem ok102 : TyOK Tryd.prog ty 102 := .slice 24 ok24 rfl (by kernel_rfl) (by kernel_rfl) (by kernel_rfl)
theorem ok103 : TyOK Tryd.prog ty 103 := .array 8 25 ok25 rfl (by kernel_rfl) (by kernel_rfl) (by kernel_rfl) (by kernel_rfl) (by kernel_rfl)
theorem ok105 : TyOK Tryd.prog ty 105 := .array 4 81 ok81 rfl (by kernel_rfl) (by kernel_rfl) (by kernel_rfl) (by kernel_rfl) (by kernel_rfl)
theorem ok116 : TyOK Tryd.prog ty 116 := .array 64 5 ok5 rfl (by kernel_rfl) (by kernel_rfl) (by kernel_rfl) (by kernel_rfl) (by kernel_rfl)
theorem ok117 : TyOK Tryd.prog ty 117 := .struct [(103, 0), (116, 8), (74, 72)] rfl rfl ⟨ok103, ok116, ok74, trivial⟩ ⟨⟨rfl, rfl, rfl⟩, ⟨rfl, rfl, rfl⟩, ⟨rfl, rfl, rfl⟩, trivial⟩ (by kernel_rfl) (by kernel_rfl) (by kernel_rfl) (by kernel_rfl) (by kernel_rfl) (by kernel_rfl)
theorem ok118 : TyOK Tryd.prog ty 118 := .struct [(103, 0), (116, 8), (74, 72)] rfl rfl ⟨ok103, ok116, ok74, trivial⟩ ⟨⟨rfl, rfl, rfl⟩, ⟨rfl, rfl, rfl⟩, ⟨rfl, rfl, rfl⟩, trivial⟩ (by kernel_rfl) (by kernel_rfl) (by kernel_rfl) (by kernel_rfl) (by kernel_rfl) (by kernel_rfl)
theorem ok125 : TyOK Tryd.prog ty 125 := .array 64 25 ok25 rfl (by kernel_rfl) (by kernel_rfl) (by kernel_rfl) (by kernel_rfl) (by kernel_rfl)
theorem ok155 : TyOK Tryd.prog ty 155 := .pt 155 5 (by kernel_rfl) (.mk (by kernel_rfl)) rfl
theorem tysOK : TysOK Tryd.prog ty := tysOK_of (l := tyTab) rfl ⟨ok2, ok3, ok4, ok5, ok9, ok12, ok15, ok16, ok21, ok22, ok23, ok24, ok25, ok26, ok27, ok29, ok32, ok34, ok39, ok45, ok49, ok50, ok60, ok61, ok62, ok63, ok64, ok65, ok68, ok69, ok71, ok72, ok74, ok80, ok81, ok96, ok98, ok102, ok103, ok105, ok116, ok117, ok118, ok125, ok155, trivial⟩
theorem mixes : Tryd.prog.follows .mixedOrders = true := by kernel_rfl
theorem mxOK : ∀ t n f, ty t = .agg true n f → n ≤ maxLen := mx_of (l := tyTab) rfl (by kernel_rfl)
end Go.Proofs.YtnfebaialdfffaaDoor
