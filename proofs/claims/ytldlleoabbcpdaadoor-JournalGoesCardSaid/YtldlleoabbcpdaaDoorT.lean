/- The types of this program. -/
import Derived.Test.YtldlleoabbcpdaaDoorGE
import Derived.Test.YtldlleoabbcpdaaDoorProg
namespace Go.Proofs.YtldlleoabbcpdaaDoor
open Go.RowKit
def tyTab : List (Nat × Ty) := [(2, .int .i64),
  (3, .int .i64),
  (4, .bo),
  (5, .int .u8),
  (9, .str),
  (12, .int .u64),
  (15, .pt),
  (16, .pt),
  (21, .int .i32),
  (22, .int .u32),
  (23, .agg false 4 (nth .no [.int .u32, .int .i64, .int .i64, .int .i64])),
  (24, .agg false 4 (nth .no [.int .u32, .int .i64, .int .i64, .int .i64])),
  (25, .sl 5),
  (30, .agg false 4 (nth .no [.int .u32, .int .i64, .int .i64, .int .i64])),
  (34, .sl 25),
  (40, .pt),
  (49, .sl 56),
  (51, .int .i64),
  (54, .sl 4),
  (55, .agg false 6 (nth .no [.int .u8, .int .i64, .int .i64, .sl 5, .int .i64, .int .u32])),
  (56, .agg false 6 (nth .no [.int .u8, .int .i64, .int .i64, .sl 5, .int .i64, .int .u32])),
  (60, .sl 24),
  (64, .int .u64),
  (65, .agg true 32 (fun _ => .int .u8)),
  (66, .agg true 32 (fun _ => .int .u8)),
  (69, .int .u64),
  (78, .pt),
  (82, .agg false 2 (nth .no [.int .i64, .int .u32])),
  (83, .agg false 2 (nth .no [.int .i64, .int .u32])),
  (84, .sl 3),
  (87, .agg false 1 (nth .no [.sl 5])),
  (88, .agg false 1 (nth .no [.sl 5])),
  (89, .agg true 8 (fun _ => .int .u32)),
  (90, .agg true 64 (fun _ => .int .u8)),
  (91, .agg false 3 (nth .no [.agg true 8 (fun _ => .int .u32), .agg true 64 (fun _ => .int .u8), .int .u64])),
  (92, .agg false 3 (nth .no [.agg true 8 (fun _ => .int .u32), .agg true 64 (fun _ => .int .u8), .int .u64])),
  (97, .agg true 4 (fun _ => .int .u8)),
  (109, .sl 22),
  (111, .agg true 64 (fun _ => .int .u32)),
  (117, .pt),
  (118, .agg false 1 (nth .no [.pt])),
  (119, .agg false 1 (nth .no [.pt])),
  (124, .agg false 1 (nth .no [.pt])),
  (125, .agg false 2 (nth .no [.sl 22, .sl 4])),
  (126, .agg false 2 (nth .no [.sl 22, .sl 4])),
  (138, .pt)]
def ty : TypeId → Ty := tyAt tyTab
theorem ok2 : TyOK Tryd.prog ty 2 := .int 2 .i64 (by decide) (by kernel_rfl) (.mk (by kernel_rfl)) rfl
theorem ok3 : TyOK Tryd.prog ty 3 := .int 3 .i64 (by decide) (by kernel_rfl) (.mk (by kernel_rfl)) rfl
theorem ok4 : TyOK Tryd.prog ty 4 := .bo 4 (by kernel_rfl) (.mk (by kernel_rfl)) rfl
theorem ok5 : TyOK Tryd.prog ty 5 := .int 5 .u8 (by decide) (by kernel_rfl) (.mk (by kernel_rfl)) rfl
theorem ok9 : TyOK Tryd.prog ty 9 := .str 9 (by kernel_rfl) (.mk (by kernel_rfl)) rfl
theorem ok12 : TyOK Tryd.prog ty 12 := .int 12 .u64 (by decide) (by kernel_rfl) (.mk (by kernel_rfl)) rfl
theorem ok15 : TyOK Tryd.prog ty 15 := .pt 15 131 (by kernel_rfl) (.mk (by kernel_rfl)) rfl
theorem ok16 : TyOK Tryd.prog ty 16 := .pt 16 134 (by kernel_rfl) (.mk (by kernel_rfl)) rfl
theorem ok21 : TyOK Tryd.prog ty 21 := .int 21 .i32 (by decide) (by kernel_rfl) (.mk (by kernel_rfl)) rfl
theorem ok22 : TyOK Tryd.prog ty 22 := .int 22 .u32 (by decide) (by kernel_rfl) (.mk (by kernel_rfl)) rfl
theorem ok23 : TyOK Tryd.prog ty 23 := .struct [(22, 0), (3, 1), (3, 2), (3, 3)] rfl rfl ⟨ok22, ok3, ok3, ok3, trivial⟩ ⟨⟨rfl, rfl, rfl⟩, ⟨rfl, rfl, rfl⟩, ⟨rfl, rfl, rfl⟩, ⟨rfl, rfl, rfl⟩, trivial⟩ (by kernel_rfl) (by kernel_rfl) (by kernel_rfl) (by kernel_rfl) (by kernel_rfl) (by kernel_rfl)
theorem ok24 : TyOK Tryd.prog ty 24 := .struct [(22, 0), (3, 1), (3, 2), (3, 3)] rfl rfl ⟨ok22, ok3, ok3, ok3, trivial⟩ ⟨⟨rfl, rfl, rfl⟩, ⟨rfl, rfl, rfl⟩, ⟨rfl, rfl, rfl⟩, ⟨rfl, rfl, rfl⟩, trivial⟩ (by kernel_rfl) (by kernel_rfl) (by kernel_rfl) (by kernel_rfl) (by kernel_rfl) (by kernel_rfl)
theorem ok25 : TyOK Tryd.prog ty 25 := .slice 5 ok5 rfl (by kernel_rfl) (by kernel_rfl) (by kernel_rfl)
theorem ok30 : TyOK Tryd.prog ty 30 := .struct [(22, 0), (3, 1), (3, 2), (3, 3)] rfl rfl ⟨ok22, ok3, ok3, ok3, trivial⟩ ⟨⟨rfl, rfl, rfl⟩, ⟨rfl, rfl, rfl⟩, ⟨rfl, rfl, rfl⟩, ⟨rfl, rfl, rfl⟩, trivial⟩ (by kernel_rfl) (by kernel_rfl) (by kernel_rfl) (by kernel_rfl) (by kernel_rfl) (by kernel_rfl)
theorem ok34 : TyOK Tryd.prog ty 34 := .slice 25 ok25 rfl (by kernel_rfl) (by kernel_rfl) (by kernel_rfl)
theorem ok40 : TyOK Tryd.prog ty 40 := .pt 40 88 (by kernel_rfl) (.mk (by kernel_rfl)) rfl
theorem ok56 : TyOK Tryd.prog ty 56 := .struct [(5, 0), (3, 1), (3, 2), (25, 3), (3, 4), (22, 5)] rfl rfl ⟨ok5, ok3, ok3, ok25, ok3, ok22, trivial⟩ ⟨⟨rfl, rfl, rfl⟩, ⟨rfl, rfl, rfl⟩, ⟨rfl, rfl, rfl⟩, ⟨rfl, rfl, rfl⟩, ⟨rfl, rfl, rfl⟩, ⟨rfl, rfl, rfl⟩, trivial⟩ (by kernel_rfl) (by kernel_rfl) (by kernel_rfl) (by kernel_rfl) (by kernel_rfl) (by kernel_rfl)
theorem ok49 : TyOK Tryd.prog ty 49 := .slice 56 ok56 rfl (by kernel_rfl) (by kernel_rfl) (by kernel_rfl)
theorem ok51 : TyOK Tryd.prog ty 51 := .int 51 .i64 (by decide) (by kernel_rfl) (.mk (by kernel_rfl)) rfl
theorem ok54 : TyOK Tryd.prog ty 54 := .slice 4 ok4 rfl (by kernel_rfl) (by kernel_rfl) (by kernel_rfl)
theorem ok55 : TyOK Tryd.prog ty 55 := .struct [(5, 0), (3, 1), (3, 2), (25, 3), (3, 4), (22, 5)] rfl rfl ⟨ok5, ok3, ok3, ok25, ok3, ok22, trivial⟩ ⟨⟨rfl, rfl, rfl⟩, ⟨rfl, rfl, rfl⟩, ⟨rfl, rfl, rfl⟩, ⟨rfl, rfl, rfl⟩, ⟨rfl, rfl, rfl⟩, ⟨rfl, rfl, rfl⟩, trivial⟩ (by kernel_rfl) (by kernel_rfl) (by kernel_rfl) (by kernel_rfl) (by kernel_rfl) (by kernel_rfl)
theorem ok60 : TyOK Tryd.prog ty 60 := .slice 24 ok24 rfl (by kernel_rfl) (by kernel_rfl) (by kernel_rfl)
theorem ok64 : TyOK Tryd.prog ty 64 := .int 64 .u64 (by decide) (by kernel_rfl) (.mk (by kernel_rfl)) rfl
theorem ok65 : TyOK Tryd.prog ty 65 := .array 32 5 ok5 rfl (by kernel_rfl) (by kernel_rfl) (by kernel_rfl) (by kernel_rfl) (by kernel_rfl)
theorem ok66 : TyOK Tryd.prog ty 66 := .array 32 5 ok5 rfl (by kernel_rfl) (by kernel_rfl) (by kernel_rfl) (by kernel_rfl) (by kernel_rfl)
theorem ok69 : TyOK Tryd.prog ty 69 := .int 69 .u64 (by decide) (by kernel_rfl) (.mk (by kernel_rfl)) rfl
theorem ok78 : TyOK Tryd.prog ty 78 := .pt 78 124 (by kernel_rfl) (.mk (by kernel_rfl)) rfl
theorem ok82 : TyOK Tryd.prog ty 82 := .struct [(3, 0), (22, 1)] rfl rfl ⟨ok3, ok22, trivial⟩ ⟨⟨rfl, rfl, rfl⟩, ⟨rfl, rfl, rfl⟩, trivial⟩ (by kernel_rfl) (by kernel_rfl) (by kernel_rfl) (by kernel_rfl) (by kernel_rfl) (by kernel_rfl)
theorem ok83 : TyOK Tryd.prog ty 83 := .struct [(3, 0), (22, 1)] rfl rfl ⟨ok3, ok22, trivial⟩ ⟨⟨rfl, rfl, rfl⟩, ⟨rfl, rfl, rfl⟩, trivial⟩ (by kernel_rfl) (by kernel_rfl) (by kernel_rfl) (by kernel_rfl) (by kernel_rfl) (by kernel_rfl)
theorem ok84 : TyOK Tryd.prog ty 84 := .slice 3 ok3 rfl (by kernel_rfl) (by kernel_rfl) (by kernel_rfl)
theorem ok87 : TyOK Tryd.prog ty 87 := .struct [(25, 0)] rfl rfl ⟨ok25, trivial⟩ ⟨⟨rfl, rfl, rfl⟩, trivial⟩ (by kernel_rfl) (by kernel_rfl) (by kernel_rfl) (by kernel_rfl) (by kernel_rfl) (by kernel_rfl)
theorem ok88 : TyOK Tryd.prog ty 88 := .struct [(25, 0)] rfl rfl ⟨ok25, trivial⟩ ⟨⟨rfl, rfl, rfl⟩, trivial⟩ (by kernel_rfl) (by kernel_rfl) (by kernel_rfl) (by kernel_rfl) (by kernel_rfl) (by kernel_rfl)
theorem ok89 : TyOK Tryd.prog ty 89 := .array 8 22 ok22 rfl (by kernel_rfl) (by kernel_rfl) (by kernel_rfl) (by kernel_rfl) (by kernel_rfl)
theorem ok90 : TyOK Tryd.prog ty 90 := .array 64 5 ok5 rfl (by kernel_rfl) (by kernel_rfl) (by kernel_rfl) (by kernel_rfl) (by kernel_rfl)
theorem ok91 : TyOK Tryd.prog ty 91 := .struct [(89, 0), (90, 8), (69, 72)] rfl rfl ⟨ok89, ok90, ok69, trivial⟩ ⟨⟨rfl, rfl, rfl⟩, ⟨rfl, rfl, rfl⟩, ⟨rfl, rfl, rfl⟩, trivial⟩ (by kernel_rfl) (by kernel_rfl) (by kernel_rfl) (by kernel_rfl) (by kernel_rfl) (by kernel_rfl)
theorem ok92 : TyOK Tryd.prog ty 92 := .struct [(89, 0), (90, 8), (69, 72)] rfl rfl ⟨ok89, ok90, ok69, trivial⟩ ⟨⟨rfl, rfl, rfl⟩, ⟨rfl, rfl, rfl⟩, ⟨rfl, rfl, rfl⟩, trivial⟩ (by kernel_rfl) (by kernel_rfl) (by kernel_rfl) (by kernel_rfl) (by kernel_rfl) (by kernel_rfl)
theorem ok97 : TyOK Tryd.prog ty 97 := .array 4 5 ok5 rfl (by kernel_rfl) (by kernel_rfl) (by kernel_rfl) (by kernel_rfl) (by kernel_rfl)
theorem ok109 : TyOK Tryd.prog ty 109 := .slice 22 ok22 rfl (by kernel_rfl) (by kernel_rfl) (by kernel_rfl)
theorem ok111 : TyOK Tryd.prog ty 111 := .array 64 22 ok22 rfl (by kernel_rfl) (by kernel_rfl) (by kernel_rfl) (by kernel_rfl) (by kernel_rfl)
theorem ok117 : TyOK Tryd.prog ty 117 := .pt 117 126 (by kernel_rfl) (.mk (by kernel_rfl)) rfl
theorem ok118 : TyOK Tryd.prog ty 118 := .struct [(117, 0)] rfl rfl ⟨ok117, trivial⟩ ⟨⟨rfl, rfl, rfl⟩, trivial⟩ (by kernel_rfl) (by kernel_rfl) (by kernel_rfl) (by kernel_rfl) (by kernel_rfl) (by kernel_rfl)
theorem ok119 : TyOK Tryd.prog ty 119 := .struct [(117, 0)] rfl rfl ⟨ok117, trivial⟩ ⟨⟨rfl, rfl, rfl⟩, trivial⟩ (by kernel_rfl) (by kernel_rfl) (by kernel_rfl) (by kernel_rfl) (by kernel_rfl) (by kernel_rfl)
theorem ok124 : TyOK Tryd.prog ty 124 := .struct [(117, 0)] rfl rfl ⟨ok117, trivial⟩ ⟨⟨rfl, rfl, rfl⟩, trivial⟩ (by kernel_rfl) (by kernel_rfl) (by kernel_rfl) (by kernel_rfl) (by kernel_rfl) (by kernel_rfl)
theorem ok125 : TyOK Tryd.prog ty 125 := .struct [(109, 0), (54, 1)] rfl rfl ⟨ok109, ok54, trivial⟩ ⟨⟨rfl, rfl, rfl⟩, ⟨rfl, rfl, rfl⟩, trivial⟩ (by kernel_rfl) (by kernel_rfl) (by kernel_rfl) (by kernel_rfl) (by kernel_rfl) (by kernel_rfl)
theorem ok126 : TyOK Tryd.prog ty 126 := .struct [(109, 0), (54, 1)] rfl rfl ⟨ok109, ok54, trivial⟩ ⟨⟨rfl, rfl, rfl⟩, ⟨rfl, rfl, rfl⟩, trivial⟩ (by kernel_rfl) (by kernel_rfl) (by kernel_rfl) (by kernel_rfl) (by kernel_rfl) (by kernel_rfl)
theorem ok138 : TyOK Tryd.prog ty 138 := .pt 138 5 (by kernel_rfl) (.mk (by kernel_rfl)) rfl
theorem tysOK : TysOK Tryd.prog ty := tysOK_of (l := tyTab) rfl ⟨ok2, ok3, ok4, ok5, ok9, ok12, ok15, ok16, ok21, ok22, ok23, ok24, ok25, ok30, ok34, ok40, ok49, ok51, ok54, ok55, ok56, ok60, ok64, ok65, ok66, ok69, ok78, ok82, ok83, ok84, ok87, ok88, ok89, ok90, ok91, ok92, ok97, ok109, ok111, ok117, ok118, ok119, ok124, ok125, ok126, ok138, trivial⟩
theorem mixes : Tryd.prog.follows .mixedOrders = true := by kernel_rfl
theorem mxOK : ∀ t n f, ty t = .agg true n f → n ≤ maxLen := mx_of (l := tyTab) rfl (by kernel_rfl)
end Go.Proofs.YtldlleoabbcpdaaDoor
