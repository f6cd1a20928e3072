/- The types of this program. -/
import Derived.Test.YtedmkfeiodhfoaaDoorGE
import Derived.Test.YtedmkfeiodhfoaaDoorProg
namespace Go.Proofs.YtedmkfeiodhfoaaDoor
open Go.RowKit
def tyTab : List (Nat × Ty) := [(2, .int .i64),
  (3, .int .i64),
  (4, .bo),
  (5, .int .u8),
  (9, .str),
  (12, .int .u64),
  (15, .pt),
  (16, .pt),
  (21, .int .i32),
  (22, .sl 5),
  (23, .agg true 16 (fun _ => .int .u8)),
  (24, .int .u32),
  (27, .agg false 3 (nth .no [.int .i64, .int .u32, .agg true 16 (fun _ => .int .u8)])),
  (28, .agg false 3 (nth .no [.int .i64, .int .u32, .agg true 16 (fun _ => .int .u8)])),
  (31, .int .i64),
  (33, .agg false 3 (nth .no [.int .i64, .int .u32, .agg true 16 (fun _ => .int .u8)])),
  (41, .int .u64),
  (43, .agg true 32 (fun _ => .int .u8)),
  (44, .agg true 32 (fun _ => .int .u8)),
  (50, .agg false 3 (nth .no [.int .u32, .int .u32, .agg true 16 (fun _ => .int .u8)])),
  (51, .agg false 3 (nth .no [.int .u32, .int .u32, .agg true 16 (fun _ => .int .u8)])),
  (54, .sl 44),
  (58, .agg false 2 (nth .no [.agg true 16 (fun _ => .int .u8), .int .u32])),
  (59, .agg false 2 (nth .no [.agg true 16 (fun _ => .int .u8), .int .u32])),
  (62, .int .u64),
  (67, .agg false 3 (nth .no [.int .i64, .int .i64, .int .i64])),
  (68, .agg false 3 (nth .no [.int .i64, .int .i64, .int .i64])),
  (78, .sl 3),
  (87, .agg true 4 (fun _ => .agg false 3 (nth .no [.int .i64, .int .i64, .int .i64]))),
  (91, .agg true 22 (fun _ => .int .u8)),
  (95, .agg true 8 (fun _ => .int .u32)),
  (96, .agg true 64 (fun _ => .int .u8)),
  (97, .agg false 3 (nth .no [.agg true 8 (fun _ => .int .u32), .agg true 64 (fun _ => .int .u8), .int .u64])),
  (98, .agg false 3 (nth .no [.agg true 8 (fun _ => .int .u32), .agg true 64 (fun _ => .int .u8), .int .u64])),
  (103, .sl 22),
  (108, .agg true 64 (fun _ => .int .u32)),
  (123, .pt)]
def ty : TypeId → Ty := tyAt tyTab
theorem ok2 : TyOK Tryd.prog ty 2 := .int 2 .i64 (by decide) (by kernel_rfl) (.mk (by kernel_rfl)) rfl
theorem ok3 : TyOK Tryd.prog ty 3 := .int 3 .i64 (by decide) (by kernel_rfl) (.mk (by kernel_rfl)) rfl
theorem ok4 : TyOK Tryd.prog ty 4 := .bo 4 (by kernel_rfl) (.mk (by kernel_rfl)) rfl
theorem ok5 : TyOK Tryd.prog ty 5 := .int 5 .u8 (by decide) (by kernel_rfl) (.mk (by kernel_rfl)) rfl
theorem ok9 : TyOK Tryd.prog ty 9 := .str 9 (by kernel_rfl) (.mk (by kernel_rfl)) rfl
theorem ok12 : TyOK Tryd.prog ty 12 := .int 12 .u64 (by decide) (by kernel_rfl) (.mk (by kernel_rfl)) rfl
theorem ok15 : TyOK Tryd.prog ty 15 := .pt 15 116 (by kernel_rfl) (.mk (by kernel_rfl)) rfl
theorem ok16 : TyOK Tryd.prog ty 16 := .pt 16 119 (by kernel_rfl) (.mk (by kernel_rfl)) rfl
theorem ok21 : TyOK Tryd.prog ty 21 := .int 21 .i32 (by decide) (by kernel_rfl) (.mk (by kernel_rfl)) rfl
theorem ok22 : TyOK Tryd.prog ty 22 := .slice 5 ok5 rfl (by kernel_rfl) (by kernel_rfl) (by kernel_rfl)
theorem ok23 : TyOK Tryd.prog ty 23 := .array 16 5 ok5 rfl (by kernel_rfl) (by kernel_rfl) (by kernel_rfl) (by kernel_rfl) (by kernel_rfl)
theorem ok24 : TyOK Tryd.prog ty 24 := .int 24 .u32 (by decide) (by kernel_rfl) (.mk (by kernel_rfl)) rfl
theorem ok27 : TyOK Tryd.prog ty 27 := .struct [(3, 0), (24, 1), (23, 2)] rfl rfl ⟨ok3, ok24, ok23, trivial⟩ ⟨⟨rfl, rfl, rfl⟩, ⟨rfl, rfl, rfl⟩, ⟨rfl, rfl, rfl⟩, trivial⟩ (by kernel_rfl) (by kernel_rfl) (by kernel_rfl) (by kernel_rfl) (by kernel_rfl) (by kernel_rfl)
theorem ok28 : TyOK Tryd.prog ty 28 := .struct [(3, 0), (24, 1), (23, 2)] rfl rfl ⟨ok3, ok24, ok23, trivial⟩ ⟨⟨rfl, rfl, rfl⟩, ⟨rfl, rfl, rfl⟩, ⟨rfl, rfl, rfl⟩, trivial⟩ (by kernel_rfl) (by kernel_rfl) (by kernel_rfl) (by kernel_rfl) (by kernel_rfl) (by kernel_rfl)
theorem ok31 : TyOK Tryd.prog ty 31 := .int 31 .i64 (by decide) (by kernel_rfl) (.mk (by kernel_rfl)) rfl
theorem ok33 : TyOK Tryd.prog ty 33 := .struct [(3, 0), (24, 1), (23, 2)] rfl rfl ⟨ok3, ok24, ok23, trivial⟩ ⟨⟨rfl, rfl, rfl⟩, ⟨rfl, rfl, rfl⟩, ⟨rfl, rfl, rfl⟩, trivial⟩ (by kernel_rfl) (by kernel_rfl) (by kernel_rfl) (by kernel_rfl) (by kernel_rfl) (by kernel_rfl)
theorem ok41 : TyOK Tryd.prog ty 41 := .int 41 .u64 (by decide) (by kernel_rfl) (.mk (by kernel_rfl)) rfl
theorem ok43 : TyOK Tryd.prog ty 43 := .array 32 5 ok5 rfl (by kernel_rfl) (by kernel_rfl) (by kernel_rfl) (by kernel_rfl) (by kernel_rfl)
theorem ok44 : TyOK Tryd.prog ty 44 := .array 32 5 ok5 rfl (by kernel_rfl) (by kernel_rfl) (by kernel_rfl) (by kernel_rfl) (by kernel_rfl)
theorem ok50 : TyOK Tryd.prog ty 50 := .struct [(24, 0), (24, 1), (23, 2)] rfl rfl ⟨ok24, ok24, ok23, trivial⟩ ⟨⟨rfl, rfl, rfl⟩, ⟨rfl, rfl, rfl⟩, ⟨rfl, rfl, rfl⟩, trivial⟩ (by kernel_rfl) (by kernel_rfl) (by kernel_rfl) (by kernel_rfl) (by kernel_rfl) (by kernel_rfl)
theorem ok51 : TyOK Tryd.prog ty 51 := .struct [(24, 0), (24, 1), (23, 2)] rfl rfl ⟨ok24, ok24, ok23, trivial⟩ ⟨⟨rfl, rfl, rfl⟩, ⟨rfl, rfl, rfl⟩, ⟨rfl, rfl, rfl⟩, trivial⟩ (by kernel_rfl) (by kernel_rfl) (by kernel_rfl) (by kernel_rfl) (by kernel_rfl) (by kernel_rfl)
theorem ok54 : TyOK Tryd.prog ty 54 := .slice 44 ok44 rfl (by kernel_rfl) (by kernel_rfl) (by kernel_rfl)
theorem ok58 : TyOK Tryd.prog ty 58 := .struct [(23, 0), (24, 16)] rfl rfl ⟨ok23, ok24, trivial⟩ ⟨⟨rfl, rfl, rfl⟩, ⟨rfl, rfl, rfl⟩, trivial⟩ (by kernel_rfl) (by kernel_rfl) (by kernel_rfl) (by kernel_rfl) (by kernel_rfl) (by kernel_rfl)
theorem ok59 : TyOK Tryd.prog ty 59 := .struct [(23, 0), (24, 16)] rfl rfl ⟨ok23, ok24, trivial⟩ ⟨⟨rfl, rfl, rfl⟩, ⟨rfl, rfl, rfl⟩, trivial⟩ (by kernel_rfl) (by kernel_rfl) (by kernel_rfl) (by kernel_rfl) (by kernel_rfl) (by kernel_rfl)
theorem ok62 : TyOK Tryd.prog ty 62 := .int 62 .u64 (by decide) (by kernel_rfl) (.mk (by kernel_rfl)) rfl
theorem ok67 : TyOK Tryd.prog ty 67 := .struct [(3, 0), (3, 1), (3, 2)] rfl rfl ⟨ok3, ok3, ok3, trivial⟩ ⟨⟨rfl, rfl, rfl⟩, ⟨rfl, rfl, rfl⟩, ⟨rfl, rfl, rfl⟩, trivial⟩ (by kernel_rfl) (by kernel_rfl) (by kernel_rfl) (by kernel_rfl) (by kernel_rfl) (by kernel_rfl)
theorem ok68 : TyOK Tryd.prog ty 68 := .struct [(3, 0), (3, 1), (3, 2)] rfl rfl ⟨ok3, ok3, ok3, trivial⟩ ⟨⟨rfl, rfl, rfl⟩, ⟨rfl, rfl, rfl⟩, ⟨rfl, rfl, rfl⟩, trivial⟩ (by kernel_rfl) (by kernel_rfl) (by kernel_rfl) (by kernel_rfl) (by kernel_rfl) (by kernel_rfl)
theorem ok78 : TyOK Tryd.prog ty 78 := .slice 3 ok3 rfl (by kernel_rfl) (by kernel_rfl) (by kernel_rfl)
theorem ok87 : TyOK Tryd.prog ty 87 := .array 4 68 ok68 rfl (by kernel_rfl) (by kernel_rfl) (by kernel_rfl) (by kernel_rfl) (by kernel_rfl)
theorem ok91 : TyOK Tryd.prog ty 91 := .array 22 5 ok5 rfl (by kernel_rfl) (by kernel_rfl) (by kernel_rfl) (by kernel_rfl) (by kernel_rfl)
theorem ok95 : TyOK Tryd.prog ty 95 := .array 8 24 ok24 rfl (by kernel_rfl) (by kernel_rfl) (by kernel_rfl) (by kernel_rfl) (by kernel_rfl)
theorem ok96 : TyOK Tryd.prog ty 96 := .array 64 5 ok5 rfl (by kernel_rfl) (by kernel_rfl) (by kernel_rfl) (by kernel_rfl) (by kernel_rfl)
theorem ok97 : TyOK Tryd.prog ty 97 := .struct [(95, 0), (96, 8), (41, 72)] rfl rfl ⟨ok95, ok96, ok41, trivial⟩ ⟨⟨rfl, rfl, rfl⟩, ⟨rfl, rfl, rfl⟩, ⟨rfl, rfl, rfl⟩, trivial⟩ (by kernel_rfl) (by kernel_rfl) (by kernel_rfl) (by kernel_rfl) (by kernel_rfl) (by kernel_rfl)
theorem ok98 : TyOK Tryd.prog ty 98 := .struct [(95, 0), (96, 8), (41, 72)] rfl rfl ⟨ok95, ok96, ok41, trivial⟩ ⟨⟨rfl, rfl, rfl⟩, ⟨rfl, rfl, rfl⟩, ⟨rfl, rfl, rfl⟩, trivial⟩ (by kernel_rfl) (by kernel_rfl) (by kernel_rfl) (by kernel_rfl) (by kernel_rfl) (by kernel_rfl)
theorem ok103 : TyOK Tryd.prog ty 103 := .slice 22 ok22 rfl (by kernel_rfl) (by kernel_rfl) (by kernel_rfl)
theorem ok108 : TyOK Tryd.prog ty 108 := .array 64 24 ok24 rfl (by kernel_rfl) (by kernel_rfl) (by kernel_rfl) (by kernel_rfl) (by kernel_rfl)
theorem ok123 : TyOK Tryd.prog ty 123 := .pt 123 5 (by kernel_rfl) (.mk (by kernel_rfl)) rfl
theorem tysOK : TysOK Tryd.prog ty := tysOK_of (l := tyTab) rfl ⟨ok2, ok3, ok4, ok5, ok9, ok12, ok15, ok16, ok21, ok22, ok23, ok24, ok27, ok28, ok31, ok33, ok41, ok43, ok44, ok50, ok51, ok54, ok58, ok59, ok62, ok67, ok68, ok78, ok87, ok91, ok95, ok96, ok97, ok98, ok103, ok108, ok123, trivial⟩
theorem mixes : Tryd.prog.follows .mixedOrders = true := by kernel_rfl
theorem mxOK : ∀ t n f, ty t = .agg true n f → n ≤ maxLen := mx_of (l := tyTab) rfl (by kernel_rfl)
end Go.Proofs.YtedmkfeiodhfoaaDoor
