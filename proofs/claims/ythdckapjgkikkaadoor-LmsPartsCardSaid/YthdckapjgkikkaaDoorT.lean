/- The types of this program. -/
import Derived.Test.YthdckapjgkikkaaDoorGE
import Derived.Test.YthdckapjgkikkaaDoorProg
namespace Go.Proofs.YthdckapjgkikkaaDoor
open Go.RowKit
def tyTab : List (Nat × Ty) := [(2, .int .i64),
  (3, .int .i64),
  (4, .bo),
  (5, .int .u8),
  (9, .str),
  (12, .int .u64),
  (15, .pt),
  (16, .pt),
  (21, .int .i32),
  (22, .sl 5),
  (23, .agg true 32 (fun _ => .int .u8)),
  (24, .agg true 32 (fun _ => .int .u8)),
  (25, .int .i16),
  (27, .pt),
  (28, .int .u32),
  (31, .agg true 16 (fun _ => .int .u8)),
  (32, .int .i64),
  (37, .sl 22),
  (38, .sl 24),
  (41, .agg false 4 (nth .no [.int .u32, .sl 5, .int .u32, .sl 24])),
  (42, .agg false 4 (nth .no [.int .u32, .sl 5, .int .u32, .sl 24])),
  (47, .int .u16),
  (52, .int .u64),
  (55, .agg false 2 (nth .no [.agg true 16 (fun _ => .int .u8), .int .u32])),
  (56, .agg false 2 (nth .no [.agg true 16 (fun _ => .int .u8), .int .u32])),
  (60, .agg false 3 (nth .no [.int .u32, .int .i64, .int .i64])),
  (61, .agg false 3 (nth .no [.int .u32, .int .i64, .int .i64])),
  (65, .sl 3),
  (83, .sl 28),
  (90, .agg false 3 (nth .no [.int .i64, .int .i64, .int .i64])),
  (91, .agg false 3 (nth .no [.int .i64, .int .i64, .int .i64])),
  (101, .agg false 3 (nth .no [.int .u32, .int .u32, .agg true 16 (fun _ => .int .u8)])),
  (102, .agg false 3 (nth .no [.int .u32, .int .u32, .agg true 16 (fun _ => .int .u8)])),
  (103, .mp 28 118),
  (104, .agg false 4 (nth .no [.agg false 3 (nth .no [.int .u32, .int .u32, .agg true 16 (fun _ => .int .u8)]), .agg true 32 (fun _ => .int .u8), .sl 24, .mp 28 118])),
  (105, .agg false 4 (nth .no [.agg false 3 (nth .no [.int .u32, .int .u32, .agg true 16 (fun _ => .int .u8)]), .agg true 32 (fun _ => .int .u8), .sl 24, .mp 28 118])),
  (117, .agg false 3 (nth .no [.agg true 32 (fun _ => .int .u8), .sl 5, .sl 3])),
  (118, .agg false 3 (nth .no [.agg true 32 (fun _ => .int .u8), .sl 5, .sl 3])),
  (124, .agg true 22 (fun _ => .int .u8)),
  (128, .int .u64),
  (129, .agg true 4 (fun _ => .agg false 3 (nth .no [.int .i64, .int .i64, .int .i64]))),
  (135, .agg true 8 (fun _ => .int .u32)),
  (136, .agg true 64 (fun _ => .int .u8)),
  (137, .agg false 3 (nth .no [.agg true 8 (fun _ => .int .u32), .agg true 64 (fun _ => .int .u8), .int .u64])),
  (138, .agg false 3 (nth .no [.agg true 8 (fun _ => .int .u32), .agg true 64 (fun _ => .int .u8), .int .u64])),
  (147, .agg true 64 (fun _ => .int .u32)),
  (163, .pt)]
def ty : TypeId → Ty := tyAt tyTab
theorem ok2 : TyOK Tryd.prog ty 2 := .int 2 .i64 (by decide) (by kernel_rfl) (.mk (by kernel_rfl)) rfl
theorem ok3 : TyOK Tryd.prog ty 3 := .int 3 .i64 (by decide) (by kernel_rfl) (.mk (by kernel_rfl)) rfl
theorem ok4 : TyOK Tryd.prog ty 4 := .bo 4 (by kernel_rfl) (.mk (by kernel_rfl)) rfl
theorem ok5 : TyOK Tryd.prog ty 5 := .int 5 .u8 (by decide) (by kernel_rfl) (.mk (by kernel_rfl)) rfl
theorem ok9 : TyOK Tryd.prog ty 9 := .str 9 (by kernel_rfl) (.mk (by kernel_rfl)) rfl
theorem ok12 : TyOK Tryd.prog ty 12 := .int 12 .u64 (by decide) (by kernel_rfl) (.mk (by kernel_rfl)) rfl
theorem ok15 : TyOK Tryd.prog ty 15 := .pt 15 156 (by kernel_rfl) (.mk (by kernel_rfl)) rfl
theorem ok16 : TyOK Tryd.prog ty 16 := .pt 16 159 (by kernel_rfl) (.mk (by kernel_rfl)) rfl
theorem ok21 : TyOK Tryd.prog ty 21 := .int 21 .i32 (by decide) (by kernel_rfl) (.mk (by kernel_rfl)) rfl
theorem ok22 : TyOK Tryd.prog ty 22 := .slice 5 ok5 rfl (by kernel_rfl) (by kernel_rfl) (by kernel_rfl)
theorem ok23 : TyOK Tryd.prog ty 23 := .array 32 5 ok5 rfl (by kernel_rfl) (by kernel_rfl) (by kernel_rfl) (by kernel_rfl) (by kernel_rfl)
theorem ok24 : TyOK Tryd.prog ty 24 := .array 32 5 ok5 rfl (by kernel_rfl) (by kernel_rfl) (by kernel_rfl) (by kernel_rfl) (by kernel_rfl)
theorem ok25 : TyOK Tryd.prog ty 25 := .int 25 .i16 (by decide) (by kernel_rfl) (.mk (by kernel_rfl)) rfl
theorem ok27 : TyOK Tryd.prog ty 27 := .pt 27 105 (by kernel_rfl) (.mk (by kernel_rfl)) rfl
theorem ok28 : TyOK Tryd.prog ty 28 := .int 28 .u32 (by decide) (by kernel_rfl) (.mk (by kernel_rfl)) rfl
theorem ok31 : TyOK Tryd.prog ty 31 := .array 16 5 ok5 rfl (by kernel_rfl) (by kernel_rfl) (by kernel_rfl) (by kernel_rfl) (by kernel_rfl)
theorem ok32 : TyOK Tryd.prog ty 32 := .int 32 .i64 (by decide) (by kernel_rfl) (.mk (by kernel_rfl)) rfl
theorem ok37 : TyOK Tryd.prog ty 37 := .slice 22 ok22 rfl (by kernel_rfl) (by kernel_rfl) (by kernel_rfl)
theorem ok38 : TyOK Tryd.prog ty 38 := .slice 24 ok24 rfl (by kernel_rfl) (by kernel_rfl) (by kernel_rfl)
theorem ok41 : TyOK Tryd.prog ty 41 := .struct [(28, 0), (22, 1), (28, 2), (38, 3)] rfl rfl ⟨ok28, ok22, ok28, ok38, trivial⟩ ⟨⟨rfl, rfl, rfl⟩, ⟨rfl, rfl, rfl⟩, ⟨rfl, rfl, rfl⟩, ⟨rfl, rfl, rfl⟩, trivial⟩ (by kernel_rfl) (by kernel_rfl) (by kernel_rfl) (by kernel_rfl) (by kernel_rfl) (by kernel_rfl)
theorem ok42 : TyOK Tryd.prog ty 42 := .struct [(28, 0), (22, 1), (28, 2), (38, 3)] rfl rfl ⟨ok28, ok22, ok28, ok38, trivial⟩ ⟨⟨rfl, rfl, rfl⟩, ⟨rfl, rfl, rfl⟩, ⟨rfl, rfl, rfl⟩, ⟨rfl, rfl, rfl⟩, trivial⟩ (by kernel_rfl) (by kernel_rfl) (by kernel_rfl) (by kernel_rfl) (by kernel_rfl) (by kernel_rfl)
theorem ok47 : TyOK Tryd.prog ty 47 := .int 47 .u16 (by decide) (by kernel_rfl) (.mk (by kernel_rfl)) rfl
theorem ok52 : TyOK Tryd.prog ty 52 := .int 52 .u64 (by decide) (by kernel_rfl) (.mk (by kernel_rfl)) rfl
theorem ok55 : TyOK Tryd.prog ty 55 := .struct [(31, 0), (28, 16)] rfl rfl ⟨ok31, ok28, trivial⟩ ⟨⟨rfl, rfl, rfl⟩, ⟨rfl, rfl, rfl⟩, trivial⟩ (by kernel_rfl) (by kernel_rfl) (by kernel_rfl) (by kernel_rfl) (by kernel_rfl) (by kernel_rfl)
theorem ok56 : TyOK Tryd.prog ty 56 := .struct [(31, 0), (28, 16)] rfl rfl ⟨ok31, ok28, trivial⟩ ⟨⟨rfl, rfl, rfl⟩, ⟨rfl, rfl, rfl⟩, trivial⟩ (by kernel_rfl) (by kernel_rfl) (by kernel_rfl) (by kernel_rfl) (by kernel_rfl) (by kernel_rfl)
theorem ok60 : TyOK Tryd.prog ty 60 := .struct [(28, 0), (3, 1), (3, 2)] rfl rfl ⟨ok28, ok3, ok3, trivial⟩ ⟨⟨rfl, rfl, rfl⟩, ⟨rfl, rfl, rfl⟩, ⟨rfl, rfl, rfl⟩, trivial⟩ (by kernel_rfl) (by kernel_rfl) (by kernel_rfl) (by kernel_rfl) (by kernel_rfl) (by kernel_rfl)
theorem ok61 : TyOK Tryd.prog ty 61 := .struct [(28, 0), (3, 1), (3, 2)] rfl rfl ⟨ok28, ok3, ok3, trivial⟩ ⟨⟨rfl, rfl, rfl⟩, ⟨rfl, rfl, rfl⟩, ⟨rfl, rfl, rfl⟩, trivial⟩ (by kernel_rfl) (by kernel_rfl) (by kernel_rfl) (by kernel_rfl) (by kernel_rfl) (by kernel_rfl)
theorem ok65 : TyOK Tryd.prog ty 65 := .slice 3 ok3 rfl (by kernel_rfl) (by kernel_rfl) (by kernel_rfl)
theorem ok83 : TyOK Tryd.prog ty 83 := .slice 28 ok28 rfl (by kernel_rfl) (by kernel_rfl) (by kernel_rfl)
theorem ok90 : TyOK Tryd.prog ty 90 := .struct [(3, 0), (3, 1), (3, 2)] rfl rfl ⟨ok3, ok3, ok3, trivial⟩ ⟨⟨rfl, rfl, rfl⟩, ⟨rfl, rfl, rfl⟩, ⟨rfl, rfl, rfl⟩, trivial⟩ (by kernel_rfl) (by kernel_rfl) (by kernel_rfl) (by kernel_rfl) (by kernel_rfl) (by kernel_rfl)
theorem ok91 : TyOK Tryd.prog ty 91 := .struct [(3, 0), (3, 1), (3, 2)] rfl rfl ⟨ok3, ok3, ok3, trivial⟩ ⟨⟨rfl, rfl, rfl⟩, ⟨rfl, rfl, rfl⟩, ⟨rfl, rfl, rfl⟩, trivial⟩ (by kernel_rfl) (by kernel_rfl) (by kernel_rfl) (by kernel_rfl) (by kernel_rfl) (by kernel_rfl)
theorem ok101 : TyOK Tryd.prog ty 101 := .struct [(28, 0), (28, 1), (31, 2)] rfl rfl ⟨ok28, ok28, ok31, trivial⟩ ⟨⟨rfl, rfl, rfl⟩, ⟨rfl, rfl, rfl⟩, ⟨rfl, rfl, rfl⟩, trivial⟩ (by kernel_rfl) (by kernel_rfl) (by kernel_rfl) (by kernel_rfl) (by kernel_rfl) (by kernel_rfl)
theorem ok102 : TyOK Tryd.prog ty 102 := .struct [(28, 0), (28, 1), (31, 2)] rfl rfl ⟨ok28, ok28, ok31, trivial⟩ ⟨⟨rfl, rfl, rfl⟩, ⟨rfl, rfl, rfl⟩, ⟨rfl, rfl, rfl⟩, trivial⟩ (by kernel_rfl) (by kernel_rfl) (by kernel_rfl) (by kernel_rfl) (by kernel_rfl) (by kernel_rfl)
theorem ok118 : TyOK Tryd.prog ty 118 := .struct [(24, 0), (22, 32), (65, 33)] rfl rfl ⟨ok24, ok22, ok65, trivial⟩ ⟨⟨rfl, rfl, rfl⟩, ⟨rfl, rfl, rfl⟩, ⟨rfl, rfl, rfl⟩, trivial⟩ (by kernel_rfl) (by kernel_rfl) (by kernel_rfl) (by kernel_rfl) (by kernel_rfl) (by kernel_rfl)
theorem ok103 : TyOK Tryd.prog ty 103 := .mp 103 28 118 (by kernel_rfl) (.mk (by kernel_rfl)) ok28 ok118 rfl
theorem ok104 : TyOK Tryd.prog ty 104 := .struct [(102, 0), (24, 18), (38, 50), (103, 51)] rfl rfl ⟨ok102, ok24, ok38, ok103, trivial⟩ ⟨⟨rfl, rfl, rfl⟩, ⟨rfl, rfl, rfl⟩, ⟨rfl, rfl, rfl⟩, ⟨rfl, rfl, rfl⟩, trivial⟩ (by kernel_rfl) (by kernel_rfl) (by kernel_rfl) (by kernel_rfl) (by kernel_rfl) (by kernel_rfl)
theorem ok105 : TyOK Tryd.prog ty 105 := .struct [(102, 0), (24, 18), (38, 50), (103, 51)] rfl rfl ⟨ok102, ok24, ok38, ok103, trivial⟩ ⟨⟨rfl, rfl, rfl⟩, ⟨rfl, rfl, rfl⟩, ⟨rfl, rfl, rfl⟩, ⟨rfl, rfl, rfl⟩, trivial⟩ (by kernel_rfl) (by kernel_rfl) (by kernel_rfl) (by kernel_rfl) (by kernel_rfl) (by kernel_rfl)
theorem ok117 : TyOK Tryd.prog ty 117 := .struct [(24, 0), (22, 32), (65, 33)] rfl rfl ⟨ok24, ok22, ok65, trivial⟩ ⟨⟨rfl, rfl, rfl⟩, ⟨rfl, rfl, rfl⟩, ⟨rfl, rfl, rfl⟩, trivial⟩ (by kernel_rfl) (by kernel_rfl) (by kernel_rfl) (by kernel_rfl) (by kernel_rfl) (by kernel_rfl)
theorem ok124 : TyOK Tryd.prog ty 124 := .array 22 5 ok5 rfl (by kernel_rfl) (by kernel_rfl) (by kernel_rfl) (by kernel_rfl) (by kernel_rfl)
theorem ok128 : TyOK Tryd.prog ty 128 := .int 128 .u64 (by decide) (by kernel_rfl) (.mk (by kernel_rfl)) rfl
theorem ok129 : TyOK Tryd.prog ty 129 := .array 4 91 ok91 rfl (by kernel_rfl) (by kernel_rfl) (by kernel_rfl) (by kernel_rfl) (by kernel_rfl)
theorem ok135 : TyOK Tryd.prog ty 135 := .array 8 28 ok28 rfl (by kernel_rfl) (by kernel_rfl) (by kernel_rfl) (by kernel_rfl) (by kernel_rfl)
theorem ok136 : TyOK Tryd.prog ty 136 := .array 64 5 ok5 rfl (by kernel_rfl) (by kernel_rfl) (by kernel_rfl) (by kernel_rfl) (by kernel_rfl)
theorem ok137 : TyOK Tryd.prog ty 137 := .struct [(135, 0), (136, 8), (52, 72)] rfl rfl ⟨ok135, ok136, ok52, trivial⟩ ⟨⟨rfl, rfl, rfl⟩, ⟨rfl, rfl, rfl⟩, ⟨rfl, rfl, rfl⟩, trivial⟩ (by kernel_rfl) (by kernel_rfl) (by kernel_rfl) (by kernel_rfl) (by kernel_rfl) (by kernel_rfl)
theorem ok138 : TyOK Tryd.prog ty 138 := .struct [(135, 0), (136, 8), (52, 72)] rfl rfl ⟨ok135, ok136, ok52, trivial⟩ ⟨⟨rfl, rfl, rfl⟩, ⟨rfl, rfl, rfl⟩, ⟨rfl, rfl, rfl⟩, trivial⟩ (by kernel_rfl) (by kernel_rfl) (by kernel_rfl) (by kernel_rfl) (by kernel_rfl) (by kernel_rfl)
theorem ok147 : TyOK Tryd.prog ty 147 := .array 64 28 ok28 rfl (by kernel_rfl) (by kernel_rfl) (by kernel_rfl) (by kernel_rfl) (by kernel_rfl)
theorem ok163 : TyOK Tryd.prog ty 163 := .pt 163 5 (by kernel_rfl) (.mk (by kernel_rfl)) rfl
theorem tysOK : TysOK Tryd.prog ty := tysOK_of (l := tyTab) rfl ⟨ok2, ok3, ok4, ok5, ok9, ok12, ok15, ok16, ok21, ok22, ok23, ok24, ok25, ok27, ok28, ok31, ok32, ok37, ok38, ok41, ok42, ok47, ok52, ok55, ok56, ok60, ok61, ok65, ok83, ok90, ok91, ok101, ok102, ok103, ok104, ok105, ok117, ok118, ok124, ok128, ok129, ok135, ok136, ok137, ok138, ok147, ok163, trivial⟩
theorem mixes : Tryd.prog.follows .mixedOrders = true := by kernel_rfl
theorem mxOK : ∀ t n f, ty t = .agg true n f → n ≤ maxLen := mx_of (l := tyTab) rfl (by kernel_rfl)
end Go.Proofs.YthdckapjgkikkaaDoor
