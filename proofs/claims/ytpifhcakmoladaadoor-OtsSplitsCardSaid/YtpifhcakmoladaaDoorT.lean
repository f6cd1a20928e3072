/- The types of this program. -/
import Derived.Test.YtpifhcakmoladaaDoorGE
import Derived.Test.YtpifhcakmoladaaDoorProg
namespace Go.Proofs.YtpifhcakmoladaaDoor
open Go.RowKit
def tyTab : List (Nat × Ty) := [(2, .int .i64),
  (3, .int .i64),
  (4, .bo),
  (5, .int .u8),
  (9, .str),
  (12, .int .u64),
  (15, .pt),
  (16, .pt),
  (21, .int .i32),
  (22, .int .u32),
  (23, .agg true 32 (fun _ => .int .u8)),
  (24, .agg true 32 (fun _ => .int .u8)),
  (25, .sl 5),
  (29, .agg false 3 (nth .no [.int .i64, .int .i64, .int .i64])),
  (30, .agg false 3 (nth .no [.int .i64, .int .i64, .int .i64])),
  (33, .sl 3),
  (40, .sl 24),
  (42, .agg true 16 (fun _ => .int .u8)),
  (43, .int .u16),
  (44, .agg false 2 (nth .no [.agg true 16 (fun _ => .int .u8), .int .u32])),
  (45, .agg false 2 (nth .no [.agg true 16 (fun _ => .int .u8), .int .u32])),
  (57, .int .i64),
  (66, .int .i8),
  (68, .int .u64),
  (69, .sl 25),
  (72, .agg true 4 (fun _ => .agg false 3 (nth .no [.int .i64, .int .i64, .int .i64]))),
  (74, .int .u64),
  (77, .agg true 22 (fun _ => .int .u8)),
  (80, .agg true 8 (fun _ => .int .u32)),
  (81, .agg true 64 (fun _ => .int .u8)),
  (82, .agg false 3 (nth .no [.agg true 8 (fun _ => .int .u32), .agg true 64 (fun _ => .int .u8), .int .u64])),
  (83, .agg false 3 (nth .no [.agg true 8 (fun _ => .int .u32), .agg true 64 (fun _ => .int .u8), .int .u64])),
  (87, .sl 22),
  (97, .agg true 64 (fun _ => .int .u32)),
  (113, .pt)]
def ty : TypeId → Ty := tyAt tyTab
theorem ok2 : TyOK Tryd.prog ty 2 := .int 2 .i64 (by decide) (by kernel_rfl) (.mk (by kernel_rfl)) rfl
theorem ok3 : TyOK Tryd.prog ty 3 := .int 3 .i64 (by decide) (by kernel_rfl) (.mk (by kernel_rfl)) rfl
theorem ok4 : TyOK Tryd.prog ty 4 := .bo 4 (by kernel_rfl) (.mk (by kernel_rfl)) rfl
theorem ok5 : TyOK Tryd.prog ty 5 := .int 5 .u8 (by decide) (by kernel_rfl) (.mk (by kernel_rfl)) rfl
theorem ok9 : TyOK Tryd.prog ty 9 := .str 9 (by kernel_rfl) (.mk (by kernel_rfl)) rfl
theorem ok12 : TyOK Tryd.prog ty 12 := .int 12 .u64 (by decide) (by kernel_rfl) (.mk (by kernel_rfl)) rfl
theorem ok15 : TyOK Tryd.prog ty 15 := .pt 15 106 (by kernel_rfl) (.mk (by kernel_rfl)) rfl
theorem ok16 : TyOK Tryd.prog ty 16 := .pt 16 109 (by kernel_rfl) (.mk (by kernel_rfl)) rfl
theorem ok21 : TyOK Tryd.prog ty 21 := .int 21 .i32 (by decide) (by kernel_rfl) (.mk (by kernel_rfl)) rfl
theorem ok22 : TyOK Tryd.prog ty 22 := .int 22 .u32 (by decide) (by kernel_rfl) (.mk (by kernel_rfl)) rfl
theorem ok23 : TyOK Tryd.prog ty 23 := .array 32 5 ok5 rfl (by kernel_rfl) (by kernel_rfl) (by kernel_rfl) (by kernel_rfl) (by kernel_rfl)
theorem ok24 : TyOK Tryd.prog ty 24 := .array 32 5 ok5 rfl (by kernel_rfl) (by kernel_rfl) (by kernel_rfl) (by kernel_rfl) (by kernel_rfl)
theorem ok25 : TyOK Tryd.prog ty 25 := .slice 5 ok5 rfl (by kernel_rfl) (by kernel_rfl) (by kernel_rfl)
theorem ok29 : TyOK Tryd.prog ty 29 := .struct [(3, 0), (3, 1), (3, 2)] rfl rfl ⟨ok3, ok3, ok3, trivial⟩ ⟨⟨rfl, rfl, rfl⟩, ⟨rfl, rfl, rfl⟩, ⟨rfl, rfl, rfl⟩, trivial⟩ (by kernel_rfl) (by kernel_rfl) (by kernel_rfl) (by kernel_rfl) (by kernel_rfl) (by kernel_rfl)
theorem ok30 : TyOK Tryd.prog ty 30 := .struct [(3, 0), (3, 1), (3, 2)] rfl rfl ⟨ok3, ok3, ok3, trivial⟩ ⟨⟨rfl, rfl, rfl⟩, ⟨rfl, rfl, rfl⟩, ⟨rfl, rfl, rfl⟩, trivial⟩ (by kernel_rfl) (by kernel_rfl) (by kernel_rfl) (by kernel_rfl) (by kernel_rfl) (by kernel_rfl)
theorem ok33 : TyOK Tryd.prog ty 33 := .slice 3 ok3 rfl (by kernel_rfl) (by kernel_rfl) (by kernel_rfl)
theorem ok40 : TyOK Tryd.prog ty 40 := .slice 24 ok24 rfl (by kernel_rfl) (by kernel_rfl) (by kernel_rfl)
theorem ok42 : TyOK Tryd.prog ty 42 := .array 16 5 ok5 rfl (by kernel_rfl) (by kernel_rfl) (by kernel_rfl) (by kernel_rfl) (by kernel_rfl)
theorem ok43 : TyOK Tryd.prog ty 43 := .int 43 .u16 (by decide) (by kernel_rfl) (.mk (by kernel_rfl)) rfl
theorem ok44 : TyOK Tryd.prog ty 44 := .struct [(42, 0), (22, 16)] rfl rfl ⟨ok42, ok22, trivial⟩ ⟨⟨rfl, rfl, rfl⟩, ⟨rfl, rfl, rfl⟩, trivial⟩ (by kernel_rfl) (by kernel_rfl) (by kernel_rfl) (by kernel_rfl) (by kernel_rfl) (by kernel_rfl)
theorem ok45 : TyOK Tryd.prog ty 45 := .struct [(42, 0), (22, 16)] rfl rfl ⟨ok42, ok22, trivial⟩ ⟨⟨rfl, rfl, rfl⟩, ⟨rfl, rfl, rfl⟩, trivial⟩ (by kernel_rfl) (by kernel_rfl) (by kernel_rfl) (by kernel_rfl) (by kernel_rfl) (by kernel_rfl)
theorem ok57 : TyOK Tryd.prog ty 57 := .int 57 .i64 (by decide) (by kernel_rfl) (.mk (by kernel_rfl)) rfl
theorem ok66 : TyOK Tryd.prog ty 66 := .int 66 .i8 (by decide) (by kernel_rfl) (.mk (by kernel_rfl)) rfl
theorem ok68 : TyOK Tryd.prog ty 68 := .int 68 .u64 (by decide) (by kernel_rfl) (.mk (by kernel_rfl)) rfl
theorem ok69 : TyOK Tryd.prog ty 69 := .slice 25 ok25 rfl (by kernel_rfl) (by kernel_rfl) (by kernel_rfl)
theorem ok72 : TyOK Tryd.prog ty 72 := .array 4 30 ok30 rfl (by kernel_rfl) (by kernel_rfl) (by kernel_rfl) (by kernel_rfl) (by kernel_rfl)
theorem ok74 : TyOK Tryd.prog ty 74 := .int 74 .u64 (by decide) (by kernel_rfl) (.mk (by kernel_rfl)) rfl
theorem ok77 : TyOK Tryd.prog ty 77 := .array 22 5 ok5 rfl (by kernel_rfl) (by kernel_rfl) (by kernel_rfl) (by kernel_rfl) (by kernel_rfl)
theorem ok80 : TyOK Tryd.prog ty 80 := .array 8 22 ok22 rfl (by kernel_rfl) (by kernel_rfl) (by kernel_rfl) (by kernel_rfl) (by kernel_rfl)
theorem ok81 : TyOK Tryd.prog ty 81 := .array 64 5 ok5 rfl (by kernel_rfl) (by kernel_rfl) (by kernel_rfl) (by kernel_rfl) (by kernel_rfl)
theorem ok82 : TyOK Tryd.prog ty 82 := .struct [(80, 0), (81, 8), (68, 72)] rfl rfl ⟨ok80, ok81, ok68, trivial⟩ ⟨⟨rfl, rfl, rfl⟩, ⟨rfl, rfl, rfl⟩, ⟨rfl, rfl, rfl⟩, trivial⟩ (by kernel_rfl) (by kernel_rfl) (by kernel_rfl) (by kernel_rfl) (by kernel_rfl) (by kernel_rfl)
theorem ok83 : TyOK Tryd.prog ty 83 := .struct [(80, 0), (81, 8), (68, 72)] rfl rfl ⟨ok80, ok81, ok68, trivial⟩ ⟨⟨rfl, rfl, rfl⟩, ⟨rfl, rfl, rfl⟩, ⟨rfl, rfl, rfl⟩, trivial⟩ (by kernel_rfl) (by kernel_rfl) (by kernel_rfl) (by kernel_rfl) (by kernel_rfl) (by kernel_rfl)
theorem ok87 : TyOK Tryd.prog ty 87 := .slice 22 ok22 rfl (by kernel_rfl) (by kernel_rfl) (by kernel_rfl)
theorem ok97 : TyOK Tryd.prog ty 97 := .array 64 22 ok22 rfl (by kernel_rfl) (by kernel_rfl) (by kernel_rfl) (by kernel_rfl) (by kernel_rfl)
theorem ok113 : TyOK Tryd.prog ty 113 := .pt 113 5 (by kernel_rfl) (.mk (by kernel_rfl)) rfl
theorem tysOK : TysOK Tryd.prog ty := tysOK_of (l := tyTab) rfl ⟨ok2, ok3, ok4, ok5, ok9, ok12, ok15, ok16, ok21, ok22, ok23, ok24, ok25, ok29, ok30, ok33, ok40, ok42, ok43, ok44, ok45, ok57, ok66, ok68, ok69, ok72, ok74, ok77, ok80, ok81, ok82, ok83, ok87, ok97, ok113, trivial⟩
theorem mixes : Tryd.prog.follows .mixedOrders = true := by kernel_rfl
theorem mxOK : ∀ t n f, ty t = .agg true n f → n ≤ maxLen := mx_of (l := tyTab) rfl (by kernel_rfl)
end Go.Proofs.YtpifhcakmoladaaDoor
