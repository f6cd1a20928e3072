/- The types of this program. -/
import Derived.Test.YtobbphkkebempaaDoorGE
import Derived.Test.YtobbphkkebempaaDoorProg
namespace Go.Proofs.YtobbphkkebempaaDoor
open Go.RowKit
def tyTab : List (Nat × Ty) := [(2, .int .i64),
  (3, .int .i64),
  (4, .bo),
  (5, .int .u8),
  (9, .str),
  (12, .int .u64),
  (15, .pt),
  (16, .pt),
  (21, .int .i32),
  (22, .sl 5),
  (23, .int .u16),
  (26, .agg true 32 (fun _ => .int .u8)),
  (27, .agg true 32 (fun _ => .int .u8)),
  (30, .int .u32),
  (31, .agg true 8 (fun _ => .int .u32)),
  (32, .agg true 64 (fun _ => .int .u8)),
  (33, .int .u64),
  (34, .agg false 3 (nth .no [.agg true 8 (fun _ => .int .u32), .agg true 64 (fun _ => .int .u8), .int .u64])),
  (35, .agg false 3 (nth .no [.agg true 8 (fun _ => .int .u32), .agg true 64 (fun _ => .int .u8), .int .u64])),
  (53, .agg false 2 (nth .no [.agg false 3 (nth .no [.agg true 8 (fun _ => .int .u32), .agg true 64 (fun _ => .int .u8), .int .u64]), .agg false 3 (nth .no [.agg true 8 (fun _ => .int .u32), .agg true 64 (fun _ => .int .u8), .int .u64])])),
  (54, .agg false 2 (nth .no [.agg false 3 (nth .no [.agg true 8 (fun _ => .int .u32), .agg true 64 (fun _ => .int .u8), .int .u64]), .agg false 3 (nth .no [.agg true 8 (fun _ => .int .u32), .agg true 64 (fun _ => .int .u8), .int .u64])])),
  (65, .agg false 3 (nth .no [.int .i64, .int .i64, .int .i64])),
  (66, .agg false 3 (nth .no [.int .i64, .int .i64, .int .i64])),
  (69, .sl 3),
  (75, .sl 27),
  (77, .agg true 16 (fun _ => .int .u8)),
  (78, .agg false 2 (nth .no [.agg true 16 (fun _ => .int .u8), .int .u32])),
  (79, .agg false 2 (nth .no [.agg true 16 (fun _ => .int .u8), .int .u32])),
  (91, .int .i64),
  (102, .sl 22),
  (107, .agg true 64 (fun _ => .int .u32)),
  (109, .sl 30),
  (111, .int .u64),
  (117, .agg true 4 (fun _ => .agg false 3 (nth .no [.int .i64, .int .i64, .int .i64]))),
  (119, .agg true 22 (fun _ => .int .u8)),
  (135, .pt)]
def ty : TypeId → Ty := tyAt tyTab
theorem ok2 : TyOK Tryd.prog ty 2 := .int 2 .i64 (by decide) (by kernel_rfl) (.mk (by kernel_rfl)) rfl
theorem ok3 : TyOK Tryd.prog ty 3 := .int 3 .i64 (by decide) (by kernel_rfl) (.mk (by kernel_rfl)) rfl
theorem ok4 : TyOK Tryd.prog ty 4 := .bo 4 (by kernel_rfl) (.mk (by kernel_rfl)) rfl
theorem ok5 : TyOK Tryd.prog ty 5 := .int 5 .u8 (by decide) (by kernel_rfl) (.mk (by kernel_rfl)) rfl
theorem ok9 : TyOK Tryd.prog ty 9 := .str 9 (by kernel_rfl) (.mk (by kernel_rfl)) rfl
theorem ok12 : TyOK Tryd.prog ty 12 := .int 12 .u64 (by decide) (by kernel_rfl) (.mk (by kernel_rfl)) rfl
theorem ok15 : TyOK Tryd.prog ty 15 := .pt 15 128 (by kernel_rfl) (.mk (by kernel_rfl)) rfl
theorem ok16 : TyOK Tryd.prog ty 16 := .pt 16 131 (by kernel_rfl) (.mk (by kernel_rfl)) rfl
theorem ok21 : TyOK Tryd.prog ty 21 := .int 21 .i32 (by decide) (by kernel_rfl) (.mk (by kernel_rfl)) rfl
theorem ok22 : TyOK Tryd.prog ty 22 := .slice 5 ok5 rfl (by kernel_rfl) (by kernel_rfl) (by kernel_rfl)
theorem ok23 : TyOK Tryd.prog ty 23 := .int 23 .u16 (by decide) (by kernel_rfl) (.mk (by kernel_rfl)) rfl
theorem ok26 : TyOK Tryd.prog ty 26 := .array 32 5 ok5 rfl (by kernel_rfl) (by kernel_rfl) (by kernel_rfl) (by kernel_rfl) (by kernel_rfl)
theorem ok27 : TyOK Tryd.prog ty 27 := .array 32 5 ok5 rfl (by kernel_rfl) (by kernel_rfl) (by kernel_rfl) (by kernel_rfl) (by kernel_rfl)
theorem ok30 : TyOK Tryd.prog ty 30 := .int 30 .u32 (by decide) (by kernel_rfl) (.mk (by kernel_rfl)) rfl
theorem ok31 : TyOK Tryd.prog ty 31 := .array 8 30 ok30 rfl (by kernel_rfl) (by kernel_rfl) (by kernel_rfl) (by kernel_rfl) (by kernel_rfl)
theorem ok32 : TyOK Tryd.prog ty 32 := .array 64 5 ok5 rfl (by kernel_rfl) (by kernel_rfl) (by kernel_rfl) (by kernel_rfl) (by kernel_rfl)
theorem ok33 : TyOK Tryd.prog ty 33 := .int 33 .u64 (by decide) (by kernel_rfl) (.mk (by kernel_rfl)) rfl
theorem ok34 : TyOK Tryd.prog ty 34 := .struct [(31, 0), (32, 8), (33, 72)] rfl rfl ⟨ok31, ok32, ok33, trivial⟩ ⟨⟨rfl, rfl, rfl⟩, ⟨rfl, rfl, rfl⟩, ⟨rfl, rfl, rfl⟩, trivial⟩ (by kernel_rfl) (by kernel_rfl) (by kernel_rfl) (by kernel_rfl) (by kernel_rfl) (by kernel_rfl)
theorem ok35 : TyOK Tryd.prog ty 35 := .struct [(31, 0), (32, 8), (33, 72)] rfl rfl ⟨ok31, ok32, ok33, trivial⟩ ⟨⟨rfl, rfl, rfl⟩, ⟨rfl, rfl, rfl⟩, ⟨rfl, rfl, rfl⟩, trivial⟩ (by kernel_rfl) (by kernel_rfl) (by kernel_rfl) (by kernel_rfl) (by kernel_rfl) (by kernel_rfl)
theorem ok53 : TyOK Tryd.prog ty 53 := .struct [(35, 0), (35, 73)] rfl rfl ⟨ok35, ok35, trivial⟩ ⟨⟨rfl, rfl, rfl⟩, ⟨rfl, rfl, rfl⟩, trivial⟩ (by kernel_rfl) (by kernel_rfl) (by kernel_rfl) (by kernel_rfl) (by kernel_rfl) (by kernel_rfl)
theorem ok54 : TyOK Tryd.prog ty 54 := .struct [(35, 0), (35, 73)] rfl rfl ⟨ok35, ok35, trivial⟩ ⟨⟨rfl, rfl, rfl⟩, ⟨rfl, rfl, rfl⟩, trivial⟩ (by kernel_rfl) (by kernel_rfl) (by kernel_rfl) (by kernel_rfl) (by kernel_rfl) (by kernel_rfl)
theorem ok65 : TyOK Tryd.prog ty 65 := .struct [(3, 0), (3, 1), (3, 2)] rfl rfl ⟨ok3, ok3, ok3, trivial⟩ ⟨⟨rfl, rfl, rfl⟩, ⟨rfl, rfl, rfl⟩, ⟨rfl, rfl, rfl⟩, trivial⟩ (by kernel_rfl) (by kernel_rfl) (by kernel_rfl) (by kernel_rfl) (by kernel_rfl) (by kernel_rfl)
theorem ok66 : TyOK Tryd.prog ty 66 := .struct [(3, 0), (3, 1), (3, 2)] rfl rfl ⟨ok3, ok3, ok3, trivial⟩ ⟨⟨rfl, rfl, rfl⟩, ⟨rfl, rfl, rfl⟩, ⟨rfl, rfl, rfl⟩, trivial⟩ (by kernel_rfl) (by kernel_rfl) (by kernel_rfl) (by kernel_rfl) (by kernel_rfl) (by kernel_rfl)
theorem ok69 : TyOK Tryd.prog ty 69 := .slice 3 ok3 rfl (by kernel_rfl) (by kernel_rfl) (by kernel_rfl)
theorem ok75 : TyOK Tryd.prog ty 75 := .slice 27 ok27 rfl (by kernel_rfl) (by kernel_rfl) (by kernel_rfl)
theorem ok77 : TyOK Tryd.prog ty 77 := .array 16 5 ok5 rfl (by kernel_rfl) (by kernel_rfl) (by kernel_rfl) (by kernel_rfl) (by kernel_rfl)
theorem ok78 : TyOK Tryd.prog ty 78 := .struct [(77, 0), (30, 16)] rfl rfl ⟨ok77, ok30, trivial⟩ ⟨⟨rfl, rfl, rfl⟩, ⟨rfl, rfl, rfl⟩, trivial⟩ (by kernel_rfl) (by kernel_rfl) (by kernel_rfl) (by kernel_rfl) (by kernel_rfl) (by kernel_rfl)
theorem ok79 : TyOK Tryd.prog ty 79 := .struct [(77, 0), (30, 16)] rfl rfl ⟨ok77, ok30, trivial⟩ ⟨⟨rfl, rfl, rfl⟩, ⟨rfl, rfl, rfl⟩, trivial⟩ (by kernel_rfl) (by kernel_rfl) (by kernel_rfl) (by kernel_rfl) (by kernel_rfl) (by kernel_rfl)
theorem ok91 : TyOK Tryd.prog ty 91 := .int 91 .i64 (by decide) (by kernel_rfl) (.mk (by kernel_rfl)) rfl
theorem ok102 : TyOK Tryd.prog ty 102 := .slice 22 ok22 rfl (by kernel_rfl) (by kernel_rfl) (by kernel_rfl)
theorem ok107 : TyOK Tryd.prog ty 107 := .array 64 30 ok30 rfl (by kernel_rfl) (by kernel_rfl) (by kernel_rfl) (by kernel_rfl) (by kernel_rfl)
theorem ok109 : TyOK Tryd.prog ty 109 := .slice 30 ok30 rfl (by kernel_rfl) (by kernel_rfl) (by kernel_rfl)
theorem ok111 : TyOK Tryd.prog ty 111 := .int 111 .u64 (by decide) (by kernel_rfl) (.mk (by kernel_rfl)) rfl
theorem ok117 : TyOK Tryd.prog ty 117 := .array 4 66 ok66 rfl (by kernel_rfl) (by kernel_rfl) (by kernel_rfl) (by kernel_rfl) (by kernel_rfl)
theorem ok119 : TyOK Tryd.prog ty 119 := .array 22 5 ok5 rfl (by kernel_rfl) (by kernel_rfl) (by kernel_rfl) (by kernel_rfl) (by kernel_rfl)
theorem ok135 : TyOK Tryd.prog ty 135 := .pt 135 5 (by kernel_rfl) (.mk (by kernel_rfl)) rfl
theorem tysOK : TysOK Tryd.prog ty := tysOK_of (l := tyTab) rfl ⟨ok2, ok3, ok4, ok5, ok9, ok12, ok15, ok16, ok21, ok22, ok23, ok26, ok27, ok30, ok31, ok32, ok33, ok34, ok35, ok53, ok54, ok65, ok66, ok69, ok75, ok77, ok78, ok79, ok91, ok102, ok107, ok109, ok111, ok117, ok119, ok135, trivial⟩
theorem mixes : Tryd.prog.follows .mixedOrders = true := by kernel_rfl
theorem mxOK : ∀ t n f, ty t = .agg true n f → n ≤ maxLen := mx_of (l := tyTab) rfl (by kernel_rfl)
end Go.Proofs.YtobbphkkebempaaDoor
