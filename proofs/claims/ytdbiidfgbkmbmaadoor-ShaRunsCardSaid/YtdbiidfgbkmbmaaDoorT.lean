/- The types of this program. -/
import Derived.Test.YtdbiidfgbkmbmaaDoorE29
import Derived.Test.YtdbiidfgbkmbmaaDoorProg
namespace Go.Proofs.YtdbiidfgbkmbmaaDoor
open Go.RowKit
def tyTab : List (Nat × Ty) := [(2, .int .i64),
  (3, .int .i64),
  (4, .bo),
  (5, .int .u8),
  (9, .str),
  (12, .int .u64),
  (15, .pt),
  (16, .pt),
  (21, .int .i32),
  (22, .sl 5),
  (23, .int .u16),
  (26, .agg true 32 (fun _ => .int .u8)),
  (27, .agg true 32 (fun _ => .int .u8)),
  (30, .int .u32),
  (31, .agg true 8 (fun _ => .int .u32)),
  (32, .agg true 64 (fun _ => .int .u8)),
  (33, .int .u64),
  (34, .agg false 3 (nth .no [.agg true 8 (fun _ => .int .u32), .agg true 64 (fun _ => .int .u8), .int .u64])),
  (35, .agg false 3 (nth .no [.agg true 8 (fun _ => .int .u32), .agg true 64 (fun _ => .int .u8), .int .u64])),
  (53, .agg false 2 (nth .no [.agg false 3 (nth .no [.agg true 8 (fun _ => .int .u32), .agg true 64 (fun _ => .int .u8), .int .u64]), .agg false 3 (nth .no [.agg true 8 (fun _ => .int .u32), .agg true 64 (fun _ => .int .u8), .int .u64])])),
  (54, .agg false 2 (nth .no [.agg false 3 (nth .no [.agg true 8 (fun _ => .int .u32), .agg true 64 (fun _ => .int .u8), .int .u64]), .agg false 3 (nth .no [.agg true 8 (fun _ => .int .u32), .agg true 64 (fun _ => .int .u8), .int .u64])])),
  (65, .sl 22),
  (68, .agg true 64 (fun _ => .int .u32)),
  (70, .sl 30),
  (72, .int .u64),
  (90, .pt)]
def ty : TypeId → Ty := tyAt tyTab
theorem ok2 : TyOK Tryd.prog ty 2 := .int 2 .i64 (by decide) (by kernel_rfl) (.mk (by kernel_rfl)) rfl
theorem ok3 : TyOK Tryd.prog ty 3 := .int 3 .i64 (by decide) (by kernel_rfl) (.mk (by kernel_rfl)) rfl
theorem ok4 : TyOK Tryd.prog ty 4 := .bo 4 (by kernel_rfl) (.mk (by kernel_rfl)) rfl
theorem ok5 : TyOK Tryd.prog ty 5 := .int 5 .u8 (by decide) (by kernel_rfl) (.mk (by kernel_rfl)) rfl
theorem ok9 : TyOK Tryd.prog ty 9 := .str 9 (by kernel_rfl) (.mk (by kernel_rfl)) rfl
theorem ok12 : TyOK Tryd.prog ty 12 := .int 12 .u64 (by decide) (by kernel_rfl) (.mk (by kernel_rfl)) rfl
theorem ok15 : TyOK Tryd.prog ty 15 := .pt 15 82 (by kernel_rfl) (.mk (by kernel_rfl)) rfl
theorem ok16 : TyOK Tryd.prog ty 16 := .pt 16 85 (by kernel_rfl) (.mk (by kernel_rfl)) rfl
theorem ok21 : TyOK Tryd.prog ty 21 := .int 21 .i32 (by decide) (by kernel_rfl) (.mk (by kernel_rfl)) rfl
theorem ok22 : TyOK Tryd.prog ty 22 := .slice 5 ok5 rfl (by kernel_rfl) (by kernel_rfl) (by kernel_rfl)
theorem ok23 : TyOK Tryd.prog ty 23 := .int 23 .u16 (by decide) (by kernel_rfl) (.mk (by kernel_rfl)) rfl
theorem ok26 : TyOK Tryd.prog ty 26 := .array 32 5 ok5 rfl (by kernel_rfl) (by kernel_rfl) (by kernel_rfl) (by kernel_rfl) (by kernel_rfl)
theorem ok27 : TyOK Tryd.prog ty 27 := .array 32 5 ok5 rfl (by kernel_rfl) (by kernel_rfl) (by kernel_rfl) (by kernel_rfl) (by kernel_rfl)
theorem ok30 : TyOK Tryd.prog ty 30 := .int 30 .u32 (by decide) (by kernel_rfl) (.mk (by kernel_rfl)) rfl
theorem ok31 : TyOK Tryd.prog ty 31 := .array 8 30 ok30 rfl (by kernel_rfl) (by kernel_rfl) (by kernel_rfl) (by kernel_rfl) (by kernel_rfl)
theorem ok32 : TyOK Tryd.prog ty 32 := .array 64 5 ok5 rfl (by kernel_rfl) (by kernel_rfl) (by kernel_rfl) (by kernel_rfl) (by kernel_rfl)
theorem ok33 : TyOK Tryd.prog ty 33 := .int 33 .u64 (by decide) (by kernel_rfl) (.mk (by kernel_rfl)) rfl
theorem ok34 : TyOK Tryd.prog ty 34 := .struct [(31, 0), (32, 8), (33, 72)] rfl rfl ⟨ok31, ok32, ok33, trivial⟩ ⟨⟨rfl, rfl, rfl⟩, ⟨rfl, rfl, rfl⟩, ⟨rfl, rfl, rfl⟩, trivial⟩ (by kernel_rfl) (by kernel_rfl) (by kernel_rfl) (by kernel_rfl) (by kernel_rfl) (by kernel_rfl)
theorem ok35 : TyOK Tryd.prog ty 35 := .struct [(31, 0), (32, 8), (33, 72)] rfl rfl ⟨ok31, ok32, ok33, trivial⟩ ⟨⟨rfl, rfl, rfl⟩, ⟨rfl, rfl, rfl⟩, ⟨rfl, rfl, rfl⟩, trivial⟩ (by kernel_rfl) (by kernel_rfl) (by kernel_rfl) (by kernel_rfl) (by kernel_rfl) (by kernel_rfl)
theorem ok53 : TyOK Tryd.prog ty 53 := .struct [(35, 0), (35, 73)] rfl rfl ⟨ok35, ok35, trivial⟩ ⟨⟨rfl, rfl, rfl⟩, ⟨rfl, rfl, rfl⟩, trivial⟩ (by kernel_rfl) (by kernel_rfl) (by kernel_rfl) (by kernel_rfl) (by kernel_rfl) (by kernel_rfl)
theorem ok54 : TyOK Tryd.prog ty 54 := .struct [(35, 0), (35, 73)] rfl rfl ⟨ok35, ok35, trivial⟩ ⟨⟨rfl, rfl, rfl⟩, ⟨rfl, rfl, rfl⟩, trivial⟩ (by kernel_rfl) (by kernel_rfl) (by kernel_rfl) (by kernel_rfl) (by kernel_rfl) (by kernel_rfl)
theorem ok65 : TyOK Tryd.prog ty 65 := .slice 22 ok22 rfl (by kernel_rfl) (by kernel_rfl) (by kernel_rfl)
theorem ok68 : TyOK Tryd.prog ty 68 := .array 64 30 ok30 rfl (by kernel_rfl) (by kernel_rfl) (by kernel_rfl) (by kernel_rfl) (by kernel_rfl)
theorem ok70 : TyOK Tryd.prog ty 70 := .slice 30 ok30 rfl (by kernel_rfl) (by kernel_rfl) (by kernel_rfl)
theorem ok72 : TyOK Tryd.prog ty 72 := .int 72 .u64 (by decide) (by kernel_rfl) (.mk (by kernel_rfl)) rfl
theorem ok90 : TyOK Tryd.prog ty 90 := .pt 90 5 (by kernel_rfl) (.mk (by kernel_rfl)) rfl
theorem tysOK : TysOK Tryd.prog ty := tysOK_of (l := tyTab) rfl ⟨ok2, ok3, ok4, ok5, ok9, ok12, ok15, ok16, ok21, ok22, ok23, ok26, ok27, ok30, ok31, ok32, ok33, ok34, ok35, ok53, ok54, ok65, ok68, ok70, ok72, ok90, trivial⟩
theorem mixes : Tryd.prog.follows .mixedOrders = true := by kernel_rfl
theorem mxOK : ∀ t n f, ty t = .agg true n f → n ≤ maxLen := mx_of (l := tyTab) rfl (by kernel_rfl)
end Go.Proofs.YtdbiidfgbkmbmaaDoor
