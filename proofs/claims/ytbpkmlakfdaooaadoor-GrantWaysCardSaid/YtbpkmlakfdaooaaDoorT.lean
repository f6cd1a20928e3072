/- The types of this program. -/
import Derived.Test.YtbpkmlakfdaooaaDoorGE
import Derived.Test.YtbpkmlakfdaooaaDoorProg
namespace Go.Proofs.YtbpkmlakfdaooaaDoor
open Go.RowKit
def tyTab : List (Nat × Ty) := [(2, .int .i64),
  (3, .int .i64),
  (4, .bo),
  (5, .int .u8),
  (9, .str),
  (12, .int .u64),
  (15, .pt),
  (16, .pt),
  (21, .int .i32),
  (22, .int .u32),
  (23, .agg false 6 (nth .no [.int .i64, .int .i64, .int .u32, .int .i64, .bo, .bo])),
  (24, .agg false 6 (nth .no [.int .i64, .int .i64, .int .u32, .int .i64, .bo, .bo])),
  (26, .int .i64),
  (32, .fu),
  (41, .agg false 2 (nth .no [.fu, .int .i64])),
  (42, .agg false 2 (nth .no [.fu, .int .i64])),
  (43, .agg true 4 (fun _ => .agg false 2 (nth .no [.fu, .int .i64]))),
  (45, .sl 24),
  (46, .agg false 2 (nth .no [.int .u32, .int .u32])),
  (47, .agg true 6 (fun _ => .agg false 2 (nth .no [.int .u32, .int .u32]))),
  (48, .int .u64),
  (49, .int .u8),
  (50, .agg false 5 (nth .no [.int .u8, .int .u8, .int .u8, .int .u8, .int .u8])),
  (51, .agg false 5 (nth .no [.int .u8, .int .u8, .int .u8, .int .u8, .int .u8])),
  (53, .agg false 2 (nth .no [.int .i64, .int .i64])),
  (54, .agg false 2 (nth .no [.int .i64, .int .i64])),
  (57, .sl 9),
  (58, .mp 54 51),
  (69, .pt)]
def ty : TypeId → Ty := tyAt tyTab
theorem ok2 : TyOK Tryd.prog ty 2 := .int 2 .i64 (by decide) (by kernel_rfl) (.mk (by kernel_rfl)) rfl
theorem ok3 : TyOK Tryd.prog ty 3 := .int 3 .i64 (by decide) (by kernel_rfl) (.mk (by kernel_rfl)) rfl
theorem ok4 : TyOK Tryd.prog ty 4 := .bo 4 (by kernel_rfl) (.mk (by kernel_rfl)) rfl
theorem ok5 : TyOK Tryd.prog ty 5 := .int 5 .u8 (by decide) (by kernel_rfl) (.mk (by kernel_rfl)) rfl
theorem ok9 : TyOK Tryd.prog ty 9 := .str 9 (by kernel_rfl) (.mk (by kernel_rfl)) rfl
theorem ok12 : TyOK Tryd.prog ty 12 := .int 12 .u64 (by decide) (by kernel_rfl) (.mk (by kernel_rfl)) rfl
theorem ok15 : TyOK Tryd.prog ty 15 := .pt 15 61 (by kernel_rfl) (.mk (by kernel_rfl)) rfl
theorem ok16 : TyOK Tryd.prog ty 16 := .pt 16 64 (by kernel_rfl) (.mk (by kernel_rfl)) rfl
theorem ok21 : TyOK Tryd.prog ty 21 := .int 21 .i32 (by decide) (by kernel_rfl) (.mk (by kernel_rfl)) rfl
theorem ok22 : TyOK Tryd.prog ty 22 := .int 22 .u32 (by decide) (by kernel_rfl) (.mk (by kernel_rfl)) rfl
theorem ok23 : TyOK Tryd.prog ty 23 := .struct [(3, 0), (3, 1), (22, 2), (3, 3), (4, 4), (4, 5)] rfl rfl ⟨ok3, ok3, ok22, ok3, ok4, ok4, trivial⟩ ⟨⟨rfl, rfl, rfl⟩, ⟨rfl, rfl, rfl⟩, ⟨rfl, rfl, rfl⟩, ⟨rfl, rfl, rfl⟩, ⟨rfl, rfl, rfl⟩, ⟨rfl, rfl, rfl⟩, trivial⟩ (by kernel_rfl) (by kernel_rfl) (by kernel_rfl) (by kernel_rfl) (by kernel_rfl) (by kernel_rfl)
theorem ok24 : TyOK Tryd.prog ty 24 := .struct [(3, 0), (3, 1), (22, 2), (3, 3), (4, 4), (4, 5)] rfl rfl ⟨ok3, ok3, ok22, ok3, ok4, ok4, trivial⟩ ⟨⟨rfl, rfl, rfl⟩, ⟨rfl, rfl, rfl⟩, ⟨rfl, rfl, rfl⟩, ⟨rfl, rfl, rfl⟩, ⟨rfl, rfl, rfl⟩, ⟨rfl, rfl, rfl⟩, trivial⟩ (by kernel_rfl) (by kernel_rfl) (by kernel_rfl) (by kernel_rfl) (by kernel_rfl) (by kernel_rfl)
theorem ok26 : TyOK Tryd.prog ty 26 := .int 26 .i64 (by decide) (by kernel_rfl) (.mk (by kernel_rfl)) rfl
theorem ok32 : TyOK Tryd.prog ty 32 := .fu 32 #[24] #[4] false (by kernel_rfl) (.mk (by kernel_rfl)) rfl
theorem ok41 : TyOK Tryd.prog ty 41 := .struct [(32, 0), (26, 1)] rfl rfl ⟨ok32, ok26, trivial⟩ ⟨⟨rfl, rfl, rfl⟩, ⟨rfl, rfl, rfl⟩, trivial⟩ (by kernel_rfl) (by kernel_rfl) (by kernel_rfl) (by kernel_rfl) (by kernel_rfl) (by kernel_rfl)
theorem ok42 : TyOK Tryd.prog ty 42 := .struct [(32, 0), (26, 1)] rfl rfl ⟨ok32, ok26, trivial⟩ ⟨⟨rfl, rfl, rfl⟩, ⟨rfl, rfl, rfl⟩, trivial⟩ (by kernel_rfl) (by kernel_rfl) (by kernel_rfl) (by kernel_rfl) (by kernel_rfl) (by kernel_rfl)
theorem ok43 : TyOK Tryd.prog ty 43 := .array 4 42 ok42 rfl (by kernel_rfl) (by kernel_rfl) (by kernel_rfl) (by kernel_rfl) (by kernel_rfl)
theorem ok45 : TyOK Tryd.prog ty 45 := .slice 24 ok24 rfl (by kernel_rfl) (by kernel_rfl) (by kernel_rfl)
theorem ok46 : TyOK Tryd.prog ty 46 := .struct [(22, 0), (22, 1)] rfl rfl ⟨ok22, ok22, trivial⟩ ⟨⟨rfl, rfl, rfl⟩, ⟨rfl, rfl, rfl⟩, trivial⟩ (by kernel_rfl) (by kernel_rfl) (by kernel_rfl) (by kernel_rfl) (by kernel_rfl) (by kernel_rfl)
theorem ok47 : TyOK Tryd.prog ty 47 := .array 6 46 ok46 rfl (by kernel_rfl) (by kernel_rfl) (by kernel_rfl) (by kernel_rfl) (by kernel_rfl)
theorem ok48 : TyOK Tryd.prog ty 48 := .int 48 .u64 (by decide) (by kernel_rfl) (.mk (by kernel_rfl)) rfl
theorem ok49 : TyOK Tryd.prog ty 49 := .int 49 .u8 (by decide) (by kernel_rfl) (.mk (by kernel_rfl)) rfl
theorem ok50 : TyOK Tryd.prog ty 50 := .struct [(49, 0), (49, 1), (49, 2), (49, 3), (49, 4)] rfl rfl ⟨ok49, ok49, ok49, ok49, ok49, trivial⟩ ⟨⟨rfl, rfl, rfl⟩, ⟨rfl, rfl, rfl⟩, ⟨rfl, rfl, rfl⟩, ⟨rfl, rfl, rfl⟩, ⟨rfl, rfl, rfl⟩, trivial⟩ (by kernel_rfl) (by kernel_rfl) (by kernel_rfl) (by kernel_rfl) (by kernel_rfl) (by kernel_rfl)
theorem ok51 : TyOK Tryd.prog ty 51 := .struct [(49, 0), (49, 1), (49, 2), (49, 3), (49, 4)] rfl rfl ⟨ok49, ok49, ok49, ok49, ok49, trivial⟩ ⟨⟨rfl, rfl, rfl⟩, ⟨rfl, rfl, rfl⟩, ⟨rfl, rfl, rfl⟩, ⟨rfl, rfl, rfl⟩, ⟨rfl, rfl, rfl⟩, trivial⟩ (by kernel_rfl) (by kernel_rfl) (by kernel_rfl) (by kernel_rfl) (by kernel_rfl) (by kernel_rfl)
theorem ok53 : TyOK Tryd.prog ty 53 := .struct [(3, 0), (3, 1)] rfl rfl ⟨ok3, ok3, trivial⟩ ⟨⟨rfl, rfl, rfl⟩, ⟨rfl, rfl, rfl⟩, trivial⟩ (by kernel_rfl) (by kernel_rfl) (by kernel_rfl) (by kernel_rfl) (by kernel_rfl) (by kernel_rfl)
theorem ok54 : TyOK Tryd.prog ty 54 := .struct [(3, 0), (3, 1)] rfl rfl ⟨ok3, ok3, trivial⟩ ⟨⟨rfl, rfl, rfl⟩, ⟨rfl, rfl, rfl⟩, trivial⟩ (by kernel_rfl) (by kernel_rfl) (by kernel_rfl) (by kernel_rfl) (by kernel_rfl) (by kernel_rfl)
theorem ok57 : TyOK Tryd.prog ty 57 := .slice 9 ok9 rfl (by kernel_rfl) (by kernel_rfl) (by kernel_rfl)
theorem ok58 : TyOK Tryd.prog ty 58 := .mp 58 54 51 (by kernel_rfl) (.mk (by kernel_rfl)) ok54 ok51 rfl
theorem ok69 : TyOK Tryd.prog ty 69 := .pt 69 5 (by kernel_rfl) (.mk (by kernel_rfl)) rfl
theorem tysOK : TysOK Tryd.prog ty := tysOK_of (l := tyTab) rfl ⟨ok2, ok3, ok4, ok5, ok9, ok12, ok15, ok16, ok21, ok22, ok23, ok24, ok26, ok32, ok41, ok42, ok43, ok45, ok46, ok47, ok48, ok49, ok50, ok51, ok53, ok54, ok57, ok58, ok69, trivial⟩
theorem mixes : Tryd.prog.follows .mixedOrders = true := by kernel_rfl
theorem mxOK : ∀ t n f, ty t = .agg true n f → n ≤ maxLen := mx_of (l := tyTab) rfl (by kernel_rfl)
end Go.Proofs.YtbpkmlakfdaooaaDoor
