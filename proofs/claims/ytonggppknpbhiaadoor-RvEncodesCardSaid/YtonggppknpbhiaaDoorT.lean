/- The types of this program. -/
import Derived.Test.YtonggppknpbhiaaDoorGE
import Derived.Test.YtonggppknpbhiaaDoorProg
namespace Go.Proofs.YtonggppknpbhiaaDoor
open Go.RowKit
def tyTab : List (Nat × Ty) := [(2, .int .i64),
  (3, .int .i64),
  (4, .bo),
  (5, .int .u8),
  (9, .str),
  (12, .int .u64),
  (15, .pt),
  (16, .pt),
  (21, .int .i32),
  (22, .int .u32),
  (23, .int .u16),
  (24, .agg false 6 (nth .no [.int .u8, .int .u8, .int .u8, .int .u8, .int .u32, .int .u16])),
  (25, .agg false 6 (nth .no [.int .u8, .int .u8, .int .u8, .int .u8, .int .u32, .int .u16])),
  (29, .agg false 6 (nth .no [.int .u8, .int .u8, .int .u8, .int .u8, .int .u32, .int .u16])),
  (35, .int .u64),
  (36, .int .u64),
  (38, .sl 25),
  (39, .sl 5),
  (45, .int .i64),
  (48, .agg false 3 (nth .no [.int .u8, .int .u8, .int .u8])),
  (49, .agg false 3 (nth .no [.int .u8, .int .u8, .int .u8])),
  (50, .agg true 4 (fun _ => .agg false 3 (nth .no [.int .u8, .int .u8, .int .u8]))),
  (51, .agg false 7 (nth .no [.int .u32, .int .u32, .int .u32, .int .u32, .int .u32, .agg true 4 (fun _ => .agg false 3 (nth .no [.int .u8, .int .u8, .int .u8])), .int .u8])),
  (52, .agg false 7 (nth .no [.int .u32, .int .u32, .int .u32, .int .u32, .int .u32, .agg true 4 (fun _ => .agg false 3 (nth .no [.int .u8, .int .u8, .int .u8])), .int .u8])),
  (61, .mp 22 5),
  (66, .agg true 57 (fun _ => .str)),
  (80, .pt)]
def ty : TypeId → Ty := tyAt tyTab
theorem ok2 : TyOK Tryd.prog ty 2 := .int 2 .i64 (by decide) (by kernel_rfl) (.mk (by kernel_rfl)) rfl
theorem ok3 : TyOK Tryd.prog ty 3 := .int 3 .i64 (by decide) (by kernel_rfl) (.mk (by kernel_rfl)) rfl
theorem ok4 : TyOK Tryd.prog ty 4 := .bo 4 (by kernel_rfl) (.mk (by kernel_rfl)) rfl
theorem ok5 : TyOK Tryd.prog ty 5 := .int 5 .u8 (by decide) (by kernel_rfl) (.mk (by kernel_rfl)) rfl
theorem ok9 : TyOK Tryd.prog ty 9 := .str 9 (by kernel_rfl) (.mk (by kernel_rfl)) rfl
theorem ok12 : TyOK Tryd.prog ty 12 := .int 12 .u64 (by decide) (by kernel_rfl) (.mk (by kernel_rfl)) rfl
theorem ok15 : TyOK Tryd.prog ty 15 := .pt 15 72 (by kernel_rfl) (.mk (by kernel_rfl)) rfl
theorem ok16 : TyOK Tryd.prog ty 16 := .pt 16 75 (by kernel_rfl) (.mk (by kernel_rfl)) rfl
theorem ok21 : TyOK Tryd.prog ty 21 := .int 21 .i32 (by decide) (by kernel_rfl) (.mk (by kernel_rfl)) rfl
theorem ok22 : TyOK Tryd.prog ty 22 := .int 22 .u32 (by decide) (by kernel_rfl) (.mk (by kernel_rfl)) rfl
theorem ok23 : TyOK Tryd.prog ty 23 := .int 23 .u16 (by decide) (by kernel_rfl) (.mk (by kernel_rfl)) rfl
theorem ok24 : TyOK Tryd.prog ty 24 := .struct [(5, 0), (5, 1), (5, 2), (5, 3), (22, 4), (23, 5)] rfl rfl ⟨ok5, ok5, ok5, ok5, ok22, ok23, trivial⟩ ⟨⟨rfl, rfl, rfl⟩, ⟨rfl, rfl, rfl⟩, ⟨rfl, rfl, rfl⟩, ⟨rfl, rfl, rfl⟩, ⟨rfl, rfl, rfl⟩, ⟨rfl, rfl, rfl⟩, trivial⟩ (by kernel_rfl) (by kernel_rfl) (by kernel_rfl) (by kernel_rfl) (by kernel_rfl) (by kernel_rfl)
theorem ok25 : TyOK Tryd.prog ty 25 := .struct [(5, 0), (5, 1), (5, 2), (5, 3), (22, 4), (23, 5)] rfl rfl ⟨ok5, ok5, ok5, ok5, ok22, ok23, trivial⟩ ⟨⟨rfl, rfl, rfl⟩, ⟨rfl, rfl, rfl⟩, ⟨rfl, rfl, rfl⟩, ⟨rfl, rfl, rfl⟩, ⟨rfl, rfl, rfl⟩, ⟨rfl, rfl, rfl⟩, trivial⟩ (by kernel_rfl) (by kernel_rfl) (by kernel_rfl) (by kernel_rfl) (by kernel_rfl) (by kernel_rfl)
theorem ok29 : TyOK Tryd.prog ty 29 := .struct [(5, 0), (5, 1), (5, 2), (5, 3), (22, 4), (23, 5)] rfl rfl ⟨ok5, ok5, ok5, ok5, ok22, ok23, trivial⟩ ⟨⟨rfl, rfl, rfl⟩, ⟨rfl, rfl, rfl⟩, ⟨rfl, rfl, rfl⟩, ⟨rfl, rfl, rfl⟩, ⟨rfl, rfl, rfl⟩, ⟨rfl, rfl, rfl⟩, trivial⟩ (by kernel_rfl) (by kernel_rfl) (by kernel_rfl) (by kernel_rfl) (by kernel_rfl) (by kernel_rfl)
theorem ok35 : TyOK Tryd.prog ty 35 := .int 35 .u64 (by decide) (by kernel_rfl) (.mk (by kernel_rfl)) rfl
theorem ok36 : TyOK Tryd.prog ty 36 := .int 36 .u64 (by decide) (by kernel_rfl) (.mk (by kernel_rfl)) rfl
theorem ok38 : TyOK Tryd.prog ty 38 := .slice 25 ok25 rfl (by kernel_rfl) (by kernel_rfl) (by kernel_rfl)
theorem ok39 : TyOK Tryd.prog ty 39 := .slice 5 ok5 rfl (by kernel_rfl) (by kernel_rfl) (by kernel_rfl)
theorem ok45 : TyOK Tryd.prog ty 45 := .int 45 .i64 (by decide) (by kernel_rfl) (.mk (by kernel_rfl)) rfl
theorem ok48 : TyOK Tryd.prog ty 48 := .struct [(5, 0), (5, 1), (5, 2)] rfl rfl ⟨ok5, ok5, ok5, trivial⟩ ⟨⟨rfl, rfl, rfl⟩, ⟨rfl, rfl, rfl⟩, ⟨rfl, rfl, rfl⟩, trivial⟩ (by kernel_rfl) (by kernel_rfl) (by kernel_rfl) (by kernel_rfl) (by kernel_rfl) (by kernel_rfl)
theorem ok49 : TyOK Tryd.prog ty 49 := .struct [(5, 0), (5, 1), (5, 2)] rfl rfl ⟨ok5, ok5, ok5, trivial⟩ ⟨⟨rfl, rfl, rfl⟩, ⟨rfl, rfl, rfl⟩, ⟨rfl, rfl, rfl⟩, trivial⟩ (by kernel_rfl) (by kernel_rfl) (by kernel_rfl) (by kernel_rfl) (by kernel_rfl) (by kernel_rfl)
theorem ok50 : TyOK Tryd.prog ty 50 := .array 4 49 ok49 rfl (by kernel_rfl) (by kernel_rfl) (by kernel_rfl) (by kernel_rfl) (by kernel_rfl)
theorem ok51 : TyOK Tryd.prog ty 51 := .struct [(22, 0), (22, 1), (22, 2), (22, 3), (22, 4), (50, 5), (5, 17)] rfl rfl ⟨ok22, ok22, ok22, ok22, ok22, ok50, ok5, trivial⟩ ⟨⟨rfl, rfl, rfl⟩, ⟨rfl, rfl, rfl⟩, ⟨rfl, rfl, rfl⟩, ⟨rfl, rfl, rfl⟩, ⟨rfl, rfl, rfl⟩, ⟨rfl, rfl, rfl⟩, ⟨rfl, rfl, rfl⟩, trivial⟩ (by kernel_rfl) (by kernel_rfl) (by kernel_rfl) (by kernel_rfl) (by kernel_rfl) (by kernel_rfl)
theorem ok52 : TyOK Tryd.prog ty 52 := .struct [(22, 0), (22, 1), (22, 2), (22, 3), (22, 4), (50, 5), (5, 17)] rfl rfl ⟨ok22, ok22, ok22, ok22, ok22, ok50, ok5, trivial⟩ ⟨⟨rfl, rfl, rfl⟩, ⟨rfl, rfl, rfl⟩, ⟨rfl, rfl, rfl⟩, ⟨rfl, rfl, rfl⟩, ⟨rfl, rfl, rfl⟩, ⟨rfl, rfl, rfl⟩, ⟨rfl, rfl, rfl⟩, trivial⟩ (by kernel_rfl) (by kernel_rfl) (by kernel_rfl) (by kernel_rfl) (by kernel_rfl) (by kernel_rfl)
theorem ok61 : TyOK Tryd.prog ty 61 := .mp 61 22 5 (by kernel_rfl) (.mk (by kernel_rfl)) ok22 ok5 rfl
theorem ok66 : TyOK Tryd.prog ty 66 := .array 57 9 ok9 rfl (by kernel_rfl) (by kernel_rfl) (by kernel_rfl) (by kernel_rfl) (by kernel_rfl)
theorem ok80 : TyOK Tryd.prog ty 80 := .pt 80 5 (by kernel_rfl) (.mk (by kernel_rfl)) rfl
theorem tysOK : TysOK Tryd.prog ty := tysOK_of (l := tyTab) rfl ⟨ok2, ok3, ok4, ok5, ok9, ok12, ok15, ok16, ok21, ok22, ok23, ok24, ok25, ok29, ok35, ok36, ok38, ok39, ok45, ok48, ok49, ok50, ok51, ok52, ok61, ok66, ok80, trivial⟩
theorem mixes : Tryd.prog.follows .mixedOrders = true := by kernel_rfl
theorem mxOK : ∀ t n f, ty t = .agg true n f → n ≤ maxLen := mx_of (l := tyTab) rfl (by kernel_rfl)
end Go.Proofs.YtonggppknpbhiaaDoor
