/- The types of this program. -/
import Derived.Test.YtklepbocfbhkjaaGE
import Derived.Test.YtklepbocfbhkjaaProg
namespace Go.Proofs.Ytklepbocfbhkjaa
open Go.RowKit
def tyTab : List (Nat × Ty) := [(2, .int .i64),
  (3, .int .i64),
  (4, .bo),
  (5, .int .u8),
  (9, .str),
  (12, .int .u64),
  (15, .pt),
  (16, .pt),
  (21, .int .i32),
  (22, .sl 32),
  (24, .pt),
  (25, .int .i64),
  (28, .pt),
  (30, .int .u32),
  (31, .agg false 5 (nth .no [.int .u8, .int .i64, .int .i64, .int .u32, .int .u32])),
  (32, .agg false 5 (nth .no [.int .u8, .int .i64, .int .i64, .int .u32, .int .u32])),
  (33, .sl 30),
  (37, .sl 4),
  (38, .agg false 2 (nth .no [.sl 30, .sl 4])),
  (39, .agg false 2 (nth .no [.sl 30, .sl 4])),
  (53, .sl 56),
  (54, .agg true 5 (fun _ => .int .u32)),
  (55, .sl 3),
  (56, .int .u16),
  (58, .agg true 64 (fun _ => .int .u32)),
  (59, .sl 66),
  (60, .pt),
  (63, .agg true 32 (fun _ => .int .u8)),
  (64, .agg true 32 (fun _ => .int .u8)),
  (65, .agg false 6 (nth .no [.int .u8, .int .i64, .agg true 32 (fun _ => .int .u8), .int .u8, .bo, .int .u32])),
  (66, .agg false 6 (nth .no [.int .u8, .int .i64, .agg true 32 (fun _ => .int .u8), .int .u8, .bo, .int .u32])),
  (67, .sl 73),
  (72, .agg false 2 (nth .no [.int .i64, .int .u32])),
  (73, .agg false 2 (nth .no [.int .i64, .int .u32])),
  (78, .agg true 16 (fun _ => .int .u8)),
  (81, .sl 5),
  (91, .int .u64),
  (101, .agg false 2 (nth .no [.sl 30, .sl 4])),
  (102, .agg false 2 (nth .no [.sl 30, .sl 4])),
  (106, .agg false 1 (nth .no [.pt])),
  (107, .agg false 1 (nth .no [.pt])),
  (108, .agg false 1 (nth .no [.pt])),
  (112, .pt),
  (115, .sl 81),
  (122, .agg true 64 (fun _ => .int .u32)),
  (124, .int .u64),
  (125, .agg true 9 (fun _ => .int .u32)),
  (135, .pt)]
def ty : TypeId → Ty := tyAt tyTab
theorem ok2 : TyOK Try.prog ty 2 := .int 2 .i64 (by decide) (by kernel_rfl) (.mk (by kernel_rfl)) rfl
theorem ok3 : TyOK Try.prog ty 3 := .int 3 .i64 (by decide) (by kernel_rfl) (.mk (by kernel_rfl)) rfl
theorem ok4 : TyOK Try.prog ty 4 := .bo 4 (by kernel_rfl) (.mk (by kernel_rfl)) rfl
theorem ok5 : TyOK Try.prog ty 5 := .int 5 .u8 (by decide) (by kernel_rfl) (.mk (by kernel_rfl)) rfl
theorem ok9 : TyOK Try.prog ty 9 := .str 9 (by kernel_rfl) (.mk (by kernel_rfl)) rfl
theorem ok12 : TyOK Try.prog ty 12 := .int 12 .u64 (by decide) (by kernel_rfl) (.mk (by kernel_rfl)) rfl
theorem ok15 : TyOK Try.prog ty 15 := .pt 15 128 (by kernel_rfl) (.mk (by kernel_rfl)) rfl
theorem ok16 : TyOK Try.prog ty 16 := .pt 16 131 (by kernel_rfl) (.mk (by kernel_rfl)) rfl
theorem ok21 : TyOK Try.prog ty 21 := .int 21 .i32 (by decide) (by kernel_rfl) (.mk (by kernel_rfl)) rfl
theorem ok30 : TyOK Try.prog ty 30 := .int 30 .u32 (by decide) (by kernel_rfl) (.mk (by kernel_rfl)) rfl
theorem ok32 : TyOK Try.prog ty 32 := .struct [(5, 0), (3, 1), (3, 2), (30, 3), (30, 4)] rfl rfl ⟨ok5, ok3, ok3, ok30, ok30, trivial⟩ ⟨⟨rfl, rfl, rfl⟩, ⟨rfl, rfl, rfl⟩, ⟨rfl, rfl, rfl⟩, ⟨rfl, rfl, rfl⟩, ⟨rfl, rfl, rfl⟩, trivial⟩ (by kernel_rfl) (by kernel_rfl) (by kernel_rfl) (by kernel_rfl) (by kernel_rfl) (by kernel_rfl)
theorem ok22 : TyOK Try.prog ty 22 := .slice 32 ok32 rfl (by kernel_rfl) (by kernel_rfl) (by kernel_rfl)
theorem ok24 : TyOK Try.prog ty 24 := .pt 24 102 (by kernel_rfl) (.mk (by kernel_rfl)) rfl
theorem ok25 : TyOK Try.prog ty 25 := .int 25 .i64 (by decide) (by kernel_rfl) (.mk (by kernel_rfl)) rfl
theorem ok28 : TyOK Try.prog ty 28 := .pt 28 39 (by kernel_rfl) (.mk (by kernel_rfl)) rfl
theorem ok31 : TyOK Try.prog ty 31 := .struct [(5, 0), (3, 1), (3, 2), (30, 3), (30, 4)] rfl rfl ⟨ok5, ok3, ok3, ok30, ok30, trivial⟩ ⟨⟨rfl, rfl, rfl⟩, ⟨rfl, rfl, rfl⟩, ⟨rfl, rfl, rfl⟩, ⟨rfl, rfl, rfl⟩, ⟨rfl, rfl, rfl⟩, trivial⟩ (by kernel_rfl) (by kernel_rfl) (by kernel_rfl) (by kernel_rfl) (by kernel_rfl) (by kernel_rfl)
theorem ok33 : TyOK Try.prog ty 33 := .slice 30 ok30 rfl (by kernel_rfl) (by kernel_rfl) (by kernel_rfl)
theorem ok37 : TyOK Try.prog ty 37 := .slice 4 ok4 rfl (by kernel_rfl) (by kernel_rfl) (by kernel_rfl)
theorem ok38 : TyOK Try.prog ty 38 := .struct [(33, 0), (37, 1)] rfl rfl ⟨ok33, ok37, trivial⟩ ⟨⟨rfl, rfl, rfl⟩, ⟨rfl, rfl, rfl⟩, trivial⟩ (by kernel_rfl) (by kernel_rfl) (by kernel_rfl) (by kernel_rfl) (by kernel_rfl) (by kernel_rfl)
theorem ok39 : TyOK Try.prog ty 39 := .struct [(33, 0), (37, 1)] rfl rfl ⟨ok33, ok37, trivial⟩ ⟨⟨rfl, rfl, rfl⟩, ⟨rfl, rfl, rfl⟩, trivial⟩ (by kernel_rfl) (by kernel_rfl) (by kernel_rfl) (by kernel_rfl) (by kernel_rfl) (by kernel_rfl)
theorem ok56 : TyOK Try.prog ty 56 := .int 56 .u16 (by decide) (by kernel_rfl) (.mk (by kernel_rfl)) rfl
theorem ok53 : TyOK Try.prog ty 53 := .slice 56 ok56 rfl (by kernel_rfl) (by kernel_rfl) (by kernel_rfl)
theorem ok54 : TyOK Try.prog ty 54 := .array 5 30 ok30 rfl (by kernel_rfl) (by kernel_rfl) (by kernel_rfl) (by kernel_rfl) (by kernel_rfl)
theorem ok55 : TyOK Try.prog ty 55 := .slice 3 ok3 rfl (by kernel_rfl) (by kernel_rfl) (by kernel_rfl)
theorem ok58 : TyOK Try.prog ty 58 := .array 64 30 ok30 rfl (by kernel_rfl) (by kernel_rfl) (by kernel_rfl) (by kernel_rfl) (by kernel_rfl)
theorem ok64 : TyOK Try.prog ty 64 := .array 32 5 ok5 rfl (by kernel_rfl) (by kernel_rfl) (by kernel_rfl) (by kernel_rfl) (by kernel_rfl)
theorem ok66 : TyOK Try.prog ty 66 := .struct [(5, 0), (3, 1), (64, 2), (5, 34), (4, 35), (30, 36)] rfl rfl ⟨ok5, ok3, ok64, ok5, ok4, ok30, trivial⟩ ⟨⟨rfl, rfl, rfl⟩, ⟨rfl, rfl, rfl⟩, ⟨rfl, rfl, rfl⟩, ⟨rfl, rfl, rfl⟩, ⟨rfl, rfl, rfl⟩, ⟨rfl, rfl, rfl⟩, trivial⟩ (by kernel_rfl) (by kernel_rfl) (by kernel_rfl) (by kernel_rfl) (by kernel_rfl) (by kernel_rfl)
theorem ok59 : TyOK Try.prog ty 59 := .slice 66 ok66 rfl (by kernel_rfl) (by kernel_rfl) (by kernel_rfl)
theorem ok60 : TyOK Try.prog ty 60 := .pt 60 107 (by kernel_rfl) (.mk (by kernel_rfl)) rfl
theorem ok63 : TyOK Try.prog ty 63 := .array 32 5 ok5 rfl (by kernel_rfl) (by kernel_rfl) (by kernel_rfl) (by kernel_rfl) (by kernel_rfl)
theorem ok65 : TyOK Try.prog ty 65 := .struct [(5, 0), (3, 1), (64, 2), (5, 34), (4, 35), (30, 36)] rfl rfl ⟨ok5, ok3, ok64, ok5, ok4, ok30, trivial⟩ ⟨⟨rfl, rfl, rfl⟩, ⟨rfl, rfl, rfl⟩, ⟨rfl, rfl, rfl⟩, ⟨rfl, rfl, rfl⟩, ⟨rfl, rfl, rfl⟩, ⟨rfl, rfl, rfl⟩, trivial⟩ (by kernel_rfl) (by kernel_rfl) (by kernel_rfl) (by kernel_rfl) (by kernel_rfl) (by kernel_rfl)
theorem ok73 : TyOK Try.prog ty 73 := .struct [(3, 0), (30, 1)] rfl rfl ⟨ok3, ok30, trivial⟩ ⟨⟨rfl, rfl, rfl⟩, ⟨rfl, rfl, rfl⟩, trivial⟩ (by kernel_rfl) (by kernel_rfl) (by kernel_rfl) (by kernel_rfl) (by kernel_rfl) (by kernel_rfl)
theorem ok67 : TyOK Try.prog ty 67 := .slice 73 ok73 rfl (by kernel_rfl) (by kernel_rfl) (by kernel_rfl)
theorem ok72 : TyOK Try.prog ty 72 := .struct [(3, 0), (30, 1)] rfl rfl ⟨ok3, ok30, trivial⟩ ⟨⟨rfl, rfl, rfl⟩, ⟨rfl, rfl, rfl⟩, trivial⟩ (by kernel_rfl) (by kernel_rfl) (by kernel_rfl) (by kernel_rfl) (by kernel_rfl) (by kernel_rfl)
theorem ok78 : TyOK Try.prog ty 78 := .array 16 5 ok5 rfl (by kernel_rfl) (by kernel_rfl) (by kernel_rfl) (by kernel_rfl) (by kernel_rfl)
theorem ok81 : TyOK Try.prog ty 81 := .slice 5 ok5 rfl (by kernel_rfl) (by kernel_rfl) (by kernel_rfl)
theorem ok91 : TyOK Try.prog ty 91 := .int 91 .u64 (by decide) (by kernel_rfl) (.mk (by kernel_rfl)) rfl
theorem ok101 : TyOK Try.prog ty 101 := .struct [(33, 0), (37, 1)] rfl rfl ⟨ok33, ok37, trivial⟩ ⟨⟨rfl, rfl, rfl⟩, ⟨rfl, rfl, rfl⟩, trivial⟩ (by kernel_rfl) (by kernel_rfl) (by kernel_rfl) (by kernel_rfl) (by kernel_rfl) (by kernel_rfl)
theorem ok102 : TyOK Try.prog ty 102 := .struct [(33, 0), (37, 1)] rfl rfl ⟨ok33, ok37, trivial⟩ ⟨⟨rfl, rfl, rfl⟩, ⟨rfl, rfl, rfl⟩, trivial⟩ (by kernel_rfl) (by kernel_rfl) (by kernel_rfl) (by kernel_rfl) (by kernel_rfl) (by kernel_rfl)
theorem ok106 : TyOK Try.prog ty 106 := .struct [(24, 0)] rfl rfl ⟨ok24, trivial⟩ ⟨⟨rfl, rfl, rfl⟩, trivial⟩ (by kernel_rfl) (by kernel_rfl) (by kernel_rfl) (by kernel_rfl) (by kernel_rfl) (by kernel_rfl)
theorem ok107 : TyOK Try.prog ty 107 := .struct [(24, 0)] rfl rfl ⟨ok24, trivial⟩ ⟨⟨rfl, rfl, rfl⟩, trivial⟩ (by kernel_rfl) (by kernel_rfl) (by kernel_rfl) (by kernel_rfl) (by kernel_rfl) (by kernel_rfl)
theorem ok108 : TyOK Try.prog ty 108 := .struct [(24, 0)] rfl rfl ⟨ok24, trivial⟩ ⟨⟨rfl, rfl, rfl⟩, trivial⟩ (by kernel_rfl) (by kernel_rfl) (by kernel_rfl) (by kernel_rfl) (by kernel_rfl) (by kernel_rfl)
theorem ok112 : TyOK Try.prog ty 112 := .pt 112 122 (by kernel_rfl) (.mk (by kernel_rfl)) rfl
theorem ok115 : TyOK Try.prog ty 115 := .slice 81 ok81 rfl (by kernel_rfl) (by kernel_rfl) (by kernel_rfl)
theorem ok122 : TyOK Try.prog ty 122 := .array 64 30 ok30 rfl (by kernel_rfl) (by kernel_rfl) (by kernel_rfl) (by kernel_rfl) (by kernel_rfl)
theorem ok124 : TyOK Try.prog ty 124 := .int 124 .u64 (by decide) (by kernel_rfl) (.mk (by kernel_rfl)) rfl
theorem ok125 : TyOK Try.prog ty 125 := .array 9 30 ok30 rfl (by kernel_rfl) (by kernel_rfl) (by kernel_rfl) (by kernel_rfl) (by kernel_rfl)
theorem ok135 : TyOK Try.prog ty 135 := .pt 135 5 (by kernel_rfl) (.mk (by kernel_rfl)) rfl
theorem tysOK : TysOK Try.prog ty := tysOK_of (l := tyTab) rfl ⟨ok2, ok3, ok4, ok5, ok9, ok12, ok15, ok16, ok21, ok22, ok24, ok25, ok28, ok30, ok31, ok32, ok33, ok37, ok38, ok39, ok53, ok54, ok55, ok56, ok58, ok59, ok60, ok63, ok64, ok65, ok66, ok67, ok72, ok73, ok78, ok81, ok91, ok101, ok102, ok106, ok107, ok108, ok112, ok115, ok122, ok124, ok125, ok135, trivial⟩
theorem mixes : Try.prog.follows .mixedOrders = true := by kernel_rfl
theorem mxOK : ∀ t n f, ty t = .agg true n f → n ≤ maxLen := mx_of (l := tyTab) rfl (by kernel_rfl)
end Go.Proofs.Ytklepbocfbhkjaa
