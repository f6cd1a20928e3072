/- The types of this program. -/
import Derived.Test.YtaajedeapmphpaaGE
import Derived.Test.YtaajedeapmphpaaProg
namespace Go.Proofs.Ytaajedeapmphpaa
open Go.RowKit
def tyTab : List (Nat × Ty) := [(2, .int .i64),
  (3, .int .i64),
  (4, .bo),
  (5, .int .u8),
  (9, .str),
  (12, .int .u64),
  (15, .pt),
  (16, .pt),
  (21, .int .i32),
  (22, .agg true 32 (fun _ => .int .u8)),
  (23, .agg true 16 (fun _ => .int .u8)),
  (24, .agg true 16 (fun _ => .int .u8)),
  (25, .sl 5),
  (27, .int .u32),
  (28, .agg true 60 (fun _ => .int .u32)),
  (29, .agg false 2 (nth .no [.int .i64, .agg true 60 (fun _ => .int .u32)])),
  (30, .agg false 2 (nth .no [.int .i64, .agg true 60 (fun _ => .int .u32)])),
  (31, .agg false 4 (nth .no [.agg false 2 (nth .no [.int .i64, .agg true 60 (fun _ => .int .u32)]), .int .i64, .bo, .agg true 16 (fun _ => .int .u8)])),
  (32, .agg false 4 (nth .no [.agg false 2 (nth .no [.int .i64, .agg true 60 (fun _ => .int .u32)]), .int .i64, .bo, .agg true 16 (fun _ => .int .u8)])),
  (33, .int .i64),
  (48, .agg false 3 (nth .no [.int .i64, .int .u32, .agg true 16 (fun _ => .int .u8)])),
  (49, .agg false 3 (nth .no [.int .i64, .int .u32, .agg true 16 (fun _ => .int .u8)])),
  (52, .agg false 3 (nth .no [.int .i64, .int .u32, .agg true 16 (fun _ => .int .u8)])),
  (53, .sl 25),
  (65, .sl 32),
  (69, .int .u64),
  (74, .agg true 4 (fun _ => .int .u8)),
  (78, .agg true 256 (fun _ => .int .u8)),
  (83, .int .u64),
  (88, .sl 24),
  (89, .agg true 255 (fun _ => .int .u8)),
  (91, .sl 3),
  (102, .pt)]
def ty : TypeId → Ty := tyAt tyTab
theorem ok2 : TyOK Try.prog ty 2 := .int 2 .i64 (by decide) (by kernel_rfl) (.mk (by kernel_rfl)) rfl
theorem ok3 : TyOK Try.prog ty 3 := .int 3 .i64 (by decide) (by kernel_rfl) (.mk (by kernel_rfl)) rfl
theorem ok4 : TyOK Try.prog ty 4 := .bo 4 (by kernel_rfl) (.mk (by kernel_rfl)) rfl
theorem ok5 : TyOK Try.prog ty 5 := .int 5 .u8 (by decide) (by kernel_rfl) (.mk (by kernel_rfl)) rfl
theorem ok9 : TyOK Try.prog ty 9 := .str 9 (by kernel_rfl) (.mk (by kernel_rfl)) rfl
theorem ok12 : TyOK Try.prog ty 12 := .int 12 .u64 (by decide) (by kernel_rfl) (.mk (by kernel_rfl)) rfl
theorem ok15 : TyOK Try.prog ty 15 := .pt 15 95 (by kernel_rfl) (.mk (by kernel_rfl)) rfl
theorem ok16 : TyOK Try.prog ty 16 := .pt 16 98 (by kernel_rfl) (.mk (by kernel_rfl)) rfl
theorem ok21 : TyOK Try.prog ty 21 := .int 21 .i32 (by decide) (by kernel_rfl) (.mk (by kernel_rfl)) rfl
theorem ok22 : TyOK Try.prog ty 22 := .array 32 5 ok5 rfl (by kernel_rfl) (by kernel_rfl) (by kernel_rfl) (by kernel_rfl) (by kernel_rfl)
theorem ok23 : TyOK Try.prog ty 23 := .array 16 5 ok5 rfl (by kernel_rfl) (by kernel_rfl) (by kernel_rfl) (by kernel_rfl) (by kernel_rfl)
theorem ok24 : TyOK Try.prog ty 24 := .array 16 5 ok5 rfl (by kernel_rfl) (by kernel_rfl) (by kernel_rfl) (by kernel_rfl) (by kernel_rfl)
theorem ok25 : TyOK Try.prog ty 25 := .slice 5 ok5 rfl (by kernel_rfl) (by kernel_rfl) (by kernel_rfl)
theorem ok27 : TyOK Try.prog ty 27 := .int 27 .u32 (by decide) (by kernel_rfl) (.mk (by kernel_rfl)) rfl
theorem ok28 : TyOK Try.prog ty 28 := .array 60 27 ok27 rfl (by kernel_rfl) (by kernel_rfl) (by kernel_rfl) (by kernel_rfl) (by kernel_rfl)
theorem ok29 : TyOK Try.prog ty 29 := .struct [(3, 0), (28, 1)] rfl rfl ⟨ok3, ok28, trivial⟩ ⟨⟨rfl, rfl, rfl⟩, ⟨rfl, rfl, rfl⟩, trivial⟩ (by kernel_rfl) (by kernel_rfl) (by kernel_rfl) (by kernel_rfl) (by kernel_rfl) (by kernel_rfl)
theorem ok30 : TyOK Try.prog ty 30 := .struct [(3, 0), (28, 1)] rfl rfl ⟨ok3, ok28, trivial⟩ ⟨⟨rfl, rfl, rfl⟩, ⟨rfl, rfl, rfl⟩, trivial⟩ (by kernel_rfl) (by kernel_rfl) (by kernel_rfl) (by kernel_rfl) (by kernel_rfl) (by kernel_rfl)
theorem ok31 : TyOK Try.prog ty 31 := .struct [(30, 0), (3, 61), (4, 62), (24, 63)] rfl rfl ⟨ok30, ok3, ok4, ok24, trivial⟩ ⟨⟨rfl, rfl, rfl⟩, ⟨rfl, rfl, rfl⟩, ⟨rfl, rfl, rfl⟩, ⟨rfl, rfl, rfl⟩, trivial⟩ (by kernel_rfl) (by kernel_rfl) (by kernel_rfl) (by kernel_rfl) (by kernel_rfl) (by kernel_rfl)
theorem ok32 : TyOK Try.prog ty 32 := .struct [(30, 0), (3, 61), (4, 62), (24, 63)] rfl rfl ⟨ok30, ok3, ok4, ok24, trivial⟩ ⟨⟨rfl, rfl, rfl⟩, ⟨rfl, rfl, rfl⟩, ⟨rfl, rfl, rfl⟩, ⟨rfl, rfl, rfl⟩, trivial⟩ (by kernel_rfl) (by kernel_rfl) (by kernel_rfl) (by kernel_rfl) (by kernel_rfl) (by kernel_rfl)
theorem ok33 : TyOK Try.prog ty 33 := .int 33 .i64 (by decide) (by kernel_rfl) (.mk (by kernel_rfl)) rfl
theorem ok48 : TyOK Try.prog ty 48 := .struct [(3, 0), (27, 1), (23, 2)] rfl rfl ⟨ok3, ok27, ok23, trivial⟩ ⟨⟨rfl, rfl, rfl⟩, ⟨rfl, rfl, rfl⟩, ⟨rfl, rfl, rfl⟩, trivial⟩ (by kernel_rfl) (by kernel_rfl) (by kernel_rfl) (by kernel_rfl) (by kernel_rfl) (by kernel_rfl)
theorem ok49 : TyOK Try.prog ty 49 := .struct [(3, 0), (27, 1), (23, 2)] rfl rfl ⟨ok3, ok27, ok23, trivial⟩ ⟨⟨rfl, rfl, rfl⟩, ⟨rfl, rfl, rfl⟩, ⟨rfl, rfl, rfl⟩, trivial⟩ (by kernel_rfl) (by kernel_rfl) (by kernel_rfl) (by kernel_rfl) (by kernel_rfl) (by kernel_rfl)
theorem ok52 : TyOK Try.prog ty 52 := .struct [(3, 0), (27, 1), (23, 2)] rfl rfl ⟨ok3, ok27, ok23, trivial⟩ ⟨⟨rfl, rfl, rfl⟩, ⟨rfl, rfl, rfl⟩, ⟨rfl, rfl, rfl⟩, trivial⟩ (by kernel_rfl) (by kernel_rfl) (by kernel_rfl) (by kernel_rfl) (by kernel_rfl) (by kernel_rfl)
theorem ok53 : TyOK Try.prog ty 53 := .slice 25 ok25 rfl (by kernel_rfl) (by kernel_rfl) (by kernel_rfl)
theorem ok65 : TyOK Try.prog ty 65 := .slice 32 ok32 rfl (by kernel_rfl) (by kernel_rfl) (by kernel_rfl)
theorem ok69 : TyOK Try.prog ty 69 := .int 69 .u64 (by decide) (by kernel_rfl) (.mk (by kernel_rfl)) rfl
theorem ok74 : TyOK Try.prog ty 74 := .array 4 5 ok5 rfl (by kernel_rfl) (by kernel_rfl) (by kernel_rfl) (by kernel_rfl) (by kernel_rfl)
theorem ok78 : TyOK Try.prog ty 78 := .array 256 5 ok5 rfl (by kernel_rfl) (by kernel_rfl) (by kernel_rfl) (by kernel_rfl) (by kernel_rfl)
theorem ok83 : TyOK Try.prog ty 83 := .int 83 .u64 (by decide) (by kernel_rfl) (.mk (by kernel_rfl)) rfl
theorem ok88 : TyOK Try.prog ty 88 := .slice 24 ok24 rfl (by kernel_rfl) (by kernel_rfl) (by kernel_rfl)
theorem ok89 : TyOK Try.prog ty 89 := .array 255 5 ok5 rfl (by kernel_rfl) (by kernel_rfl) (by kernel_rfl) (by kernel_rfl) (by kernel_rfl)
theorem ok91 : TyOK Try.prog ty 91 := .slice 3 ok3 rfl (by kernel_rfl) (by kernel_rfl) (by kernel_rfl)
theorem ok102 : TyOK Try.prog ty 102 := .pt 102 5 (by kernel_rfl) (.mk (by kernel_rfl)) rfl
theorem tysOK : TysOK Try.prog ty := tysOK_of (l := tyTab) rfl ⟨ok2, ok3, ok4, ok5, ok9, ok12, ok15, ok16, ok21, ok22, ok23, ok24, ok25, ok27, ok28, ok29, ok30, ok31, ok32, ok33, ok48, ok49, ok52, ok53, ok65, ok69, ok74, ok78, ok83, ok88, ok89, ok91, ok102, trivial⟩
theorem mixes : Try.prog.follows .mixedOrders = true := by kernel_rfl
theorem mxOK : ∀ t n f, ty t = .agg true n f → n ≤ maxLen := mx_of (l := tyTab) rfl (by kernel_rfl)
end Go.Proofs.Ytaajedeapmphpaa
