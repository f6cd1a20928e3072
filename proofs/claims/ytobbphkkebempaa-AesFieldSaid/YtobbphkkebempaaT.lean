/- The types of this program. -/
import Derived.Test.YtobbphkkebempaaGE
import Derived.Test.YtobbphkkebempaaProg
namespace Go.Proofs.Ytobbphkkebempaa
open Go.RowKit
def tyTab : List (Nat × Ty) := [(2, .int .i64),
  (3, .int .i64),
  (4, .bo),
  (5, .int .u8),
  (9, .str),
  (12, .int .u64),
  (15, .pt),
  (16, .pt),
  (21, .int .i32),
  (26, .agg true 32 (fun _ => .int .u8)),
  (27, .agg true 16 (fun _ => .int .u8)),
  (28, .agg true 16 (fun _ => .int .u8)),
  (29, .sl 5),
  (31, .int .u32),
  (32, .agg true 60 (fun _ => .int .u32)),
  (33, .agg false 2 (nth .no [.int .i64, .agg true 60 (fun _ => .int .u32)])),
  (34, .agg false 2 (nth .no [.int .i64, .agg true 60 (fun _ => .int .u32)])),
  (35, .int .i64),
  (41, .sl 31),
  (43, .sl 29),
  (45, .int .u64),
  (55, .agg false 4 (nth .no [.agg false 2 (nth .no [.int .i64, .agg true 60 (fun _ => .int .u32)]), .int .i64, .bo, .agg true 16 (fun _ => .int .u8)])),
  (56, .agg false 4 (nth .no [.agg false 2 (nth .no [.int .i64, .agg true 60 (fun _ => .int .u32)]), .int .i64, .bo, .agg true 16 (fun _ => .int .u8)])),
  (72, .int .u64),
  (73, .agg true 256 (fun _ => .int .u8)),
  (75, .sl 3),
  (81, .agg true 4 (fun _ => .int .u8)),
  (84, .sl 28),
  (85, .sl 56),
  (87, .agg true 255 (fun _ => .int .u8)),
  (101, .pt)]
def ty : TypeId → Ty := tyAt tyTab
theorem ok2 : TyOK Try.prog ty 2 := .int 2 .i64 (by decide) (by kernel_rfl) (.mk (by kernel_rfl)) rfl
theorem ok3 : TyOK Try.prog ty 3 := .int 3 .i64 (by decide) (by kernel_rfl) (.mk (by kernel_rfl)) rfl
theorem ok4 : TyOK Try.prog ty 4 := .bo 4 (by kernel_rfl) (.mk (by kernel_rfl)) rfl
theorem ok5 : TyOK Try.prog ty 5 := .int 5 .u8 (by decide) (by kernel_rfl) (.mk (by kernel_rfl)) rfl
theorem ok9 : TyOK Try.prog ty 9 := .str 9 (by kernel_rfl) (.mk (by kernel_rfl)) rfl
theorem ok12 : TyOK Try.prog ty 12 := .int 12 .u64 (by decide) (by kernel_rfl) (.mk (by kernel_rfl)) rfl
theorem ok15 : TyOK Try.prog ty 15 := .pt 15 94 (by kernel_rfl) (.mk (by kernel_rfl)) rfl
theorem ok16 : TyOK Try.prog ty 16 := .pt 16 97 (by kernel_rfl) (.mk (by kernel_rfl)) rfl
theorem ok21 : TyOK Try.prog ty 21 := .int 21 .i32 (by decide) (by kernel_rfl) (.mk (by kernel_rfl)) rfl
theorem ok26 : TyOK Try.prog ty 26 := .array 32 5 ok5 rfl (by kernel_rfl) (by kernel_rfl) (by kernel_rfl) (by kernel_rfl) (by kernel_rfl)
theorem ok27 : TyOK Try.prog ty 27 := .array 16 5 ok5 rfl (by kernel_rfl) (by kernel_rfl) (by kernel_rfl) (by kernel_rfl) (by kernel_rfl)
theorem ok28 : TyOK Try.prog ty 28 := .array 16 5 ok5 rfl (by kernel_rfl) (by kernel_rfl) (by kernel_rfl) (by kernel_rfl) (by kernel_rfl)
theorem ok29 : TyOK Try.prog ty 29 := .slice 5 ok5 rfl (by kernel_rfl) (by kernel_rfl) (by kernel_rfl)
theorem ok31 : TyOK Try.prog ty 31 := .int 31 .u32 (by decide) (by kernel_rfl) (.mk (by kernel_rfl)) rfl
theorem ok32 : TyOK Try.prog ty 32 := .array 60 31 ok31 rfl (by kernel_rfl) (by kernel_rfl) (by kernel_rfl) (by kernel_rfl) (by kernel_rfl)
theorem ok33 : TyOK Try.prog ty 33 := .struct [(3, 0), (32, 1)] rfl rfl ⟨ok3, ok32, trivial⟩ ⟨⟨rfl, rfl, rfl⟩, ⟨rfl, rfl, rfl⟩, trivial⟩ (by kernel_rfl) (by kernel_rfl) (by kernel_rfl) (by kernel_rfl) (by kernel_rfl) (by kernel_rfl)
theorem ok34 : TyOK Try.prog ty 34 := .struct [(3, 0), (32, 1)] rfl rfl ⟨ok3, ok32, trivial⟩ ⟨⟨rfl, rfl, rfl⟩, ⟨rfl, rfl, rfl⟩, trivial⟩ (by kernel_rfl) (by kernel_rfl) (by kernel_rfl) (by kernel_rfl) (by kernel_rfl) (by kernel_rfl)
theorem ok35 : TyOK Try.prog ty 35 := .int 35 .i64 (by decide) (by kernel_rfl) (.mk (by kernel_rfl)) rfl
theorem ok41 : TyOK Try.prog ty 41 := .slice 31 ok31 rfl (by kernel_rfl) (by kernel_rfl) (by kernel_rfl)
theorem ok43 : TyOK Try.prog ty 43 := .slice 29 ok29 rfl (by kernel_rfl) (by kernel_rfl) (by kernel_rfl)
theorem ok45 : TyOK Try.prog ty 45 := .int 45 .u64 (by decide) (by kernel_rfl) (.mk (by kernel_rfl)) rfl
theorem ok55 : TyOK Try.prog ty 55 := .struct [(34, 0), (3, 61), (4, 62), (28, 63)] rfl rfl ⟨ok34, ok3, ok4, ok28, trivial⟩ ⟨⟨rfl, rfl, rfl⟩, ⟨rfl, rfl, rfl⟩, ⟨rfl, rfl, rfl⟩, ⟨rfl, rfl, rfl⟩, trivial⟩ (by kernel_rfl) (by kernel_rfl) (by kernel_rfl) (by kernel_rfl) (by kernel_rfl) (by kernel_rfl)
theorem ok56 : TyOK Try.prog ty 56 := .struct [(34, 0), (3, 61), (4, 62), (28, 63)] rfl rfl ⟨ok34, ok3, ok4, ok28, trivial⟩ ⟨⟨rfl, rfl, rfl⟩, ⟨rfl, rfl, rfl⟩, ⟨rfl, rfl, rfl⟩, ⟨rfl, rfl, rfl⟩, trivial⟩ (by kernel_rfl) (by kernel_rfl) (by kernel_rfl) (by kernel_rfl) (by kernel_rfl) (by kernel_rfl)
theorem ok72 : TyOK Try.prog ty 72 := .int 72 .u64 (by decide) (by kernel_rfl) (.mk (by kernel_rfl)) rfl
theorem ok73 : TyOK Try.prog ty 73 := .array 256 5 ok5 rfl (by kernel_rfl) (by kernel_rfl) (by kernel_rfl) (by kernel_rfl) (by kernel_rfl)
theorem ok75 : TyOK Try.prog ty 75 := .slice 3 ok3 rfl (by kernel_rfl) (by kernel_rfl) (by kernel_rfl)
theorem ok81 : TyOK Try.prog ty 81 := .array 4 5 ok5 rfl (by kernel_rfl) (by kernel_rfl) (by kernel_rfl) (by kernel_rfl) (by kernel_rfl)
theorem ok84 : TyOK Try.prog ty 84 := .slice 28 ok28 rfl (by kernel_rfl) (by kernel_rfl) (by kernel_rfl)
theorem ok85 : TyOK Try.prog ty 85 := .slice 56 ok56 rfl (by kernel_rfl) (by kernel_rfl) (by kernel_rfl)
theorem ok87 : TyOK Try.prog ty 87 := .array 255 5 ok5 rfl (by kernel_rfl) (by kernel_rfl) (by kernel_rfl) (by kernel_rfl) (by kernel_rfl)
theorem ok101 : TyOK Try.prog ty 101 := .pt 101 5 (by kernel_rfl) (.mk (by kernel_rfl)) rfl
theorem tysOK : TysOK Try.prog ty := tysOK_of (l := tyTab) rfl ⟨ok2, ok3, ok4, ok5, ok9, ok12, ok15, ok16, ok21, ok26, ok27, ok28, ok29, ok31, ok32, ok33, ok34, ok35, ok41, ok43, ok45, ok55, ok56, ok72, ok73, ok75, ok81, ok84, ok85, ok87, ok101, trivial⟩
theorem mixes : Try.prog.follows .mixedOrders = true := by kernel_rfl
theorem mxOK : ∀ t n f, ty t = .agg true n f → n ≤ maxLen := mx_of (l := tyTab) rfl (by kernel_rfl)
end Go.Proofs.Ytobbphkkebempaa
