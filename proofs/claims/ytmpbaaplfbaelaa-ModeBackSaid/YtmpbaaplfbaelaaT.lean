/- The types of this program. -/
import Derived.Test.YtmpbaaplfbaelaaGE
import Derived.Test.YtmpbaaplfbaelaaProg
namespace Go.Proofs.Ytmpbaaplfbaelaa
open Go.RowKit
def tyTab : List (Nat × Ty) := [(2, .int .i64),
  (3, .int .i64),
  (4, .bo),
  (5, .int .u8),
  (9, .str),
  (12, .int .u64),
  (15, .pt),
  (16, .pt),
  (21, .int .i32),
  (22, .agg true 32 (fun _ => .int .u8)),
  (23, .agg true 16 (fun _ => .int .u8)),
  (24, .agg true 16 (fun _ => .int .u8)),
  (26, .sl 5),
  (28, .int .u32),
  (29, .agg true 60 (fun _ => .int .u32)),
  (30, .agg false 2 (nth .no [.int .i64, .agg true 60 (fun _ => .int .u32)])),
  (31, .agg false 2 (nth .no [.int .i64, .agg true 60 (fun _ => .int .u32)])),
  (32, .int .i64),
  (38, .sl 28),
  (40, .sl 26),
  (42, .int .u64),
  (46, .agg false 4 (nth .no [.agg false 2 (nth .no [.int .i64, .agg true 60 (fun _ => .int .u32)]), .int .i64, .bo, .agg true 16 (fun _ => .int .u8)])),
  (47, .agg false 4 (nth .no [.agg false 2 (nth .no [.int .i64, .agg true 60 (fun _ => .int .u32)]), .int .i64, .bo, .agg true 16 (fun _ => .int .u8)])),
  (68, .agg true 256 (fun _ => .int .u8)),
  (73, .agg true 4 (fun _ => .int .u8)),
  (77, .sl 47),
  (79, .int .u64),
  (82, .agg true 255 (fun _ => .int .u8)),
  (86, .sl 3),
  (87, .sl 24),
  (97, .pt)]
def ty : TypeId → Ty := tyAt tyTab
theorem ok2 : TyOK Try.prog ty 2 := .int 2 .i64 (by decide) (by kernel_rfl) (.mk (by kernel_rfl)) rfl
theorem ok3 : TyOK Try.prog ty 3 := .int 3 .i64 (by decide) (by kernel_rfl) (.mk (by kernel_rfl)) rfl
theorem ok4 : TyOK Try.prog ty 4 := .bo 4 (by kernel_rfl) (.mk (by kernel_rfl)) rfl
theorem ok5 : TyOK Try.prog ty 5 := .int 5 .u8 (by decide) (by kernel_rfl) (.mk (by kernel_rfl)) rfl
theorem ok9 : TyOK Try.prog ty 9 := .str 9 (by kernel_rfl) (.mk (by kernel_rfl)) rfl
theorem ok12 : TyOK Try.prog ty 12 := .int 12 .u64 (by decide) (by kernel_rfl) (.mk (by kernel_rfl)) rfl
theorem ok15 : TyOK Try.prog ty 15 := .pt 15 90 (by kernel_rfl) (.mk (by kernel_rfl)) rfl
theorem ok16 : TyOK Try.prog ty 16 := .pt 16 93 (by kernel_rfl) (.mk (by kernel_rfl)) rfl
theorem ok21 : TyOK Try.prog ty 21 := .int 21 .i32 (by decide) (by kernel_rfl) (.mk (by kernel_rfl)) rfl
theorem ok22 : TyOK Try.prog ty 22 := .array 32 5 ok5 rfl (by kernel_rfl) (by kernel_rfl) (by kernel_rfl) (by kernel_rfl) (by kernel_rfl)
theorem ok23 : TyOK Try.prog ty 23 := .array 16 5 ok5 rfl (by kernel_rfl) (by kernel_rfl) (by kernel_rfl) (by kernel_rfl) (by kernel_rfl)
theorem ok24 : TyOK Try.prog ty 24 := .array 16 5 ok5 rfl (by kernel_rfl) (by kernel_rfl) (by kernel_rfl) (by kernel_rfl) (by kernel_rfl)
theorem ok26 : TyOK Try.prog ty 26 := .slice 5 ok5 rfl (by kernel_rfl) (by kernel_rfl) (by kernel_rfl)
theorem ok28 : TyOK Try.prog ty 28 := .int 28 .u32 (by decide) (by kernel_rfl) (.mk (by kernel_rfl)) rfl
theorem ok29 : TyOK Try.prog ty 29 := .array 60 28 ok28 rfl (by kernel_rfl) (by kernel_rfl) (by kernel_rfl) (by kernel_rfl) (by kernel_rfl)
theorem ok30 : TyOK Try.prog ty 30 := .struct [(3, 0), (29, 1)] rfl rfl ⟨ok3, ok29, trivial⟩ ⟨⟨rfl, rfl, rfl⟩, ⟨rfl, rfl, rfl⟩, trivial⟩ (by kernel_rfl) (by kernel_rfl) (by kernel_rfl) (by kernel_rfl) (by kernel_rfl) (by kernel_rfl)
theorem ok31 : TyOK Try.prog ty 31 := .struct [(3, 0), (29, 1)] rfl rfl ⟨ok3, ok29, trivial⟩ ⟨⟨rfl, rfl, rfl⟩, ⟨rfl, rfl, rfl⟩, trivial⟩ (by kernel_rfl) (by kernel_rfl) (by kernel_rfl) (by kernel_rfl) (by kernel_rfl) (by kernel_rfl)
theorem ok32 : TyOK Try.prog ty 32 := .int 32 .i64 (by decide) (by kernel_rfl) (.mk (by kernel_rfl)) rfl
theorem ok38 : TyOK Try.prog ty 38 := .slice 28 ok28 rfl (by kernel_rfl) (by kernel_rfl) (by kernel_rfl)
theorem ok40 : TyOK Try.prog ty 40 := .slice 26 ok26 rfl (by kernel_rfl) (by kernel_rfl) (by kernel_rfl)
theorem ok42 : TyOK Try.prog ty 42 := .int 42 .u64 (by decide) (by kernel_rfl) (.mk (by kernel_rfl)) rfl
theorem ok46 : TyOK Try.prog ty 46 := .struct [(31, 0), (3, 61), (4, 62), (24, 63)] rfl rfl ⟨ok31, ok3, ok4, ok24, trivial⟩ ⟨⟨rfl, rfl, rfl⟩, ⟨rfl, rfl, rfl⟩, ⟨rfl, rfl, rfl⟩, ⟨rfl, rfl, rfl⟩, trivial⟩ (by kernel_rfl) (by kernel_rfl) (by kernel_rfl) (by kernel_rfl) (by kernel_rfl) (by kernel_rfl)
theorem ok47 : TyOK Try.prog ty 47 := .struct [(31, 0), (3, 61), (4, 62), (24, 63)] rfl rfl ⟨ok31, ok3, ok4, ok24, trivial⟩ ⟨⟨rfl, rfl, rfl⟩, ⟨rfl, rfl, rfl⟩, ⟨rfl, rfl, rfl⟩, ⟨rfl, rfl, rfl⟩, trivial⟩ (by kernel_rfl) (by kernel_rfl) (by kernel_rfl) (by kernel_rfl) (by kernel_rfl) (by kernel_rfl)
theorem ok68 : TyOK Try.prog ty 68 := .array 256 5 ok5 rfl (by kernel_rfl) (by kernel_rfl) (by kernel_rfl) (by kernel_rfl) (by kernel_rfl)
theorem ok73 : TyOK Try.prog ty 73 := .array 4 5 ok5 rfl (by kernel_rfl) (by kernel_rfl) (by kernel_rfl) (by kernel_rfl) (by kernel_rfl)
theorem ok77 : TyOK Try.prog ty 77 := .slice 47 ok47 rfl (by kernel_rfl) (by kernel_rfl) (by kernel_rfl)
theorem ok79 : TyOK Try.prog ty 79 := .int 79 .u64 (by decide) (by kernel_rfl) (.mk (by kernel_rfl)) rfl
theorem ok82 : TyOK Try.prog ty 82 := .array 255 5 ok5 rfl (by kernel_rfl) (by kernel_rfl) (by kernel_rfl) (by kernel_rfl) (by kernel_rfl)
theorem ok86 : TyOK Try.prog ty 86 := .slice 3 ok3 rfl (by kernel_rfl) (by kernel_rfl) (by kernel_rfl)
theorem ok87 : TyOK Try.prog ty 87 := .slice 24 ok24 rfl (by kernel_rfl) (by kernel_rfl) (by kernel_rfl)
theorem ok97 : TyOK Try.prog ty 97 := .pt 97 5 (by kernel_rfl) (.mk (by kernel_rfl)) rfl
theorem tysOK : TysOK Try.prog ty := tysOK_of (l := tyTab) rfl ⟨ok2, ok3, ok4, ok5, ok9, ok12, ok15, ok16, ok21, ok22, ok23, ok24, ok26, ok28, ok29, ok30, ok31, ok32, ok38, ok40, ok42, ok46, ok47, ok68, ok73, ok77, ok79, ok82, ok86, ok87, ok97, trivial⟩
theorem mixes : Try.prog.follows .mixedOrders = true := by kernel_rfl
theorem mxOK : ∀ t n f, ty t = .agg true n f → n ≤ maxLen := mx_of (l := tyTab) rfl (by kernel_rfl)
end Go.Proofs.Ytmpbaaplfbaelaa
