/- The types of this program. -/
import Derived.Test.YtglijhimopdgkaaGreatDoorGE
import Derived.Test.YtglijhimopdgkaaGreatDoorProg
namespace Go.Proofs.YtglijhimopdgkaaGreatDoor
open Go.RowKit
def tstV : Nat → Value → Bool
  | 0, .int .u8 z => decide (z = 0)
  | 1, .int .i64 z => decide (z = 0)
  | 2, .pointer none => true
  | _, _ => false
def vqV : Nat → Value
  | 0 => .int .u8 0
  | 1 => .int .i64 0
  | _ => .pointer none
theorem tst_is {q : Nat} {a : Value} (h : tstV q a = true) : a = vqV q := by
  unfold tstV at h
  split at h
  · rw [of_decide_eq_true h]; rfl
  · rw [of_decide_eq_true h]; rfl
  · rfl
  · cases h
def eat (q : Nat) : Nat → List Value → Option (List Value)
  | 0, a :: t => bif tstV q a then some t else none
  | 0, [] => none
  | n + 1, l => match eat q n l with
    | some t => eat q n t
    | none => none
theorem eat_is {q : Nat} : ∀ {n : Nat} {l t : List Value}, eat q n l = some t → l = List.replicate (2 ^ n) (vqV q) ++ t
  | 0, a :: l, t, h => by
    have h : (bif tstV q a then some l else none) = some t := h
    cases ht : tstV q a with
    | false => rw [ht] at h; cases h
    | true => rw [ht] at h; injection h with h; rw [tst_is ht, h]; rfl
  | 0, [], t, h => by cases h
  | n + 1, l, t, h => by
    have h : (match eat q n l with
      | some t => eat q n t
      | none => none) = some t := h
    cases h1 : eat q n l with
    | none => rw [h1] at h; cases h
    | some s =>
      rw [h1] at h
      rw [eat_is h1, eat_is h, ← List.append_assoc, List.replicate_append_replicate, Nat.pow_succ, Nat.mul_two]
def eatS : List (Nat × Nat) → List Value → Bool
  | [], [] => true
  | [], _ => false
  | (q, n) :: r, l => match eat q n l with
    | some t => eatS r t
    | none => false
def expd : List (Nat × Nat) → List Value
  | [] => []
  | (q, n) :: r => List.replicate (2 ^ n) (vqV q) ++ expd r
theorem eatS_is : ∀ {s : List (Nat × Nat)} {l : List Value}, eatS s l = true → l = expd s
  | [], [], _ => rfl
  | [], _ :: _, h => by cases h
  | (q, n) :: r, l, h => by
    have h : (match eat q n l with
      | some t => eatS r t
      | none => false) = true := h
    cases h1 : eat q n l with
    | none => rw [h1] at h; cases h
    | some s => rw [h1] at h; rw [eat_is h1, eatS_is h]; rfl
def zerB (s : List (Nat × Nat)) : Option Value → Bool
  | some (.agg a) => eatS s a.toList
  | _ => false
theorem big_inf {P : Program} {t : TypeId} {n : Nat} {τ : Ty} (s : List (Nat × Nat)) (hz : τ.zc = expd s) (h : (P.info? t).map (fun i => (zerB s i.zero, i.size, decide (i.bytes ≤ 10000))) = some (true, n, true)) : Inf P t (.agg τ.zc.toArray) n := by
  obtain ⟨i, hi, hq⟩ := Option.map_eq_some_iff.1 h
  simp only [Prod.mk.injEq, decide_eq_true_eq] at hq
  refine ⟨i, hi, ?_, hq.2.1, hq.2.2⟩
  have h1 := hq.1
  cases hz' : i.zero with
  | none => rw [hz'] at h1; cases h1
  | some v =>
    rw [hz'] at h1
    cases v with
    | agg a =>
      have h2 : a.toList = expd s := eatS_is h1
      rw [hz, ← h2]
    | _ => cases h1
theorem zc_rep (v : Value) (τ : Ty) (hv : τ.zc = [v]) (n : Nat) : (Ty.agg true n fun _ => τ).zc = List.replicate n v := by
  show (List.range n).flatMap (fun _ => τ.zc) = _
  rw [hv]
  induction n with
  | zero => rfl
  | succ n ih => rw [List.range_succ, List.flatMap_append, ih, List.replicate_succ']; rfl
theorem zc_st5 {f : Nat → Ty} {z0 z1 z2 z3 z4 : List Value} (h0 : (f 0).zc = z0) (h1 : (f 1).zc = z1) (h2 : (f 2).zc = z2) (h3 : (f 3).zc = z3) (h4 : (f 4).zc = z4) : (Ty.agg false 5 f).zc = z0 ++ (z1 ++ (z2 ++ (z3 ++ (z4 ++ [])))) := by
  show (List.range 5).flatMap (fun i => (f i).zc) = _
  rw [show List.range 5 = [0, 1, 2, 3, 4] from rfl]
  simp only [List.flatMap_cons, List.flatMap_nil, h0, h1, h2, h3, h4]
theorem TyOK.stB {P : Program} {ty : TypeId → Ty} {t n : Nat} {f : Nat → Ty} (L : List (TypeId × Nat)) (hty : ty t = .agg false n f) (hn : L.length = n) (hf : AllP (fun q => TyOK P ty q.1) L) (hg : FsOK ty f 0 L)
    (hu : P.underlying t = some (.struct (fieldsOf P t))) (hL : ((fieldsOf P t).toList.map fun x => (x.type, x.offset, x.name == "_")) = L.map fun q => (q.1, q.2, false))
    (hi : Inf P t (.agg (ty t).zc.toArray) (ty t).size) (hr : decide ((ty t).rank < 9000) = true) (hq : P.eqGuardType P.depth t = false) (hh : P.stoodInHeld t = false) : TyOK P ty t :=
  .st' L hu hL hn hf (fun i q h => by have := FsOK_at hg i q h; rwa [Nat.zero_add] at this) hi (of_decide_eq_true hr) hq hh hty
def tyTab : List (Nat × Ty) := [(2, .int .i64),
  (3, .int .i64),
  (4, .bo),
  (5, .int .u8),
  (9, .str),
  (12, .int .u64),
  (15, .pt),
  (16, .pt),
  (21, .int .i32),
  (22, .int .u32),
  (23, .int .u16),
  (24, .agg false 6 (nth .no [.int .u8, .int .u8, .int .u8, .int .u8, .int .u32, .int .u16])),
  (25, .agg false 6 (nth .no [.int .u8, .int .u8, .int .u8, .int .u8, .int .u32, .int .u16])),
  (26, .sl 22),
  (30, .pt),
  (31, .pt),
  (34, .int .u64),
  (35, .sl 5),
  (37, .int .u64),
  (38, .int .i64),
  (41, .agg true 32 (fun _ => .int .u32)),
  (42, .agg true 10 (fun _ => .int .u32)),
  (43, .agg false 3 (nth .no [.agg true 32 (fun _ => .int .u32), .int .u32, .agg true 10 (fun _ => .int .u32)])),
  (44, .agg false 3 (nth .no [.agg true 32 (fun _ => .int .u32), .int .u32, .agg true 10 (fun _ => .int .u32)])),
  (45, .agg true 8 (fun _ => .int .u32)),
  (46, .agg false 4 (nth .no [.agg true 32 (fun _ => .int .u32), .int .u32, .agg true 8 (fun _ => .int .u32), .bo])),
  (47, .agg false 4 (nth .no [.agg true 32 (fun _ => .int .u32), .int .u32, .agg true 8 (fun _ => .int .u32), .bo])),
  (50, .agg false 5 (nth .no [.bo, .int .u32, .agg false 6 (nth .no [.int .u8, .int .u8, .int .u8, .int .u8, .int .u32, .int .u16]), .int .u32, .sl 5])),
  (51, .agg false 5 (nth .no [.bo, .int .u32, .agg false 6 (nth .no [.int .u8, .int .u8, .int .u8, .int .u8, .int .u32, .int .u16]), .int .u32, .sl 5])),
  (72, .int .i64),
  (75, .agg false 3 (nth .no [.int .u8, .int .u8, .int .u8])),
  (76, .agg false 3 (nth .no [.int .u8, .int .u8, .int .u8])),
  (77, .agg true 4 (fun _ => .agg false 3 (nth .no [.int .u8, .int .u8, .int .u8]))),
  (78, .agg false 7 (nth .no [.int .u32, .int .u32, .int .u32, .int .u32, .int .u32, .agg true 4 (fun _ => .agg false 3 (nth .no [.int .u8, .int .u8, .int .u8])), .int .u8])),
  (79, .agg false 7 (nth .no [.int .u32, .int .u32, .int .u32, .int .u32, .int .u32, .agg true 4 (fun _ => .agg false 3 (nth .no [.int .u8, .int .u8, .int .u8])), .int .u8])),
  (84, .pt),
  (88, .pt),
  (92, .agg true 8192 (fun _ => .int .u8)),
  (93, .agg true 64 (fun _ => .int .u8)),
  (94, .agg false 5 (nth .no [.int .i64, .agg true 8192 (fun _ => .int .u8), .agg true 64 (fun _ => .int .u8), .pt, .pt])),
  (95, .agg false 5 (nth .no [.int .i64, .agg true 8192 (fun _ => .int .u8), .agg true 64 (fun _ => .int .u8), .pt, .pt])),
  (96, .agg true 6 (fun _ => .sl 5)),
  (97, .agg false 3 (nth .no [.int .i64, .agg true 6 (fun _ => .sl 5), .bo])),
  (98, .agg false 3 (nth .no [.int .i64, .agg true 6 (fun _ => .sl 5), .bo])),
  (99, .agg false 6 (nth .no [.int .i64, .int .i64, .int .u32, .int .i64, .bo, .bo])),
  (100, .agg false 6 (nth .no [.int .i64, .int .i64, .int .u32, .int .i64, .bo, .bo])),
  (107, .sl 23),
  (112, .agg false 2 (nth .no [.int .u16, .int .u32])),
  (113, .agg true 10 (fun _ => .agg false 2 (nth .no [.int .u16, .int .u32]))),
  (117, .agg false 6 (nth .no [.int .u8, .int .u8, .int .u8, .int .u8, .int .u32, .int .u16])),
  (124, .sl 25),
  (125, .mp 22 5),
  (132, .agg false 1 (nth .no [.sl 5])),
  (133, .agg false 1 (nth .no [.sl 5])),
  (134, .pt),
  (137, .agg false 1 (nth .no [.pt])),
  (138, .agg false 1 (nth .no [.pt])),
  (164, .fu),
  (165, .agg false 2 (nth .no [.fu, .int .i64])),
  (166, .agg false 2 (nth .no [.fu, .int .i64])),
  (167, .agg true 4 (fun _ => .agg false 2 (nth .no [.fu, .int .i64]))),
  (169, .agg false 2 (nth .no [.int .u32, .int .u32])),
  (170, .agg true 6 (fun _ => .agg false 2 (nth .no [.int .u32, .int .u32]))),
  (173, .sl 175),
  (174, .agg false 2 (nth .no [.int .i64, .int .u32])),
  (175, .agg false 2 (nth .no [.int .i64, .int .u32])),
  (180, .sl 9),
  (182, .sl 3),
  (190, .agg true 4 (fun _ => .int .u8)),
  (194, .sl 4),
  (195, .agg false 2 (nth .no [.sl 22, .sl 4])),
  (196, .agg false 2 (nth .no [.sl 22, .sl 4])),
  (203, .agg false 1 (nth .no [.pt])),
  (209, .int .u8),
  (210, .agg false 5 (nth .no [.int .u8, .int .u8, .int .u8, .int .u8, .int .u8])),
  (211, .agg false 5 (nth .no [.int .u8, .int .u8, .int .u8, .int .u8, .int .u8])),
  (213, .agg false 2 (nth .no [.int .i64, .int .i64])),
  (214, .agg false 2 (nth .no [.int .i64, .int .i64])),
  (218, .int .i8),
  (219, .int .i16),
  (222, .mp 214 211),
  (233, .pt)]
def ty : TypeId → Ty := tyAt tyTab
theorem ok2 : TyOK Tryz.prog ty 2 := .int 2 .i64 (by decide) (by kernel_rfl) (.mk (by kernel_rfl)) rfl
theorem ok3 : TyOK Tryz.prog ty 3 := .int 3 .i64 (by decide) (by kernel_rfl) (.mk (by kernel_rfl)) rfl
theorem ok4 : TyOK Tryz.prog ty 4 := .bo 4 (by kernel_rfl) (.mk (by kernel_rfl)) rfl
theorem ok5 : TyOK Tryz.prog ty 5 := .int 5 .u8 (by decide) (by kernel_rfl) (.mk (by kernel_rfl)) rfl
theorem ok9 : TyOK Tryz.prog ty 9 := .str 9 (by kernel_rfl) (.mk (by kernel_rfl)) rfl
theorem ok12 : TyOK Tryz.prog ty 12 := .int 12 .u64 (by decide) (by kernel_rfl) (.mk (by kernel_rfl)) rfl
theorem ok15 : TyOK Tryz.prog ty 15 := .pt 15 226 (by kernel_rfl) (.mk (by kernel_rfl)) rfl
theorem ok16 : TyOK Tryz.prog ty 16 := .pt 16 229 (by kernel_rfl) (.mk (by kernel_rfl)) rfl
theorem ok21 : TyOK Tryz.prog ty 21 := .int 21 .i32 (by decide) (by kernel_rfl) (.mk (by kernel_rfl)) rfl
theorem ok22 : TyOK Tryz.prog ty 22 := .int 22 .u32 (by decide) (by kernel_rfl) (.mk (by kernel_rfl)) rfl
theorem ok23 : TyOK Tryz.prog ty 23 := .int 23 .u16 (by decide) (by kernel_rfl) (.mk (by kernel_rfl)) rfl
theorem ok24 : TyOK Tryz.prog ty 24 := .struct [(5, 0), (5, 1), (5, 2), (5, 3), (22, 4), (23, 5)] rfl rfl ⟨ok5, ok5, ok5, ok5, ok22, ok23, trivial⟩ ⟨⟨rfl, rfl, rfl⟩, ⟨rfl, rfl, rfl⟩, ⟨rfl, rfl, rfl⟩, ⟨rfl, rfl, rfl⟩, ⟨rfl, rfl, rfl⟩, ⟨rfl, rfl, rfl⟩, trivial⟩ (by kernel_rfl) (by kernel_rfl) (by kernel_rfl) (by kernel_rfl) (by kernel_rfl) (by kernel_rfl)
theorem ok25 : TyOK Tryz.prog ty 25 := .struct [(5, 0), (5, 1), (5, 2), (5, 3), (22, 4), (23, 5)] rfl rfl ⟨ok5, ok5, ok5, ok5, ok22, ok23, trivial⟩ ⟨⟨rfl, rfl, rfl⟩, ⟨rfl, rfl, rfl⟩, ⟨rfl, rfl, rfl⟩, ⟨rfl, rfl, rfl⟩, ⟨rfl, rfl, rfl⟩, ⟨rfl, rfl, rfl⟩, trivial⟩ (by kernel_rfl) (by kernel_rfl) (by kernel_rfl) (by kernel_rfl) (by kernel_rfl) (by kernel_rfl)
theorem ok26 : TyOK Tryz.prog ty 26 := .slice 22 ok22 rfl (by kernel_rfl) (by kernel_rfl) (by kernel_rfl)
theorem ok30 : TyOK Tryz.prog ty 30 := .pt 30 95 (by kernel_rfl) (.mk (by kernel_rfl)) rfl
theorem ok31 : TyOK Tryz.prog ty 31 := .pt 31 98 (by kernel_rfl) (.mk (by kernel_rfl)) rfl
theorem ok34 : TyOK Tryz.prog ty 34 := .int 34 .u64 (by decide) (by kernel_rfl) (.mk (by kernel_rfl)) rfl
theorem ok35 : TyOK Tryz.prog ty 35 := .slice 5 ok5 rfl (by kernel_rfl) (by kernel_rfl) (by kernel_rfl)
theorem ok37 : TyOK Tryz.prog ty 37 := .int 37 .u64 (by decide) (by kernel_rfl) (.mk (by kernel_rfl)) rfl
theorem ok38 : TyOK Tryz.prog ty 38 := .int 38 .i64 (by decide) (by kernel_rfl) (.mk (by kernel_rfl)) rfl
theorem ok41 : TyOK Tryz.prog ty 41 := .array 32 22 ok22 rfl (by kernel_rfl) (by kernel_rfl) (by kernel_rfl) (by kernel_rfl) (by kernel_rfl)
theorem ok42 : TyOK Tryz.prog ty 42 := .array 10 22 ok22 rfl (by kernel_rfl) (by kernel_rfl) (by kernel_rfl) (by kernel_rfl) (by kernel_rfl)
theorem ok43 : TyOK Tryz.prog ty 43 := .struct [(41, 0), (22, 32), (42, 33)] rfl rfl ⟨ok41, ok22, ok42, trivial⟩ ⟨⟨rfl, rfl, rfl⟩, ⟨rfl, rfl, rfl⟩, ⟨rfl, rfl, rfl⟩, trivial⟩ (by kernel_rfl) (by kernel_rfl) (by kernel_rfl) (by kernel_rfl) (by kernel_rfl) (by kernel_rfl)
theorem ok44 : TyOK Tryz.prog ty 44 := .struct [(41, 0), (22, 32), (42, 33)] rfl rfl ⟨ok41, ok22, ok42, trivial⟩ ⟨⟨rfl, rfl, rfl⟩, ⟨rfl, rfl, rfl⟩, ⟨rfl, rfl, rfl⟩, trivial⟩ (by kernel_rfl) (by kernel_rfl) (by kernel_rfl) (by kernel_rfl) (by kernel_rfl) (by kernel_rfl)
theorem ok45 : TyOK Tryz.prog ty 45 := .array 8 22 ok22 rfl (by kernel_rfl) (by kernel_rfl) (by kernel_rfl) (by kernel_rfl) (by kernel_rfl)
theorem ok46 : TyOK Tryz.prog ty 46 := .struct [(41, 0), (22, 32), (45, 33), (4, 41)] rfl rfl ⟨ok41, ok22, ok45, ok4, trivial⟩ ⟨⟨rfl, rfl, rfl⟩, ⟨rfl, rfl, rfl⟩, ⟨rfl, rfl, rfl⟩, ⟨rfl, rfl, rfl⟩, trivial⟩ (by kernel_rfl) (by kernel_rfl) (by kernel_rfl) (by kernel_rfl) (by kernel_rfl) (by kernel_rfl)
theorem ok47 : TyOK Tryz.prog ty 47 := .struct [(41, 0), (22, 32), (45, 33), (4, 41)] rfl rfl ⟨ok41, ok22, ok45, ok4, trivial⟩ ⟨⟨rfl, rfl, rfl⟩, ⟨rfl, rfl, rfl⟩, ⟨rfl, rfl, rfl⟩, ⟨rfl, rfl, rfl⟩, trivial⟩ (by kernel_rfl) (by kernel_rfl) (by kernel_rfl) (by kernel_rfl) (by kernel_rfl) (by kernel_rfl)
theorem ok50 : TyOK Tryz.prog ty 50 := .struct [(4, 0), (22, 1), (25, 2), (22, 8), (35, 9)] rfl rfl ⟨ok4, ok22, ok25, ok22, ok35, trivial⟩ ⟨⟨rfl, rfl, rfl⟩, ⟨rfl, rfl, rfl⟩, ⟨rfl, rfl, rfl⟩, ⟨rfl, rfl, rfl⟩, ⟨rfl, rfl, rfl⟩, trivial⟩ (by kernel_rfl) (by kernel_rfl) (by kernel_rfl) (by kernel_rfl) (by kernel_rfl) (by kernel_rfl)
theorem ok51 : TyOK Tryz.prog ty 51 := .struct [(4, 0), (22, 1), (25, 2), (22, 8), (35, 9)] rfl rfl ⟨ok4, ok22, ok25, ok22, ok35, trivial⟩ ⟨⟨rfl, rfl, rfl⟩, ⟨rfl, rfl, rfl⟩, ⟨rfl, rfl, rfl⟩, ⟨rfl, rfl, rfl⟩, ⟨rfl, rfl, rfl⟩, trivial⟩ (by kernel_rfl) (by kernel_rfl) (by kernel_rfl) (by kernel_rfl) (by kernel_rfl) (by kernel_rfl)
theorem ok72 : TyOK Tryz.prog ty 72 := .int 72 .i64 (by decide) (by kernel_rfl) (.mk (by kernel_rfl)) rfl
theorem ok75 : TyOK Tryz.prog ty 75 := .struct [(5, 0), (5, 1), (5, 2)] rfl rfl ⟨ok5, ok5, ok5, trivial⟩ ⟨⟨rfl, rfl, rfl⟩, ⟨rfl, rfl, rfl⟩, ⟨rfl, rfl, rfl⟩, trivial⟩ (by kernel_rfl) (by kernel_rfl) (by kernel_rfl) (by kernel_rfl) (by kernel_rfl) (by kernel_rfl)
theorem ok76 : TyOK Tryz.prog ty 76 := .struct [(5, 0), (5, 1), (5, 2)] rfl rfl ⟨ok5, ok5, ok5, trivial⟩ ⟨⟨rfl, rfl, rfl⟩, ⟨rfl, rfl, rfl⟩, ⟨rfl, rfl, rfl⟩, trivial⟩ (by kernel_rfl) (by kernel_rfl) (by kernel_rfl) (by kernel_rfl) (by kernel_rfl) (by kernel_rfl)
theorem ok77 : TyOK Tryz.prog ty 77 := .array 4 76 ok76 rfl (by kernel_rfl) (by kernel_rfl) (by kernel_rfl) (by kernel_rfl) (by kernel_rfl)
theorem ok78 : TyOK Tryz.prog ty 78 := .struct [(22, 0), (22, 1), (22, 2), (22, 3), (22, 4), (77, 5), (5, 17)] rfl rfl ⟨ok22, ok22, ok22, ok22, ok22, ok77, ok5, trivial⟩ ⟨⟨rfl, rfl, rfl⟩, ⟨rfl, rfl, rfl⟩, ⟨rfl, rfl, rfl⟩, ⟨rfl, rfl, rfl⟩, ⟨rfl, rfl, rfl⟩, ⟨rfl, rfl, rfl⟩, ⟨rfl, rfl, rfl⟩, trivial⟩ (by kernel_rfl) (by kernel_rfl) (by kernel_rfl) (by kernel_rfl) (by kernel_rfl) (by kernel_rfl)
theorem ok79 : TyOK Tryz.prog ty 79 := .struct [(22, 0), (22, 1), (22, 2), (22, 3), (22, 4), (77, 5), (5, 17)] rfl rfl ⟨ok22, ok22, ok22, ok22, ok22, ok77, ok5, trivial⟩ ⟨⟨rfl, rfl, rfl⟩, ⟨rfl, rfl, rfl⟩, ⟨rfl, rfl, rfl⟩, ⟨rfl, rfl, rfl⟩, ⟨rfl, rfl, rfl⟩, ⟨rfl, rfl, rfl⟩, ⟨rfl, rfl, rfl⟩, trivial⟩ (by kernel_rfl) (by kernel_rfl) (by kernel_rfl) (by kernel_rfl) (by kernel_rfl) (by kernel_rfl)
theorem ok84 : TyOK Tryz.prog ty 84 := .pt 84 133 (by kernel_rfl) (.mk (by kernel_rfl)) rfl
theorem ok88 : TyOK Tryz.prog ty 88 := .pt 88 138 (by kernel_rfl) (.mk (by kernel_rfl)) rfl
theorem ok92 : TyOK Tryz.prog ty 92 := .arr 92 8192 5 (by kernel_rfl) ok5 (of_decide_eq_true (by kernel_rfl)) (big_inf [(0, 13)] ((zc_rep (.int .u8 0) (.int .u8) rfl 8192).trans (List.append_nil _).symm) (by kernel_rfl)) (of_decide_eq_true (by kernel_rfl)) (by kernel_rfl) rfl
theorem ok93 : TyOK Tryz.prog ty 93 := .array 64 5 ok5 rfl (by kernel_rfl) (by kernel_rfl) (by kernel_rfl) (by kernel_rfl) (by kernel_rfl)
theorem ok94 : TyOK Tryz.prog ty 94 := .stB [(3, 0), (92, 1), (93, 8193), (84, 8257), (88, 8258)] rfl rfl ⟨ok3, ok92, ok93, ok84, ok88, trivial⟩ ⟨⟨rfl, rfl, rfl⟩, ⟨rfl, rfl, rfl⟩, ⟨rfl, rfl, rfl⟩, ⟨rfl, rfl, rfl⟩, ⟨rfl, rfl, rfl⟩, trivial⟩ (by kernel_rfl) (by kernel_rfl) (big_inf [(1, 0), (0, 13), (0, 6), (2, 0), (2, 0)] (zc_st5 rfl (zc_rep (.int .u8 0) (.int .u8) rfl 8192) (zc_rep (.int .u8 0) (.int .u8) rfl 64) rfl rfl) (by kernel_rfl)) (by kernel_rfl) (by kernel_rfl) (by kernel_rfl)
theorem ok95 : TyOK Tryz.prog ty 95 := .stB [(3, 0), (92, 1), (93, 8193), (84, 8257), (88, 8258)] rfl rfl ⟨ok3, ok92, ok93, ok84, ok88, trivial⟩ ⟨⟨rfl, rfl, rfl⟩, ⟨rfl, rfl, rfl⟩, ⟨rfl, rfl, rfl⟩, ⟨rfl, rfl, rfl⟩, ⟨rfl, rfl, rfl⟩, trivial⟩ (by kernel_rfl) (by kernel_rfl) (big_inf [(1, 0), (0, 13), (0, 6), (2, 0), (2, 0)] (zc_st5 rfl (zc_rep (.int .u8 0) (.int .u8) rfl 8192) (zc_rep (.int .u8 0) (.int .u8) rfl 64) rfl rfl) (by kernel_rfl)) (by kernel_rfl) (by kernel_rfl) (by kernel_rfl)
theorem ok96 : TyOK Tryz.prog ty 96 := .array 6 35 ok35 rfl (by kernel_rfl) (by kernel_rfl) (by kernel_rfl) (by kernel_rfl) (by kernel_rfl)
theorem ok97 : TyOK Tryz.prog ty 97 := .struct [(3, 0), (96, 1), (4, 7)] rfl rfl ⟨ok3, ok96, ok4, trivial⟩ ⟨⟨rfl, rfl, rfl⟩, ⟨rfl, rfl, rfl⟩, ⟨rfl, rfl, rfl⟩, trivial⟩ (by kernel_rfl) (by kernel_rfl) (by kernel_rfl) (by kernel_rfl) (by kernel_rfl) (by kernel_rfl)
theorem ok98 : TyOK Tryz.prog ty 98 := .struct [(3, 0), (96, 1), (4, 7)] rfl rfl ⟨ok3, ok96, ok4, trivial⟩ ⟨⟨rfl, rfl, rfl⟩, ⟨rfl, rfl, rfl⟩, ⟨rfl, rfl, rfl⟩, trivial⟩ (by kernel_rfl) (by kernel_rfl) (by kernel_rfl) (by kernel_rfl) (by kernel_rfl) (by kernel_rfl)
theorem ok99 : TyOK Tryz.prog ty 99 := .struct [(3, 0), (3, 1), (22, 2), (3, 3), (4, 4), (4, 5)] rfl rfl ⟨ok3, ok3, ok22, ok3, ok4, ok4, trivial⟩ ⟨⟨rfl, rfl, rfl⟩, ⟨rfl, rfl, rfl⟩, ⟨rfl, rfl, rfl⟩, ⟨rfl, rfl, rfl⟩, ⟨rfl, rfl, rfl⟩, ⟨rfl, rfl, rfl⟩, trivial⟩ (by kernel_rfl) (by kernel_rfl) (by kernel_rfl) (by kernel_rfl) (by kernel_rfl) (by kernel_rfl)
theorem ok100 : TyOK Tryz.prog ty 100 := .struct [(3, 0), (3, 1), (22, 2), (3, 3), (4, 4), (4, 5)] rfl rfl ⟨ok3, ok3, ok22, ok3, ok4, ok4, trivial⟩ ⟨⟨rfl, rfl, rfl⟩, ⟨rfl, rfl, rfl⟩, ⟨rfl, rfl, rfl⟩, ⟨rfl, rfl, rfl⟩, ⟨rfl, rfl, rfl⟩, ⟨rfl, rfl, rfl⟩, trivial⟩ (by kernel_rfl) (by kernel_rfl) (by kernel_rfl) (by kernel_rfl) (by kernel_rfl) (by kernel_rfl)
theorem ok107 : TyOK Tryz.prog ty 107 := .slice 23 ok23 rfl (by kernel_rfl) (by kernel_rfl) (by kernel_rfl)
theorem ok112 : TyOK Tryz.prog ty 112 := .struct [(23, 0), (22, 1)] rfl rfl ⟨ok23, ok22, trivial⟩ ⟨⟨rfl, rfl, rfl⟩, ⟨rfl, rfl, rfl⟩, trivial⟩ (by kernel_rfl) (by kernel_rfl) (by kernel_rfl) (by kernel_rfl) (by kernel_rfl) (by kernel_rfl)
theorem ok113 : TyOK Tryz.prog ty 113 := .array 10 112 ok112 rfl (by kernel_rfl) (by kernel_rfl) (by kernel_rfl) (by kernel_rfl) (by kernel_rfl)
theorem ok117 : TyOK Tryz.prog ty 117 := .struct [(5, 0), (5, 1), (5, 2), (5, 3), (22, 4), (23, 5)] rfl rfl ⟨ok5, ok5, ok5, ok5, ok22, ok23, trivial⟩ ⟨⟨rfl, rfl, rfl⟩, ⟨rfl, rfl, rfl⟩, ⟨rfl, rfl, rfl⟩, ⟨rfl, rfl, rfl⟩, ⟨rfl, rfl, rfl⟩, ⟨rfl, rfl, rfl⟩, trivial⟩ (by kernel_rfl) (by kernel_rfl) (by kernel_rfl) (by kernel_rfl) (by kernel_rfl) (by kernel_rfl)
theorem ok124 : TyOK Tryz.prog ty 124 := .slice 25 ok25 rfl (by kernel_rfl) (by kernel_rfl) (by kernel_rfl)
theorem ok125 : TyOK Tryz.prog ty 125 := .mp 125 22 5 (by kernel_rfl) (.mk (by kernel_rfl)) ok22 ok5 rfl
theorem ok132 : TyOK Tryz.prog ty 132 := .struct [(35, 0)] rfl rfl ⟨ok35, trivial⟩ ⟨⟨rfl, rfl, rfl⟩, trivial⟩ (by kernel_rfl) (by kernel_rfl) (by kernel_rfl) (by kernel_rfl) (by kernel_rfl) (by kernel_rfl)
theorem ok133 : TyOK Tryz.prog ty 133 := .struct [(35, 0)] rfl rfl ⟨ok35, trivial⟩ ⟨⟨rfl, rfl, rfl⟩, trivial⟩ (by kernel_rfl) (by kernel_rfl) (by kernel_rfl) (by kernel_rfl) (by kernel_rfl) (by kernel_rfl)
theorem ok134 : TyOK Tryz.prog ty 134 := .pt 134 196 (by kernel_rfl) (.mk (by kernel_rfl)) rfl
theorem ok137 : TyOK Tryz.prog ty 137 := .struct [(134, 0)] rfl rfl ⟨ok134, trivial⟩ ⟨⟨rfl, rfl, rfl⟩, trivial⟩ (by kernel_rfl) (by kernel_rfl) (by kernel_rfl) (by kernel_rfl) (by kernel_rfl) (by kernel_rfl)
theorem ok138 : TyOK Tryz.prog ty 138 := .struct [(134, 0)] rfl rfl ⟨ok134, trivial⟩ ⟨⟨rfl, rfl, rfl⟩, trivial⟩ (by kernel_rfl) (by kernel_rfl) (by kernel_rfl) (by kernel_rfl) (by kernel_rfl) (by kernel_rfl)
theorem ok164 : TyOK Tryz.prog ty 164 := .fu 164 #[100] #[4] false (by kernel_rfl) (.mk (by kernel_rfl)) rfl
theorem ok165 : TyOK Tryz.prog ty 165 := .struct [(164, 0), (38, 1)] rfl rfl ⟨ok164, ok38, trivial⟩ ⟨⟨rfl, rfl, rfl⟩, ⟨rfl, rfl, rfl⟩, trivial⟩ (by kernel_rfl) (by kernel_rfl) (by kernel_rfl) (by kernel_rfl) (by kernel_rfl) (by kernel_rfl)
theorem ok166 : TyOK Tryz.prog ty 166 := .struct [(164, 0), (38, 1)] rfl rfl ⟨ok164, ok38, trivial⟩ ⟨⟨rfl, rfl, rfl⟩, ⟨rfl, rfl, rfl⟩, trivial⟩ (by kernel_rfl) (by kernel_rfl) (by kernel_rfl) (by kernel_rfl) (by kernel_rfl) (by kernel_rfl)
theorem ok167 : TyOK Tryz.prog ty 167 := .array 4 166 ok166 rfl (by kernel_rfl) (by kernel_rfl) (by kernel_rfl) (by kernel_rfl) (by kernel_rfl)
theorem ok169 : TyOK Tryz.prog ty 169 := .struct [(22, 0), (22, 1)] rfl rfl ⟨ok22, ok22, trivial⟩ ⟨⟨rfl, rfl, rfl⟩, ⟨rfl, rfl, rfl⟩, trivial⟩ (by kernel_rfl) (by kernel_rfl) (by kernel_rfl) (by kernel_rfl) (by kernel_rfl) (by kernel_rfl)
theorem ok170 : TyOK Tryz.prog ty 170 := .array 6 169 ok169 rfl (by kernel_rfl) (by kernel_rfl) (by kernel_rfl) (by kernel_rfl) (by kernel_rfl)
theorem ok175 : TyOK Tryz.prog ty 175 := .struct [(3, 0), (22, 1)] rfl rfl ⟨ok3, ok22, trivial⟩ ⟨⟨rfl, rfl, rfl⟩, ⟨rfl, rfl, rfl⟩, trivial⟩ (by kernel_rfl) (by kernel_rfl) (by kernel_rfl) (by kernel_rfl) (by kernel_rfl) (by kernel_rfl)
theorem ok173 : TyOK Tryz.prog ty 173 := .slice 175 ok175 rfl (by kernel_rfl) (by kernel_rfl) (by kernel_rfl)
theorem ok174 : TyOK Tryz.prog ty 174 := .struct [(3, 0), (22, 1)] rfl rfl ⟨ok3, ok22, trivial⟩ ⟨⟨rfl, rfl, rfl⟩, ⟨rfl, rfl, rfl⟩, trivial⟩ (by kernel_rfl) (by kernel_rfl) (by kernel_rfl) (by kernel_rfl) (by kernel_rfl) (by kernel_rfl)
theorem ok180 : TyOK Tryz.prog ty 180 := .slice 9 ok9 rfl (by kernel_rfl) (by kernel_rfl) (by kernel_rfl)
theorem ok182 : TyOK Tryz.prog ty 182 := .slice 3 ok3 rfl (by kernel_rfl) (by kernel_rfl) (by kernel_rfl)
theorem ok190 : TyOK Tryz.prog ty 190 := .array 4 5 ok5 rfl (by kernel_rfl) (by kernel_rfl) (by kernel_rfl) (by kernel_rfl) (by kernel_rfl)
theorem ok194 : TyOK Tryz.prog ty 194 := .slice 4 ok4 rfl (by kernel_rfl) (by kernel_rfl) (by kernel_rfl)
theorem ok195 : TyOK Tryz.prog ty 195 := .struct [(26, 0), (194, 1)] rfl rfl ⟨ok26, ok194, trivial⟩ ⟨⟨rfl, rfl, rfl⟩, ⟨rfl, rfl, rfl⟩, trivial⟩ (by kernel_rfl) (by kernel_rfl) (by kernel_rfl) (by kernel_rfl) (by kernel_rfl) (by kernel_rfl)
theorem ok196 : TyOK Tryz.prog ty 196 := .struct [(26, 0), (194, 1)] rfl rfl ⟨ok26, ok194, trivial⟩ ⟨⟨rfl, rfl, rfl⟩, ⟨rfl, rfl, rfl⟩, trivial⟩ (by kernel_rfl) (by kernel_rfl) (by kernel_rfl) (by kernel_rfl) (by kernel_rfl) (by kernel_rfl)
theorem ok203 : TyOK Tryz.prog ty 203 := .struct [(134, 0)] rfl rfl ⟨ok134, trivial⟩ ⟨⟨rfl, rfl, rfl⟩, trivial⟩ (by kernel_rfl) (by kernel_rfl) (by kernel_rfl) (by kernel_rfl) (by kernel_rfl) (by kernel_rfl)
theorem ok209 : TyOK Tryz.prog ty 209 := .int 209 .u8 (by decide) (by kernel_rfl) (.mk (by kernel_rfl)) rfl
theorem ok210 : TyOK Tryz.prog ty 210 := .struct [(209, 0), (209, 1), (209, 2), (209, 3), (209, 4)] rfl rfl ⟨ok209, ok209, ok209, ok209, ok209, trivial⟩ ⟨⟨rfl, rfl, rfl⟩, ⟨rfl, rfl, rfl⟩, ⟨rfl, rfl, rfl⟩, ⟨rfl, rfl, rfl⟩, ⟨rfl, rfl, rfl⟩, trivial⟩ (by kernel_rfl) (by kernel_rfl) (by kernel_rfl) (by kernel_rfl) (by kernel_rfl) (by kernel_rfl)
theorem ok211 : TyOK Tryz.prog ty 211 := .struct [(209, 0), (209, 1), (209, 2), (209, 3), (209, 4)] rfl rfl ⟨ok209, ok209, ok209, ok209, ok209, trivial⟩ ⟨⟨rfl, rfl, rfl⟩, ⟨rfl, rfl, rfl⟩, ⟨rfl, rfl, rfl⟩, ⟨rfl, rfl, rfl⟩, ⟨rfl, rfl, rfl⟩, trivial⟩ (by kernel_rfl) (by kernel_rfl) (by kernel_rfl) (by kernel_rfl) (by kernel_rfl) (by kernel_rfl)
theorem ok213 : TyOK Tryz.prog ty 213 := .struct [(3, 0), (3, 1)] rfl rfl ⟨ok3, ok3, trivial⟩ ⟨⟨rfl, rfl, rfl⟩, ⟨rfl, rfl, rfl⟩, trivial⟩ (by kernel_rfl) (by kernel_rfl) (by kernel_rfl) (by kernel_rfl) (by kernel_rfl) (by kernel_rfl)
theorem ok214 : TyOK Tryz.prog ty 214 := .struct [(3, 0), (3, 1)] rfl rfl ⟨ok3, ok3, trivial⟩ ⟨⟨rfl, rfl, rfl⟩, ⟨rfl, rfl, rfl⟩, trivial⟩ (by kernel_rfl) (by kernel_rfl) (by kernel_rfl) (by kernel_rfl) (by kernel_rfl) (by kernel_rfl)
theorem ok218 : TyOK Tryz.prog ty 218 := .int 218 .i8 (by decide) (by kernel_rfl) (.mk (by kernel_rfl)) rfl
theorem ok219 : TyOK Tryz.prog ty 219 := .int 219 .i16 (by decide) (by kernel_rfl) (.mk (by kernel_rfl)) rfl
theorem ok222 : TyOK Tryz.prog ty 222 := .mp 222 214 211 (by kernel_rfl) (.mk (by kernel_rfl)) ok214 ok211 rfl
theorem ok233 : TyOK Tryz.prog ty 233 := .pt 233 5 (by kernel_rfl) (.mk (by kernel_rfl)) rfl
theorem tysOK : TysOK Tryz.prog ty := tysOK_of (l := tyTab) rfl ⟨ok2, ok3, ok4, ok5, ok9, ok12, ok15, ok16, ok21, ok22, ok23, ok24, ok25, ok26, ok30, ok31, ok34, ok35, ok37, ok38, ok41, ok42, ok43, ok44, ok45, ok46, ok47, ok50, ok51, ok72, ok75, ok76, ok77, ok78, ok79, ok84, ok88, ok92, ok93, ok94, ok95, ok96, ok97, ok98, ok99, ok100, ok107, ok112, ok113, ok117, ok124, ok125, ok132, ok133, ok134, ok137, ok138, ok164, ok165, ok166, ok167, ok169, ok170, ok173, ok174, ok175, ok180, ok182, ok190, ok194, ok195, ok196, ok203, ok209, ok210, ok211, ok213, ok214, ok218, ok219, ok222, ok233, trivial⟩
theorem mixes : Tryz.prog.follows .mixedOrders = true := by kernel_rfl
theorem mxOK : ∀ t n f, ty t = .agg true n f → n ≤ maxLen := mx_of (l := tyTab) rfl (by kernel_rfl)
end Go.Proofs.YtglijhimopdgkaaGreatDoor
