/- The references: values and hexadecimal texts of bytes. -/
import Derived.Test.YtelcblmconophaaDoorS11
namespace Go.Proofs.YtelcblmconophaaDoor
open Go.RowKit
def val (xs : Msg) : BitVec 64 := xs.foldl (fun n b => 256#64 * n + b.setWidth 64) 0
theorem take_snoc8 (xs : Msg) (k : Nat) (h : k < xs.length) : xs.take (k + 1) = xs.take k ++ [at8 xs k] := by
  rw [List.take_succ_eq_append_getElem h]; simp [at8, h]
theorem val_take (xs : Msg) (k : Nat) (h : k < xs.length) : val (xs.take (k + 1)) = 256#64 * val (xs.take k) + (at8 xs k).setWidth 64 := by
  rw [take_snoc8 xs k h, val, List.foldl_append]; rfl
set_option maxHeartbeats 400000 in
theorem value_walk (xs : Msg) (A : Option Addr) (c : Nat) (w : World) (hl : xs.length ≤ 1000000) (hR : RdB w A xs) :
    Calls Tryd.prog 22 #[.slice A xs.length c] w fun e w' => e = .returned (.int .u64 (U64 (val xs))) ∧ w = w' := by
  go_enter Tryd.func22, Tryd.ntmps22
  go_wp2_with fail
  go_loop [3, 8] (fun n i => ∃ k : Nat, k ≤ xs.length ∧ i = .int .i64 k ∧ n = .int .u64 (U64 (val (xs.take k)))) (fun _ i => xs.length - (intOf i).toNat)
  case atStart => exact ⟨0, by omega, rfl, rfl⟩
  case round =>
    obtain ⟨k, hk, rfl, rfl⟩ := hrel
    by_cases hlt : k < xs.length
    · obtain ⟨b, o, rfl, hb, hc⟩ := hR (by omega)
      have ck := hc k hlt
      have hv := Lib.hid (val_take xs k hlt)
      clear hc
      go_wp2_with fail
      go_round
      case rel => exact ⟨k + 1, by omega, by go_num, by rw [hv.out]⟩
      case measure => simp [intOf]; omega
    · have hkk : k = xs.length := by omega
      have he : xs.take k = xs := by rw [hkk, List.take_length]
      have HE := Lib.hid he
      clear he hkk
      go_wp2_with fail
      go_ret
      exact ⟨by rw [HE.out]; rfl, rfl⟩
def hexd (n : Nat) : UInt8 := if n < 10 then UInt8.ofNat (48 + n) else UInt8.ofNat (87 + n)
def hexL (xs : Msg) : List UInt8 := xs.flatMap fun b => [hexd (b.toNat / 16), hexd (b.toNat % 16)]
theorem hexL_take (xs : Msg) (k : Nat) (h : k < xs.length) : hexL (xs.take (k + 1)) = hexL (xs.take k) ++ [hexd ((at8 xs k).toNat / 16), hexd ((at8 xs k).toNat % 16)] := by
  rw [take_snoc8 xs k h, hexL, List.flatMap_append]; rfl
def hexs : ByteArray := ⟨#[48, 49, 50, 51, 52, 53, 54, 55, 56, 57, 97, 98, 99, 100, 101, 102]⟩
theorem hex_dig (n : Nat) (h : n < 16) : hexs.extract n (n + 1) = ⟨#[hexd n]⟩ := by
  have : ∀ i : Fin 16, hexs.extract i.val (i.val + 1) = ⟨#[hexd i.val]⟩ := by decide
  exact this ⟨n, h⟩
theorem yield_strslice {P : Program} {a : Act} {o : Oper} {w : World} (t : TypeId) (x lo hi : Operand) (s : ByteArray) (kl kh : IntKind) (l h : Nat) (hu : P.underlying t = some .string)
    (ho : o.op = .slice t x (some lo) (some hi) none) (hx : a.eval x = .string s) (hlo : a.eval lo = .int kl (l : Int)) (hhi : a.eval hi = .int kh (h : Int)) (hlh : l ≤ h) (hs : h ≤ s.size) :
    (execOp a.eval o).run P w = .ok (.value (.string (s.extract l h))) w := by
  unfold execOp
  have c1 : (0 : Int) ≤ (h : Int) ∧ (h : Int) ≤ (s.size : Int) := by omega
  have c2 : (0 : Int) ≤ (l : Int) ∧ (l : Int) ≤ (h : Int) := by omega
  simp [ho, Instr.sliceAt, run_underlying hu, Instr.slice, hx, hlo, hhi, Instr.sliceBounds, Instr.sliceBound, asIntOf, hlh, hs]
theorem yield_stradd {P : Program} {a : Act} {o : Oper} {w : World} (t t' : TypeId) (x y : Operand) (s1 s2 : ByteArray) (ho : o.op = .binOp .add t x y t') (hx : a.eval x = .string s1) (hy : a.eval y = .string s2)
    (hs : s1.size + s2.size ≤ 1000000000) : (execOp a.eval o).run P w = .ok (.value (.string (s1 ++ s2))) w := by
  have h : ¬ ((s1.size + s2.size : Nat) : Int) > IntKind.i64.max := by
    have : IntKind.i64.max = 9223372036854775807 := by decide
    rw [this]; omega
  unfold execOp
  simp only [ho, hx, hy, binOp, Op.stringOp, h, if_false]
  rfl
theorem ba_size (l : List UInt8) : (⟨l.toArray⟩ : ByteArray).size = l.length := by simp [ByteArray.size]
theorem ba_app (l m : List UInt8) : (⟨l.toArray⟩ : ByteArray) ++ ⟨m.toArray⟩ = ⟨(l ++ m).toArray⟩ := by
  apply ByteArray.ext; simp
theorem hexL_len (xs : Msg) : (hexL xs).length = 2 * xs.length := by
  induction xs with
  | nil => rfl
  | cons x xs ih =>
    have : hexL (x :: xs) = [hexd (x.toNat / 16), hexd (x.toNat % 16)] ++ hexL xs := rfl
    rw [this, List.length_append, ih]; simp; omega
set_option maxHeartbeats 1000000 in
theorem hex_walk (xs : Msg) (A : Option Addr) (c : Nat) (w : World) (hl : xs.length ≤ 1000000) (hR : RdB w A xs) :
    Calls Tryd.prog 37 #[.slice A xs.length c] w fun e w' => e = .returned (.string ⟨(hexL xs).toArray⟩) ∧ ∃ n, w' = w.drewN n := by
  go_enter Tryd.func37, Tryd.ntmps37
  go_wp2_with fail
  go_loopw [3, 8] (fun n i wr => ∃ k : Nat, k ≤ xs.length ∧ i = .int .i64 k ∧ n = .string ⟨(hexL (xs.take k)).toArray⟩ ∧ ∃ n, wr = w.drewN n) (fun _ i _ => xs.length - (intOf i).toNat)
  case atStart => exact ⟨0, by omega, rfl, rfl, 0, rfl⟩
  case round =>
    obtain ⟨k, hk, rfl, rfl, n, rfl⟩ := hrel
    by_cases hlt : k < xs.length
    · obtain ⟨b, o, rfl, hb, hc⟩ := hR (by omega)
      have ck := hc k hlt
      clear hc
      have hv := Lib.hid (hexL_take xs k hlt)
      generalize at8 xs k = x at *
      obtain ⟨y, hy⟩ : ∃ y : Nat, y = x.toNat := ⟨_, rfl⟩
      have hy2 : y < 256 := by rw [hy]; exact x.isLt
      have hU : U8 x = (y : Int) := by unfold U8; rw [hy]
      rw [hU] at ck
      clear hU
      have HY := Lib.hid hy
      clear hy
      go_wp2_with fail
      have i1 : (0 : Int) ≤ ↑y / 16 := by omega
      have i2 : (↑y / 16 : Int) ≤ ↑y / 16 + 1 := by omega
      have i3 : (↑y / 16 + 1 : Int) ≤ 16 := by omega
      have i4 : (0 : Int) ≤ ↑y % 16 := by omega
      have i5 : (↑y % 16 : Int) ≤ ↑y % 16 + 1 := by omega
      have i6 : (↑y % 16 + 1 : Int) ≤ 16 := by omega
      have i7 : (↑y / 16 + 1 : Int) ≤ 255 := by omega
      have hd1 : hexs.extract (y / 16) (y / 16 + 1) = ⟨#[hexd (y / 16)]⟩ := hex_dig _ (by omega)
      have hd2 : hexs.extract (y % 16) (y % 16 + 1) = ⟨#[hexd (y % 16)]⟩ := hex_dig _ (by omega)
      unfold hexs at hd1 hd2
      refine wp_region_plan (fun w' => True) [(0, true), (1, true), (2, true), (3, true), (4, true), (5, true), (6, true), (7, true), (8, true), (9, true), (10, true), (11, true), (12, true), (13, true), (14, true), (15, true)] (by kernel_rfl) (by kernel_rfl) (by decide) (by kernel_rfl) (fun d _ _ _ _ h => by cases d <;> exact h) trivial (fun _ => ?_)
      repeat
        refine wpPlan_read (v := ?_) (by rfl) (by rfl) (fun w' _ => ?_) ?_
        rotate_left 1
        · first
            | (refine yield_strslice 9 _ (.tmp 14) (.tmp 17) hexs .u8 .u8 (y / 16) (y / 16 + 1) Tryd.underlying9 ?_ ?_ ?_ ?_ (by omega) (by show _ ≤ 16; omega) <;> rfl)
            | (refine yield_strslice 9 _ (.tmp 20) (.tmp 23) hexs .u8 .u8 (y % 16) (y % 16 + 1) Tryd.underlying9 ?_ ?_ ?_ ?_ (by omega) (by show _ ≤ 16; omega) <;> rfl)
            | (refine yield_stradd 9 9 (.tmp 18) (.tmp 24) ⟨[hexd (y / 16)].toArray⟩ ⟨[hexd (y % 16)].toArray⟩ ?_ ?_ ?_ (by rw [ba_size, ba_size]; simp) <;> rfl)
            | (refine yield_stradd 9 9 (.tmp 12) (.tmp 25) ⟨(hexL (xs.take k)).toArray⟩ ⟨[hexd (y / 16), hexd (y % 16)].toArray⟩ ?_ ?_ ?_ (by rw [ba_size, ba_size, hexL_len, List.length_take]; simp; omega) <;> rfl)
            | (go_simp; try go_bits
               with_reducible rfl)
        try simp only [Act.put, List.setIfInBounds_toArray, List.set_cons_zero, List.set_cons_succ, hd1, hd2, ba_app, List.cons_append, List.nil_append]
      refine wpPlan_nil ?_
      go_wp2_with fail
      go_roundw
      case rel => exact ⟨k + 1, by omega, by go_num, by rw [hv.out, ← HY.out], n + 1, rfl⟩
      case measure => simp [intOf]; omega
    · have hkk : k = xs.length := by omega
      have he : xs.take k = xs := by rw [hkk, List.take_length]
      have HE := Lib.hid he
      clear he hkk
      go_wp2_with fail
      go_ret
      exact ⟨by rw [HE.out]; rfl, n, rfl⟩
end Go.Proofs.YtelcblmconophaaDoor
