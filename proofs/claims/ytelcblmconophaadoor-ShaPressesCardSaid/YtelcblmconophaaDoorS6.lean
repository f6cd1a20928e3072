import Derived.Test.YtelcblmconophaaDoorS5
namespace Go.Proofs.YtelcblmconophaaDoor
open Go.RowKit
/-- The i-th byte of a word, the lowest being number 0. -/
def byt (v : BitVec 64) (i : Nat) : BitVec 8 := (v >>> (8 * i)).setWidth 8
/-- The low n bytes, the highest first. -/
def be (v : BitVec 64) (n : Nat) : Msg := (List.range n).map fun j => byt v (n - 1 - j)
theorem be_len (v : BitVec 64) (n : Nat) : (be v n).length = n := by simp [be]
def putk (cs : Array Value) (o n : Nat) (v : BitVec 64) : Nat → Array Value
  | 0 => cs
  | k + 1 => (putk cs o n v k).setIfInBounds (o + (n - 1 - k)) (.int .u8 (U8 (byt v k)))
theorem putk_size (cs : Array Value) (o n : Nat) (v : BitVec 64) (k : Nat) : (putk cs o n v k).size = cs.size := by
  induction k <;> simp_all [putk]
theorem putk_at (cs : Array Value) (o n : Nat) (v : BitVec 64) (hn : o + n ≤ cs.size) (k : Nat) (hk : k ≤ n) (j : Nat) :
    (putk cs o n v k)[j]? = if o + (n - k) ≤ j ∧ j < o + n then some (.int .u8 (U8 (byt v (o + n - 1 - j)))) else cs[j]? := by
  induction k with
  | zero => rw [if_neg (by omega)]; rfl
  | succ k ih =>
    rw [putk, Array.getElem?_setIfInBounds, ih (by omega)]
    by_cases h1 : o + (n - 1 - k) = j
    · rw [if_pos h1, if_pos (by rw [putk_size]; omega), if_pos (by omega), show o + n - 1 - j = k by omega]
    · rw [if_neg h1]
      by_cases h2 : o + (n - k) ≤ j ∧ j < o + n
      · rw [if_pos h2, if_pos (by omega)]
      · rw [if_neg h2, if_neg (by omega)]
theorem putk_all (cs : Array Value) (o n : Nat) (v : BitVec 64) (hn : o + n ≤ cs.size) : putk cs o n v n = spl cs o (e8 (be v n)) := by
  apply Array.ext_getElem?
  intro j
  have hsp : (spl cs o (e8 (be v n)))[j]? = (cs.toList.take o ++ (e8 (be v n)).toList ++ cs.toList.drop (o + (e8 (be v n)).size))[j]? := by rw [spl, List.getElem?_toArray]
  rw [putk_at cs o n v hn n (Nat.le_refl _), hsp]
  have hs : (e8 (be v n)).toList.length = n := by simp [be_len]
  have hs' : (e8 (be v n)).size = n := by simp [be_len]
  have ht : (cs.toList.take o).length = o := by simp; omega
  by_cases h1 : o + (n - n) ≤ j ∧ j < o + n
  · rw [if_pos h1, List.getElem?_append_left (by rw [List.length_append, ht, hs]; omega), List.getElem?_append_right (by omega), ht, Array.getElem?_toList, e8_at _ _ (by rw [be_len]; omega)]
    have : at8 (be v n) (j - o) = byt v (o + n - 1 - j) := by
      simp only [at8, be, List.getD_eq_getElem?_getD]
      rw [List.getElem?_map, List.getElem?_range (by omega)]
      simp only [Option.map_some, Option.getD_some]
      congr 1; omega
    rw [this]
  · rw [if_neg h1]
    by_cases h2 : j < o
    · rw [List.append_assoc, List.getElem?_append_left (by omega), List.getElem?_take_of_lt h2, Array.getElem?_toList]
    · rw [List.getElem?_append_right (by rw [List.length_append, ht, hs]; omega), List.length_append, ht, hs, List.getElem?_drop, hs', Array.getElem?_toList]
      congr 1; omega
theorem byt_val (v : BitVec 64) (k : Nat) : U64 v / 2 ^ (8 * k) % 256 = U8 (byt v k) := by
  unfold U64 U8 byt
  rw [BitVec.toNat_setWidth, BitVec.toNat_ushiftRight, Nat.shiftRight_eq_div_pow]
  simp
theorem grown_set {w wr : World} {b o : Nat} (h : w.grownBy wr (some b)) (v : Value) : w.grownBy (wr.setCell ⟨b, o, none⟩ v) (some b) :=
  ⟨h.os, h.tape, h.output, by rw [World.size_setCell]; exact h.size, fun k hk hne => (Below.heap_setCell wr ⟨b, o, none⟩ v k (fun e => hne (by rw [e]))).trans (h.block k hk hne)⟩
theorem grown_trans {w w1 w2 : World} {r : Option Nat} (h : w.grownBy w1 r) (k : w1.grownBy w2 r) : w.grownBy w2 r :=
  ⟨k.os.trans h.os, k.tape.trans h.tape, k.output.trans h.output, Nat.le_trans h.size k.size, fun j hj hne => (k.block j (Nat.lt_of_lt_of_le hj h.size) hne).trans (h.block j hj hne)⟩
set_option maxHeartbeats 1000000 in
theorem put_walk (b o n c : Nat) (v : BitVec 64) (t : TypeId) (cs : Array Value) (w : World) (hB : Blk w b t cs) (hn : o + n ≤ cs.size) (h8 : n ≤ 8) :
    Calls Tryd.prog 44 #[.slice (some ⟨b, o, none⟩) n c, .int .u64 (U64 v)] w fun e w' => e = .returned (.tuple #[]) ∧ Blk w' b t (spl cs o (e8 (be v n))) ∧ w'.heap.size = w.heap.size ∧ w.grownBy w' (some b) := by
  go_enter Tryd.func44, Tryd.ntmps44
  go_wp2_with fail
  go_loopw [7] (fun i wr => ∃ k : Nat, k ≤ n ∧ i = .int .i64 k ∧ Blk wr b t (putk cs o n v k) ∧ wr.heap.size = w.heap.size ∧ w.grownBy wr (some b)) (fun i _ => n - (intOf i).toNat)
  case atStart => exact ⟨0, by omega, rfl, hB, rfl, World.grownBy.refl w _⟩
  case round =>
    obtain ⟨k, hk, rfl, hB, hs, hg⟩ := hrel
    by_cases hlt : k < n
    · have hc : (putk cs o n v k)[o + (n - 1 - k)]? = some ((putk cs o n v k)[o + (n - 1 - k)]'(by rw [putk_size]; omega)) := Array.getElem?_eq_getElem _
      have cw := (hB.cell (o + (n - 1 - k))).trans hc
      have fw := hB.frozen (o + (n - 1 - k))
      clear hc
      have HS := Lib.hid hs
      clear hs
      have i1 : (0 : Int) ≤ ↑n - 1 - ↑k := by omega
      have i2 : (↑n : Int) - 1 - ↑k < ↑n := by omega
      go_wp2_with fail
      rw [byt_val]
      go_roundw
      case rel => exact ⟨k + 1, by omega, by go_num, hB.set_ _ _, by rw [World.size_setCell]; exact HS.out, grown_set hg _⟩
      case measure => simp [intOf]; omega
    · have hkn : k = n := by omega
      have HB := hB
      rw [hkn, putk_all _ _ _ _ hn] at HB
      clear hkn hB
      go_wp2_with fail
      go_end0
      exact ⟨rfl, HB, hs, hg⟩
end Go.Proofs.YtelcblmconophaaDoor
