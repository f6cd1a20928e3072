/- A state of the hash as a function of the message that was fed: plain lists. -/
import Derived.Test.YtelcblmconophaaDoorS4
namespace Go.Proofs.YtelcblmconophaaDoor
abbrev Msg := List (BitVec 8)
def hashN (m : Msg) : Nat → List (BitVec 32)
  | 0 => H0
  | k + 1 => press (hashN m k) ((m.drop (64 * k)).take 64)
def hsh (m : Msg) : List (BitVec 32) := hashN m (m.length / 64)
def tl (m : Msg) : Msg := m.drop (64 * (m.length / 64))
def zpad (l : Msg) : Msg := l ++ List.replicate (64 - l.length) 0
def rst (m : Msg) : Msg := zpad (tl m)
theorem tl_len (m : Msg) : (tl m).length = m.length % 64 := by simp [tl]; omega
theorem zpad_len (l : Msg) (h : l.length ≤ 64) : (zpad l).length = 64 := by simp [zpad]; omega
theorem rst_len (m : Msg) : (rst m).length = 64 := zpad_len _ (by rw [tl_len]; omega)
theorem press_len (h : List (BitVec 32)) (b : Msg) : (press h b).length = 8 := rnds_len _ _
theorem hashN_len (m : Msg) (k : Nat) : (hashN m k).length = 8 := by cases k <;> first | rfl | exact press_len _ _
theorem hsh_len (m : Msg) : (hsh m).length = 8 := hashN_len _ _
theorem hashN_append (m r : Msg) (k : Nat) (h : 64 * k ≤ m.length) : hashN (m ++ r) k = hashN m k := by
  induction k with
  | zero => rfl
  | succ k ih =>
    rw [hashN, hashN, ih (by omega), List.drop_append_of_le_length (by omega), List.take_append_of_le_length (by simp; omega)]
/-- A block is full. -/
theorem hsh_full (m r : Msg) (h : r.length = 64 - m.length % 64) : hsh (m ++ r) = press (hsh m) (tl m ++ r) := by
  have hl : (m ++ r).length / 64 = m.length / 64 + 1 := by simp; omega
  rw [hsh, hl, hashN, hashN_append _ _ _ (by omega), hsh, tl, List.drop_append_of_le_length (by omega), List.take_of_length_le (by simp; omega)]
theorem tl_full (m r : Msg) (h : r.length = 64 - m.length % 64) : tl (m ++ r) = [] := by
  apply List.eq_nil_of_length_eq_zero; rw [tl_len]; simp; omega
theorem rst_full (m r : Msg) (h : r.length = 64 - m.length % 64) : rst (m ++ r) = zpad [] := by rw [rst, tl_full m r h]
/-- No block is full. -/
theorem hsh_part (m r : Msg) (h : m.length % 64 + r.length < 64) : hsh (m ++ r) = hsh m := by
  have hl : (m ++ r).length / 64 = m.length / 64 := by simp; omega
  rw [hsh, hl, hashN_append _ _ _ (by omega), hsh]
theorem tl_part (m r : Msg) (h : m.length % 64 + r.length < 64) : tl (m ++ r) = tl m ++ r := by
  have hl : (m ++ r).length / 64 = m.length / 64 := by simp; omega
  rw [tl, hl, List.drop_append_of_le_length (by omega), tl]
/-- What is written behind the bytes that wait. -/
theorem put_rst (m r : Msg) (h : m.length % 64 + r.length ≤ 64) : (rst m).take (m.length % 64) ++ r ++ (rst m).drop (m.length % 64 + r.length) = zpad (tl m ++ r) := by
  have ht := tl_len m
  rw [rst, zpad, zpad, List.take_append_of_le_length (by omega), List.take_of_length_le (by omega), List.drop_append, List.drop_of_length_le (by omega), List.nil_append, List.drop_replicate]
  congr 2
  simp; omega
theorem rst_part (m r : Msg) (h : m.length % 64 + r.length < 64) : (rst m).take (m.length % 64) ++ r ++ (rst m).drop (m.length % 64 + r.length) = rst (m ++ r) := by
  rw [put_rst m r (by omega), rst, tl_part m r h]
theorem zpad_exact (m r : Msg) (h : r.length = 64 - m.length % 64) : zpad (tl m ++ r) = tl m ++ r := by
  have ht := tl_len m
  simp [zpad]; omega
end Go.Proofs.YtelcblmconophaaDoor
