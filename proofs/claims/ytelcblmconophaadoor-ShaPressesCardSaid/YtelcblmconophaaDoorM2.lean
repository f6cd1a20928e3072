/- Words and their bytes, forth and back. -/
import Derived.Test.YtelcblmconophaaDoorR5
namespace Go.Proofs.YtelcblmconophaaDoor
theorem w4_nat (a b c d : BitVec 8) : (w4 a b c d).toNat = a.toNat * 16777216 + b.toNat * 65536 + c.toNat * 256 + d.toNat := by
  have h := w4_val a b c d
  have ha := a.isLt
  have hb := b.isLt
  have hc := c.isLt
  have hd := d.isLt
  rw [← h]
  simp only [val, List.foldl_cons, List.foldl_nil, BitVec.toNat_setWidth, BitVec.toNat_add, BitVec.toNat_mul, BitVec.toNat_ofNat, show BitVec.toNat (0 : BitVec 64) = 0 from rfl]
  omega
theorem w4_val64 (a b c d : BitVec 8) : (w4 a b c d).setWidth 64 = val [a, b, c, d] := by
  apply BitVec.eq_of_toNat_eq
  have ha := a.isLt
  have hb := b.isLt
  have hc := c.isLt
  have hd := d.isLt
  rw [BitVec.toNat_setWidth, w4_nat]
  simp only [val, List.foldl_cons, List.foldl_nil, BitVec.toNat_setWidth, BitVec.toNat_add, BitVec.toNat_mul, BitVec.toNat_ofNat, show BitVec.toNat (0 : BitVec 64) = 0 from rfl]
  omega
theorem byt_nat (v : BitVec 64) (i : Nat) : (byt v i).toNat = v.toNat / 2 ^ (8 * i) % 256 := by
  unfold byt; rw [BitVec.toNat_setWidth, BitVec.toNat_ushiftRight, Nat.shiftRight_eq_div_pow]
theorem be_w4 (a b c d : BitVec 8) : be ((w4 a b c d).setWidth 64) 4 = [a, b, c, d] := by
  have ha := a.isLt
  have hb := b.isLt
  have hc := c.isLt
  have hd := d.isLt
  have hn := w4_nat a b c d
  have e : ∀ v : BitVec 64, be v 4 = [byt v 3, byt v 2, byt v 1, byt v 0] := fun _ => rfl
  have hv : ((w4 a b c d).setWidth 64).toNat = a.toNat * 16777216 + b.toNat * 65536 + c.toNat * 256 + d.toNat := by
    rw [BitVec.toNat_setWidth, hn]; omega
  rw [e]
  generalize (w4 a b c d).setWidth 64 = v at hv
  have e3 : byt v 3 = a := BitVec.eq_of_toNat_eq (by rw [byt_nat, hv]; omega)
  have e2 : byt v 2 = b := BitVec.eq_of_toNat_eq (by rw [byt_nat, hv]; omega)
  have e1 : byt v 1 = c := BitVec.eq_of_toNat_eq (by rw [byt_nat, hv]; omega)
  have e0 : byt v 0 = d := BitVec.eq_of_toNat_eq (by rw [byt_nat, hv]; omega)
  rw [e3, e2, e1, e0]
theorem w4_be (x : BitVec 32) : w4 (byt (x.setWidth 64) 3) (byt (x.setWidth 64) 2) (byt (x.setWidth 64) 1) (byt (x.setWidth 64) 0) = x := by
  apply BitVec.eq_of_toNat_eq
  have hx := x.isLt
  rw [w4_nat, byt_nat, byt_nat, byt_nat, byt_nat, BitVec.toNat_setWidth]
  omega
theorem list32 (d : Msg) (hd : d.length = 32) : dig (L1 d 8) = d := by
  match d, hd with
  | [a0, a1, a2, a3, a4, a5, a6, a7, a8, a9, a10, a11, a12, a13, a14, a15, a16, a17, a18, a19, a20, a21, a22, a23, a24, a25, a26, a27, a28, a29, a30, a31], _ =>
    have q : L1 [a0, a1, a2, a3, a4, a5, a6, a7, a8, a9, a10, a11, a12, a13, a14, a15, a16, a17, a18, a19, a20, a21, a22, a23, a24, a25, a26, a27, a28, a29, a30, a31] 8 = [w4 a0 a1 a2 a3, w4 a4 a5 a6 a7, w4 a8 a9 a10 a11, w4 a12 a13 a14 a15, w4 a16 a17 a18 a19, w4 a20 a21 a22 a23, w4 a24 a25 a26 a27, w4 a28 a29 a30 a31] := rfl
    rw [q]
    simp only [dig, List.flatMap_cons, List.flatMap_nil, be_w4, List.cons_append, List.nil_append]
theorem words_dig (h : List (BitVec 32)) (hh : h.length = 8) : L1 (dig h) 8 = h := by
  match h, hh with
  | [a, b, c, d, e, f, g, k], _ =>
    have q : L1 (dig [a, b, c, d, e, f, g, k]) 8 = [a, b, c, d, e, f, g, k].map fun x => w4 (byt (x.setWidth 64) 3) (byt (x.setWidth 64) 2) (byt (x.setWidth 64) 1) (byt (x.setWidth 64) 0) := rfl
    rw [q]
    simp only [w4_be, List.map_cons, List.map_nil]
end Go.Proofs.YtelcblmconophaaDoor
