/- Each operation that computes or reads: what it makes of plain values is what the model makes. -/
import Derived.Test.YtdbiidfgbkmbmaaDoorE5
namespace Go.Proofs.YtdbiidfgbkmbmaaDoor
open Go.RowKit

/-- The types that are told are the program's. -/
def TysOK (P : Program) (ty : TypeId → Ty) : Prop := ∀ t, ty t ≠ .no → TyOK P ty t
theorem okT_of {τ : Ty} {K : Prop} (h : okT τ K) : τ ≠ .no ∧ K := by
  cases τ with
  | no => exact h.elim
  | _ => exact ⟨by simp, h⟩

section
variable {P : Program} {E : Pg} {o : Oper} {x : Operand → AV} {key : Nat} {m : Nat → Option Row} {K : Res → Prop} {t : TypeId}
theorem s_move {y : Operand} (ho : o.op = .move y) (h : K ⟨x y, [], []⟩) : ∃ r, K r ∧ Valid P E.ty o x key m r :=
  ⟨_, h, valid_val rfl fun c a _ _ _ hx => ⟨_, by unfold execOp; rw [ho]; rfl, hx y⟩⟩
theorem s_assign {y : Operand} (ho : o.op = .assign y) (h : K ⟨x y, [], []⟩) : ∃ r, K r ∧ Valid P E.ty o x key m r :=
  ⟨_, h, valid_val rfl fun c a _ _ _ hx => ⟨_, by unfold execOp; rw [ho]; rfl, hx y⟩⟩
theorem rv_bo {c : Cx} {b : Bool} {v : Value} (h : RV c (.bo b) v) : v = .bool b := by simpa [RV, R] using h
theorem rv_ptr {c : Cx} {τ : Ty} {k : Nat} {p : List Nat} {v : Value} (h : RV c (.ptr τ k p) v) : ∃ τ₀ a b, c.m k = some (.var τ₀ a) ∧ c.bl k = some b ∧ τ₀.inP p ∧ τ₀.at p = τ ∧ v = .pointer (some ⟨b, τ₀.off p, none⟩) := by
  obtain ⟨τ₀, a, b, h1, h2, h3, h4, h5⟩ := h
  exact ⟨τ₀, a, b, h1, h2, h3, h4, by simpa using h5⟩
theorem rv_ipt {c : Cx} {τ : Ty} {a : AV} {v : Value} (h : RV c (.ipt τ a) v) : ∃ b o ds, v = .pointer (some ⟨b, o, none⟩) ∧ b < c.w.heap.size ∧ ¬ c.Mu b ∧ R c a ds ∧ Sh τ a ∧ c.w.rangeAt b o ds := by
  obtain ⟨b, o, ds, h1, h2⟩ := h
  exact ⟨b, o, ds, by simpa using h1, h2⟩
theorem rv_gpt {c : Cx} {τ : Ty} {e k l i : Nat} {p : List Nat} {v : Value} (h : RV c (.gpt τ e k l i p) v) : ∃ n f ad, c.m k = some (.grow e n f) ∧ l ≤ n ∧ v = .pointer (some ad) ∧ (n = l → i < l ∧ (c.ty e).inP p ∧ (c.ty e).at p = τ ∧ ∃ b, c.bl k = some b ∧ ad = ⟨b, i * (c.ty e).size + (c.ty e).off p, none⟩) := by
  obtain ⟨n, f, A, h1, h2, h3, h4⟩ := h
  exact ⟨n, f, A, h1, h2, by simpa using h3, h4⟩
theorem rv_imm {c : Cx} {fr : Bool} {et : Ty} {l : Nat} {f : Nat → AV} {v : Value} (h : RV c (.imm fr et l f) v) : ∃ A q, v = .slice A l q ∧ l ≤ q ∧ q ≤ maxLen ∧
      (0 < l → ∃ b o, A = some ⟨b, o, none⟩ ∧ b < c.w.heap.size ∧ ¬ c.Mu b ∧ (fr = true → c.fb ≤ b) ∧ ∀ i, i < l → Sh et (f i) ∧ ∃ ds, R c (f i) ds ∧ c.w.rangeAt b (o + i * et.size) ds) := by
  obtain ⟨A, q, h1, h2⟩ := h
  exact ⟨A, q, by simpa using h1, h2⟩
theorem rv_gsl {c : Cx} {e k l : Nat} {v : Value} (h : RV c (.gsl e k l) v) : ∃ n f A q, c.m k = some (.grow e n f) ∧ l ≤ n ∧ v = .slice A l q ∧ l ≤ q ∧ q ≤ maxLen ∧ (0 < l → ∃ ad, A = some ad) ∧ (n = l → c.sv k = .slice A l q) := by
  obtain ⟨n, f, A, q, h1, h2, h3, h4⟩ := h
  exact ⟨n, f, A, q, h1, h2, by simpa using h3, h4⟩
theorem rv_gsub {c : Cx} {e k al o l : Nat} {v : Value} (h : RV c (.gsub e k al o l) v) : ∃ n f A q, c.m k = some (.grow e n f) ∧ al ≤ n ∧ v = .slice A l q ∧ l ≤ q ∧ q ≤ maxLen ∧ o + l ≤ al ∧ (0 < l → ∃ ad, A = some ad ∧ (n = al → ∃ b, c.bl k = some b ∧ ad = ⟨b, o * (c.ty e).size, none⟩)) := by
  obtain ⟨n, f, A, q, h1, h2, h3, h4⟩ := h
  exact ⟨n, f, A, q, h1, h2, by simpa using h3, h4⟩
theorem rv_sub {c : Cx} {et : Ty} {k : Nat} {p : List Nat} {o l : Nat} {v : Value} (h : RV c (.sub et k p o l) v) : ∃ τ a b n g A q, c.m k = some (.var τ a) ∧ c.bl k = some b ∧ τ.inP p ∧ τ.at p = .agg true n g ∧ g 0 = et ∧ o + l ≤ n ∧ v = .slice A l q ∧ l ≤ q ∧ q ≤ maxLen ∧ (0 < l → A = some ⟨b, τ.off p + o * et.size, none⟩) := by
  obtain ⟨τ, a, b, n, g, A, q, h1, h2, h3, h4, h5, h6, h7, h8⟩ := h
  exact ⟨τ, a, b, n, g, A, q, h1, h2, h3, h4, h5, h6, by simpa using h7, h8⟩
theorem rv_str {c : Cx} {s : List UInt8} {v : Value} (h : RV c (.str s) v) : v = .string ⟨s.toArray⟩ := by simpa [RV, R] using h

theorem s_pick {y a b : Operand} (ho : o.op = .pick y a b) (h : match x y with
    | .bo v => (v = true → K ⟨x a, [], []⟩) ∧ (v = false → K ⟨x b, [], []⟩)
    | _ => False) : ∃ r, K r ∧ Valid P E.ty o x key m r := by
  split at h
  · rename_i v hv
    have hs : ∀ (c : Cx) (act : Act), (∀ y, RV c (x y) (act.eval y)) → act.eval y = .bool v := fun c act hx => rv_bo (c := c) (hv ▸ hx y)
    cases v with
    | true => exact ⟨_, h.1 rfl, valid_val rfl fun c act _ _ _ hx => ⟨_, by unfold execOp; simp only [ho, hs c act hx]; rfl, hx a⟩⟩
    | false => exact ⟨_, h.2 rfl, valid_val rfl fun c act _ _ _ hx => ⟨_, by unfold execOp; simp only [ho, hs c act hx]; rfl, hx b⟩⟩
  · exact h.elim

theorem una_sound {c : Cx} {w : World} {op : UnOp} {a : AV} {v : Value} {K : AV → Prop} (hx : RV c a v) (h : una op a K) : ∃ r, K r ∧ Yld P c w (Op.unary op v) r := by
  unfold una at h
  split at h
  · rw [show v = _ by simpa [RV, R] using hx]; exact ⟨_, h, yld_pure rfl⟩
  · rename_i x
    rw [show v = _ by simpa [RV, R] using hx]
    refine ⟨_, h, yld_pure (z := .int .u8 (IntKind.u8.wrap ((BitVec.ofInt 8 255 ^^^ BitVec.ofInt 8 (U8 x)).toNat : Nat))) ?_⟩
    rw [ofInt_U8, wrap_nat8, BitVec.ofNat_toNat, BitVec.setWidth_eq, show BitVec.ofInt 8 255 = BitVec.allOnes 8 from by decide, BitVec.allOnes_xor]; rfl
  · rename_i x
    rw [show v = _ by simpa [RV, R] using hx]
    refine ⟨_, h, yld_pure (z := .int .u16 (IntKind.u16.wrap ((BitVec.ofInt 16 65535 ^^^ BitVec.ofInt 16 (U16 x)).toNat : Nat))) ?_⟩
    rw [show BitVec.ofInt 16 (U16 x) = x from ofInt_toNat x, show BitVec.ofInt 16 65535 = BitVec.allOnes 16 from by decide, BitVec.allOnes_xor]
    show [_] = [_]
    rw [uwrapN (k := .u16) rfl]
    show [Value.int .u16 ((BitVec.ofNat 16 (~~~x).toNat).toNat : Int)] = _
    rw [BitVec.ofNat_toNat, BitVec.setWidth_eq]; rfl
  · rename_i x
    rw [show v = _ by simpa [RV, R] using hx]
    refine ⟨_, h, yld_pure (z := .int .u32 (IntKind.u32.wrap ((BitVec.ofInt 32 4294967295 ^^^ BitVec.ofInt 32 (U32 x)).toNat : Nat))) ?_⟩
    rw [ofInt_U32, wrap_nat32, BitVec.ofNat_toNat, BitVec.setWidth_eq, show BitVec.ofInt 32 4294967295 = BitVec.allOnes 32 from by decide, BitVec.allOnes_xor]; rfl
  · rename_i x
    rw [show v = _ by simpa [RV, R] using hx]
    refine ⟨_, h, yld_pure (z := .int .u64 (IntKind.u64.wrap ((BitVec.ofInt 64 18446744073709551615 ^^^ BitVec.ofInt 64 (U64 x)).toNat : Nat))) ?_⟩
    rw [ofInt_U64, wrap_nat64, BitVec.ofNat_toNat, BitVec.setWidth_eq, show BitVec.ofInt 64 18446744073709551615 = BitVec.allOnes 64 from by decide, BitVec.allOnes_xor]; rfl
  · rename_i x
    rw [show v = _ by simpa [RV, R] using hx]
    refine ⟨_, h.2, yld_pure (z := .int .i64 (IntKind.i64.wrap (0 - (x : Int)))) ?_⟩
    rw [iwrap (by have := h.1; unfold N63 at this; unfold I64; omega), Int.zero_sub]; rfl
  · rename_i x
    rw [show v = _ by simpa [RV, R] using hx]
    refine ⟨_, h.2, yld_pure (z := .int .i64 (IntKind.i64.wrap (0 - x))) ?_⟩
    rw [Int.zero_sub, iwrap h.1]; rfl
  · exact h.elim
theorem s_unOp {op : UnOp} {y : Operand} (ho : o.op = .unOp op t y) (h : una op (x y) fun v => K ⟨v, [], []⟩) : ∃ r, K r ∧ Valid P E.ty o x key m r := by
  obtain ⟨r, h1, h2⟩ := una_det h
  refine ⟨_, h1, valid_yld rfl fun c a _ _ _ hx => ⟨_, by unfold execOp; rw [ho], ?_⟩⟩
  obtain ⟨r', rfl, h3⟩ := una_sound (P := P) (c := c) (w := c.w) (hx y) (h2 (· = r) rfl)
  exact h3
theorem eqGuard_ok {op : BinOp} {y z : Operand} {v u : Value} {w : World} (hv : (∃ k n, v = .int k n) ∨ (∃ b, v = .bool b) ∨ (∃ s, v = .string s)) : (eqGuard op t y z v u).run P w = .ok () w := by
  rcases hv with ⟨k, n, rfl⟩ | ⟨b, rfl⟩ | ⟨s, rfl⟩ <;> cases op <;> first | rfl | (cases u <;> rfl)
theorem conv_sound (hT : TysOK P E.ty) {c : Cx} {w : World} {s d : TypeId} {a : AV} {v : Value} {K : AV → Prop} (hs : TyOK P E.ty s) (hx : RV c a v) (h : conv (E.ty d) a K) : ∃ r, K r ∧ Yld P c w (convert s d v) r := by
  obtain ⟨ds, hus, _⟩ := hs.desc
  have key : ∀ {k k' : IntKind} {n : Int}, E.ty d = .int k' → (convert s d (.int k n)).run P w = .ok (.int k' (k'.wrap n)) w := fun {k k' n} hd => by
    have htd := hT d (by rw [hd]; simp)
    have hu : P.underlying d = some (.int k') := by
      cases htd with
      | int _ k'' _ hu _ hty => rw [hd] at hty; injection hty with e; rw [e]; exact hu
      | _ => simp_all
    simp [convert, run_underlying hus, run_underlying hu, Conv.intToInt]
  have word : ∀ {q : IntKind} {n : Nat} {x : BitVec n} {K : AV → Prop}, toW (E.ty d) x K → ∃ r, K r ∧ Yld P c w (convert s d (.int q (x.toNat : Int))) r := fun {q n x K} h => by
    unfold toW at h
    split at h
    · rename_i hd; exact ⟨_, h, _, key hd, by rw [uwrapN rfl]; show [_] = [_]; congr 3; exact congrArg _ (BitVec.eq_of_toNat_eq (by simp [IntKind.bits]))⟩
    · rename_i hd; exact ⟨_, h, _, key hd, by rw [uwrapN rfl]; show [_] = [_]; congr 3; exact congrArg _ (BitVec.eq_of_toNat_eq (by simp [IntKind.bits]))⟩
    · rename_i hd; exact ⟨_, h, _, key hd, by rw [uwrapN rfl]; show [_] = [_]; congr 3; exact congrArg _ (BitVec.eq_of_toNat_eq (by simp [IntKind.bits]))⟩
    · rename_i hd; exact ⟨_, h, _, key hd, by rw [uwrapN rfl]; show [_] = [_]; congr 3; exact congrArg _ (BitVec.eq_of_toNat_eq (by simp [IntKind.bits]))⟩
    · rename_i hd; exact ⟨_, h.2, _, key hd, by rw [iwrap (by have := h.1; unfold N63 at this; unfold I64; omega)]; rfl⟩
    · exact h.elim
  unfold conv at h
  split at h
  · rw [show v = _ by simpa [RV, R] using hx]; exact word h
  · rw [show v = _ by simpa [RV, R] using hx]; exact word h
  · rw [show v = _ by simpa [RV, R] using hx]; exact word h
  · rw [show v = _ by simpa [RV, R] using hx]; exact word h
  · rename_i x
    rw [show v = _ by simpa [RV, R] using hx]
    split at h
    · rename_i hd; exact ⟨_, h, _, key hd, by rw [uwrapN rfl]; rfl⟩
    · rename_i hd; exact ⟨_, h, _, key hd, by rw [uwrapN rfl]; rfl⟩
    · rename_i hd; exact ⟨_, h, _, key hd, by rw [uwrapN rfl]; rfl⟩
    · rename_i hd; exact ⟨_, h, _, key hd, by rw [uwrapN rfl]; rfl⟩
    · rename_i hd; exact ⟨_, h.2, _, key hd, by rw [iwrap (by have := h.1; unfold N63 at this; unfold I64; omega)]; rfl⟩
    · exact h.elim
  · rename_i x
    rw [show v = _ by simpa [RV, R] using hx]
    split at h
    · rename_i hd; exact ⟨_, h, _, key hd, by rw [uwrapI rfl]; rfl⟩
    · rename_i hd; exact ⟨_, h, _, key hd, by rw [uwrapI rfl]; rfl⟩
    · rename_i hd; exact ⟨_, h, _, key hd, by rw [uwrapI rfl]; rfl⟩
    · rename_i hd; exact ⟨_, h, _, key hd, by rw [uwrapI rfl]; rfl⟩
    · rename_i hd; exact ⟨_, h.2, _, key hd, by rw [iwrap h.1]; rfl⟩
    · exact h.elim
  · exact h.elim
theorem run_strOp {c : Cx} {w : World} {a b : List UInt8} {op : BinOp} {K : AV → Prop} (h : semStr (.str a) (.str b) op K) : ∃ r, K r ∧ (∀ K', K' r → semStr (.str a) (.str b) op K') ∧ Yld P c w (binOp op t (.string ⟨a.toArray⟩) (.string ⟨b.toArray⟩)) r := by
  have hl : ∀ l : List UInt8, (⟨l.toArray⟩ : ByteArray).size = l.length := fun l => by simp [ByteArray.size]
  have ht : ∀ l : List UInt8, (⟨l.toArray⟩ : ByteArray).toList = l := fun l => by rw [ByteArray.toList_eq]
  unfold semStr at h
  cases op <;> simp only [] at h <;> try exact h.elim
  case add =>
    refine ⟨_, h.2, fun K' hk => ⟨h.1, hk⟩, .string ⟨(a ++ b).toArray⟩, ?_, rfl⟩
    have hb := h.1
    unfold bnd at hb
    have : ¬ (((⟨a.toArray⟩ : ByteArray).size + (⟨b.toArray⟩ : ByteArray).size : Nat) : Int) > IntKind.i64.max := by
      have : IntKind.i64.max = 9223372036854775807 := by decide
      rw [this, hl, hl]; omega
    simp only [binOp, Op.stringOp, this, if_false]
    show Result.ok _ w = _
    congr 2
  case eql =>
    refine ⟨_, h, fun K' hk => hk, .bool (a == b), ?_, ?_⟩
    · simp only [binOp, Op.stringOp, ht]; rfl
    · show [_] = [_]; congr 2; rw [Bool.eq_iff_iff]; simp
  case neq =>
    refine ⟨_, h, fun K' hk => hk, .bool (!(a == b)), ?_, ?_⟩
    · simp only [binOp, Op.stringOp, ht]; rfl
    · show [_] = [_]; congr 2; rw [Bool.eq_iff_iff]; simp
end
end Go.Proofs.YtdbiidfgbkmbmaaDoor
