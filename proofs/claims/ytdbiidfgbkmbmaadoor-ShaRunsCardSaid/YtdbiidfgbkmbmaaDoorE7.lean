/- Values of arrays and structs held against each other; parts of them. -/
import Derived.Test.YtdbiidfgbkmbmaaDoorE6
import Derived.Laws.StructEq
import Derived.ChangeKeysEq
namespace Go.Proofs.YtdbiidfgbkmbmaaDoor
open Go.RowKit
section
variable {P : Program} {ty : TypeId → Ty} {t : TypeId} {c : Cx} {w : World}
/-- A part of a value. -/
theorem run_part' (h : TyOK P ty t) {cs : Array Value} {pre ds post : List Value} {a : AV} (hc : cs.toList = pre ++ ds ++ post) (hR : R c a ds) (hs : Sh (ty t) a) :
    (part t cs pre.length).run P w = .ok (valOf (ty t) ds) w := by
  have hl := R_len hR hs
  cases hA : (ty t).isA with
  | true =>
    have e : cs.extract pre.length (pre.length + (ty t).size) = ds.toArray := by
      apply Array.ext'
      rw [Array.toList_extract, hc, List.extract_eq_take_drop, List.append_assoc, List.drop_left, Nat.add_sub_cancel_left, ← hl, List.take_left]
    have e2 : valOf (ty t) ds = .agg ds.toArray := by cases hty : ty t <;> rw [hty] at hA <;> first | rfl | (simp [Ty.isA] at hA)
    simp [part, run_isAgg' h, hA, run_sizeOf' h, e, e2]
  | false =>
    have h1 : ∃ v, ds = [v] := by
      have : ds.length = 1 := by rw [hl]; cases hty : ty t <;> rw [hty] at hA <;> first | rfl | (simp [Ty.isA] at hA)
      match ds, this with
      | [v], _ => exact ⟨v, rfl⟩
    obtain ⟨v, rfl⟩ := h1
    have e2 : valOf (ty t) [v] = v := by cases hty : ty t <;> rw [hty] at hA <;> first | rfl | (simp [Ty.isA] at hA)
    have e : cs[pre.length]? = some v := by
      rw [← Array.getElem?_toList, hc, List.append_assoc, List.getElem?_append_right (Nat.le_refl _)]; simp
    simp [part, run_isAgg' h, hA, e, e2]
theorem fm_at (g : Nat → List Value) {i n : Nat} (h : i < n) : ∃ post, (List.range n).flatMap g = (List.range i).flatMap g ++ g i ++ post := fm_split g i n h

theorem eqB_iff {a b : AV} : eqB a b = true ↔ AEq a b := by unfold eqB; simp
def zOf : AV → Int
  | .u8 x => U8 x
  | .u16 x => U16 x
  | .u32 x => U32 x
  | .u64 x => U64 x
  | .i32 x => x.toInt
  | .nat k => k
  | .int z => z
  | _ => 0
theorem int_of {k : IntKind} {a : AV} {ds : List Value} (hs : Sh (.int k) a) (h : R c a ds) : ds = [.int k (zOf a)] := by
  cases k <;> cases a <;> first | exact hs.elim | exact h
theorem zOf_eq {k : IntKind} {a b : AV} (ha : Sh (.int k) a) (hb : Sh (.int k) b) : (zOf a = zOf b) ↔ AEq a b := by
  cases k <;> cases a <;> first | exact ha.elim | (cases b <;> first | exact hb.elim | (simp only [zOf, AEq, U8, U16, U32, U64]; done) | (simp only [zOf, AEq, U8, U16, U32, U64]; first | omega | (rw [Int.ofNat_inj, BitVec.toNat_inj]) | (rw [BitVec.toInt_inj])))
theorem eqItems_ok {e : TypeId} {d : Nat} {s n : Nat} {f g : Nat → AV} {τ : Ty} (xs ys : Array Value)
    (hx : ∀ i, i < n → ∃ v, (part e xs (i * s)).run P w = .ok v w ∧ ∃ u, (part e ys (i * s)).run P w = .ok u w ∧ (Op.equalIn d e v u).run P w = .ok (eqB (f i) (g i)) w) :
    ∀ (is : List Nat), (∀ i ∈ is, i < n) → ∃ r, (Op.eqItems d e s xs ys is).run P w = .ok r w ∧ (r = true ↔ ∀ i ∈ is, AEq (f i) (g i))
  | [], _ => ⟨true, by simp [Op.eqItems], by simp⟩
  | i :: is, h => by
    obtain ⟨v, h1, u, h2, h3⟩ := hx i (h i (by simp))
    obtain ⟨r, h4, h5⟩ := eqItems_ok xs ys hx (τ := τ) is (fun j hj => h j (by simp [hj]))
    simp only [Op.eqItems, Sem.run_bind, h1, h2, h3, Result.andThen_ok]
    cases hb : eqB (f i) (g i)
    · refine ⟨false, by simp, ?_⟩
      have : ¬ AEq (f i) (g i) := fun hh => by rw [eqB_iff.2 hh] at hb; cases hb
      simp [this]
    · refine ⟨r, by simpa using h4, ?_⟩
      rw [h5]; simp [eqB_iff.1 hb]
theorem eqFields_ok {d : Nat} {f g : Nat → AV} {xs ys : Array Value} : ∀ (fs : List Field) (k : Nat),
    (∀ i (h : i < fs.length), fs[i].name ≠ "_" ∧ ∃ v, (part fs[i].type xs fs[i].offset).run P w = .ok v w ∧ ∃ u, (part fs[i].type ys fs[i].offset).run P w = .ok u w ∧ (Op.equalIn d fs[i].type v u).run P w = .ok (eqB (f (k + i)) (g (k + i))) w) →
    ∃ r, (Op.eqFields d xs ys fs).run P w = .ok r w ∧ (r = true ↔ ∀ i, i < fs.length → AEq (f (k + i)) (g (k + i)))
  | [], k, _ => ⟨true, by simp [Op.eqFields], by simp⟩
  | fl :: fs, k, h => by
    obtain ⟨h0, v, h1, u, h2, h3⟩ := h 0 (by simp)
    obtain ⟨r, h4, h5⟩ := eqFields_ok (f := f) (g := g) fs (k + 1) (fun i hi => by
      have := h (i + 1) (by simp; omega)
      simpa [Nat.add_assoc, Nat.add_comm 1 i] using this)
    simp only [List.getElem_cons_zero, Nat.add_zero] at h0 h1 h2 h3
    simp only [Op.eqFields, Sem.run_bind, h0, ne_eq, not_false_eq_true, if_true, h1, h2, h3, Result.andThen_ok]
    have hsplit : (∀ i, i < (fl :: fs).length → AEq (f (k + i)) (g (k + i))) ↔ AEq (f k) (g k) ∧ ∀ i, i < fs.length → AEq (f (k + 1 + i)) (g (k + 1 + i)) := by
      constructor
      · intro hh
        exact ⟨hh 0 (by simp), fun i hi => by have := hh (i + 1) (by simp; omega); rwa [show k + (i + 1) = k + 1 + i by omega] at this⟩
      · rintro ⟨h1, h2⟩ i hi
        match i with
        | 0 => exact h1
        | i + 1 => have := h2 i (by simpa using hi); rwa [show k + 1 + i = k + (i + 1) by omega] at this
    cases hb : eqB (f k) (g k)
    · refine ⟨false, by simp, ?_⟩
      have : ¬ AEq (f k) (g k) := fun hh => by rw [eqB_iff.2 hh] at hb; cases hb
      rw [hsplit]; simp [this]
    · refine ⟨r, by simpa using h4, ?_⟩
      rw [h5, hsplit]; simp [eqB_iff.1 hb]
theorem equal_ok (h : TyOK P ty t) : ∀ {a b : AV} {ds es : List Value} {d : Nat}, R c a ds → R c b es → Sh (ty t) a → Sh (ty t) b → Cmp a → (ty t).rank ≤ d →
    (Op.equalIn (d + 1) t (valOf (ty t) ds) (valOf (ty t) es)).run P w = .ok (eqB a b) w := by
  induction h with
  | bo t hu _ hty =>
    intro a b ds es d ha hb sa sb _ _
    rw [hty] at *
    cases a with
    | bo x =>
      cases b with
      | bo y =>
        rw [show ds = _ from ha, show es = _ from hb]
        rw [show valOf .bo [Value.bool x] = .bool x from rfl, show valOf .bo [Value.bool y] = .bool y from rfl, run_equalIn_bool' w d t x y hu]
        congr 1
        rw [Bool.eq_iff_iff, eqB_iff]; simp [AEq]
      | _ => exact sb.elim
    | _ => exact sa.elim
  | int t k _ hu _ hty =>
    intro a b ds es d ha hb sa sb _ _
    rw [hty] at *
    rw [int_of sa ha, int_of sb hb]
    rw [show valOf (.int k) [Value.int k (zOf a)] = .int k (zOf a) from rfl, show valOf (.int k) [Value.int k (zOf b)] = .int k (zOf b) from rfl, run_equalIn_int w d t k k _ _ hu]
    congr 1
    rw [Bool.eq_iff_iff, eqB_iff, ← zOf_eq sa sb]; simp
  | str t hu _ hty =>
    intro a b ds es d ha hb sa sb _ _
    rw [hty] at *
    cases a with
    | str x =>
      cases b with
      | str y =>
        rw [show ds = _ from ha, show es = _ from hb]
        rw [show valOf .str [Value.string ⟨x.toArray⟩] = .string ⟨x.toArray⟩ from rfl, show valOf .str [Value.string ⟨y.toArray⟩] = .string ⟨y.toArray⟩ from rfl, run_equalIn_string w d t _ _ hu]
        congr 1
        rw [Bool.eq_iff_iff, eqB_iff, ByteArray.toList_eq, ByteArray.toList_eq]; simp [AEq]
      | _ => exact sb.elim
    | _ => exact sa.elim
  | pt t e _ _ hty =>
    intro a b ds es d ha hb sa sb hc _
    rw [hty] at *
    cases a <;> first | exact sa.elim | exact hc.elim
  | sl t e _ _ _ _ hty =>
    intro a b ds es d ha hb sa sb hc _
    rw [hty] at *
    cases a <;> first | exact sa.elim | exact hc.elim
  | arr t n e hu he _ _ _ _ hty ih =>
    intro a b ds es d ha hb sa sb hc hd
    rw [hty] at *
    cases a with
    | agg ua la f =>
      cases b with
      | agg ub lb g =>
        obtain ⟨rfl, rfl, sa⟩ := sa
        obtain ⟨rfl, rfl, sb⟩ := sb
        obtain ⟨gx, hgx, rfl⟩ := ha
        obtain ⟨gy, hgy, rfl⟩ := hb
        obtain ⟨d, rfl⟩ : ∃ d', d = d' + 1 := ⟨d - 1, by simp only [Ty.rank] at hd; omega⟩
        obtain ⟨z, ⟨i, hi, _, hsz, _⟩, _⟩ := he.inf
        have hce : P.cellsOf e = (ty e).size := by unfold Program.cellsOf; rw [hi]; simp [hsz]
        show (Op.equalIn (d + 1 + 1) t (.agg _) (.agg _)).run P w = _
        rw [run_equalIn_array w (d + 1) _ _ hu hi, hce]
        have key : ∀ (gz : Nat → List Value) (fz : Nat → AV), (∀ i, i < n → R c (fz i) (gz i)) → (∀ i, i < n → Sh (ty e) (fz i)) → ∀ i, i < n → (part e ((List.range n).flatMap gz).toArray (i * (ty e).size)).run P w = .ok (valOf (ty e) (gz i)) w := fun gz fz h1 h2 i hi => by
          obtain ⟨post, hp⟩ := fm_at gz hi
          have hlen : ((List.range i).flatMap gz).length = i * (ty e).size := by
            rw [fm_len, ← sumN_const]; exact sumN_congr i (fun j hj => R_len (h1 j (by omega)) (h2 j (by omega)))
          rw [← hlen]
          exact run_part' he (by simpa using hp) (h1 i hi) (h2 i hi)
        obtain ⟨r, h1, h2⟩ := eqItems_ok (P := P) (w := w) (e := e) (d := d + 1) (s := (ty e).size) (n := n) (f := f) (g := g) (τ := ty e) _ _ (fun i hi =>
          ⟨_, key gx f hgx sa i hi, _, key gy g hgy sb i hi, ih (hgx i hi) (hgy i hi) (sa i hi) (sb i hi) (hc i hi) (by simp only [Ty.rank] at hd; omega)⟩) (List.range n) (fun i hi => by simpa using hi)
        rw [h1]; congr 1
        rw [Bool.eq_iff_iff, h2, eqB_iff]; simp [AEq]
      | _ => exact sb.elim
    | _ => exact sa.elim
  | st t fs n f hu hn hf hg _ _ _ hh hnm hty ih =>
    intro a b ds es d ha hb sa sb hc hd
    rw [hty] at *
    cases a with
    | agg ua la fa =>
      cases b with
      | agg ub lb ga =>
        obtain ⟨rfl, rfl, sa⟩ := sa
        obtain ⟨rfl, rfl, sb⟩ := sb
        obtain ⟨gx, hgx, rfl⟩ := ha
        obtain ⟨gy, hgy, rfl⟩ := hb
        obtain ⟨d, rfl⟩ : ∃ d', d = d' + 1 := ⟨d - 1, by simp only [Ty.rank] at hd; omega⟩
        have hfo : P.fieldsOf t = fs := by unfold Program.fieldsOf; rw [hu]
        show (Op.equalIn (d + 1 + 1) t (.agg _) (.agg _)).run P w = _
        rw [run_equalIn_struct w (d + 1) t _ _ (by rw [hfo]; exact hu) hh, hfo]
        have key : ∀ (gz : Nat → List Value) (fz : Nat → AV), (∀ i, i < n → R c (fz i) (gz i)) → (∀ i, i < n → Sh (f i) (fz i)) → ∀ i (h : i < fs.size), (part fs[i].type ((List.range n).flatMap gz).toArray fs[i].offset).run P w = .ok (valOf (ty fs[i].type) (gz i)) w := fun gz fz h1 h2 i hi => by
          obtain ⟨post, hp⟩ := fm_at gz (show i < n by omega)
          obtain ⟨e1, e2, _⟩ := hg i hi
          have hlen : ((List.range i).flatMap gz).length = fs[i].offset := by
            rw [fm_len, e2]; exact sumN_congr i (fun j hj => R_len (h1 j (by omega)) (h2 j (by omega)))
          rw [← hlen]
          exact run_part' (hf i hi) (by simpa using hp) (h1 i (by omega)) (by rw [← e1]; exact h2 i (by omega))
        obtain ⟨r, h1, h2⟩ := eqFields_ok (P := P) (w := w) (d := d + 1) (f := fa) (g := ga) (xs := ((List.range n).flatMap gx).toArray) (ys := ((List.range n).flatMap gy).toArray) fs.toList 0 (fun i hi => by
          have hi' : i < fs.size := by simpa using hi
          have hin : i < n := by omega
          obtain ⟨e1, e2, _⟩ := hg i hi'
          rw [Array.getElem_toList, Nat.zero_add]
          refine ⟨hnm i hi', _, key gx fa hgx sa i hi', _, key gy ga hgy sb i hi', ?_⟩
          have sa' := sa i hin
          have sb' := sb i hin
          rw [show el false f i = f i from rfl, e1] at sa' sb'
          refine ih i hi' (hgx i hin) (hgy i hin) sa' sb' (hc i hin) ?_
          have := le_maxN (f := fun i => (f i).rank) hin
          rw [← e1]
          simp only [Ty.rank] at hd; omega)
        rw [h1]; congr 1
        rw [Bool.eq_iff_iff, h2, eqB_iff]
        simp only [Array.length_toList, Nat.zero_add, hn]
        exact Iff.rfl
      | _ => exact sb.elim
    | _ => exact sa.elim
end
end Go.Proofs.YtdbiidfgbkmbmaaDoor
