/- Slices of slices, of arrays and of texts; lengths; the lesser and the greater. -/
import Derived.Test.YtdbiidfgbkmbmaaDoorE10
namespace Go.Proofs.YtdbiidfgbkmbmaaDoor
open Go.RowKit
section
variable {P : Program} {E : Pg} {o : Oper} {x : Operand → AV} {key : Nat} {m : Nat → Option Row} {K : Res → Prop} {t : TypeId}
theorem bounds_all {lo hi : Option Operand} {B : Nat} {Q : Nat → Nat → Prop} (h : idxO (lo.map x) 0 fun l => idxO (hi.map x) B fun h => Q l h) :
    ∃ l h, Q l h ∧ ∀ (c : Cx) (a : Act) (w : World) (s : Bool) (cap : Nat), (∀ y, RV c (x y) (a.eval y)) → l ≤ h → h ≤ B → B ≤ cap → (Instr.sliceBounds s B cap (lo.map a.eval) (hi.map a.eval) none).run P w = .ok (l, h, cap) w := by
  have one : ∀ {q : Option Operand} {d : Nat} {F : Nat → Prop}, idxO (q.map x) d F → ∃ n, F n ∧ ((q = none ∧ n = d) ∨ ∃ y, q = some y ∧ ∀ (c : Cx) (a : Act), (∀ y, RV c (x y) (a.eval y)) → ∃ k, a.eval y = .int k (n : Int)) := fun {q d F} h => by
    cases q with
    | none => exact ⟨d, h, .inl ⟨rfl, rfl⟩⟩
    | some y =>
      obtain ⟨n, hn, hh⟩ := idx_all (show idx (x y) F from h)
      exact ⟨n, hn, .inr ⟨y, rfl, fun c a hx => hh c _ (hx y)⟩⟩
  obtain ⟨l, hl, h1⟩ := one h
  obtain ⟨hh, hq, h2⟩ := one hl
  refine ⟨l, hh, hq, fun c a w s cap hx hle hB hcap => ?_⟩
  have b2 : (match (hi.map a.eval) with
      | some v => Instr.sliceBound v cap (if s then .sliceAcap else .sliceAlen)
      | none => pure B).run P w = .ok hh w := by
    rcases h2 with ⟨rfl, rfl⟩ | ⟨y, rfl, he⟩
    · rfl
    · obtain ⟨k, e⟩ := he c a hx
      have hc : (0 : Int) ≤ (hh : Int) ∧ (hh : Int) ≤ (cap : Int) := by omega
      simp [e, Instr.sliceBound, asIntOf, hc]
  have b1 : (match (lo.map a.eval) with
      | some v => Instr.sliceBound v hh .sliceB
      | none => pure 0).run P w = .ok l w := by
    rcases h1 with ⟨rfl, rfl⟩ | ⟨y, rfl, he⟩
    · rfl
    · obtain ⟨k, e⟩ := he c a hx
      have hc : (0 : Int) ≤ (l : Int) ∧ (l : Int) ≤ (hh : Int) := by omega
      simp [e, Instr.sliceBound, asIntOf, hc]
  unfold Instr.sliceBounds
  cases hi with
  | none =>
    cases lo with
    | none => simp only [Option.map_none, Sem.run_bind, Sem.run_pure, Result.andThen_ok, Option.isSome_none] at b1 b2 ⊢; simp_all
    | some y => simp only [Option.map_none, Option.map_some, Sem.run_bind, Sem.run_pure, Result.andThen_ok, Option.isSome_none] at b1 b2 ⊢; simp_all
  | some z =>
    cases lo with
    | none => simp only [Option.map_none, Option.map_some, Sem.run_bind, Sem.run_pure, Result.andThen_ok, Option.isSome_none] at b1 b2 ⊢; simp_all
    | some y => simp only [Option.map_none, Option.map_some, Sem.run_bind, Sem.run_pure, Result.andThen_ok, Option.isSome_none] at b1 b2 ⊢; simp_all
theorem run_sliceAt_sl {e : TypeId} (hu : P.underlying t = some (.slice e)) {ty : TypeId → Ty} (he : TyOK P ty e) {A : Option Addr} {n cap l h : Nat} {lo hi : Option Value} {w : World}
    (hb : (Instr.sliceBounds true n cap lo hi none).run P w = .ok (l, h, cap) w) : (Instr.sliceAt t (.slice A n cap) lo hi none).run P w = .ok (.slice (if cap = l then A else A.map (·.add (l * (ty e).size))) (h - l) (cap - l)) w := by
  simp [Instr.sliceAt, run_underlying hu, Instr.slice, hb, run_sizeOf' he]
theorem add_none (A : Option Addr) (q l s : Nat) (h : 0 < q - l) : (if q = l then A else A.map (·.add (l * s))) = A.map (·.add (l * s)) := by
  rw [if_neg (by omega)]
theorem run_sliceAt_arr {e n : Nat} (hu : P.underlying t = some (.array n e)) {ty : TypeId → Ty} (he : TyOK P ty e) {ad : Addr} {l h : Nat} {lo hi : Option Value} {w : World}
    (hb : (Instr.sliceBounds false n n lo hi none).run P w = .ok (l, h, n) w) : (Instr.sliceAt t (.pointer (some ad)) lo hi none).run P w = .ok (.slice (some (if n = l then ad else ad.add (l * (ty e).size))) (h - l) (n - l)) w := by
  simp [Instr.sliceAt, run_underlying hu, Instr.sureAddr, hb, run_sizeOf' he]
theorem run_sliceAt_str (hu : P.underlying t = some .string) {s : ByteArray} {l h : Nat} {lo hi : Option Value} {w : World}
    (hb : (Instr.sliceBounds false s.size s.size lo hi none).run P w = .ok (l, h, s.size) w) : (Instr.sliceAt t (.string s) lo hi none).run P w = .ok (.string (s.extract l h)) w := by
  simp [Instr.sliceAt, run_underlying hu, Instr.slice, hb]
theorem s_slice (hT : TysOK P E.ty) (hmax : ∀ t n f, E.ty t = .agg true n f → n ≤ maxLen) {y : Operand} {lo hi : Option Operand} (ho : o.op = .slice t y lo hi none) (h : sem E m key x (.slice t y lo hi none) K) : ∃ r, K r ∧ Valid P E.ty o x key m r := by
  simp only [sem, semG, semSlice] at h
  split at h
  · rename_i e hty
    obtain ⟨hu, he, h0⟩ := (hT t (by rw [hty]; simp)).sl_of hty
    split at h
    · rename_i hy
      obtain ⟨l, hh, ⟨h1, h2, h⟩, hb⟩ := bounds_all (P := P) h
      refine ⟨_, h, valid_val rfl fun c a _ _ _ hx => ?_⟩
      have hv := hx y
      rw [hy] at hv
      have ev : a.eval y = .slice none 0 0 := by simpa [RV, R] using hv
      refine ⟨.slice none 0 0, ?_, rfl⟩
      unfold execOp
      simp only [ho, ev, Sem.run_bind, Option.map_none, run_sliceAt_sl hu he (hb c a c.w true 0 hx h1 h2 (Nat.le_refl _)), Result.andThen_ok, Sem.run_pure]
      have e1 : l = 0 := by omega
      have e2 : hh = 0 := by omega
      subst e1; subst e2; rfl
    · rename_i g et n f hy
      obtain ⟨l, hh, ⟨rfl, h1, h2, h⟩, hb⟩ := bounds_all (P := P) h
      refine ⟨_, h, valid_val rfl fun c a _ _ _ hx => ?_⟩
      have hv := hx y
      rw [hy] at hv
      obtain ⟨A, q, ev, hle, hmx, hA⟩ := rv_imm hv
      refine ⟨.slice (if q = l then A else A.map (·.add (l * (E.ty e).size))) (hh - l) (q - l), ?_, _, _, rfl, by omega, by omega, fun hp => ?_⟩
      · unfold execOp
        simp only [ho, ev, Sem.run_bind, Option.map_none, run_sliceAt_sl hu he (hb c a c.w true q hx h1 h2 hle), Result.andThen_ok, Sem.run_pure]
      · obtain ⟨b, ofs, rfl, hlt, hmu, hfr, hi⟩ := hA (by omega)
        rw [if_neg (by omega)]
        refine ⟨b, ofs + l * (E.ty e).size, by simp only [Option.map_some, Addr.add_mid], hlt, hmu, hfr, fun i hi' => ?_⟩
        obtain ⟨hs, ds, hr, hrg⟩ := hi (l + i) (by omega)
        refine ⟨hs, ds, hr, ?_⟩
        rw [Nat.add_mul, ← Nat.add_assoc] at hrg
        exact hrg
    · rename_i e' k n hy
      obtain ⟨l, hh, ⟨rfl, h1, h2, h⟩, hb⟩ := bounds_all (P := P) h
      refine ⟨_, h, valid_val rfl fun c a hty' hmem _ hx => ?_⟩
      have hv := hx y
      rw [hy] at hv
      obtain ⟨n', f, A, q, hm, hl, ev, hle, hmx, hA, hcur⟩ := rv_gsl hv
      refine ⟨.slice (if q = l then A else A.map (·.add (l * (E.ty e').size))) (hh - l) (q - l), ?_, n', f, _, _, hm, hl, rfl, by omega, by omega, by omega, fun hp => ?_⟩
      · unfold execOp
        simp only [ho, ev, Sem.run_bind, Option.map_none, run_sliceAt_sl hu he (hb c a c.w true q hx h1 h2 hle), Result.andThen_ok, Sem.run_pure]
      · obtain ⟨ad, rfl⟩ := hA (by omega)
        rw [if_neg (by omega)]
        refine ⟨ad.add (l * (E.ty e').size), rfl, fun hn => ?_⟩
        subst hn
        obtain ⟨b, cap, cur, hbl, hsv, _⟩ := grow_parts (hmem.rows k _ hm) (by omega)
        rw [hcur rfl] at hsv
        injection hsv with e1 e2 e3
        injection e1 with e1
        subst e1
        rw [hty']
        exact ⟨b, hbl, by rw [Addr.add_mid, Nat.zero_add]⟩
    · rename_i e' k al ofs n hy
      obtain ⟨l, hh, ⟨rfl, h1, h2, h⟩, hb⟩ := bounds_all (P := P) h
      refine ⟨_, h, valid_val rfl fun c a hty' hmem _ hx => ?_⟩
      have hv := hx y
      rw [hy] at hv
      obtain ⟨n', f, A, q, hm, hl, ev, hle, hmx, hol, hA⟩ := rv_gsub hv
      refine ⟨.slice (if q = l then A else A.map (·.add (l * (E.ty e').size))) (hh - l) (q - l), ?_, n', f, _, _, hm, hl, rfl, by omega, by omega, by omega, fun hp => ?_⟩
      · unfold execOp
        simp only [ho, ev, Sem.run_bind, Option.map_none, run_sliceAt_sl hu he (hb c a c.w true q hx h1 h2 hle), Result.andThen_ok, Sem.run_pure]
      · obtain ⟨ad, rfl, hcur⟩ := hA (by omega)
        rw [if_neg (by omega)]
        refine ⟨ad.add (l * (E.ty e').size), rfl, fun hn => ?_⟩
        obtain ⟨b, hbl, rfl⟩ := hcur hn
        rw [hty'] at *
        exact ⟨b, hbl, by rw [Addr.add_mid, Nat.add_mul]⟩
    · rename_i et k p ofs n hy
      obtain ⟨l, hh, ⟨rfl, h1, h2, h⟩, hb⟩ := bounds_all (P := P) h
      refine ⟨_, h, valid_val rfl fun c a hty' hmem _ hx => ?_⟩
      have hv := hx y
      rw [hy] at hv
      obtain ⟨τ, av, b, n', g, A, q, hm, hbl, hp, hat, hg, hol, ev, hle, hmx, hA⟩ := rv_sub hv
      refine ⟨.slice (if q = l then A else A.map (·.add (l * (E.ty e).size))) (hh - l) (q - l), ?_, τ, av, b, n', g, _, _, hm, hbl, hp, hat, hg, by omega, rfl, by omega, by omega, fun hp => ?_⟩
      · unfold execOp
        simp only [ho, ev, Sem.run_bind, Option.map_none, run_sliceAt_sl hu he (hb c a c.w true q hx h1 h2 hle), Result.andThen_ok, Sem.run_pure]
      · rw [if_neg (by omega), hA (by omega)]
        simp only [Option.map_some, Addr.add_mid]
        rw [Nat.add_mul, Nat.add_assoc]
    · exact h.elim
  · rename_i n f hty
    obtain ⟨e, hu, he, h0, rfl⟩ := (hT t (by rw [hty]; simp)).arr_of hty
    split at h
    · rename_i τ' k p hy
      obtain ⟨l, hh, ⟨rfl, h1, h2, h⟩, hb⟩ := bounds_all (P := P) h
      refine ⟨_, h, valid_val rfl fun c a hty' hmem _ hx => ?_⟩
      have hv := hx y
      rw [hy] at hv
      obtain ⟨τ₀, av, b, hm, hbl, hp, hat, ev⟩ := rv_ptr hv
      refine ⟨.slice (some (if n = l then ⟨b, τ₀.off p, none⟩ else (⟨b, τ₀.off p, none⟩ : Addr).add (l * (E.ty e).size))) (hh - l) (n - l), ?_, τ₀, av, b, n, _, _, _, hm, hbl, hp, hat, rfl, by omega, rfl, by omega, by have := hmax t n _ hty; omega, fun hp => ?_⟩
      · unfold execOp
        simp only [ho, ev, Sem.run_bind, Option.map_none, run_sliceAt_arr hu he (hb c a c.w false n hx h1 h2 (Nat.le_refl _)), Result.andThen_ok, Sem.run_pure]
      · rw [if_neg (by omega), Addr.add_mid]
    · exact h.elim
  · rename_i hty
    have hu := (hT t (by rw [hty]; simp)).str_of hty
    split at h
    · rename_i s hy
      obtain ⟨l, hh, ⟨h1, h2, h⟩, hb⟩ := bounds_all (P := P) h
      refine ⟨_, h, valid_val rfl fun c a hty' hmem _ hx => ?_⟩
      have hv := hx y
      rw [hy] at hv
      have ev := rv_str hv
      have hsz : (⟨s.toArray⟩ : ByteArray).size = s.length := by simp [ByteArray.size]
      refine ⟨.string ((⟨s.toArray⟩ : ByteArray).extract l hh), ?_, ?_⟩
      · unfold execOp
        simp only [ho, ev, Sem.run_bind, Option.map_none, run_sliceAt_str hu (hsz ▸ hb c a c.w false s.length hx h1 h2 (Nat.le_refl _)), Result.andThen_ok, Sem.run_pure]
      · show [_] = [_]
        congr 2
        apply ByteArray.ext
        rw [ByteArray.data_extract]
        apply Array.ext'
        simp [List.extract_eq_take_drop, List.drop_take]
    · exact h.elim
  · exact h.elim
end
end Go.Proofs.YtdbiidfgbkmbmaaDoor
