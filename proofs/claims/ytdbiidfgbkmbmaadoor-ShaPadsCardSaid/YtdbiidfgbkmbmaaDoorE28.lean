/- A function whose text was walked is known to its callers. -/
import Derived.Test.YtdbiidfgbkmbmaaDoorE27
namespace Go.Proofs.YtdbiidfgbkmbmaaDoor
open Go.RowKit
def argT : List AV → Nat → AV
  | [], _ => .und
  | a :: l, i => match i with
    | 0 => a
    | i + 1 => argT l i
def rval (E : Pg) (s : St) (x : ResultVar) (K : AV → Prop) : Prop :=
  match x with
  | .tmp t => K (s.t t)
  | .cell a t => okT (E.ty t) (match s.t a with
    | .ptr τ k p => match s.m k with
      | some (.var _ v) => τ = E.ty t ∧ K (v.at p)
      | _ => False
    | _ => False)
def rvals (E : Pg) (s : St) : List ResultVar → (List AV → Prop) → Prop
  | [], K => K []
  | x :: l, K => rval E s x fun v => rvals E s l fun vs => K (v :: vs)
def tupOf (vs : List AV) : AV :=
  match vs with
  | [v] => v
  | vs => .tup vs.length (fun i => vs.getD i .junk)
def wRes (E : Pg) (s : St) (rs : List ResultVar) (K : AV → Prop) : Prop := rvals E s rs fun vs => K (tupOf vs)
/-- Of the ways out of a text the one that returns. -/
def fin (K : St → Prop) : Exit → St → Prop := fun e s => match e with
  | .ret => K s
  | _ => False
/-- What the caller is handed: e, and the rows rw1, as the callee's state s has them. -/
def Out (E : Pg) (m0 : Nat → Option Row) (s : St) (rw1 : List (Nat × Row)) (a b : AV) : Prop := ∃ ρ, namesB m0 rw1 ρ = true ∧ LeRwW s.m E.ty rw1 ρ rw1 ∧ LeW s.m E.ty rw1 ρ a b
def restr (rd : List Nat) (m : Nat → Option Row) : Nat → Option Row := fun k => bif rd.contains k then m k else none
def LeL (m : Nat → Option Row) (ty : TypeId → Ty) (rw : List (Nat × Row)) (ρ : Nat → Option Nat) : List AV → List AV → Prop
  | [], [] => True
  | a :: l, b :: l' => Le m ty rw ρ a b ∧ LeL m ty rw ρ l l'
  | _, _ => False
def LeLW (m : Nat → Option Row) (ty : TypeId → Ty) (rw : List (Nat × Row)) (ρ : Nat → Option Nat) : List AV → List AV → Prop
  | [], [] => True
  | a :: l, b :: l' => LeW m ty rw ρ a b ∧ LeLW m ty rw ρ l l'
  | _, _ => False
theorem LeLW_of {m : Nat → Option Row} {ty : TypeId → Ty} {rw : List (Nat × Row)} {ρ : Nat → Option Nat} : ∀ {l l' : List AV}, LeLW m ty rw ρ l l' → LeL m ty rw ρ l l'
  | [], [], _ => trivial
  | _ :: _, _ :: _, h => ⟨LeW_of h.1, LeLW_of h.2⟩
def NoFrW : AV → Prop
  | .ipt _ a => NoFrW a
  | .imm fr _ l f => fr = false ∧ ∀ i, i < l → NoFrW (f i)
  | .agg u l f => forI u l fun i => NoFrW (f i)
  | .tup l f => ∀ i, i < l → NoFrW (f i)
  | _ => True
theorem NoFrW_of : ∀ {a : AV}, NoFrW a → NoFr a := by
  intro a
  induction a with
  | ipt τ a ih => exact ih
  | imm fr et l f ih => exact fun h => ⟨h.1, fun i hi => ih i (h.2 i hi)⟩
  | agg u l f ih => exact fun h i hi => ih i (forI_at h i hi)
  | tup l f ih => exact fun h i hi => ih i (h i hi)
  | _ => exact id
def NoFrRowW : Row → Prop
  | .var _ a => NoFrW a
  | .grow _ n f => ∀ i, i < n → NoFrW (f i)
def NoFrRwsW : List (Nat × Row) → Prop
  | [] => True
  | (_, r) :: l => NoFrRowW r ∧ NoFrRwsW l
theorem NoFrRwsW_of : ∀ {l : List (Nat × Row)}, NoFrRwsW l → NoFrRws l
  | [], _ => trivial
  | (_, .var _ _) :: _, h => ⟨NoFrW_of h.1, NoFrRwsW_of h.2⟩
  | (_, .grow _ _ _) :: _, h => ⟨fun i hi => NoFrW_of (h.1 i hi), NoFrRwsW_of h.2⟩
def NoFrLW : List AV → Prop
  | [] => True
  | a :: l => NoFrW a ∧ NoFrLW l
def NoFrL : List AV → Prop
  | [] => True
  | a :: l => NoFr a ∧ NoFrL l
def inB (rw0 : List (Nat × Row)) (ρ0 : Nat → Option Nat) : Bool := injB (rw0.map (·.1)) ρ0 && rw0.all fun q => Nat.blt q.1 8 && (ρ0 q.1).isSome
theorem NoFrLW_of : ∀ {l : List AV}, NoFrLW l → NoFrL l
  | [], _ => trivial
  | _ :: _, h => ⟨NoFrW_of h.1, NoFrLW_of h.2⟩
/-- What the callee is handed. -/
def In (ty : TypeId → Ty) (m : Nat → Option Row) (args vs : List AV) (rw0 : List (Nat × Row)) (ρ0 : Nat → Option Nat) : Prop :=
  inB rw0 ρ0 = true ∧ LeRwW m ty rw0 ρ0 rw0 ∧ LeLW m ty rw0 ρ0 args vs ∧ NoFrRwsW rw0 ∧ NoFrLW vs
section
variable {m m' : Nat → Option Row} {ty : TypeId → Ty} {rw : List (Nat × Row)} {ρ : Nat → Option Nat}
theorem growOf_mono (hm : ∀ k r, m k = some r → m' k = some r) {k : Nat} {F G : TypeId → Nat → (Nat → AV) → Prop} (hFG : ∀ e n f, F e n f → G e n f) (h : growOf (m k) F) : growOf (m' k) G := by
  unfold growOf at h ⊢
  cases hk : m k with
  | none => rw [hk] at h; exact h.elim
  | some r =>
    rw [hm k r hk]
    rw [hk] at h
    cases r with
    | var _ _ => exact h.elim
    | grow e n f => exact hFG e n f h
theorem varOf_mono (hm : ∀ k r, m k = some r → m' k = some r) {k : Nat} {F G : Ty → AV → Prop} (hFG : ∀ τ a, F τ a → G τ a) (h : varOf (m k) F) : varOf (m' k) G := by
  unfold varOf at h ⊢
  cases hk : m k with
  | none => rw [hk] at h; exact h.elim
  | some r =>
    rw [hm k r hk]
    rw [hk] at h
    cases r with
    | grow _ _ _ => exact h.elim
    | var τ a => exact hFG τ a h
theorem Le_mono (hm : ∀ k r, m k = some r → m' k = some r) : ∀ {b a : AV}, Le m ty rw ρ a b → Le m' ty rw ρ a b := by
  intro b
  induction b with
  | junk => intro a _; cases a <;> trivial
  | ipt τ a' ih =>
    intro a h
    cases a with
    | ipt τ a => exact ⟨h.1, h.2.1, ih h.2.2⟩
    | _ => exact h.elim
  | imm fr et l f ih =>
    intro a h
    cases a with
    | imm fr' et' l' f' => exact ⟨h.1, h.2.1, h.2.2.1, fun i hi => ⟨(h.2.2.2 i hi).1, ih i (h.2.2.2 i hi).2⟩⟩
    | gsl e k l => exact ⟨h.1, h.2.1, h.2.2.1, growOf_mono hm (fun e n f hh => ⟨hh.1, hh.2.1, fun i hi => ⟨(hh.2.2 i hi).1, ih i (hh.2.2 i hi).2⟩⟩) h.2.2.2⟩
    | gsub e k al o l => exact ⟨h.1, h.2.1, h.2.2.1, growOf_mono hm (fun e n f hh => ⟨hh.1, hh.2.1, hh.2.2.1, fun i hi => ⟨(hh.2.2.2 i hi).1, ih i (hh.2.2.2 i hi).2⟩⟩) h.2.2.2⟩
    | sub et' k p o l' => exact ⟨h.1, h.2.1, h.2.2.1, h.2.2.2.1, varOf_mono hm (fun τ a hh i hi => ⟨(hh i hi).1, ih i (hh i hi).2⟩) h.2.2.2.2⟩
    | nils => exact h
    | _ => exact h.elim
  | agg u l f ih =>
    intro a h
    cases a with
    | agg u' l' f' => exact ⟨h.1, h.2.1, fun i hi => ih i (h.2.2 i hi)⟩
    | _ => exact h.elim
  | tup l f ih =>
    intro a h
    cases a with
    | tup l' f' => exact ⟨h.1, fun i hi => ih i (h.2 i hi)⟩
    | _ => exact h.elim
  | gsl e k l => intro a h; cases a <;> first | exact h | exact h.elim
  | ptr τ k p => intro a h; cases a <;> first | exact h | exact h.elim
  | _ => intro a h; cases a <;> first | exact h | exact h.elim
theorem LeRow_mono (hm : ∀ k r, m k = some r → m' k = some r) {k : Nat} {r : Row} (h : LeRow m ty rw ρ k r) : LeRow m' ty rw ρ k r := by
  unfold LeRow at h ⊢
  cases hρ : ρ k with
  | none => rw [hρ] at h; exact h
  | some K =>
    rw [hρ] at h
    simp only at h ⊢
    cases hk : m K with
    | none => simp only [hk] at h
    | some r0 =>
      rw [hm K r0 hk]
      rw [hk] at h
      cases r0 with
      | var τ a =>
        cases r with
        | var τ' a' => exact ⟨h.1, h.2.1, Le_mono hm h.2.2⟩
        | grow _ _ _ => exact h.elim
      | grow e n f =>
        cases r with
        | var _ _ => exact h.elim
        | grow e' n' f' => exact ⟨h.1, h.2.1, fun i hi => ⟨(h.2.2 i hi).1, Le_mono hm (h.2.2 i hi).2⟩⟩
theorem LeRw_mono (hm : ∀ k r, m k = some r → m' k = some r) : ∀ {l : List (Nat × Row)}, LeRw m ty rw ρ l → LeRw m' ty rw ρ l
  | [], _ => trivial
  | (_, _) :: _, h => ⟨LeRow_mono hm h.1, LeRw_mono hm h.2⟩
theorem LeL_mono (hm : ∀ k r, m k = some r → m' k = some r) : ∀ {l l' : List AV}, LeL m ty rw ρ l l' → LeL m' ty rw ρ l l'
  | [], [], _ => trivial
  | _ :: _, _ :: _, h => ⟨Le_mono hm h.1, LeL_mono hm h.2⟩
end
def resSem (tmps : Array Value) : ResultVar → Sem Value
  | .tmp t => pure (tmps.getD t undef)
  | .cell a t => do loadVar t (← asAddr (tmps.getD a undef))
section
variable {P : Program} {E : Pg} {nt : Nat} {c0 c : Cx} {s : St} {a : Act}
theorem rval_ok (hT : TysOK P E.ty) (h : Abs P E nt c0 s c a) {x : ResultVar} {K : AV → Prop} (hr : rval E s x K) : ∃ v z, K v ∧ RV c v z ∧ (resSem a.tmps x).run P c.w = .ok z c.w := by
  cases x with
  | tmp t => exact ⟨_, _, hr, h.t t, by simp [resSem]⟩
  | cell p t =>
    obtain ⟨ht, hr⟩ := okT_of hr
    have htt := hT t ht
    split at hr
    · rename_i τ' k q hy
      split at hr
      · rename_i τ v hmk
        obtain ⟨rfl, hr⟩ := hr
        have h1 := h.t p
        rw [hy] at h1
        obtain ⟨τ₀, av, b, hm, hb, hp, hat, ev⟩ := rv_ptr h1
        rw [h.m, hmk] at hm
        injection hm with hm
        injection hm with e1 e2
        subst e1; subst e2
        obtain ⟨b', cs, t', hb', hh, hR, hs⟩ := h.mem.rows k _ (by rw [h.m]; exact hmk)
        rw [hb] at hb'; injection hb' with hb'; subst hb'
        obtain ⟨hs2, pre, post, ds, hcut, hpl, hr2⟩ := R_at q hR hs hp
        rw [hat] at hs2
        have hrg := range_of_block hh hcut
        rw [hpl] at hrg
        refine ⟨_, valOf (E.ty t) ds, hr, rv_of_R hs2 hr2, ?_⟩
        simp only [resSem, ev, asAddr, Sem.run_bind, Sem.run_pure, Result.andThen_ok, run_loadVar' htt hrg hr2 hs2]
      · exact hr.elim
    · exact hr.elim
theorem rvals_ok (hT : TysOK P E.ty) (h : Abs P E nt c0 s c a) : ∀ (rs : List ResultVar) {K : List AV → Prop}, rvals E s rs K → ∃ vs zs, K vs ∧ RVs c vs zs ∧ (rs.mapM (resSem a.tmps)).run P c.w = .ok zs c.w
  | [], K, hr => ⟨[], [], hr, .nil, by simp⟩
  | x :: rs, K, hr => by
    obtain ⟨v, z, h1, h2, h3⟩ := rval_ok hT h hr
    obtain ⟨vs, zs, h4, h5, h6⟩ := rvals_ok hT h rs h1
    refine ⟨v :: vs, z :: zs, h4, .cons h2 h5, ?_⟩
    rw [List.mapM_cons, Sem.run_bind, h3, Result.andThen_ok, Sem.run_bind, h6, Result.andThen_ok, Sem.run_pure]
theorem RVs_len {c : Cx} {vs : List AV} {zs : List Value} (h : RVs c vs zs) : vs.length = zs.length := by
  induction h with
  | nil => rfl
  | cons _ _ ih => simp [ih]
theorem RVs_at {c : Cx} {vs : List AV} {zs : List Value} (h : RVs c vs zs) : ∀ i, i < vs.length → ∃ z, zs[i]? = some z ∧ RV c (vs.getD i .junk) z := by
  induction h with
  | nil => intro i hi; simp at hi
  | @cons a v l vs h t ih =>
    intro i hi
    cases i with
    | zero => exact ⟨v, by simp, by simpa using h⟩
    | succ i =>
      obtain ⟨z, h1, h2⟩ := ih i (by simpa using hi)
      exact ⟨z, by simpa using h1, by simpa using h2⟩
def cellsOf (a : AV) (z : Value) : List Value := match a, z with
  | .agg _ _ _, .agg cs => cs.toList
  | _, z => [z]
theorem RV_tup {c : Cx} {vs : List AV} {zs : List Value} (h : RVs c vs zs) : RV c (.tup vs.length fun i => vs.getD i .junk) (.tuple zs.toArray) := by
  refine ⟨zs.toArray, fun i => cellsOf (vs.getD i .junk) (zs.getD i undef), rfl, by simp [RVs_len h], fun i hi => ?_⟩
  obtain ⟨z, h1, h2⟩ := RVs_at h i hi
  have hz : zs.getD i undef = z := by rw [List.getD_eq_getElem?_getD, h1]; rfl
  simp only [hz]
  generalize vs.getD i .junk = av at h2
  cases av with
  | agg u l f =>
    obtain ⟨cs, rfl, hr⟩ := h2
    exact ⟨hr, _, by simpa using h1, by simp [cellsOf]⟩
  | junk => exact ⟨trivial, z, by simpa using h1, trivial⟩
  | _ => exact ⟨h2, z, by simpa using h1, rfl⟩
theorem wRes_ok (hT : TysOK P E.ty) (h : Abs P E nt c0 s c a) {fn : Func} {K : AV → Prop} (hr : wRes E s fn.results.toList K) : ∃ v z, K v ∧ RV c v z ∧ (results fn a.tmps).run P c.w = .ok z c.w := by
  obtain ⟨vs, zs, h1, h2, h3⟩ := rvals_ok hT h _ hr
  have hrun : (results fn a.tmps).run P c.w = .ok (if h : zs.toArray.size = 1 then zs.toArray[0] else .tuple zs.toArray) c.w := by
    have e : results fn a.tmps = (do
        let vs ← fn.results.mapM (resSem a.tmps)
        pure (if h : vs.size = 1 then vs[0] else .tuple vs)) := by
      unfold results
      congr 2
    rw [e, Array.mapM_eq_mapM_toList, Sem.run_bind]
    have : (Functor.map List.toArray (fn.results.toList.mapM (resSem a.tmps))).run P c.w = .ok zs.toArray c.w := by
      rw [map_eq_pure_bind, Sem.run_bind, h3, Result.andThen_ok, Sem.run_pure]
    rw [this, Result.andThen_ok, Sem.run_pure]
  refine ⟨tupOf vs, _, h1, ?_, hrun⟩
  unfold tupOf
  cases h2 with
  | nil => simp only [List.size_toArray, List.length_nil]; exact RV_tup .nil
  | @cons a v l zs h t =>
    cases t with
    | nil => simpa using h
    | @cons a2 v2 l2 zs2 h' t' =>
      have hne : ¬ (v :: v2 :: zs2).toArray.size = 1 := by simp
      rw [dif_neg hne]
      exact RV_tup (.cons h (.cons h' t'))
end
section
variable {P : Program} {E : Pg}
theorem argT_ok {c : Cx} : ∀ {vs : List AV} {zs : List Value}, RVs c vs zs → ∀ (n i : Nat), RV c (argT vs i) ((zs.toArray ++ Array.replicate n undef).getD i undef)
  | _, _, .nil, n, i => by
    show [_] = [undef]
    simp [Array.getD_eq_getD_getElem?, Array.getElem?_replicate]
    split <;> rfl
  | _, _, .cons (vs := zs) (v := v) h t, n, i => by
    cases i with
    | zero => simpa [argT, Array.getD_eq_getD_getElem?, Array.getElem?_append] using h
    | succ i =>
      have := argT_ok t n i
      have e : ((v :: zs).toArray ++ Array.replicate n undef).getD (i + 1) undef = (zs.toArray ++ Array.replicate n undef).getD i undef := by
        simp [Array.getD_eq_getD_getElem?, Array.getElem?_append]
      rw [e]; exact this
theorem given_vals {c : Cx} {rw0 : List (Nat × Row)} {ρ0 : Nat → Option Nat} (hm : MemOK c) (hr : LeRw c.m c.ty rw0 ρ0 rw0) : ∀ {args vs : List AV} {zs : List Value}, LeL c.m c.ty rw0 ρ0 args vs → NoFrL vs → RVs c args zs → RVs (c.given rw0 ρ0) vs zs
  | [], [], _, _, _, .nil => .nil
  | _ :: _, _ :: _, _, h, hn, .cons h1 h2 => .cons (RV_fb (c := c.named rw0 ρ0) hn.1 (Le_rv hm hr h.1 h1)) (given_vals hm hr h.2 hn.2 h2)
theorem inB_of {rw0 : List (Nat × Row)} {ρ0 : Nat → Option Nat} (h : inB rw0 ρ0 = true) : injB (rw0.map (·.1)) ρ0 = true ∧ (∀ k r, rowOf rw0 k = some r → k < 8) ∧ SomeB rw0 ρ0 := by
  simp only [inB, Bool.and_eq_true, List.all_eq_true] at h
  refine ⟨h.1, fun k r hk => ?_, fun k r hk => ?_⟩
  · have := (h.2 _ (rowOf_mem hk)).1; simpa [Nat.blt_eq] using this
  · exact Option.isSome_iff_exists.1 (h.2 _ (rowOf_mem hk)).2
/-- The function, whose text was walked with what it was handed. -/
theorem fn_valid (hP : PgOK P E) (hmix : P.follows .mixedOrders = true) {f : FuncId} {fn : Func} {code : Code} (hf : P.funcs[f]? = some fn) (hnm : (fn.name == "runtime.NumGoroutine") = false) (hb : fn.body = some code) {inv : Nat → Option LI}
    {args vs : List AV} {view : Nat → Option Row} {key : Nat} {rd : List Nat} {rw0 rw1 : List (Nat × Row)} {ρ0 : Nat → Option Nat} {b : AV} (hlen : vs.length ≤ fn.ntmps)
    (hin : In E.ty (restr rd view) args vs rw0 ρ0) (hout : Outs rw0 rw1) (hob : Own b) {O : St → AV → Prop} (hO : ∀ s a, O s a → Out E (rowOf rw0) s rw1 a b)
    (hW : W E fn.ntmps inv code ⟨argT vs, rowOf rw0, 8⟩ (fun s => wRes E s fn.results.toList fun a => O s a) (fin fun s => wRes E s fn.results.toList fun a => O s a)) :
    FnValid P E.ty E.gl f args view key ⟨b.ren (sig ρ0 key), outW (sig ρ0 key) rw1, rd⟩ := by
  refine ⟨⟨fn, hf, hnm, by rw [hb]; rfl⟩, fun c vals hty hm hbs hrd hfr hgl hvals => ?_⟩
  obtain ⟨hi0, hle0, hargs, hnr, hnv⟩ := hin
  replace hle0 := LeRwW_of hle0
  replace hargs := LeLW_of hargs
  replace hnr := NoFrRwsW_of hnr
  replace hnv := NoFrLW_of hnv
  obtain ⟨hi, hlt, hS⟩ := inB_of hi0
  have hmono : ∀ k r, restr rd view k = some r → c.m k = some r := fun k r hk => by
    unfold restr at hk
    cases hc : rd.contains k with
    | false => rw [hc] at hk; cases hk
    | true => rw [hc] at hk; rw [hrd k (by simpa using hc)]; exact hk
  have hle : LeRw c.m c.ty rw0 ρ0 rw0 := by rw [hty]; exact LeRw_mono hmono hle0
  have hargs : LeL c.m c.ty rw0 ρ0 args vs := by rw [hty]; exact LeL_mono hmono hargs
  have h8 : ∀ k, 8 ≤ k → (c.given rw0 ρ0).m k = none := fun k hk => by
    cases hr : rowOf rw0 k with
    | none => exact hr
    | some r => have := hlt k r hr; omega
  have hfresh : freshB (rw0.map (·.1)) ρ0 = true := List.all_eq_true.2 fun k hk => by
    obtain ⟨⟨k', r⟩, hm', rfl⟩ := List.mem_map.1 hk
    obtain ⟨r', hr'⟩ := mem_of_rowOf hm'
    have : Nat.blt k' 8 = true := by rw [Nat.blt_eq]; exact hlt k' r' hr'
    simp [this]
  have hm0 := named_mem hm hle hi hfresh
  have hrow : ∀ k r, rowOf rw0 k = some r → NoFrRow r := fun k r hk => NoFrRws_mem hnr (rowOf_mem hk)
  have hg0 : MemOK (c.given rw0 ρ0) := ⟨fun k r hk => RowOK_fb (c := c.named rw0 ρ0) (hrow k r hk) (hm0.rows k r hk), hm0.inj, fun k r b hk hb => ⟨(hm0.mu k r b hk hb).1, (hm0.mu k r b hk hb).2.1, fun h => by have hk' : rowOf rw0 k = some r := hk; have := hlt k r hk'; omega⟩, Nat.le_trans hm.bf hbs⟩
  have hv0 := given_vals hm hle hargs hnv hvals
  have hsz : (vals.toArray ++ Array.replicate (fn.ntmps - vals.toArray.size) undef).size = fn.ntmps := by
    have := RVs_len hv0
    simp; omega
  have habs : Abs P E fn.ntmps (c.given rw0 ρ0) ⟨argT vs, rowOf rw0, 8⟩ (c.given rw0 ρ0) { tmps := vals.toArray ++ Array.replicate (fn.ntmps - vals.toArray.size) undef, defers := [] } :=
    ⟨hty, hg0, Nat.le_refl _, rfl, rfl, Below.refl _ _, Stab.refl _, rfl, fun i => argT_ok hv0 _ i, hsz, rfl, fun g => RV_norow (c := c) (c' := c.given rw0 ρ0) rfl (fun b hb => mu_old hm hle hb) (hP.flat g) (hgl g)⟩
  refine calls_of_wp hf hb ?_
  have key : ∀ s' c1 a', (wRes E s' fn.results.toList fun a => O s' a) → Abs P E fn.ntmps (c.given rw0 ρ0) s' c1 a' → a'.defers = [] ∧ ∃ v, (results fn a'.tmps).run P c1.w = .ok v c1.w ∧ (∃ c' v', Ending.returned v = .returned v' ∧ c'.w = c1.w ∧ Step c (outW (sig ρ0 key) rw1) c' ∧ RV c' (b.ren (sig ρ0 key)) v') := by
    intro s' c1 a' hres ha'
    obtain ⟨v, z, hov, hz, hrun⟩ := wRes_ok hP.tys ha' hres
    obtain ⟨ρ, hn, hr1, hl1⟩ := hO _ _ hov
    replace hr1 := LeRwW_of hr1
    replace hl1 := LeW_of hl1
    rw [← ha'.m, ← ha'.ty] at hr1 hl1
    obtain ⟨hj, hp, hf1⟩ := namesB_of hn
    have hB : Back2 c (c1.named rw1 ρ) rw0 rw1 ρ0 key := ⟨hm, hbs, hi, hlt, hle, named_mem ha'.mem hr1 hj hf1, named_since ha'.mem h8 ha'.since hr1 (m0 := rowOf rw0) (fun k r h => ⟨r, h⟩) hp, ha'.base, ha'.fb, rfl, ha'.low, hout, hfr⟩
    have hty' : (c1.named rw1 ρ).ty = c.ty := ha'.ty.trans hty.symm
    exact ⟨ha'.dfr, z, hrun, c.merged (c1.named rw1 ρ) ρ0 key rw1, z, rfl, rfl, hB.step hS hty', hB.RV hS hob (Le_rv ha'.mem hr1 hl1 hz)⟩
  refine W_sound hP h8 hmix code _ (c.given rw0 ρ0) _ _ _ _ hW habs (fun k hk => h8 k hk) (fun s' c1 a' hq ha' _ => key s' c1 a' hq ha') fun e s' c1 a' hq hne ha' _ => ?_
  cases e with
  | ret => exact key s' c1 a' hq ha'
  | _ => exact hq.elim
end
end Go.Proofs.YtdbiidfgbkmbmaaDoor
