/- SHA-256 on numbers alone: the kernel reckons it fast. -/
import Derived.Test.YtnfebaialdfffaaDoorM0
namespace Go.Proofs.YtnfebaialdfffaaDoor
set_option maxRecDepth 1000000
def nS1 (e : Nat) : Nat := (fun E => Nat.xor (Nat.xor (Nat.shiftRight E 6) (Nat.shiftRight E 11)) (Nat.shiftRight E 25)) (Nat.mul e 4294967297)
def nS0 (e : Nat) : Nat := (fun E => Nat.xor (Nat.xor (Nat.shiftRight E 2) (Nat.shiftRight E 13)) (Nat.shiftRight E 22)) (Nat.mul e 4294967297)
def ns0 (e : Nat) : Nat := (fun E => Nat.xor (Nat.xor (Nat.shiftRight E 7) (Nat.shiftRight E 18)) (Nat.shiftRight e 3)) (Nat.mul e 4294967297)
def ns1 (e : Nat) : Nat := (fun E => Nat.xor (Nat.xor (Nat.shiftRight E 17) (Nat.shiftRight E 19)) (Nat.shiftRight e 10)) (Nat.mul e 4294967297)
def nch (e f g : Nat) : Nat := Nat.xor g (Nat.land e (Nat.xor f g))
def nmj (a b c : Nat) : Nat := Nat.lor (Nat.land a b) (Nat.land c (Nat.lor a b))
def nmd (x : Nat) : Nat := Nat.mod x 4294967296
def npk (a b : Nat) : Nat := Nat.add (Nat.mul a 4294967296) b
abbrev NW := Nat → Nat → Nat → Nat → Nat → Nat → Nat → Nat → Nat → Nat → Nat → Nat → Nat → Nat → Nat → Nat → List Nat
noncomputable def nsch (ks : List Nat) : NW := List.rec (motive := fun _ => NW) (fun _ _ _ _ _ _ _ _ _ _ _ _ _ _ _ _ => [])
  (fun k _ ih w0 w1 w2 w3 w4 w5 w6 w7 w8 w9 w10 w11 w12 w13 w14 w15 => Nat.add k w0 :: ih w1 w2 w3 w4 w5 w6 w7 w8 w9 w10 w11 w12 w13 w14 w15 (nmd (Nat.add (Nat.add (ns1 w14) w9) (Nat.add (ns0 w1) w0)))) ks
abbrev NR := Nat → Nat → Nat → Nat → Nat → Nat → Nat → Nat → Nat
noncomputable def nrnd (h0 h1 h2 h3 h4 h5 h6 h7 : Nat) (l : List Nat) : NR := List.rec (motive := fun _ => NR)
  (fun a b c d e f g h => (npk (npk (npk (npk (npk (npk (npk (nmd (Nat.add h0 a)) (nmd (Nat.add h1 b))) (nmd (Nat.add h2 c))) (nmd (Nat.add h3 d))) (nmd (Nat.add h4 e))) (nmd (Nat.add h5 f))) (nmd (Nat.add h6 g))) (nmd (Nat.add h7 h))))
  (fun k _ ih a b c d e f g h => (fun t1 => ih (nmd (Nat.add t1 (Nat.add (nS0 a) (nmj a b c)))) a b c (nmd (Nat.add d t1)) e f g) (Nat.add (Nat.add h (nS1 e)) (Nat.add (nch e f g) k))) l
def nKS : List Nat := [1116352408, 1899447441, 3049323471, 3921009573, 961987163, 1508970993, 2453635748, 2870763221, 3624381080, 310598401, 607225278, 1426881987, 1925078388, 2162078206, 2614888103, 3248222580, 3835390401, 4022224774, 264347078, 604807628, 770255983, 1249150122, 1555081692, 1996064986, 2554220882, 2821834349, 2952996808, 3210313671, 3336571891, 3584528711, 113926993, 338241895, 666307205, 773529912, 1294757372, 1396182291, 1695183700, 1986661051, 2177026350, 2456956037, 2730485921, 2820302411, 3259730800, 3345764771, 3516065817, 3600352804, 4094571909, 275423344, 430227734, 506948616, 659060556, 883997877, 958139571, 1322822218, 1537002063, 1747873779, 1955562222, 2024104815, 2227730452, 2361852424, 2428436474, 2756734187, 3204031479, 3329325298]
def nwd (x i : Nat) : Nat := nmd (Nat.shiftRight x (Nat.mul 32 i))
noncomputable def npress (H B : Nat) : Nat := nrnd (nwd H 7) (nwd H 6) (nwd H 5) (nwd H 4) (nwd H 3) (nwd H 2) (nwd H 1) (nwd H 0) (nsch nKS (nwd B 15) (nwd B 14) (nwd B 13) (nwd B 12) (nwd B 11) (nwd B 10) (nwd B 9) (nwd B 8) (nwd B 7) (nwd B 6) (nwd B 5) (nwd B 4) (nwd B 3) (nwd B 2) (nwd B 1) (nwd B 0)) (nwd H 7) (nwd H 6) (nwd H 5) (nwd H 4) (nwd H 3) (nwd H 2) (nwd H 1) (nwd H 0)
theorem nsch_nil (w0 w1 w2 w3 w4 w5 w6 w7 w8 w9 w10 w11 w12 w13 w14 w15 : Nat) : nsch [] w0 w1 w2 w3 w4 w5 w6 w7 w8 w9 w10 w11 w12 w13 w14 w15 = [] := rfl
theorem nsch_cons (k : Nat) (ks : List Nat) (w0 w1 w2 w3 w4 w5 w6 w7 w8 w9 w10 w11 w12 w13 w14 w15 : Nat) : nsch (k :: ks) w0 w1 w2 w3 w4 w5 w6 w7 w8 w9 w10 w11 w12 w13 w14 w15 = Nat.add k w0 :: nsch ks w1 w2 w3 w4 w5 w6 w7 w8 w9 w10 w11 w12 w13 w14 w15 (nmd (Nat.add (Nat.add (ns1 w14) w9) (Nat.add (ns0 w1) w0))) := rfl
theorem nrnd_nil (h0 h1 h2 h3 h4 h5 h6 h7 a b c d e f g h : Nat) : nrnd h0 h1 h2 h3 h4 h5 h6 h7 [] a b c d e f g h = (npk (npk (npk (npk (npk (npk (npk (nmd (Nat.add h0 a)) (nmd (Nat.add h1 b))) (nmd (Nat.add h2 c))) (nmd (Nat.add h3 d))) (nmd (Nat.add h4 e))) (nmd (Nat.add h5 f))) (nmd (Nat.add h6 g))) (nmd (Nat.add h7 h))) := rfl
theorem nrnd_cons (h0 h1 h2 h3 h4 h5 h6 h7 k : Nat) (l : List Nat) (a b c d e f g h : Nat) : nrnd h0 h1 h2 h3 h4 h5 h6 h7 (k :: l) a b c d e f g h = nrnd h0 h1 h2 h3 h4 h5 h6 h7 l (nmd (Nat.add (Nat.add (Nat.add h (nS1 e)) (Nat.add (nch e f g) k)) (Nat.add (nS0 a) (nmj a b c)))) a b c (nmd (Nat.add d (Nat.add (Nat.add h (nS1 e)) (Nat.add (nch e f g) k)))) e f g := rfl
theorem n_rot (x : BitVec 32) (n : Nat) (h0 : 0 < n) (h : n < 32) : (rotr x n).toNat = (x.toNat * 4294967297) >>> n % 4294967296 := by
  have hx := x.isLt
  rw [← rot_add x n h0 h, BitVec.toNat_add, BitVec.toNat_ushiftRight, BitVec.toNat_shiftLeft, Nat.shiftRight_eq_div_pow, Nat.shiftRight_eq_div_pow, Nat.shiftLeft_eq]
  have hp : 2 ^ n * 2 ^ (32 - n) = 4294967296 := by rw [← Nat.pow_add, show n + (32 - n) = 32 by omega]
  have e : x.toNat * 4294967297 = x.toNat + (x.toNat * 2 ^ (32 - n)) * 2 ^ n := by
    rw [Nat.mul_assoc, Nat.mul_comm (2 ^ (32 - n)), hp]; omega
  rw [e, Nat.add_mul_div_right _ _ (Nat.pow_pos (by omega))]
  simp only [Nat.reducePow]
  omega
theorem n_xor (a b : Nat) : (a % 4294967296) ^^^ (b % 4294967296) = (a ^^^ b) % 4294967296 := (Nat.xor_mod_two_pow (n := 32)).symm
theorem n_S1 (x : BitVec 32) : (bS1 x).toNat = nS1 x.toNat % 4294967296 := by
  unfold bS1 nS1
  rw [BitVec.toNat_xor, BitVec.toNat_xor, n_rot _ _ (by decide) (by decide), n_rot _ _ (by decide) (by decide), n_rot _ _ (by decide) (by decide), n_xor, n_xor]
  rfl
theorem n_S0 (x : BitVec 32) : (bS0 x).toNat = nS0 x.toNat % 4294967296 := by
  unfold bS0 nS0
  rw [BitVec.toNat_xor, BitVec.toNat_xor, n_rot _ _ (by decide) (by decide), n_rot _ _ (by decide) (by decide), n_rot _ _ (by decide) (by decide), n_xor, n_xor]
  rfl
theorem n_low (x : BitVec 32) (n : Nat) : (x >>> n).toNat = (x.toNat >>> n) % 4294967296 := by
  rw [BitVec.toNat_ushiftRight, Nat.shiftRight_eq_div_pow]
  have := x.isLt
  exact (Nat.mod_eq_of_lt (Nat.lt_of_le_of_lt (Nat.div_le_self _ _) (by omega))).symm
theorem n_s0 (x : BitVec 32) : (sS0 x).toNat = ns0 x.toNat % 4294967296 := by
  unfold sS0 ns0
  rw [BitVec.toNat_xor, BitVec.toNat_xor, n_rot _ _ (by decide) (by decide), n_rot _ _ (by decide) (by decide), n_low, n_xor, n_xor]
  rfl
theorem n_s1 (x : BitVec 32) : (sS1 x).toNat = ns1 x.toNat % 4294967296 := by
  unfold sS1 ns1
  rw [BitVec.toNat_xor, BitVec.toNat_xor, n_rot _ _ (by decide) (by decide), n_rot _ _ (by decide) (by decide), n_low, n_xor, n_xor]
  rfl
theorem n_ch (x y z : BitVec 32) : (cho x y z).toNat = nch x.toNat y.toNat z.toNat := by
  have e : cho x y z = z ^^^ (x &&& (y ^^^ z)) := by
    apply BitVec.eq_of_getLsbD_eq
    intro i hi
    simp only [cho, BitVec.getLsbD_xor, BitVec.getLsbD_and, BitVec.getLsbD_not, hi, decide_true, Bool.true_and]
    cases x.getLsbD i <;> cases y.getLsbD i <;> cases z.getLsbD i <;> rfl
  rw [e, BitVec.toNat_xor, BitVec.toNat_and, BitVec.toNat_xor]
  rfl
theorem n_mj (x y z : BitVec 32) : (maj x y z).toNat = nmj x.toNat y.toNat z.toNat := by
  have e : maj x y z = (x &&& y) ||| (z &&& (x ||| y)) := by
    apply BitVec.eq_of_getLsbD_eq
    intro i hi
    simp only [maj, BitVec.getLsbD_xor, BitVec.getLsbD_and, BitVec.getLsbD_or]
    cases x.getLsbD i <;> cases y.getLsbD i <;> cases z.getLsbD i <;> rfl
  rw [e, BitVec.toNat_or, BitVec.toNat_and, BitVec.toNat_and, BitVec.toNat_or]
  rfl
/-! ### The schedule, and the rounds -/
def kws : List (BitVec 32) → (Nat → BitVec 32) → List Nat
  | [], _ => []
  | k :: ks, w => (k.toNat + (w 0).toNat) :: kws ks fun i => w (i + 1)
theorem n_w (a b c d : BitVec 32) : nmd (Nat.add (Nat.add (ns1 a.toNat) b.toNat) (Nat.add (ns0 c.toNat) d.toNat)) = (sS1 a + b + sS0 c + d).toNat := by
  show (ns1 a.toNat + b.toNat + (ns0 c.toNat + d.toNat)) % 4294967296 = _
  rw [BitVec.toNat_add, BitVec.toNat_add, BitVec.toNat_add, n_s1, n_s0]
  omega
attribute [local irreducible] nS1 nS0 ns0 ns1 nch nmj nmd npk sS0 sS1 bS0 bS1 cho maj
theorem n_sch : ∀ (ks : List (BitVec 32)) (w : Nat → BitVec 32), (∀ n, w (n + 16) = sS1 (w (n + 14)) + w (n + 9) + sS0 (w (n + 1)) + w n) → nsch (ks.map (·.toNat)) (w 0).toNat (w 1).toNat (w 2).toNat (w 3).toNat (w 4).toNat (w 5).toNat (w 6).toNat (w 7).toNat (w 8).toNat (w 9).toNat (w 10).toNat (w 11).toNat (w 12).toNat (w 13).toNat (w 14).toNat (w 15).toNat = kws ks w := by
  intro ks
  induction ks with
  | nil => intro w _; rw [List.map_nil, nsch_nil, kws]
  | cons k ks ih =>
    intro w hw
    have e := ih (fun i => w (i + 1)) (fun n => hw (n + 1))
    rw [List.map_cons, nsch_cons, kws, ← e, n_w, ← hw 0]
    rfl
def runK : List (BitVec 32) → (Nat → BitVec 32) → Sta → Sta
  | [], _, s => s
  | k :: ks, w, s => runK ks (fun i => w (i + 1)) (stp s k (w 0))
def out8 (h0 h1 h2 h3 h4 h5 h6 h7 : Nat) (s : Sta) : Nat := (npk (npk (npk (npk (npk (npk (npk (nmd (Nat.add h0 s.a.toNat)) (nmd (Nat.add h1 s.b.toNat))) (nmd (Nat.add h2 s.c.toNat))) (nmd (Nat.add h3 s.d.toNat))) (nmd (Nat.add h4 s.e.toNat))) (nmd (Nat.add h5 s.f.toNat))) (nmd (Nat.add h6 s.g.toNat))) (nmd (Nat.add h7 s.h.toNat)))
theorem n_t1 (s : Sta) (k w : BitVec 32) : (up s k w).toNat = (s.h.toNat + nS1 s.e.toNat + (nch s.e.toNat s.f.toNat s.g.toNat + (k.toNat + w.toNat))) % 4294967296 := by
  unfold up
  rw [BitVec.toNat_add, BitVec.toNat_add, BitVec.toNat_add, BitVec.toNat_add, n_S1, n_ch]
  omega
theorem nmd_eq (x : Nat) : nmd x = x % 4294967296 := by unfold nmd; rfl
theorem n_a (s : Sta) (k w : BitVec 32) : nmd (Nat.add (Nat.add (Nat.add s.h.toNat (nS1 s.e.toNat)) (Nat.add (nch s.e.toNat s.f.toNat s.g.toNat) (k.toNat + w.toNat))) (Nat.add (nS0 s.a.toNat) (nmj s.a.toNat s.b.toNat s.c.toNat))) = (up s k w + dn s).toNat := by
  unfold dn
  rw [BitVec.toNat_add, BitVec.toNat_add, n_t1, n_S0, n_mj, nmd_eq]
  show (s.h.toNat + nS1 s.e.toNat + (nch s.e.toNat s.f.toNat s.g.toNat + (k.toNat + w.toNat)) + (nS0 s.a.toNat + nmj s.a.toNat s.b.toNat s.c.toNat)) % 4294967296 = _
  omega
theorem n_e (s : Sta) (k w : BitVec 32) : nmd (Nat.add s.d.toNat (Nat.add (Nat.add s.h.toNat (nS1 s.e.toNat)) (Nat.add (nch s.e.toNat s.f.toNat s.g.toNat) (k.toNat + w.toNat)))) = (s.d + up s k w).toNat := by
  rw [BitVec.toNat_add, n_t1, nmd_eq]
  show (s.d.toNat + (s.h.toNat + nS1 s.e.toNat + (nch s.e.toNat s.f.toNat s.g.toNat + (k.toNat + w.toNat)))) % 4294967296 = _
  omega
attribute [local irreducible] up dn
theorem n_rnd (h0 h1 h2 h3 h4 h5 h6 h7 : Nat) : ∀ (ks : List (BitVec 32)) (w : Nat → BitVec 32) (s : Sta), nrnd h0 h1 h2 h3 h4 h5 h6 h7 (kws ks w) s.a.toNat s.b.toNat s.c.toNat s.d.toNat s.e.toNat s.f.toNat s.g.toNat s.h.toNat = out8 h0 h1 h2 h3 h4 h5 h6 h7 (runK ks w s) := by
  intro ks
  induction ks with
  | nil => intro w s; rw [kws, nrnd_nil, runK]; unfold out8; rfl
  | cons k ks ih =>
    intro w s
    rw [kws, nrnd_cons, n_a, n_e, runK, ← ih]
    unfold stp
    rfl
end Go.Proofs.YtnfebaialdfffaaDoor
