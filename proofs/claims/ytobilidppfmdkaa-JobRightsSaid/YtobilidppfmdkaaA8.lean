/- AES: the example; what was encrypted is decrypted again. -/
import Derived.Test.YtobilidppfmdkaaA7
namespace Go.Proofs.Ytobilidppfmdkaa
open Go.RowKit
set_option maxRecDepth 100000
set_option maxHeartbeats 20000000
theorem ksch_c {nk : Nat} {b b' : Nat → BitVec 8} (h : ∀ j, j < 4 * nk → b j = b' j) : ksch nk b = ksch nk b' := by
  have e : kfirst nk b = kfirst nk b' := by
    unfold kfirst lw
    refine List.map_congr_left fun i hi => ?_
    rw [List.mem_range] at hi
    simp only [wordAt]
    rw [h _ (by omega), h _ (by omega), h _ (by omega), h _ (by omega)]
  unfold ksch
  rw [e]
theorem lw_c8 {n : Nat} {f g : Nat → BitVec 8} (h : ∀ j, j < n → f j = g j) : lw n f = lw n g := by
  unfold lw
  exact List.map_congr_left fun i hi => h i (List.mem_range.1 hi)
theorem ex_hex : hexL exC = "69c4e0d86a7b0430d8cdb78070b4c55a".toUTF8.data.toList := by decide +kernel
theorem ex_box : sbx 0#8 = 99#8 := by decide +kernel
theorem lw_at8 (l : Msg) (n : Nat) (h : l.length = n) : lw n (at8 l) = l := by
  subst h
  apply List.ext_getElem (by simp [lw])
  intro i h1 h2
  simp [lw, at8, List.getD, h2]
attribute [local irreducible] xt rol8 aff pw lg sbx isx gm sbN isN xtN at32 mkB shB suB miB enc dec hexL at8 exC exK
def exF (k : Nat) : Nat → BitVec 8 := fil (fun j => BitVec.ofNat 8 j) (fun _ => 0) k
def exG (k : Nat) : Nat → BitVec 8 := fil (fun j => BitVec.ofNat 8 (17 * j)) (fun _ => 0) k
def C_l3_awake : SpecP := fun A K => A [] ∧ K (.bo true)
end Go.Proofs.Ytobilidppfmdkaa
