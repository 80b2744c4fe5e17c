/- Plain facts on the least and the greatest number of a kind, as lists of bits. No program is named here. -/
import Derived.Test.YtaaiogpdeahaaacBitNum
namespace Go.Proofs.Ytaaiogpdeahaaac.BitEnds
open BitNum Go.RowKit

/-- The bits of the greatest number, behind k rounds. -/
def el (W : Nat) (S : Bool) (k : Nat) : List Bool := (List.range 64).map fun i => decide (i < k) && (!S || decide (i + 1 < W))
theorem el_length (W : Nat) (S : Bool) (k : Nat) : (el W S k).length = 64 := by simp [el]
theorem el_start (W : Nat) (S : Bool) : (el W S 0).map Value.bool = List.replicate 64 (Value.bool false) := by
  apply List.ext_getElem
  · simp [el]
  · intro i h1 h2; rw [List.getElem_replicate]; simp [el]
theorem el_step (W : Nat) (S : Bool) (k : Nat) : el W S (k + 1) = (el W S k).set k (!S || decide (k + 1 < W)) := by
  apply List.ext_getElem
  · simp [el]
  · intro i h1 h2
    rw [List.getElem_set]
    simp only [el, List.getElem_map, List.getElem_range]
    by_cases hk : k = i
    · subst hk; simp
    · rw [if_neg hk]
      by_cases h4 : i < k
      · have : i < k + 1 := by omega
        simp [h4, this]
      · have : ¬ i < k + 1 := by omega
        simp [h4, this]
/-- Does the number x lie between the two? -/
def fb (L : Int) (M : Nat) (x : Int) : Bool := decide (L ≤ x) && (decide (x < 0) || decide (x ≤ (M : Int)))
end Go.Proofs.Ytaaiogpdeahaaac.BitEnds
