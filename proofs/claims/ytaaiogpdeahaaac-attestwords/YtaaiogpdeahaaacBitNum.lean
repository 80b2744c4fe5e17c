/- Plain facts on lists of bits, the lowest first: the number that they make, and its single bits. No program is named here. -/
import Derived.WalkKit
import Derived.OpenShut
import Derived.Laws.BitsAllLaws
namespace Go.Proofs.Ytaaiogpdeahaaac.BitNum

/-- The lowest n bits of x, the lowest first. -/
def bl (x n : Nat) : List Bool := (List.range n).map fun i => x.testBit i
/-- The number of bits, the lowest first. -/
def fromL : List Bool → Nat
  | [] => 0
  | b :: t => b.toNat + 2 * fromL t

theorem bl_length (x n : Nat) : (bl x n).length = n := by simp [bl]
theorem bl_succ (x n : Nat) : bl x (n + 1) = bl x n ++ [x.testBit n] := by simp [bl, List.range_succ]
theorem bl_get (x n i : Nat) (h : i < n) : (bl x n).getD i false = x.testBit i := by simp [bl, h]
theorem getD_out (l : List Bool) (i : Nat) (h : l.length ≤ i) : l.getD i false = false := by simp [h]
theorem map_bool_get (l : List Bool) (j : Nat) (h : j < l.length) : (l.map Value.bool)[j]? = some (.bool (l.getD j false)) := by simp [h]
theorem testBit_fromL (l : List Bool) (i : Nat) : (fromL l).testBit i = l.getD i false := by
  induction l generalizing i with
  | nil => simp [fromL]
  | cons b t ih =>
    cases i with
    | zero => cases b <;> simp [fromL, Nat.testBit_zero] <;> omega
    | succ i =>
      rw [Nat.testBit_succ]
      have e : fromL (b :: t) / 2 = fromL t := by cases b <;> simp [fromL] <;> omega
      rw [e, ih]; simp
theorem fromL_lt (l : List Bool) : fromL l < 2 ^ l.length := by
  induction l with
  | nil => simp [fromL]
  | cons b t ih => rw [List.length_cons, Nat.pow_succ]; cases b <;> simp [fromL] <;> omega
theorem fromL_lt64 (l : List Bool) (h : l.length ≤ 64) : fromL l < 18446744073709551616 :=
  Nat.lt_of_lt_of_le (fromL_lt l) (Nat.le_trans (Nat.pow_le_pow_right (by omega) h) (by decide))
theorem fromL_drop (l : List Bool) (k : Nat) (h : k < l.length) : fromL (l.drop k) = (l.getD k false).toNat + 2 * fromL (l.drop (k + 1)) := by
  rw [List.drop_eq_getElem_cons h, fromL]; simp [h]
theorem fromL_eq (l : List Bool) (x : Nat) (h : ∀ i, l.getD i false = x.testBit i) : fromL l = x :=
  Nat.eq_of_testBit_eq fun i => by rw [testBit_fromL, h]
theorem testBit_is (x k : Nat) : x.testBit k = decide (x / 2 ^ k % 2 = 1) := Nat.testBit_eq_decide_div_mod_eq
theorem high_bit (x i : Nat) (h : x < 18446744073709551616) (hi : 64 ≤ i) : x.testBit i = false :=
  Nat.testBit_lt_two_pow (Nat.lt_of_lt_of_le h (Nat.le_trans (by decide) (Nat.pow_le_pow_right (by omega) hi)))
end Go.Proofs.Ytaaiogpdeahaaac.BitNum
