/- What the reference's product of lists of bits answers. -/
import Derived.Test.YtipmdjfhailfbaaRefA
import Derived.Test.YtipmdjfhailfbaaRefH
namespace Go.Proofs.Ytipmdjfhailfbaa.BitMul
open Go.RowKit Mem LimbNum Limb1 RefL RefA RefH

theorem prod_len (P Q : List Bool) (k : Nat) : (nb (fromL P * fromL (Q.take k))).length ≤ P.length + k := by
  apply nb_lt
  have h1 := fromL_lt P
  have h2 := fromL_lt (Q.take k)
  have h3 : (2 : Nat) ^ (Q.take k).length ≤ 2 ^ k := Nat.pow_le_pow_right (by omega) (by simp; omega)
  rw [Nat.pow_add]
  exact Nat.mul_lt_mul'' h1 (Nat.lt_of_lt_of_le h2 h3)
theorem prod_step (P Q : List Bool) (k : Nat) (h : Q.getD k false = true) : fromL P * fromL (Q.take (k + 1)) = fromL P * fromL (Q.take k) + fromL P * 2 ^ k := by
  rw [fromL_take_any, h, Nat.mul_add]; simp
theorem prod_skip (P Q : List Bool) (k : Nat) (h : Q.getD k false = false) : fromL P * fromL (Q.take (k + 1)) = fromL P * fromL (Q.take k) := by
  rw [fromL_take_any, h]; simp

end Go.Proofs.Ytipmdjfhailfbaa.BitMul
