/- What the reference's shifts of lists of bits answer. -/
import Derived.Test.YtipmdjfhailfbaaRefL
namespace Go.Proofs.Ytipmdjfhailfbaa.RefH
open Go.RowKit Mem LimbNum Limb1 RefL

theorem bools_zero (n : Nat) : bools (List.replicate n false) = List.replicate n (.bool false) := by simp [bools]
theorem fromL_shift (l : List Bool) (M : Nat) : fromL (List.replicate M false ++ l) = fromL l * 2 ^ M := by
  rw [fromL_append, fromL_zero (List.replicate M false) (fun x hx => List.eq_of_mem_replicate hx), List.length_replicate, Nat.zero_add, Nat.mul_comm]
theorem fromL_cutoff (l : List Bool) (M : Nat) : fromL (l.drop M) = fromL l / 2 ^ M := by
  have h1 := fromL_append (l.take M) (l.drop M)
  rw [List.take_append_drop] at h1
  rcases Nat.lt_or_ge M l.length with h | h
  · have h2 := fromL_lt (l.take M)
    rw [List.length_take, Nat.min_eq_left (by omega)] at h1 h2
    rw [h1, Nat.add_mul_div_left _ _ (Nat.two_pow_pos M), Nat.div_eq_of_lt h2, Nat.zero_add]
  · have h2 := fromL_lt l
    have h3 : (2 : Nat) ^ l.length ≤ 2 ^ M := Nat.pow_le_pow_right (by omega) h
    rw [List.drop_eq_nil_of_le h, Nat.div_eq_of_lt (Nat.lt_of_lt_of_le h2 h3)]; rfl

end Go.Proofs.Ytipmdjfhailfbaa.RefH
