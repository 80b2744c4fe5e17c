/- Plain facts on the start, a round and the end of a long division. No program is named here. -/
import Derived.Test.YtipmdjfhailfbaaGuessNum
import Derived.Test.YtipmdjfhailfbaaLimb3
namespace Go.Proofs.Ytipmdjfhailfbaa.LongTop
open Go.RowKit LimbNum NatNum DivNum LongNum GuessNum Limb3

theorem bit_lo (b : Nat) (h : b ≠ 0) : 1 ≤ bitLen b ∧ 2 ^ (bitLen b - 1) ≤ b ∧ b < 2 ^ bitLen b := by
  unfold bitLen
  rw [if_neg h]
  exact ⟨by omega, by rw [Nat.add_sub_cancel]; exact Nat.log2_self_le h, Nat.lt_log2_self⟩
/-- The count of bits by which the divisor is shifted. -/
theorem shift_of (b n : Nat) (h : b ≠ 0) (hn : (nl b).length = n) : ∃ s : Nat, bitLen b + s = 32 * n ∧ s ≤ 31 := by
  have h1 := bits_of b h
  obtain ⟨h2, h3⟩ := nl_last b h
  have h4 := bl32 _ (getD_small (nl b) (small_nl b) ((nl b).length - 1))
  have h5 := (bit_lo _ h3).1
  exact ⟨32 * n - bitLen b, by omega, by omega⟩
theorem top_limb (N n : Nat) (hn : 1 ≤ n) (h1 : N < 4294967296 ^ n) (h2 : 2 ^ (32 * n - 1) ≤ N) : (nl N).length = n ∧ 2147483648 ≤ (nl N).getD (n - 1) 0 := by
  have hl := nl_lt n N h1
  have e1 : (2 : Nat) ^ (32 * n - 1) = 4294967296 ^ (n - 1) * 2147483648 := by
    rw [← pow32, show (2147483648 : Nat) = 2 ^ 31 from rfl, ← Nat.pow_add]; congr 1; omega
  have hlen : (nl N).length = n := by
    rcases Nat.lt_or_ge (nl N).length n with h | h
    · have h3 := val_lt (nl N) (small_nl N)
      rw [val_nl] at h3
      have h4 : (4294967296 : Nat) ^ (nl N).length ≤ 4294967296 ^ (n - 1) := Nat.pow_le_pow_right (by omega) (by omega)
      generalize (4294967296 : Nat) ^ (n - 1) = M at *
      omega
    · omega
  refine ⟨hlen, ?_⟩
  have h3 := val_take_any (nl N) (n - 1)
  rw [Nat.sub_add_cancel hn, List.take_of_length_le (by omega), val_nl] at h3
  have h4 := low_lt (nl N) (small_nl N) (n - 1) (by omega)
  rcases Nat.lt_or_ge ((nl N).getD (n - 1) 0) 2147483648 with h | h
  · exfalso
    have h5 : 4294967296 ^ (n - 1) * ((nl N).getD (n - 1) 0 + 1) ≤ 4294967296 ^ (n - 1) * 2147483648 := Nat.mul_le_mul_left _ (by omega)
    rw [Nat.mul_add, Nat.mul_one] at h5
    omega
  · exact h
theorem shifted (b n s : Nat) (h : b ≠ 0) (hn : 1 ≤ n) (hs : bitLen b + s = 32 * n) : (nl (b * 2 ^ s)).length = n ∧ 2147483648 ≤ (nl (b * 2 ^ s)).getD (n - 1) 0 ∧ 2 ^ (32 * n - 1) ≤ b * 2 ^ s := by
  obtain ⟨h1, h2, h3⟩ := bit_lo b h
  have e1 : b * 2 ^ s < 4294967296 ^ n := by
    rw [← pow32, ← hs, Nat.pow_add]
    exact Nat.mul_lt_mul_of_pos_right h3 (Nat.two_pow_pos s)
  have e2 : 2 ^ (32 * n - 1) ≤ b * 2 ^ s := by
    rw [show 32 * n - 1 = (bitLen b - 1) + s by omega, Nat.pow_add]
    exact Nat.mul_le_mul_right _ h2
  obtain ⟨k1, k2⟩ := top_limb _ n hn e1 e2
  exact ⟨k1, k2, e2⟩
theorem moved_len (P : List Nat) (hP : Small P) (s : Nat) (hs : s ≤ 31) : (nl (val P * 2 ^ s)).length ≤ P.length + 1 := by
  apply nl_lt
  have h1 := val_lt P hP
  have h2 : (2 : Nat) ^ s ≤ 2 ^ 32 := Nat.pow_le_pow_right (by omega) (by omega)
  rw [Nat.pow_succ]
  exact Nat.lt_of_lt_of_le (Nat.mul_lt_mul_of_pos_right h1 (Nat.two_pow_pos s)) (Nat.mul_le_mul_left _ h2)
theorem first_lt (P : List Nat) (hP : Small P) (s n K V : Nat) (hs : s ≤ 31) (hn : 1 ≤ n) (hK : K + n = P.length + 1) (hV : 2 ^ (32 * n - 1) ≤ V) : val P * 2 ^ s < V * 4294967296 ^ K := by
  have h1 := val_lt P hP
  have h2 : (2 : Nat) ^ s ≤ 2 ^ 31 := Nat.pow_le_pow_right (by omega) hs
  have h3 : 2 ^ (32 * n - 1) * 4294967296 ^ K ≤ V * 4294967296 ^ K := Nat.mul_le_mul_right _ hV
  have h4 : (2 : Nat) ^ (32 * n - 1) * 4294967296 ^ K = 4294967296 ^ P.length * 2 ^ 31 := by
    rw [← pow32, ← pow32, ← Nat.pow_add, ← Nat.pow_add]; congr 1; omega
  rw [h4] at h3
  exact Nat.lt_of_lt_of_le (Nat.lt_of_lt_of_le (Nat.mul_lt_mul_of_pos_right h1 (Nat.two_pow_pos s)) (Nat.mul_le_mul_left _ h2)) h3
/-- A row that is cut in three: the part that is divided. -/
theorem cut3 (U : List Nat) (j n V : Nat) (hl : j + n + 1 ≤ U.length) (hV : V < 4294967296 ^ n) (hlt : val U < V * 4294967296 ^ (j + 1)) :
    U = U.take j ++ (U.drop j).take (n + 1) ++ U.drop (j + n + 1) ∧ (U.take j).length = j ∧ ((U.drop j).take (n + 1)).length = n + 1 ∧ val (U.drop (j + n + 1)) = 0 ∧ val U = val (U.take j) + 4294967296 ^ j * val ((U.drop j).take (n + 1)) ∧ val ((U.drop j).take (n + 1)) < V * 4294967296 := by
  have e0 : U.take j ++ (U.drop j).take (n + 1) ++ U.drop (j + n + 1) = U := by
    rw [List.append_assoc, show U.drop (j + n + 1) = (U.drop j).drop (n + 1) by rw [List.drop_drop]; congr 1, List.take_append_drop, List.take_append_drop]
  have l1 : (U.take j).length = j := by rw [List.length_take]; omega
  have l2 : ((U.drop j).take (n + 1)).length = n + 1 := by rw [List.length_take, List.length_drop]; omega
  have v0 := congrArg val e0
  rw [val_append, val_append, List.length_append, l1, l2] at v0
  have hz : val (U.drop (j + n + 1)) = 0 := by
    rcases Nat.eq_zero_or_pos (val (U.drop (j + n + 1))) with h | h
    · exact h
    · exfalso
      have h1 : 4294967296 ^ (j + (n + 1)) ≤ 4294967296 ^ (j + (n + 1)) * val (U.drop (j + n + 1)) := Nat.le_mul_of_pos_right _ h
      have h2 : V * 4294967296 ^ (j + 1) ≤ 4294967296 ^ n * 4294967296 ^ (j + 1) := Nat.mul_le_mul_right _ (Nat.le_of_lt hV)
      rw [← Nat.pow_add, show n + (j + 1) = j + (n + 1) by omega] at h2
      omega
  rw [hz, Nat.mul_zero, Nat.add_zero] at v0
  refine ⟨e0.symm, l1, l2, hz, v0.symm, ?_⟩
  rw [← v0, Nat.pow_succ, ← Nat.mul_assoc, Nat.mul_right_comm] at hlt
  have h3 : 4294967296 ^ j * val ((U.drop j).take (n + 1)) < 4294967296 ^ j * (V * 4294967296) := by
    rw [Nat.mul_comm (4294967296 ^ j) (V * 4294967296)]
    omega
  exact Nat.lt_of_mul_lt_mul_left h3
theorem small_part (U : List Nat) (hU : Small U) (j n : Nat) : Small ((U.drop j).take n) := fun x hx => hU x (List.mem_of_mem_drop (List.mem_of_mem_take hx))
theorem small_three (X Y Z : List Nat) (hX : Small X) (hY : Small Y) (hZ : Small Z) : Small (X ++ Y ++ Z) := by
  intro x hx
  simp only [List.mem_append] at hx
  rcases hx with (h | h) | h
  · exact hX x h
  · exact hY x h
  · exact hZ x h
theorem last_take (U : List Nat) (n : Nat) (hn : n ≤ U.length) (h : val U < 4294967296 ^ n) : val (U.take n) = val U := by
  have e := val_append (U.take n) (U.drop n)
  rw [List.take_append_drop, List.length_take, Nat.min_eq_left hn] at e
  rcases Nat.eq_zero_or_pos (val (U.drop n)) with h1 | h1
  · rw [h1] at e; omega
  · have : 4294967296 ^ n ≤ 4294967296 ^ n * val (U.drop n) := Nat.le_mul_of_pos_right _ h1
    omega
theorem long_end (a b s u D : Nat) (hb : 0 < b) (h : a * 2 ^ s = u + b * 2 ^ s * D) (hu : u < b * 2 ^ s) : D = a / b ∧ u / 2 ^ s = a % b := by
  have hp := Nat.two_pow_pos s
  have h1 : D = a * 2 ^ s / (b * 2 ^ s) := by
    rw [h, Nat.add_mul_div_left _ _ (Nat.mul_pos hb hp), Nat.div_eq_of_lt hu, Nat.zero_add]
  have h2 : u = a * 2 ^ s % (b * 2 ^ s) := by
    rw [h, Nat.add_mul_mod_self_left, Nat.mod_eq_of_lt hu]
  refine ⟨by rw [h1, Nat.mul_div_mul_right _ _ hp], ?_⟩
  rw [h2, Nat.mul_mod_mul_right, Nat.mul_div_cancel _ hp]
end Go.Proofs.Ytipmdjfhailfbaa.LongTop
