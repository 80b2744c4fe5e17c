/- Plain facts on quotients: by one limb, and by many with a guess at each limb. No program is named here. -/
import Derived.Test.YtipmdjfhailfbaaNatNum
namespace Go.Proofs.Ytipmdjfhailfbaa.DivNum
open Go.RowKit LimbNum NatNum

/-- One limb of a quotient by one limb. -/
theorem word_limb (left x v : Nat) (hl : left < v) (hv : v < 4294967296) (hx : x < 4294967296) :
    left * 4294967296 + x < 18446744073709551616 ∧ (left * 4294967296 + x) / v < 4294967296 ∧ (left * 4294967296 + x) % v < v := by
  refine ⟨by omega, ?_, Nat.mod_lt _ (by omega)⟩
  rw [Nat.div_lt_iff_lt_mul (by omega)]
  have : (left + 1) * 4294967296 ≤ v * 4294967296 := Nat.mul_le_mul_right _ hl
  omega
theorem word_step (P D : List Nat) (k v left : Nat) (hk : k < P.length) (h : val (P.drop (k + 1)) = val D * v + left) :
    val (P.drop k) = val (((left * 4294967296 + P.getD k 0) / v) :: D) * v + (left * 4294967296 + P.getD k 0) % v := by
  have h1 := Nat.div_add_mod (left * 4294967296 + P.getD k 0) v
  have e : P.drop k = P.getD k 0 :: P.drop (k + 1) := by rw [List.drop_eq_getElem_cons hk]; simp [hk]
  rw [e, val, val, h]
  generalize (left * 4294967296 + P.getD k 0) / v = q at *
  generalize (left * 4294967296 + P.getD k 0) % v = r at *
  grind
theorem fill_down (D : List Nat) (k q : Nat) : (List.replicate (k + 1) 0 ++ D).set k q = List.replicate k 0 ++ (q :: D) := by
  rw [show k + 1 = k + 1 from rfl, List.replicate_succ', List.append_assoc, List.set_append_right _ _ (by simp)]
  simp
/-- The guess at a limb of a quotient. u: the value of the part (n + 1 limbs), with its highest three limbs U = top * B + u2; v: the divisor, with its highest two limbs. -/
theorem guess_start (u v R qt top high lo vlo : Nat) (hv : v = high * R + vlo) (hu : u = top * R + lo) (hlo : lo < R) (hq : qt * v ≤ u) (hh : 0 < high) : qt ≤ top / high := by
  rw [Nat.le_div_iff_mul_le hh]
  have h1 : qt * high * R ≤ qt * v := by rw [hv, Nat.mul_add, Nat.mul_assoc]; omega
  have h2 : qt * high * R < (top + 1) * R := by rw [Nat.add_mul, Nat.one_mul]; omega
  have := Nat.lt_of_mul_lt_mul_right h2
  omega
theorem guess_too (u v R q qt V2 U lo vlo : Nat) (hv : v = V2 * R + vlo) (hu : u = U * R + lo) (hlo : lo < R) (hq : qt * v ≤ u) (hbig : U < q * V2) : qt < q := by
  have h1 : qt * V2 * R ≤ qt * v := by rw [hv, Nat.mul_add, Nat.mul_assoc]; omega
  have h2 : qt * V2 * R < (U + 1) * R := by rw [Nat.add_mul, Nat.one_mul]; omega
  have h3 := Nat.lt_of_mul_lt_mul_right h2
  have h4 : qt * V2 < q * V2 := by omega
  exact Nat.lt_of_mul_lt_mul_right h4
theorem guess_end (u v R q qt V2 U lo vlo : Nat) (hv : v = V2 * R + vlo) (hvlo : vlo < R) (hu : u = U * R + lo) (hq : u < (qt + 1) * v) (hok : q * V2 ≤ U) (hB : q ≤ 4294967296) (hbig : 4294967296 ≤ V2) : q ≤ qt + 1 := by
  rcases Nat.lt_or_ge (qt + 1) q with h | h
  · exfalso
    have h1 : (qt + 1 + 1) * v ≤ q * v := Nat.mul_le_mul_right _ h
    have h2 : q * v = q * V2 * R + q * vlo := by rw [hv, Nat.mul_add, Nat.mul_assoc]
    have h3 : q * V2 * R ≤ U * R := Nat.mul_le_mul_right _ hok
    have h4 : q * vlo ≤ 4294967296 * vlo := Nat.mul_le_mul_right _ hB
    have h5 : 4294967296 * R ≤ V2 * R := Nat.mul_le_mul_right _ hbig
    have h6 : (qt + 1 + 1) * v = (qt + 1) * v + v := by rw [Nat.add_mul, Nat.one_mul]
    have h7 : 4294967296 * vlo ≤ 4294967296 * R := Nat.mul_le_mul_left _ (by omega)
    omega
  · exact h
/-- One limb of what is left: u less q times w, with a carry and a borrow. -/
theorem take_limb (x w q c b : Nat) (hx : x < 4294967296) (hw : w < 4294967296) (hq : q < 4294967296) (hc : c < 4294967296) (hb : b ≤ 1) :
    ∃ p o b2 c2 D1 D2: Nat, q * w + c = p ∧ p < 18446744073709551616 ∧ p / 4294967296 = c2 ∧ c2 < 4294967296 ∧ IntKind.u64.wrap ((x : Int) - ((p % 4294967296 : Nat) : Int)) = (D1 : Int) ∧ IntKind.u64.wrap ((D1 : Int) - (b : Int)) = (D2 : Int) ∧
      (D2 : Int) % 4294967296 = (o : Int) ∧ (D2 : Int) / 9223372036854775808 = (b2 : Int) ∧ o < 4294967296 ∧ b2 ≤ 1 ∧ o + q * w + c + b = x + (c2 + b2) * 4294967296 ∧ D1 ≤ 18446744073709551615 ∧ D2 ≤ 18446744073709551615 := by
  have hp : q * w ≤ 4294967295 * 4294967295 := Nat.mul_le_mul (by omega) (by omega)
  generalize q * w = m at *
  refine ⟨m + c, if (m + c) % 4294967296 + b ≤ x then x - (m + c) % 4294967296 - b else x + 4294967296 - (m + c) % 4294967296 - b, if (m + c) % 4294967296 + b ≤ x then 0 else 1, (m + c) / 4294967296,
    if (m + c) % 4294967296 ≤ x then x - (m + c) % 4294967296 else x + 18446744073709551616 - (m + c) % 4294967296, if (m + c) % 4294967296 + b ≤ x then x - (m + c) % 4294967296 - b else x + 18446744073709551616 - (m + c) % 4294967296 - b, rfl, by omega, rfl, by omega, ?_, ?_, ?_, ?_, ?_, ?_, ?_, ?_, ?_⟩
  · rw [IntKind.wrap_u64]; split <;> omega
  · rw [IntKind.wrap_u64]; split <;> split <;> omega
  · split <;> omega
  · split <;> omega
  · split <;> omega
  · split <;> omega
  · split <;> omega
  · split <;> omega
  · split <;> omega
theorem take_top (x c b : Nat) (hx : x < 4294967296) (hc : c < 4294967296) (hb : b ≤ 1) :
    ∃ o b2 D1 D2 : Nat, IntKind.u64.wrap ((x : Int) - (c : Int)) = (D1 : Int) ∧ IntKind.u64.wrap ((D1 : Int) - (b : Int)) = (D2 : Int) ∧
      (D2 : Int) % 4294967296 = (o : Int) ∧ (D2 : Int) / 9223372036854775808 = (b2 : Int) ∧ o < 4294967296 ∧ b2 ≤ 1 ∧ o + c + b = x + b2 * 4294967296 ∧ D1 ≤ 18446744073709551615 ∧ D2 ≤ 18446744073709551615 := by
  refine ⟨if c + b ≤ x then x - c - b else x + 4294967296 - c - b, if c + b ≤ x then 0 else 1,
    if c ≤ x then x - c else x + 18446744073709551616 - c, if c + b ≤ x then x - c - b else x + 18446744073709551616 - c - b, ?_, ?_, ?_, ?_, ?_, ?_, ?_, ?_, ?_⟩
  · rw [IntKind.wrap_u64]; split <;> omega
  · rw [IntKind.wrap_u64]; split <;> split <;> omega
  · split <;> omega
  · split <;> omega
  · split <;> omega
  · split <;> omega
  · split <;> omega
  · split <;> omega
  · split <;> omega
end Go.Proofs.Ytipmdjfhailfbaa.DivNum
