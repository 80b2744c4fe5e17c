/- Plain facts on long division: what is taken away, put back, and what a round of it leaves. No program is named here. -/
import Derived.Test.YtipmdjfhailfbaaDivNum
namespace Go.Proofs.Ytipmdjfhailfbaa.LongNum
open Go.RowKit LimbNum NatNum DivNum

theorem take_step (U V T : List Nat) (i x w q c b o c2 b2 : Nat) (hT : T.length = i) (hx : U.getD i 0 = x) (hw : V.getD i 0 = w) (h : o + q * w + c + b = x + (c2 + b2) * 4294967296)
    (hi : val T + q * val (V.take i) = val (U.take i) + (c + b) * 4294967296 ^ i) : val (T ++ [o]) + q * val (V.take (i + 1)) = val (U.take (i + 1)) + (c2 + b2) * 4294967296 ^ (i + 1) := by
  rw [val_append, val_take_any, val_take_any, hT, hx, hw, Nat.pow_succ]
  simp only [val, Nat.mul_zero, Nat.add_zero]
  generalize (4294967296 : Nat) ^ i = M at *
  have e : M * (o + q * w + c + b) = M * (x + (c2 + b2) * 4294967296) := by rw [h]
  grind
theorem take_last (U V T : List Nat) (n x q c b o b2 : Nat) (hT : T.length = n) (hU : U.length = n + 1) (hV : V.length = n) (hx : U.getD n 0 = x) (h : o + c + b = x + b2 * 4294967296)
    (hi : val T + q * val (V.take n) = val (U.take n) + (c + b) * 4294967296 ^ n) : val (T ++ [o]) + q * val V = val U + b2 * 4294967296 ^ (n + 1) := by
  have h1 := val_take_any U n
  rw [List.take_of_length_le (Nat.le_of_eq hU), hx] at h1
  rw [List.take_of_length_le (Nat.le_of_eq hV)] at hi
  rw [val_append, hT, h1, Nat.pow_succ]
  simp only [val, Nat.mul_zero, Nat.add_zero]
  generalize (4294967296 : Nat) ^ n = M at *
  have e : M * (o + c + b) = M * (x + b2 * 4294967296) := by rw [h]
  grind
theorem back_last (U V T : List Nat) (n x c o : Nat) (hT : T.length = n) (hTs : Small T) (hU : U.length = n + 1) (hV : V.length = n) (hx : U.getD n 0 = x) (h : o = (x + c) % 4294967296)
    (hi : val T + c * 4294967296 ^ n = val (U.take n) + val (V.take n)) : val (T ++ [o]) = (val U + val V) % 4294967296 ^ (n + 1) := by
  have h1 := val_take_any U n
  rw [List.take_of_length_le (Nat.le_of_eq hU), hx] at h1
  rw [List.take_of_length_le (Nat.le_of_eq hV)] at hi
  have h2 := val_lt T hTs
  rw [hT] at h2
  have h3 := Nat.div_add_mod (x + c) 4294967296
  rw [← h] at h3
  have ho : o < 4294967296 := by omega
  rw [val_append, hT, h1]
  simp only [val, Nat.mul_zero, Nat.add_zero]
  have h4 : val (U.take n) + 4294967296 ^ n * x + val V = val T + 4294967296 ^ n * o + (4294967296 ^ (n + 1)) * ((x + c) / 4294967296) := by
    rw [Nat.pow_succ]
    generalize (4294967296 : Nat) ^ n = M at *
    have e : M * (4294967296 * ((x + c) / 4294967296) + o) = M * (x + c) := by rw [h3]
    grind
  rw [h4, Nat.add_mul_mod_self_left, Nat.mod_eq_of_lt]
  rw [Nat.pow_succ]
  generalize (4294967296 : Nat) ^ n = M at *
  have : M * o ≤ M * 4294967295 := Nat.mul_le_mul_left _ (by omega)
  omega
theorem digit_pos (p v q qt u' E b : Nat) (h0 : qt * v ≤ p) (h1 : p < (qt + 1) * v) (h2 : qt ≤ q) (h3 : q ≤ qt + 1) (h4 : u' < E) (h5 : p < E) (hb : b ≤ 1) (h : u' + q * v = p + b * E) :
    (b = 0 → q = qt ∧ u' = p - qt * v) ∧ (b = 1 → q = qt + 1 ∧ (u' + v) % E = p - qt * v) := by
  have e : (qt + 1) * v = qt * v + v := by rw [Nat.add_mul, Nat.one_mul]
  refine ⟨?_, ?_⟩
  · rintro rfl
    rcases Nat.lt_or_ge qt q with h6 | h6
    · have : q = qt + 1 := by omega
      subst this; omega
    · have : q = qt := by omega
      subst this; omega
  · rintro rfl
    rcases Nat.lt_or_ge qt q with h6 | h6
    · have : q = qt + 1 := by omega
      subst this
      refine ⟨rfl, ?_⟩
      rw [show u' + v = (p - qt * v) + E by omega, Nat.add_mod_right, Nat.mod_eq_of_lt (by omega)]
    · have : q = qt := by omega
      subst this; omega
/-- One round of the long division. -/
theorem round_step (X U' Z : List Nat) (i p v N d D : Nat) (hX : X.length = i) (hXs : Small X) (hZ : val Z = 0) (hu : val U' = p - d * v) (hd : d * v ≤ p) (hd2 : p < (d + 1) * v) (hN : N = val X + 4294967296 ^ i * p + v * 4294967296 ^ (i + 1) * D) :
    N = val (X ++ U' ++ Z) + v * 4294967296 ^ i * (d + 4294967296 * D) ∧ val (X ++ U' ++ Z) < v * 4294967296 ^ i := by
  have e : val (X ++ U' ++ Z) = val X + 4294967296 ^ i * (p - d * v) := by rw [val_append, val_append, hX, hu, hZ, Nat.mul_zero, Nat.add_zero]
  obtain ⟨r, hr⟩ : ∃ r, p = d * v + r := ⟨p - d * v, by omega⟩
  have hrl : r < v := by rw [Nat.add_mul, Nat.one_mul] at hd2; omega
  have hx := val_lt X hXs
  rw [hX] at hx
  rw [e, show p - d * v = r by omega]
  refine ⟨?_, ?_⟩
  · rw [hN, hr, Nat.pow_succ]; grind
  · generalize (4294967296 : Nat) ^ i = M at *
    have h1 : M * (r + 1) ≤ M * v := Nat.mul_le_mul_left _ hrl
    rw [Nat.mul_add, Nat.mul_one] at h1
    rw [Nat.mul_comm v]; omega
theorem set_mid (X T U Z : List Nat) (i j o : Nat) (hX : X.length = i) (hT : T.length = j) (hj : j < U.length) : (X ++ (T ++ U.drop j) ++ Z).set (i + j) o = X ++ ((T ++ [o]) ++ U.drop (j + 1)) ++ Z := by
  subst hX hT
  rw [List.append_assoc, List.set_append_right _ _ (by omega), Nat.add_sub_cancel_left, List.append_assoc, List.set_append_right _ _ (Nat.le_refl _), Nat.sub_self, List.drop_eq_getElem_cons hj]
  generalize U.drop (T.length + 1) = R
  generalize U[T.length] = x
  simp
theorem get_mid (X T U Z : List Nat) (i j : Nat) (hX : X.length = i) (hT : T.length = j) (hj : j < U.length) : (X ++ (T ++ U.drop j) ++ Z).getD (i + j) 0 = U.getD j 0 := by
  subst hX hT
  rw [show U.getD T.length 0 = U[T.length] by simp [hj], List.drop_eq_getElem_cons hj]
  generalize U.drop (T.length + 1) = R
  generalize U[T.length] = x
  simp
end Go.Proofs.Ytipmdjfhailfbaa.LongNum
