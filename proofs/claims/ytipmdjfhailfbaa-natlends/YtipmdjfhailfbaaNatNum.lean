/- Plain facts on products and quotients of lists of limbs. No program is named here. -/
import Derived.Test.YtipmdjfhailfbaaLimbNum
namespace Go.Proofs.Ytipmdjfhailfbaa.NatNum
open Go.RowKit LimbNum

theorem val_set (O : List Nat) (i v : Nat) (h : i < O.length) : val (O.set i v) + 4294967296 ^ i * O.getD i 0 = val O + 4294967296 ^ i * v := by
  induction O generalizing i with
  | nil => simp at h
  | cons x t ih =>
    cases i with
    | zero => simp [val]; omega
    | succ j =>
      have := ih j (by simpa using h)
      simp only [List.set_cons_succ, val, List.getD_cons_succ, Nat.pow_succ]
      grind
theorem getD_set (O : List Nat) (i j v : Nat) (h : i ≠ j) : (O.set i v).getD j 0 = O.getD j 0 := by
  simp [List.getElem?_set_ne h]
theorem small_put (O : List Nat) (i v : Nat) (h : Small O) (hv : v < 4294967296) : Small (O.set i v) := by
  intro x hx
  rcases List.mem_or_eq_of_mem_set hx with h1 | h1
  · exact h x h1
  · omega
theorem small_noughts (n : Nat) : Small (List.replicate n 0) := by
  intro x hx; have := (List.mem_replicate.1 hx).2; omega
/-- One limb of a product: what stands there, the product of two limbs and the carry fit in 64 bits. -/
theorem mul_limb (x y o c : Nat) (hx : x < 4294967296) (hy : y < 4294967296) (ho : o < 4294967296) (hc : c < 4294967296) :
    x * y + o + c < 18446744073709551616 := by
  have : x * y ≤ 4294967295 * 4294967295 := Nat.mul_le_mul (by omega) (by omega)
  omega
theorem mul_step (O Q : List Nat) (x y c k m T : Nat) (hi : k + m < O.length) (hy : Q.getD m 0 = y)
    (hv : val O + c * 4294967296 ^ (k + m) = T + x * val (Q.take m) * 4294967296 ^ k) :
    val (O.set (k + m) ((x * y + O.getD (k + m) 0 + c) % 4294967296)) + (x * y + O.getD (k + m) 0 + c) / 4294967296 * 4294967296 ^ (k + m + 1) = T + x * val (Q.take (m + 1)) * 4294967296 ^ k := by
  have h1 := val_set O (k + m) ((x * y + O.getD (k + m) 0 + c) % 4294967296) hi
  rw [val_take_any, hy]
  have h2 := Nat.div_add_mod (x * y + O.getD (k + m) 0 + c) 4294967296
  generalize (x * y + O.getD (k + m) 0 + c) % 4294967296 = r at *
  generalize (x * y + O.getD (k + m) 0 + c) / 4294967296 = q at *
  generalize O.getD (k + m) 0 = o at *
  rw [Nat.pow_succ]
  generalize val (O.set (k + m) r) = V at *
  generalize val (Q.take m) = L at *
  have h3 : (4294967296 : Nat) ^ (k + m) = 4294967296 ^ k * 4294967296 ^ m := Nat.pow_add ..
  rw [h3] at h1 hv ⊢
  generalize (4294967296 : Nat) ^ k = K at *
  generalize (4294967296 : Nat) ^ m = M at *
  generalize val O = W at *
  have h4 : K * M * (4294967296 * q + r) = K * M * (x * y + o + c) := by rw [h2]
  grind
theorem mul_last (O : List Nat) (c i S : Nat) (hi : i < O.length) (hz : O.getD i 0 = 0) (hv : val O + c * 4294967296 ^ i = S) : val (O.set i c) = S := by
  have h1 := val_set O i c hi
  rw [hz, Nat.mul_zero, Nat.add_zero, Nat.mul_comm] at h1
  omega
end Go.Proofs.Ytipmdjfhailfbaa.NatNum
