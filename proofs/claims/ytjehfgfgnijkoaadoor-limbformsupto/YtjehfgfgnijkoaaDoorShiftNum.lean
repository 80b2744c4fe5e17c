/- Plain facts on lists of limbs that are moved by bits. No program is named here. -/
import Derived.Test.YtjehfgfgnijkoaaDoorLimbNum
namespace Go.Proofs.YtjehfgfgnijkoaaDoor.ShiftNum
open Go.RowKit LimbNum

theorem and31 (n : Int) : bits BinOp.and IntKind.i64 n 31 = n % 32 := by
  show IntKind.i64.wrap ((BitVec.ofInt 64 n &&& BitVec.ofInt 64 31).toNat : Int) = _
  have e : (BitVec.ofInt 64 31).toNat = 2 ^ 5 - 1 := by decide
  rw [BitVec.toNat_and, e, Nat.and_two_pow_sub_one_eq_mod, BitVec.toNat_ofInt]
  simp [IntKind.wrap, IntKind.bits, IntKind.signed]
  omega
theorem pow_split (p : Nat) (h : p < 32) : (4294967296 : Nat) = 2 ^ (32 - p) * 2 ^ p := by
  rw [← Nat.pow_add, show 32 - p + p = 32 by omega]
theorem shl_limb (x d p : Nat) (hp : p < 32) (hx : x < 4294967296) (hd : d < 2 ^ p) :
    ∃ t lo s hi : Nat, IntKind.u64.wrap ((x : Int) * 2 ^ p) = (t : Int) ∧ (t : Int) % 4294967296 = (lo : Int) ∧ bits BinOp.or IntKind.u32 (d : Int) (lo : Int) = (s : Int) ∧ (t : Int) / 4294967296 = (hi : Int) ∧
      s < 4294967296 ∧ hi < 2 ^ p ∧ hi < 4294967296 ∧ t ≤ 18446744073709551615 ∧ s + 4294967296 * hi = d + x * 2 ^ p := by
  have h1 : (2 : Nat) ^ p ≤ 2 ^ 31 := Nat.pow_le_pow_right (by omega) (by omega)
  have h2 : x * 2 ^ p ≤ 4294967295 * 2 ^ 31 := Nat.mul_le_mul (by omega) h1
  have h3 : x * 2 ^ p < 4294967296 * 2 ^ p := Nat.mul_lt_mul_of_pos_right hx (Nat.two_pow_pos p)
  have h4 : x * 2 ^ p % 4294967296 = x % 2 ^ (32 - p) * 2 ^ p := by
    rw [pow_split p hp, Nat.mul_mod_mul_right]
  have h5 : x % 2 ^ (32 - p) * 2 ^ p + 2 ^ p ≤ 4294967296 := by
    have h6 := Nat.mod_lt x (Nat.two_pow_pos (32 - p))
    have h7 : (x % 2 ^ (32 - p) + 1) * 2 ^ p ≤ 2 ^ (32 - p) * 2 ^ p := Nat.mul_le_mul_right _ h6
    rw [← pow_split p hp, Nat.add_mul] at h7
    omega
  have h8 : x * 2 ^ p / 4294967296 < 2 ^ p := by rw [Nat.div_lt_iff_lt_mul (by omega)]; exact Nat.lt_of_lt_of_eq h3 (Nat.mul_comm _ _)
  refine ⟨x * 2 ^ p, x * 2 ^ p % 4294967296, d + x * 2 ^ p % 4294967296, x * 2 ^ p / 4294967296, ?_, ?_, ?_, ?_, ?_, h8, ?_, ?_, ?_⟩
  · rw [show (x : Int) * 2 ^ p = ((x * 2 ^ p : Nat) : Int) by simp, IntKind.wrap_u64]; omega
  · omega
  · rw [u32_or_nat _ _ (by omega) (by omega), Nat.or_comm, nat_join p _ _ (by rw [h4]; simp) hd, Nat.add_comm]
  · omega
  · rw [h4]; omega
  · omega
  · omega
  · omega
theorem shl_fill (Z : List Nat) (j m d s hi : Nat) (hZ : Z.length = j) : ((Z ++ [d] ++ List.replicate (m + 1) 0).set j s).set (j + 1) hi = Z ++ [s] ++ [hi] ++ List.replicate m 0 := by
  subst hZ
  rw [List.replicate_succ]
  simp
theorem shl_step (P Z : List Nat) (W k p x d s hi : Nat) (hZ : Z.length = k + W) (hk : k < P.length) (hx : P.getD k 0 = x) (h : s + 4294967296 * hi = d + x * 2 ^ p)
    (hv : val (Z ++ [d]) = 4294967296 ^ W * (val (P.take k) * 2 ^ p)) : val (Z ++ [s] ++ [hi]) = 4294967296 ^ W * (val (P.take (k + 1)) * 2 ^ p) := by
  rw [val_take P k hk, hx]
  rw [val_append, hZ] at hv
  rw [List.append_assoc, val_append, hZ]
  simp only [val, List.cons_append, List.nil_append, Nat.mul_zero, Nat.add_zero] at hv ⊢
  have e : 4294967296 ^ (k + W) * (s + 4294967296 * hi) = 4294967296 ^ (k + W) * d + 4294967296 ^ W * (4294967296 ^ k * x * 2 ^ p) := by
    rw [h, Nat.mul_add, Nat.add_comm k W, Nat.pow_add, Nat.mul_assoc (4294967296 ^ W), Nat.mul_assoc (4294967296 ^ W), Nat.mul_assoc (4294967296 ^ k)]
  rw [e, Nat.add_mul, Nat.mul_add, ← hv]
  omega
theorem shl_pow (N W p : Nat) : 4294967296 ^ W * (N * 2 ^ p) = N * 2 ^ (32 * W + p) := by
  rw [Nat.pow_add, pow32, Nat.mul_left_comm]
theorem shr_digit (P : List Nat) (hP : Small P) (W k p V : Nat) (hp : p < 32) (hV : V = val P / 2 ^ (32 * W + p)) :
    V / 4294967296 ^ k % 4294967296 = (P.getD (W + k) 0 + 4294967296 * P.getD (W + k + 1) 0) / 2 ^ p % 4294967296 := by
  have e1 : V / 4294967296 ^ k = val (P.drop (W + k)) / 2 ^ p := by
    rw [hV, Nat.pow_add, pow32, ← Nat.div_div_eq_div_mul, Nat.div_div_eq_div_mul _ (2 ^ p), Nat.mul_comm (2 ^ p), ← Nat.div_div_eq_div_mul, Nat.div_div_eq_div_mul _ (4294967296 ^ W), ← Nat.pow_add, val_drop P hP]
  have e2 : ∃ r, val (P.drop (W + k)) = P.getD (W + k) 0 + 4294967296 * P.getD (W + k + 1) 0 + 4294967296 * 4294967296 * r := by
    refine ⟨val (P.drop (W + k + 1 + 1)), ?_⟩
    have h3 : ∀ j, val (P.drop j) = P.getD j 0 + 4294967296 * val (P.drop (j + 1)) := fun j => by
      rcases Nat.lt_or_ge j P.length with h | h
      · rw [List.drop_eq_getElem_cons h, val]; simp [h]
      · rw [List.drop_eq_nil_of_le h, List.drop_eq_nil_of_le (by omega)]; simp [val, h]
    rw [h3 (W + k), h3 (W + k + 1)]
    omega
  obtain ⟨r, hr⟩ := e2
  rw [e1, hr]
  have e3 : 4294967296 * 4294967296 * r = 2 ^ p * (4294967296 * (2 ^ (32 - p) * r)) := by
    have := pow_split p hp
    have e4 : 4294967296 * 4294967296 * r = 4294967296 * (2 ^ (32 - p) * 2 ^ p) * r := by rw [← this]
    rw [e4, Nat.mul_comm (2 ^ (32 - p)), Nat.mul_left_comm, Nat.mul_assoc, Nat.mul_assoc]
  rw [e3, Nat.add_mul_div_left _ _ (Nat.two_pow_pos p), Nat.add_mul_mod_self_left]
theorem shr_limb (x y p q : Nat) (hx : x < 4294967296) (hy : y < 4294967296) (hq : q = (x + 4294967296 * y) / 2 ^ p % 4294967296) :
    ∃ Y S : Nat, IntKind.u64.wrap ((y : Int) * 4294967296) = (Y : Int) ∧ bits BinOp.or IntKind.u64 (x : Int) (Y : Int) = (S : Int) ∧ ((S : Int) / 2 ^ p) % 4294967296 = (q : Int) ∧ (y = 0 → ((x : Int) / 2 ^ p) % 4294967296 = (q : Int)) ∧ q < 4294967296 := by
  refine ⟨4294967296 * y, x + 4294967296 * y, ?_, ?_, ?_, ?_, ?_⟩
  · rw [IntKind.wrap_u64]; omega
  · rw [u64_or_nat _ _ (by omega) (by omega), Nat.or_comm, nat_join 32 _ _ (by omega) (by omega), Nat.add_comm]
  · rw [show ((x + 4294967296 * y : Nat) : Int) / 2 ^ p = (((x + 4294967296 * y) / 2 ^ p : Nat) : Int) by simp]; omega
  · intro h; subst h; rw [show (x : Int) / 2 ^ p = ((x / 2 ^ p : Nat) : Int) by simp, hq]; simp
  · omega
theorem shr_step (O : List Nat) (V k q : Nat) (hO : O.length = k) (hq : q = V / 4294967296 ^ k % 4294967296) (hv : val O = V % 4294967296 ^ k) : val (O ++ [q]) = V % 4294967296 ^ (k + 1) := by
  rw [val_append, hO, hv, hq, Nat.mod_pow_succ]; simp [val]
theorem shr_end (P : List Nat) (hP : Small P) (W m p V : Nat) (hl : P.length = W + m) (hV : V = val P / 2 ^ (32 * W + p)) : V % 4294967296 ^ m = V := by
  have h1 := val_lt P hP
  rw [hl, Nat.pow_add] at h1
  apply Nat.mod_eq_of_lt
  rw [hV, Nat.pow_add, pow32]
  refine Nat.lt_of_le_of_lt (Nat.div_le_div_left (Nat.le_mul_of_pos_right _ (Nat.two_pow_pos p)) (Nat.pow_pos (by omega))) ?_
  rw [Nat.div_lt_iff_lt_mul (Nat.pow_pos (by omega)), Nat.mul_comm]; exact h1
theorem shr_none (P : List Nat) (hP : Small P) (W p : Nat) (hl : P.length ≤ W) : val P / 2 ^ (32 * W + p) = 0 := by
  have h1 := val_lt P hP
  have h2 : (4294967296 : Nat) ^ P.length ≤ 4294967296 ^ W := Nat.pow_le_pow_right (by omega) hl
  apply Nat.div_eq_of_lt
  rw [Nat.pow_add, pow32]
  exact Nat.lt_of_lt_of_le h1 (Nat.le_trans h2 (Nat.le_mul_of_pos_right _ (Nat.two_pow_pos p)))
end Go.Proofs.YtjehfgfgnijkoaaDoor.ShiftNum
