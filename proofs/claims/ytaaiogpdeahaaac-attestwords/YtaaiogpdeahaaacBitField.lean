/- Plain facts on runs of bits that are read out of a word and put into one. No program is named here. -/
import Derived.Test.YtaaiogpdeahaaacBitNum
namespace Go.Proofs.Ytaaiogpdeahaaac.BitField
open BitNum Go.RowKit

theorem low_is (W : Nat) (h : W ≤ 64) : IntKind.u64.wrap (IntKind.u64.wrap (2 ^ W) - 1) = ((2 ^ W - 1 : Nat) : Int) := by
  rw [IntKind.wrap_u64, IntKind.wrap_u64]
  by_cases e : W = 64
  · subst e; decide
  · have h1 : (2 : Nat) ^ W ≤ 2 ^ 63 := Nat.pow_le_pow_right (by omega) (by omega)
    have h2 := Nat.two_pow_pos W
    have h3 : ((2 : Int) ^ W) = ((2 ^ W : Nat) : Int) := by simp
    rw [h3]
    omega
theorem low_lt (W : Nat) (h : W ≤ 64) : 2 ^ W - 1 < 18446744073709551616 := by
  have h1 : (2 : Nat) ^ W ≤ 2 ^ 64 := Nat.pow_le_pow_right (by omega) h
  have h2 := Nat.two_pow_pos W
  omega
theorem div_cast (X A : Nat) : (X : Int) / 2 ^ A = ((X / 2 ^ A : Nat) : Int) := by simp
/-- The W bits of X from A on. -/
def fv (X A W : Nat) : Nat := X / 2 ^ A % 2 ^ W
theorem fv_bit (X A W i : Nat) : (fv X A W).testBit i = (decide (i < W) && X.testBit (A + i)) := by
  rw [fv, Nat.testBit_mod_two_pow, Nat.testBit_div_two_pow, Nat.add_comm]
theorem field_is (X A W : Nat) (hX : X < 18446744073709551616) (h : W ≤ 64) : bits BinOp.and IntKind.u64 ((X : Int) / 2 ^ A) ((2 ^ W - 1 : Nat) : Int) = ((fv X A W : Nat) : Int) := by
  rw [div_cast, u64_and_nat _ _ (Nat.lt_of_le_of_lt (Nat.div_le_self _ _) hX) (low_lt W h), Nat.and_two_pow_sub_one_eq_mod, fv]
/-- The same, as the reference cuts it. -/
theorem fv_list (X A W : Nat) : fromL ((List.range W).map fun i => X.testBit (A + i)) = fv X A W := by
  apply fromL_eq
  intro i
  rw [fv_bit]
  by_cases hi : i < W
  · simp [hi]
  · rw [getD_out _ _ (by simp; omega)]; simp [hi]
/-- X with k bits from A on taken from V's lowest ones. -/
def pl (X V A k : Nat) : List Bool := (List.range 64).map fun i => if A ≤ i ∧ i < A + k then V.testBit (i - A) else X.testBit i
def pv (X V A W : Nat) : Nat := fromL (pl X V A W)
theorem pl_length (X V A k : Nat) : (pl X V A k).length = 64 := by simp [pl]
theorem pl_start (X V A : Nat) : pl X V A 0 = bl X 64 := by
  unfold pl bl; apply List.map_congr_left; intro i _; rw [if_neg (by omega)]
theorem pl_get (X V A k i : Nat) (h : i < 64) : (pl X V A k).getD i false = if A ≤ i ∧ i < A + k then V.testBit (i - A) else X.testBit i := by
  simp [pl, h]
theorem pl_step (X V A k : Nat) : pl X V A (k + 1) = (pl X V A k).set (A + k) (V.testBit k) := by
  apply List.ext_getElem
  · simp [pl]
  · intro i h1 h2
    rw [List.getElem_set]
    simp only [pl, List.getElem_map, List.getElem_range]
    by_cases hk : A + k = i
    · subst hk; rw [if_pos ⟨by omega, by omega⟩, if_pos rfl]; congr 1; omega
    · rw [if_neg hk]
      by_cases h3 : A ≤ i ∧ i < A + k
      · rw [if_pos h3, if_pos ⟨h3.1, by omega⟩]
      · rw [if_neg h3, if_neg (by omega)]
theorem mask_bit (A W i : Nat) : ((2 ^ W - 1) * 2 ^ A).testBit i = decide (A ≤ i ∧ i < A + W) := by
  rw [Nat.mul_comm, Nat.testBit_two_pow_mul, Nat.testBit_two_pow_sub_one, Bool.eq_iff_iff]
  simp; omega
theorem mask_lt (A W : Nat) (h : A + W ≤ 64) : (2 ^ W - 1) * 2 ^ A < 18446744073709551616 := by
  have h1 : (2 : Nat) ^ (A + W) ≤ 2 ^ 64 := Nat.pow_le_pow_right (by omega) h
  have h2 : (2 : Nat) ^ A * 2 ^ W = 2 ^ (A + W) := by rw [Nat.pow_add]
  have h3 := Nat.two_pow_pos A
  have h5 : (2 ^ W - 1) * 2 ^ A + 2 ^ A = 2 ^ A * 2 ^ W := by
    have h4 := Nat.two_pow_pos W
    obtain ⟨m, hm⟩ : ∃ m, 2 ^ W = m + 1 := ⟨2 ^ W - 1, by omega⟩
    rw [hm, Nat.add_sub_cancel, Nat.mul_add, Nat.mul_comm]
    omega
  omega
theorem not_bit (M i : Nat) (h : M < 18446744073709551616) : (18446744073709551615 - M).testBit i = (decide (i < 64) && !M.testBit i) := by
  have := Nat.testBit_two_pow_sub_succ (x := M) (n := 64) (by omega) i
  rw [← this]; congr 1; omega
theorem shl_cast (Y A : Nat) (h : Y * 2 ^ A < 18446744073709551616) : IntKind.u64.wrap ((Y : Int) * 2 ^ A) = ((Y * 2 ^ A : Nat) : Int) := by
  have e : (Y : Int) * 2 ^ A = ((Y * 2 ^ A : Nat) : Int) := by simp
  rw [e, IntKind.wrap_u64]; omega
theorem put_is (X V A W : Nat) (hX : X < 18446744073709551616) (hV : V < 18446744073709551616) (h : A + W ≤ 64) :
    bits BinOp.or IntKind.u64 (bits BinOp.andNot IntKind.u64 (X : Int) (IntKind.u64.wrap (((2 ^ W - 1 : Nat) : Int) * 2 ^ A)))
      (IntKind.u64.wrap (bits BinOp.and IntKind.u64 (V : Int) ((2 ^ W - 1 : Nat) : Int) * 2 ^ A)) = ((pv X V A W : Nat) : Int) := by
  have hm := mask_lt A W h
  have hv : V % 2 ^ W * 2 ^ A < 18446744073709551616 := by
    have h4 := Nat.two_pow_pos W
    have : V % 2 ^ W ≤ 2 ^ W - 1 := by have := Nat.mod_lt V h4; omega
    exact Nat.lt_of_le_of_lt (Nat.mul_le_mul_right _ this) hm
  rw [shl_cast _ _ hm, u64_andNot_nat _ _ hX hm, u64_and_nat V _ hV (low_lt W (by omega)), Nat.and_two_pow_sub_one_eq_mod, shl_cast _ _ hv,
    u64_or_nat _ _ (Nat.and_lt_two_pow _ (n := 64) (by omega)) hv]
  refine congrArg (fun n : Nat => (n : Int)) (Nat.eq_of_testBit_eq fun i => ?_)
  rw [pv, testBit_fromL, Nat.testBit_or, Nat.testBit_and, not_bit _ _ hm, mask_bit, Nat.mul_comm (V % 2 ^ W), Nat.testBit_two_pow_mul, Nat.testBit_mod_two_pow]
  by_cases hi : i < 64
  · rw [pl_get _ _ _ _ _ hi]
    by_cases h3 : A ≤ i ∧ i < A + W
    · rw [if_pos h3]; simp [h3, hi]; omega
    · rw [if_neg h3]
      have h6 : (decide (A ≤ i) && (decide (i - A < W) && V.testBit (i - A))) = false := by
        by_cases h7 : A ≤ i
        · have h8 : ¬ i - A < W := by omega
          simp [h8]
        · simp [h7]
      simp only [ge_iff_le, h6, Bool.or_false, h3, hi]
      simp
  · rw [getD_out _ _ (by rw [pl_length]; omega), high_bit X i hX (by omega)]
    have h8 : ¬ i - A < W := by omega
    simp [h8]
end Go.Proofs.Ytaaiogpdeahaaac.BitField
