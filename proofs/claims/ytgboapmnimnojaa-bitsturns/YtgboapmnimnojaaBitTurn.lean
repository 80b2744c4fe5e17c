/- Plain facts on 32 bits that are turned. No program is named here. -/
import Derived.Test.YtgboapmnimnojaaBitNum
namespace Go.Proofs.Ytgboapmnimnojaa.BitTurn
open BitNum Go.RowKit

theorem and31 (n : Int) : bits BinOp.and IntKind.i64 n 31 = n % 32 := by
  show IntKind.i64.wrap ((BitVec.ofInt 64 n &&& BitVec.ofInt 64 31).toNat : Int) = _
  have e : (BitVec.ofInt 64 31).toNat = 2 ^ 5 - 1 := by decide
  rw [BitVec.toNat_and, e, Nat.and_two_pow_sub_one_eq_mod, BitVec.toNat_ofInt]
  simp [IntKind.wrap, IntKind.bits, IntKind.signed]
  omega
/-- X turned L bits to the left. -/
def tv (X L : Nat) : Nat := X * 2 ^ L % 4294967296 ||| X / 2 ^ (32 - L)
theorem low_bit (x i : Nat) (h : x < 4294967296) (hi : 32 ≤ i) : x.testBit i = false :=
  Nat.testBit_lt_two_pow (Nat.lt_of_lt_of_le h (Nat.le_trans (by decide) (Nat.pow_le_pow_right (by omega) hi)))
theorem tv_bit (X L i : Nat) (hX : X < 4294967296) (hL : L < 32) : (tv X L).testBit i = (decide (i < 32) && X.testBit ((i + 32 - L) % 32)) := by
  rw [tv, Nat.testBit_or, show (4294967296 : Nat) = 2 ^ 32 by decide, Nat.testBit_mod_two_pow, Nat.mul_comm, Nat.testBit_two_pow_mul, Nat.testBit_div_two_pow]
  by_cases hi : i < 32
  · by_cases h2 : L ≤ i
    · rw [low_bit X (i + (32 - L)) hX (by omega), show (i + 32 - L) % 32 = i - L by omega]; simp [hi, h2]
    · rw [show (i + 32 - L) % 32 = i + (32 - L) by omega]; simp [hi, h2]
  · rw [low_bit X (i + (32 - L)) hX (by omega)]; simp [hi]
theorem tv_lt (X L : Nat) (hX : X < 4294967296) : tv X L < 4294967296 := by
  unfold tv
  exact Nat.or_lt_two_pow (n := 32) (by omega) (Nat.lt_of_le_of_lt (Nat.div_le_self _ _) hX)
theorem turn_is (X L : Nat) (hX : X < 4294967296) : bits BinOp.or IntKind.u32 ((X : Int) * 2 ^ L % 4294967296) ((X : Int) / 2 ^ (32 - L)) = ((tv X L : Nat) : Int) := by
  have e1 : (X : Int) * 2 ^ L % 4294967296 = ((X * 2 ^ L % 4294967296 : Nat) : Int) := by simp
  have e2 : (X : Int) / 2 ^ (32 - L) = ((X / 2 ^ (32 - L) : Nat) : Int) := by simp
  rw [e1, e2, u32_or_nat _ _ (by omega) (Nat.lt_of_le_of_lt (Nat.div_le_self _ _) hX), tv]
theorem tv_back (X L : Nat) (hX : X < 4294967296) (hL : L < 32) : tv (tv X L) ((32 - L) % 32) = X := by
  apply Nat.eq_of_testBit_eq
  intro i
  rw [tv_bit _ _ _ (tv_lt X L hX) (by omega), tv_bit _ _ _ hX hL]
  by_cases hi : i < 32
  · rw [show ((i + 32 - (32 - L) % 32) % 32 + 32 - L) % 32 = i by omega]
    have : (i + 32 - (32 - L) % 32) % 32 < 32 := by omega
    simp [hi, this]
  · rw [low_bit X i hX (by omega)]; simp [hi]
/-- The bits that the reference lays, behind j rounds. -/
def tl (X L j : Nat) : List Bool := (List.range 64).map fun p => decide (p < 32) && (decide ((p + 32 - L) % 32 < j) && X.testBit ((p + 32 - L) % 32))
theorem tl_length (X L j : Nat) : (tl X L j).length = 64 := by simp [tl]
theorem tl_start (X L : Nat) : (tl X L 0).map Value.bool = List.replicate 64 (Value.bool false) := by
  apply List.ext_getElem
  · simp [tl]
  · intro i h1 h2; rw [List.getElem_replicate]; simp [tl]
theorem tl_step (X L j : Nat) (hL : L < 32) (hj : j < 32) : tl X L (j + 1) = (tl X L j).set ((j + L) % 32) (X.testBit j) := by
  apply List.ext_getElem
  · simp [tl]
  · intro p h1 h2
    rw [List.getElem_set]
    simp only [tl, List.getElem_map, List.getElem_range]
    by_cases hp : (j + L) % 32 = p
    · subst hp
      have h3 : (j + L) % 32 < 32 := by omega
      have h4 : ((j + L) % 32 + 32 - L) % 32 = j := by omega
      have h5 : j < j + 1 := by omega
      rw [if_pos rfl, h4]; simp [h3]
    · rw [if_neg hp]
      by_cases h3 : p < 32
      · have h4 : (p + 32 - L) % 32 < j + 1 ↔ (p + 32 - L) % 32 < j := by omega
        simp only [h4]
      · simp [h3]
theorem tl_end (X L : Nat) (hX : X < 4294967296) (hL : L < 32) : fromL (tl X L 32) = tv X L := by
  apply fromL_eq
  intro i
  rw [tv_bit X L i hX hL]
  by_cases hi : i < 64
  · have h4 : (i + 32 - L) % 32 < 32 := by omega
    simp [tl, hi, h4]
  · have h5 : ¬ i < 32 := by omega
    rw [getD_out _ _ (by rw [tl_length]; omega)]; simp [h5]
end Go.Proofs.Ytgboapmnimnojaa.BitTurn
