/- Plain facts on numbers of 64 bits: exclusive or with all ones and with nought, and the zigzag numbering both ways. No program is named here. -/
import Derived.WalkKit
import Derived.OpenShut
import Derived.Laws.BitsAllLaws
namespace Go.Proofs.Ytaaiogpdeahaaac.Num
open Go.RowKit

theorem xor_ones (a : Int) (h1 : 0 ≤ a) (h2 : a ≤ 18446744073709551615) : bits .xor .u64 a 18446744073709551615 = 18446744073709551615 - a := by
  obtain ⟨n, rfl⟩ := Int.eq_ofNat_of_zero_le h1
  show IntKind.u64.wrap ((BitVec.ofInt 64 (n : Int) ^^^ BitVec.ofInt 64 18446744073709551615).toNat : Int) = _
  have e : BitVec.ofInt 64 18446744073709551615 = BitVec.allOnes 64 := by decide
  rw [e, BitVec.xor_allOnes, BitVec.toNat_not, ofInt_u64 n (by omega), IntKind.wrap_u64]
  omega
theorem xor_nought (a : Int) (h1 : 0 ≤ a) (h2 : a ≤ 18446744073709551615) : bits .xor .u64 a 0 = a := by
  obtain ⟨n, rfl⟩ := Int.eq_ofNat_of_zero_le h1
  rw [show (0 : Int) = ((0 : Nat) : Int) from rfl, u64_xor_nat n 0 (by omega) (by omega)]; simp
theorem xor_less (a : Int) (h1 : 0 ≤ a) (h2 : a ≤ 9223372036854775807) : bits .xor .i64 a (-1) = -1 - a := by
  obtain ⟨n, rfl⟩ := Int.eq_ofNat_of_zero_le h1
  show IntKind.i64.wrap ((BitVec.ofInt 64 (n : Int) ^^^ BitVec.ofInt 64 (-1)).toNat : Int) = _
  have e : BitVec.ofInt 64 (-1) = BitVec.allOnes 64 := by decide
  rw [e, BitVec.xor_allOnes, BitVec.toNat_not, ofInt_u64 n (by omega)]
  simp [IntKind.wrap, IntKind.bits, IntKind.signed]
  omega
theorem xor_same (a : Int) (h1 : 0 ≤ a) (h2 : a ≤ 9223372036854775807) : bits .xor .i64 a 0 = a := by
  obtain ⟨n, rfl⟩ := Int.eq_ofNat_of_zero_le h1
  show IntKind.i64.wrap ((BitVec.ofInt 64 (n : Int) ^^^ BitVec.ofInt 64 0).toNat : Int) = _
  have e : BitVec.ofInt 64 0 = 0#64 := by decide
  rw [e, BitVec.xor_zero, ofInt_u64 n (by omega)]
  simp [IntKind.wrap, IntKind.bits, IntKind.signed]
  omega
theorem and_one (a : Int) (h1 : 0 ≤ a) (h2 : a ≤ 18446744073709551615) : bits .and .u64 a 1 = a % 2 := by
  obtain ⟨n, rfl⟩ := Int.eq_ofNat_of_zero_le h1
  rw [show (1 : Int) = ((1 : Nat) : Int) from rfl, u64_and_nat n 1 (by omega) (by omega), Nat.and_one_is_mod]; omega

/-- The zigzag number of x. -/
def zigV (x : Int) : Int := if 0 ≤ x then 2 * x else -2 * x - 1
/-- Its way back. -/
def zagV (u : Int) : Int := if u % 2 = 0 then u / 2 else -1 - u / 2

theorem zig_is (x : Int) (h1 : -9223372036854775808 ≤ x) (h2 : x ≤ 9223372036854775807) :
    bits BinOp.xor IntKind.u64 (IntKind.u64.wrap (IntKind.u64.wrap x * 2)) (IntKind.u64.wrap (x / 9223372036854775808)) = zigV x := by
  unfold zigV
  by_cases h : 0 ≤ x
  · have e : x / 9223372036854775808 = 0 := by omega
    rw [e, show IntKind.u64.wrap 0 = 0 by decide, xor_nought _ (by rw [IntKind.wrap_u64]; omega) (by rw [IntKind.wrap_u64]; omega), IntKind.wrap_u64, IntKind.wrap_u64, if_pos h]
    omega
  · have e : x / 9223372036854775808 = -1 := by omega
    rw [e, show IntKind.u64.wrap (-1) = 18446744073709551615 by decide, xor_ones _ (by rw [IntKind.wrap_u64]; omega) (by rw [IntKind.wrap_u64]; omega), IntKind.wrap_u64, IntKind.wrap_u64, if_neg h]
    omega
theorem zag_is (u : Int) (h1 : 0 ≤ u) (h2 : u ≤ 18446744073709551615) :
    bits BinOp.xor IntKind.i64 (wrap64 (u / 2)) (wrap64 (-wrap64 (bits BinOp.and IntKind.u64 u 1))) = zagV u := by
  unfold zagV
  rw [and_one u h1 h2, show wrap64 (u / 2) = u / 2 by unfold wrap64; omega]
  by_cases h : u % 2 = 0
  · rw [if_pos h, h, show wrap64 (-wrap64 0) = 0 by unfold wrap64; omega, xor_same _ (by omega) (by omega)]
  · have e : u % 2 = 1 := by omega
    rw [if_neg h, e, show wrap64 (-wrap64 1) = -1 by unfold wrap64; omega, xor_less _ (by omega) (by omega)]
theorem zig_lo (x : Int) : 0 ≤ zigV x := by unfold zigV; split <;> omega
theorem zig_hi (x : Int) (h1 : -9223372036854775808 ≤ x) (h2 : x ≤ 9223372036854775807) : zigV x ≤ 18446744073709551615 := by unfold zigV; split <;> omega
theorem zag_zig (x : Int) : zagV (zigV x) = x := by unfold zagV zigV; split <;> split <;> omega
theorem zig_zag (u : Int) (h1 : 0 ≤ u) : zigV (zagV u) = u := by unfold zagV zigV; split <;> split <;> omega
theorem zag_bd (u : Int) (h1 : 0 ≤ u) (h2 : u ≤ 18446744073709551615) : -9223372036854775808 ≤ zagV u ∧ zagV u ≤ 9223372036854775807 := by unfold zagV; split <;> omega
end Go.Proofs.Ytaaiogpdeahaaac.Num
