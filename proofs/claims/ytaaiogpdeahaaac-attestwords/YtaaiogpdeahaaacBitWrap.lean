/- Plain facts on what a kind of whole number keeps of 64 bits. No program is named here. -/
import Derived.Test.YtaaiogpdeahaaacBitNum
namespace Go.Proofs.Ytaaiogpdeahaaac.BitWrap
open BitNum Go.RowKit

theorem fromL_append (a b : List Bool) : fromL (a ++ b) = fromL a + 2 ^ a.length * fromL b := by
  induction a with
  | nil => simp [fromL]
  | cons x t ih => rw [List.cons_append, fromL, ih, fromL, List.length_cons, Nat.pow_succ, Nat.mul_add, Nat.mul_comm (2 ^ t.length) 2, Nat.mul_assoc]; omega
theorem fromL_bl (x n : Nat) : fromL (bl x n) = x % 2 ^ n := by
  apply Nat.eq_of_testBit_eq
  intro i
  rw [testBit_fromL, Nat.testBit_mod_two_pow]
  by_cases h : i < n
  · rw [bl_get x n i h]; simp [h]
  · rw [getD_out _ _ (by rw [bl_length]; omega)]; simp [h]
theorem fromL_rep (n : Nat) (b : Bool) : fromL (List.replicate n b) = if b then 2 ^ n - 1 else 0 := by
  induction n with
  | zero => cases b <;> simp [fromL]
  | succ n ih =>
    rw [List.replicate_succ, fromL, ih, Nat.pow_succ]
    have := Nat.two_pow_pos n
    cases b <;> simp; omega

/-- The bits behind k rounds: from W on to k each is the kind's sign. -/
def lk (X W : Nat) (S : Bool) (k : Nat) : List Bool := (List.range 64).map fun i => if i < W then X.testBit i else if i < k then (S && X.testBit (W - 1)) else X.testBit i
theorem lk_length (X W : Nat) (S : Bool) (k : Nat) : (lk X W S k).length = 64 := by simp [lk]
theorem lk_start (X W : Nat) (S : Bool) : lk X W S W = bl X 64 := by
  unfold lk bl; apply List.map_congr_left; intro i _; split <;> simp_all
theorem lk_get (X W : Nat) (S : Bool) (k i : Nat) (h : i < 64) : (lk X W S k).getD i false = if i < W then X.testBit i else if i < k then (S && X.testBit (W - 1)) else X.testBit i := by
  simp [lk, h]
theorem lk_step (X W : Nat) (S : Bool) (k : Nat) (h : W ≤ k) : lk X W S (k + 1) = (lk X W S k).set k (S && X.testBit (W - 1)) := by
  apply List.ext_getElem
  · simp [lk]
  · intro i h1 h2
    rw [List.getElem_set]
    simp only [lk, List.getElem_map, List.getElem_range]
    by_cases hk : k = i
    · subst hk; rw [if_pos rfl, if_neg (by omega), if_pos (by omega)]
    · rw [if_neg hk]
      by_cases h3 : i < W
      · rw [if_pos h3, if_pos h3]
      · rw [if_neg h3, if_neg h3]
        by_cases h4 : i < k
        · rw [if_pos h4, if_pos (by omega)]
        · rw [if_neg h4, if_neg (by omega)]
theorem lk_end (X W : Nat) (S : Bool) (h : W ≤ 64) : lk X W S 64 = bl X W ++ List.replicate (64 - W) (S && X.testBit (W - 1)) := by
  apply List.ext_getElem
  · simp [lk, bl]; omega
  · intro i h1 h2
    simp only [lk, List.length_map, List.length_range] at h1
    rw [List.getElem_append]
    simp only [lk, List.getElem_map, List.getElem_range, bl_length, List.getElem_replicate]
    by_cases h3 : i < W
    · simp [h3, bl]
    · simp [h3, h1]
/-- What a kind of W bits, with a sign or without one, holds of X, as 64 bits. -/
def wv (W : Nat) (S : Bool) (X : Nat) : Nat := fromL (lk X W S 64)
theorem wv_is (W : Nat) (S : Bool) (X : Nat) (h : W ≤ 64) : wv W S X = X % 2 ^ W + 2 ^ W * (if (S && decide (X / 2 ^ (W - 1) % 2 = 1)) then 2 ^ (64 - W) - 1 else 0) := by
  rw [wv, lk_end X W S h, fromL_append, fromL_bl, fromL_rep, bl_length, testBit_is]
theorem wv8u (X : Nat) : wv 8 false X = X % 256 := by simp [wv_is]
theorem wv16u (X : Nat) : wv 16 false X = X % 65536 := by simp [wv_is]
theorem wv32u (X : Nat) : wv 32 false X = X % 4294967296 := by simp [wv_is]
theorem wv64u (X : Nat) (h : X < 18446744073709551616) : wv 64 false X = X := by simp [wv_is]; omega
theorem wv64s (X : Nat) (h : X < 18446744073709551616) : wv 64 true X = X := by simp [wv_is]; omega
theorem wv8s (X : Nat) : wv 8 true X = X % 256 + if X / 128 % 2 = 1 then 18446744073709551360 else 0 := by
  simp [wv_is]; split <;> omega
theorem wv16s (X : Nat) : wv 16 true X = X % 65536 + if X / 32768 % 2 = 1 then 18446744073709486080 else 0 := by
  simp [wv_is]; split <;> omega
theorem wv32s (X : Nat) : wv 32 true X = X % 4294967296 + if X / 2147483648 % 2 = 1 then 18446744069414584320 else 0 := by
  simp [wv_is]; split <;> omega
theorem go8s (X : Nat) : IntKind.u64.wrap (IntKind.i8.wrap (X : Int)) = ((wv 8 true X : Nat) : Int) := by
  rw [wv8s, IntKind.wrap_u64]; simp [IntKind.wrap, IntKind.bits, IntKind.signed]; split <;> split <;> omega
theorem go16s (X : Nat) : IntKind.u64.wrap (IntKind.i16.wrap (X : Int)) = ((wv 16 true X : Nat) : Int) := by
  rw [wv16s, IntKind.wrap_u64]; simp [IntKind.wrap, IntKind.bits, IntKind.signed]; split <;> split <;> omega
theorem go32s (X : Nat) : IntKind.u64.wrap (wrap32 (X : Int)) = ((wv 32 true X : Nat) : Int) := by
  rw [wv32s, IntKind.wrap_u64, wrap32]; split <;> omega
theorem go8u (X : Nat) : (X : Int) % 256 = ((wv 8 false X : Nat) : Int) := by rw [wv8u]; omega
theorem go16u (X : Nat) : IntKind.u64.wrap (IntKind.u16.wrap (X : Int)) = ((wv 16 false X : Nat) : Int) := by rw [wv16u, IntKind.wrap_u64, IntKind.wrap_u16]; omega
theorem go32u (X : Nat) : (X : Int) % 4294967296 = ((wv 32 false X : Nat) : Int) := by rw [wv32u]; omega
theorem wv_lt (W : Nat) (S : Bool) (X : Nat) : wv W S X < 18446744073709551616 := fromL_lt64 _ (by rw [lk_length]; omega)
theorem wv_again (W : Nat) (S : Bool) (X : Nat) (h1 : 1 ≤ W) (h : W ≤ 64) : wv W S (wv W S X) = wv W S X := by
  apply Nat.eq_of_testBit_eq
  intro i
  rw [wv, testBit_fromL]
  by_cases hi : i < 64
  · rw [lk_get _ _ _ _ _ hi]
    have key : ∀ j, j < W → (wv W S X).testBit j = X.testBit j := fun j hj => by
      rw [wv, testBit_fromL, lk_get _ _ _ _ _ (by omega), if_pos hj]
    by_cases hw : i < W
    · rw [if_pos hw]
    · rw [if_neg hw, if_pos hi, key _ (by omega)]
      rw [wv, testBit_fromL, lk_get _ _ _ _ _ hi, if_neg hw, if_pos hi]
  · rw [getD_out _ _ (by rw [lk_length]; omega), high_bit _ _ (wv_lt W S X) (by omega)]
end Go.Proofs.Ytaaiogpdeahaaac.BitWrap
