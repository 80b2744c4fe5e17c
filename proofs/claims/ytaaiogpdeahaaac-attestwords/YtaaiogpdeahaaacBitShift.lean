/- Plain facts on bits that are moved to the left or to the right, with what comes in. No program is named here. -/
import Derived.Test.YtaaiogpdeahaaacBitNum
namespace Go.Proofs.Ytaaiogpdeahaaac.BitShift
open BitNum Go.RowKit

theorem fromL_append (a b : List Bool) : fromL (a ++ b) = fromL a + 2 ^ a.length * fromL b := by
  induction a with
  | nil => simp [fromL]
  | cons x t ih => rw [List.cons_append, fromL, ih, fromL, List.length_cons, Nat.pow_succ, Nat.mul_add, Nat.mul_comm (2 ^ t.length) 2, Nat.mul_assoc]; omega
theorem fromL_rep (n : Nat) (b : Bool) : fromL (List.replicate n b) = if b then 2 ^ n - 1 else 0 := by
  induction n with
  | zero => cases b <;> simp [fromL]
  | succ n ih =>
    rw [List.replicate_succ, fromL, ih, Nat.pow_succ]
    have := Nat.two_pow_pos n
    cases b <;> simp; omega

/-- Bit i of X moved by n. -/
def mbit (X : Nat) (n : Int) (fill : Bool) (i : Nat) : Bool :=
  if 64 ≤ n then false else if n ≤ -64 then fill else if 0 ≤ n then (decide (n ≤ (i : Int)) && X.testBit (i - n.toNat)) else if (i : Int) - n < 64 then X.testBit (i + (-n).toNat) else fill
/-- All bits, as far as k of them are laid. -/
def ml (X : Nat) (n : Int) (fill : Bool) (k : Nat) : List Bool := (List.range 64).map fun i => decide (i < k) && mbit X n fill i
def mv (X : Nat) (n : Int) (fill : Bool) : Nat := fromL (ml X n fill 64)
theorem ml_length (X : Nat) (n : Int) (fill : Bool) (k : Nat) : (ml X n fill k).length = 64 := by simp [ml]
theorem ml_start (X : Nat) (n : Int) (fill : Bool) : (ml X n fill 0).map Value.bool = List.replicate 64 (Value.bool false) := by
  apply List.ext_getElem
  · simp [ml]
  · intro i h1 h2; rw [List.getElem_replicate]; simp [ml]
theorem ml_step (X : Nat) (n : Int) (fill : Bool) (k : Nat) : ml X n fill (k + 1) = (ml X n fill k).set k (mbit X n fill k) := by
  apply List.ext_getElem
  · simp [ml]
  · intro i h1 h2
    rw [List.getElem_set]
    simp only [ml, List.getElem_map, List.getElem_range]
    by_cases hk : k = i
    · subst hk; simp
    · rw [if_neg hk]
      by_cases h4 : i < k
      · have : i < k + 1 := by omega
        simp [h4, this]
      · have : ¬ i < k + 1 := by omega
        simp [h4, this]
theorem ml_end (X : Nat) (n : Int) (fill : Bool) : ml X n fill 64 = (List.range 64).map (mbit X n fill) := by
  unfold ml; apply List.map_congr_left; intro i hi; simp at hi; simp [hi]
theorem mv_lt (X : Nat) (n : Int) (fill : Bool) : mv X n fill < 18446744073709551616 := fromL_lt64 _ (by rw [ml_length]; omega)
theorem mv_big (X : Nat) (n : Int) (fill : Bool) (h : 64 ≤ n) : mv X n fill = 0 := by
  rw [mv, ml_end]
  apply fromL_eq
  intro i
  by_cases hi : i < 64
  · simp [hi, mbit, h]
  · rw [getD_out _ _ (by simp; omega)]; simp
theorem mv_small (X : Nat) (n : Int) (fill : Bool) (h : n ≤ -64) : mv X n fill = if fill then 18446744073709551615 else 0 := by
  have e : (List.range 64).map (mbit X n fill) = List.replicate 64 fill := by
    apply List.ext_getElem
    · simp
    · intro i h1 h2
      have h3 : ¬ (64 : Int) ≤ n := by omega
      rw [List.getElem_replicate]; simp [mbit, h, h3]
  rw [mv, ml_end, e, fromL_rep]
theorem mv_left (X N : Nat) (fill : Bool) (h : N < 64) : mv X (N : Int) fill = X * 2 ^ N % 18446744073709551616 := by
  rw [mv, ml_end]
  apply fromL_eq
  intro i
  rw [show (18446744073709551616 : Nat) = 2 ^ 64 by decide, Nat.testBit_mod_two_pow, Nat.mul_comm, Nat.testBit_two_pow_mul]
  by_cases hi : i < 64
  · have h1 : ¬ (64 : Int) ≤ (N : Int) := by omega
    have h2 : ¬ (N : Int) ≤ -64 := by omega
    simp [hi, mbit, h1, h2]
  · rw [getD_out _ _ (by simp; omega)]; simp [hi]
theorem mv_right (X K : Nat) (fill : Bool) (h1 : 1 ≤ K) (h : K < 64) (hX : X < 18446744073709551616) : mv X (-(K : Int)) fill = X / 2 ^ K + if fill then 18446744073709551616 - 2 ^ (64 - K) else 0 := by
  have e : (List.range 64).map (mbit X (-(K : Int)) fill) = ((List.range (64 - K)).map fun i => X.testBit (i + K)) ++ List.replicate K fill := by
    apply List.ext_getElem
    · simp; omega
    · intro i h2 h3
      simp only [List.length_map, List.length_range] at h2
      rw [List.getElem_append]
      simp only [List.getElem_map, List.getElem_range, List.length_map, List.length_range, List.getElem_replicate]
      have h4 : ¬ (64 : Int) ≤ -(K : Int) := by omega
      have h5 : ¬ -(K : Int) ≤ -64 := by omega
      have h6 : ¬ 0 ≤ -(K : Int) := by omega
      have h7 : (- -(K : Int)).toNat = K := by omega
      by_cases hi : i < 64 - K
      · have h8 : (i : Int) - -(K : Int) < 64 := by omega
        simp only [mbit, if_neg h4, if_neg h5, if_neg h6, if_pos h8, h7, dif_pos hi]
      · have h8 : ¬ (i : Int) - -(K : Int) < 64 := by omega
        simp only [mbit, if_neg h4, if_neg h5, if_neg h6, if_neg h8, dif_neg hi]
  have e2 : fromL ((List.range (64 - K)).map fun i => X.testBit (i + K)) = X / 2 ^ K := by
    apply fromL_eq
    intro i
    rw [Nat.testBit_div_two_pow]
    by_cases hi : i < 64 - K
    · simp [hi]
    · rw [getD_out _ _ (by simp; omega), high_bit _ _ hX (by omega)]
  have e3 : 2 ^ (64 - K) * 2 ^ K = 18446744073709551616 := by
    rw [← Nat.pow_add, show 64 - K + K = 64 by omega]
  rw [mv, ml_end, e, fromL_append, e2, fromL_rep]
  simp only [List.length_map, List.length_range]
  cases fill
  · simp
  · have h9 := Nat.two_pow_pos K
    simp only [if_true]
    rw [Nat.mul_sub, e3, Nat.mul_one]

/-- The 64 bits of an int. -/
theorem word_of (x : Int) (h1 : -9223372036854775808 ≤ x) (h2 : x ≤ 9223372036854775807) : ∃ X : Nat, X < 18446744073709551616 ∧ IntKind.u64.wrap x = (X : Int) ∧ x = (if x < 0 then (X : Int) - 18446744073709551616 else (X : Int)) := by
  refine ⟨(x % 18446744073709551616).toNat, by omega, ?_, ?_⟩
  · rw [IntKind.wrap_u64]; omega
  · split <;> omega
theorem left_u (X N : Nat) (fill : Bool) (h : N < 64) : IntKind.u64.wrap ((X : Int) * 2 ^ N) = ((mv X (N : Int) fill : Nat) : Int) := by
  rw [mv_left X N fill h, IntKind.wrap_u64, show (X : Int) * 2 ^ N = ((X * 2 ^ N : Nat) : Int) by simp]; omega
theorem left_s (x : Int) (X N : Nat) (fill : Bool) (h : N < 64) (hx : x = (if x < 0 then (X : Int) - 18446744073709551616 else (X : Int))) :
    IntKind.u64.wrap (wrap64 (x * 2 ^ N)) = ((mv X (N : Int) fill : Nat) : Int) := by
  rw [← left_u X N fill h, IntKind.wrap_u64, IntKind.wrap_u64, wrap64]
  by_cases hn : x < 0
  · rw [if_pos hn] at hx
    have e : x * 2 ^ N = (X : Int) * 2 ^ N - 18446744073709551616 * 2 ^ N := by rw [hx, Int.sub_mul]
    rw [e]
    generalize (X : Int) * 2 ^ N = a
    generalize (2 : Int) ^ N = b
    omega
  · rw [if_neg hn] at hx
    rw [hx]
    generalize (X : Int) * 2 ^ N = a
    omega
theorem right_u (X K : Nat) (h1 : 1 ≤ K) (h : K < 64) (hX : X < 18446744073709551616) : (X : Int) / 2 ^ K = ((mv X (-(K : Int)) false : Nat) : Int) := by
  rw [mv_right X K false h1 h hX]; simp
theorem right_s (x : Int) (X K : Nat) (h1 : 1 ≤ K) (h : K < 64) (hX : X < 18446744073709551616) (hx : x = (if x < 0 then (X : Int) - 18446744073709551616 else (X : Int))) :
    IntKind.u64.wrap (x / 2 ^ K) = ((mv X (-(K : Int)) (decide (x < 0)) : Nat) : Int) := by
  rw [mv_right X K _ h1 h hX, IntKind.wrap_u64]
  have e3 : 2 ^ (64 - K) * 2 ^ K = 18446744073709551616 := by rw [← Nat.pow_add, show 64 - K + K = 64 by omega]
  have hq : X / 2 ^ K < 2 ^ (64 - K) := by rw [Nat.div_lt_iff_lt_mul (Nat.two_pow_pos K), e3]; exact hX
  have hp : 2 ^ (64 - K) ≤ 2 ^ 63 := Nat.pow_le_pow_right (by omega) (by omega)
  by_cases hn : x < 0
  · rw [if_pos hn] at hx
    have e4 : x / 2 ^ K = (X : Int) / 2 ^ K - 2 ^ (64 - K) := by
      have e5 : (18446744073709551616 : Int) = 2 ^ (64 - K) * 2 ^ K := by
        have := congrArg (fun n : Nat => (n : Int)) e3; simpa using this.symm
      rw [hx, e5, Int.sub_eq_add_neg, ← Int.neg_mul, Int.add_mul_ediv_right _ _ (by have := Nat.two_pow_pos K; exact Int.ne_of_gt (Int.pow_pos (by decide)))]
      omega
    rw [e4, show (X : Int) / 2 ^ K = ((X / 2 ^ K : Nat) : Int) by simp, show (2 : Int) ^ (64 - K) = ((2 ^ (64 - K) : Nat) : Int) by simp]
    simp only [hn, decide_true, if_true]
    generalize X / 2 ^ K = q at *
    generalize 2 ^ (64 - K) = p at *
    omega
  · rw [if_neg hn] at hx
    rw [hx, show (X : Int) / 2 ^ K = ((X / 2 ^ K : Nat) : Int) by simp]
    have hn2 : ¬ (X : Int) < 0 := by omega
    simp only [hn2, decide_false]
    generalize X / 2 ^ K = q at *
    simp
    omega
theorem sign_s (x n : Int) (X : Nat) (h : n ≤ -64) (h1 : -9223372036854775808 ≤ x) (h2 : x ≤ 9223372036854775807) : IntKind.u64.wrap (x / 9223372036854775808) = ((mv X n (decide (x < 0)) : Nat) : Int) := by
  rw [mv_small X n _ h, IntKind.wrap_u64]
  by_cases hn : x < 0
  · simp only [hn, decide_true, if_true]; omega
  · simp only [hn, decide_false]; simp; omega
end Go.Proofs.Ytaaiogpdeahaaac.BitShift
