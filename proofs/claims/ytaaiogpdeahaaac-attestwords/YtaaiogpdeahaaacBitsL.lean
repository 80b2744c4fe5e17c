/- What the calls on words answer: fields, conversions, ranges, shifts, zigzag; in plain numbers. -/
import Derived.Test.YtaaiogpdeahaaacBase
import Derived.Test.YtaaiogpdeahaaacBitField
import Derived.Test.YtaaiogpdeahaaacBitWrap
import Derived.Test.YtaaiogpdeahaaacBitEnds
import Derived.Test.YtaaiogpdeahaaacBitShift
import Derived.Test.YtaaiogpdeahaaacZigNum
import Derived.OwnWalk
namespace Go.Proofs.Ytaaiogpdeahaaac.BitsL
open Go.RowKit Base BitNum

end Go.Proofs.Ytaaiogpdeahaaac.BitsL
namespace Go.Proofs.Ytaaiogpdeahaaac.BitsL
open Go.RowKit Base BitNum
open BitField
theorem inside_in (A W : Nat) (w : World) (h : A + W ≤ 64) :
    Calls Try.prog 58 #[.int .i64 (A : Int), .int .i64 (W : Int)] w fun e w' => e = .returned (.bool true) ∧ w' = w := by
  have h1 : (A : Int) ≤ 64 := by omega
  have h2 : (W : Int) ≤ 64 - (A : Int) := by omega
  go_enter Try.func58, Try.ntmps58
  go_wp2
  go_ret
  exact ⟨by simp, rfl⟩
theorem lowest_any (W : Nat) (w : World) (h : W ≤ 64) :
    Calls Try.prog 59 #[.int .i64 (W : Int)] w fun e w' => e = .returned (.int .u64 ((2 ^ W - 1 : Nat) : Int)) ∧ w' = w := by
  have e := low_is W h
  go_enter Try.func59, Try.ntmps59
  go_wp2
  go_ret
  exact ⟨rfl, rfl⟩
theorem field_any (X A W : Nat) (w : World) (hX : X < 18446744073709551616) (h : A + W ≤ 64) :
    Calls Try.prog 35 #[.int .u64 (X : Int), .int .i64 (A : Int), .int .i64 (W : Int)] w fun e w' => e = .returned (.tuple #[.int .u64 ((fv X A W : Nat) : Int), .bool true]) ∧ w' = w := by
  have e := field_is X A W hX (by omega)
  have c1 := fun v => lowest_any W v (by omega)
  generalize 2 ^ W - 1 = M at e c1
  go_enter Try.func35, Try.ntmps35
  go_wp2_with (first
    | (go_at_call 58; refine (inside_in _ _ _ h).mono ?_; rintro e w2 ⟨rfl, hw⟩; have hw2 := hw.symm; clear hw; subst hw2)
    | (go_at_call 59; refine (c1 _).mono ?_; rintro e w2 ⟨rfl, hw⟩; have hw2 := hw.symm; clear hw; subst hw2))
  go_ret2
  exact ⟨rfl, rfl⟩
theorem put_any (X V A W : Nat) (w : World) (hX : X < 18446744073709551616) (hV : V < 18446744073709551616) (h : A + W ≤ 64) :
    Calls Try.prog 36 #[.int .u64 (X : Int), .int .i64 (A : Int), .int .i64 (W : Int), .int .u64 (V : Int)] w fun e w' => e = .returned (.tuple #[.int .u64 ((pv X V A W : Nat) : Int), .bool true]) ∧ w' = w := by
  have e := put_is X V A W hX hV h
  have c1 := fun v => lowest_any W v (by omega)
  generalize 2 ^ W - 1 = M at e c1
  go_enter Try.func36, Try.ntmps36
  go_wp2_with (first
    | (go_at_call 58; refine (inside_in _ _ _ h).mono ?_; rintro e w2 ⟨rfl, hw⟩; have hw2 := hw.symm; clear hw; subst hw2)
    | (go_at_call 59; refine (c1 _).mono ?_; rintro e w2 ⟨rfl, hw⟩; have hw2 := hw.symm; clear hw; subst hw2))
  go_ret2
  exact ⟨rfl, rfl⟩
theorem put_back (X K : Nat) (hX : X < 18446744073709551616) (hK : K ≤ 64) : pv (fv X 0 K) (fv X K (64 - K)) K (64 - K) = X := by
  unfold pv
  apply fromL_eq
  intro i
  rcases Nat.lt_or_ge i 64 with h | h
  · rw [pl_get _ _ _ _ _ h]
    split
    · rw [fv_bit, show K + (i - K) = i by omega, decide_eq_true (by omega), Bool.true_and]
    · rw [fv_bit, Nat.zero_add, decide_eq_true (by omega), Bool.true_and]
  · rw [getD_out _ _ (by rw [pl_length]; exact h), high_bit X i hX h]
theorem fv_lt (X A W : Nat) (hX : X < 18446744073709551616) : fv X A W < 18446744073709551616 := by
  unfold fv
  have h1 := Nat.mod_le (X / 2 ^ A) (2 ^ W)
  have h2 := Nat.div_le_self X (2 ^ A)
  omega
/-- A word cut in two and put together again. -/
theorem cut_join (X K : Nat) (hX : X < 18446744073709551616) (hK : K ≤ 64) : ∃ L H : Int, (∀ w : World, Calls Try.prog 35 #[.int .u64 (X : Int), .int .i64 0, .int .i64 (K : Int)] w fun e w' => e = .returned (.tuple #[.int .u64 L, .bool true]) ∧ w' = w) ∧
    (∀ w : World, Calls Try.prog 35 #[.int .u64 (X : Int), .int .i64 (K : Int), .int .i64 (64 - (K : Int))] w fun e w' => e = .returned (.tuple #[.int .u64 H, .bool true]) ∧ w' = w) ∧
    (∀ w : World, Calls Try.prog 36 #[.int .u64 L, .int .i64 (K : Int), .int .i64 (64 - (K : Int)), .int .u64 H] w fun e w' => e = .returned (.tuple #[.int .u64 (X : Int), .bool true]) ∧ w' = w) := by
  have e : (64 : Int) - (K : Int) = ((64 - K : Nat) : Int) := by omega
  refine ⟨_, _, fun w => field_any X 0 K w hX (by omega), fun w => by rw [e]; exact field_any X K (64 - K) w hX (by omega), fun w => ?_⟩
  have := put_any (fv X 0 K) (fv X K (64 - K)) K (64 - K) w (fv_lt _ _ _ hX) (fv_lt _ _ _ hX) (by omega)
  rw [put_back X K hX hK] at this
  rw [e]; exact this
end Go.Proofs.Ytaaiogpdeahaaac.BitsL
namespace Go.Proofs.Ytaaiogpdeahaaac.BitsL
open Go.RowKit Base BitNum
open BitShift
theorem move_any (X : Nat) (n : Int) (w : World) (hX : X < 18446744073709551616) (hn1 : -9223372036854775808 ≤ n) (hn2 : n ≤ 9223372036854775807) :
    Calls Try.prog 41 #[.int .u64 (X : Int), .int .i64 n] w fun e w' => e = .returned (.int .u64 ((mv X n false : Nat) : Int)) ∧ w' = w := by
  by_cases c1 : 64 ≤ n
  · rw [mv_big X n false c1]
    go_enter Try.func41, Try.ntmps41
    go_wp2
    go_ret
    exact ⟨rfl, rfl⟩
  · by_cases c2 : n ≤ -64
    · rw [mv_small X n false c2]
      go_enter Try.func41, Try.ntmps41
      go_wp2
      go_ret
      exact ⟨rfl, rfl⟩
    · by_cases c3 : 0 ≤ n
      · obtain ⟨N, rfl⟩ := Int.eq_ofNat_of_zero_le c3
        have e := left_u X N false (by omega)
        go_enter Try.func41, Try.ntmps41
        go_wp2
        go_ret
        exact ⟨rfl, rfl⟩
      · obtain ⟨K, hK⟩ := Int.eq_ofNat_of_zero_le (show 0 ≤ -n by omega)
        obtain rfl : n = -(K : Int) := by omega
        clear hK
        have e := right_u X K (by omega) (by omega) hX
        go_enter Try.func41, Try.ntmps41
        go_wp2
        go_ret
        exact ⟨ret_int (by first | rfl | simp [e]), rfl⟩
/-- Move: up by m. -/
theorem move_up (X m : Nat) (w : World) (hX : X < 18446744073709551616) (hm : m < 64) : Calls Try.prog 41 #[.int .u64 (X : Int), .int .i64 (m : Int)] w fun e w' => e = .returned (.int .u64 ((X * 2 ^ m % 18446744073709551616 : Nat) : Int)) ∧ w' = w := by
  have := move_any X (m : Int) w hX (by omega) (by omega)
  rwa [mv_left X m false hm] at this
/-- Move: down by m. -/
theorem move_down (X m : Nat) (w : World) (hX : X < 18446744073709551616) (hm : m < 64) : Calls Try.prog 41 #[.int .u64 (X : Int), .int .i64 (-(m : Int))] w fun e w' => e = .returned (.int .u64 ((X / 2 ^ m : Nat) : Int)) ∧ w' = w := by
  have := move_any X (-(m : Int)) w hX (by omega) (by omega)
  rcases Nat.eq_zero_or_pos m with rfl | h
  · have h2 := mv_left X 0 false (by omega)
    have e : -((0 : Nat) : Int) = ((0 : Nat) : Int) := rfl
    rw [e, h2, Nat.pow_zero, Nat.mul_one, Nat.mod_eq_of_lt hX] at this
    simpa using this
  · rw [mv_right X m false h hm hX] at this
    simpa using this
end Go.Proofs.Ytaaiogpdeahaaac.BitsL
namespace Go.Proofs.Ytaaiogpdeahaaac.BitsL
open Go.RowKit Base BitNum
open Num
theorem zig (x : Int) (w : World) (h1 : -9223372036854775808 ≤ x) (h2 : x ≤ 9223372036854775807) :
    Calls Try.prog 34 #[.int .i64 x] w fun e w' => e = .returned (.int .u64 (zigV x)) ∧ w' = w := by
  have e := zig_is x h1 h2
  clear h1 h2
  go_enter Try.func34, Try.ntmps34
  go_wp2
  go_ret
  exact ⟨rfl, rfl⟩
theorem zag (x : Int) (w : World) (h1 : 0 ≤ x) (h2 : x ≤ 18446744073709551615) :
    Calls Try.prog 33 #[.int .u64 x] w fun e w' => e = .returned (.int .i64 (zagV x)) ∧ w' = w := by
  have e := zag_is x h1 h2
  clear h1 h2
  go_enter Try.func33, Try.ntmps33
  go_wp2
  go_ret
  exact ⟨rfl, rfl⟩
theorem zig3 (w : World) : Calls Try.prog 34 #[.int .i64 (-3)] w fun e w' => e = .returned (.int .u64 5) ∧ w' = w := zig (-3) w (by omega) (by omega)
theorem zag5 (w : World) : Calls Try.prog 33 #[.int .u64 5] w fun e w' => e = .returned (.int .i64 (-3)) ∧ w' = w := zag 5 w (by omega) (by omega)
end Go.Proofs.Ytaaiogpdeahaaac.BitsL
namespace Go.Proofs.Ytaaiogpdeahaaac.BitsL
open Go.RowKit Base BitNum
open BitWrap BitEnds
/-- What a word of 64 bits is, converted to a kind and held against its range. -/
def Kind (k : Int) (X : Nat) (x : Int) : Prop := ∃ (V : Int) (b : Bool), (∀ w : World, Calls Try.prog 37 #[.int .i64 k, .int .u64 (X : Int)] w fun e w' => e = .returned (.tuple #[.int .u64 V, .bool true]) ∧ w' = w) ∧
  (∀ w : World, Calls Try.prog 38 #[.int .i64 k, .int .i64 x] w fun e w' => e = .returned (.tuple #[.bool b, .bool true]) ∧ w' = w) ∧ (b = true → k ≠ 8 → V = (X : Int)) ∧ (b = false → k ≠ 8 → k ≠ 4 → V ≠ (X : Int))
theorem fits_any (kind : Int) (L : Int) (M : Nat) (c1 : ∀ w : World, Calls Try.prog 60 #[.int .i64 kind] w fun e w' => e = .returned (.tuple #[.int .i64 L, .int .u64 (M : Int), .bool true]) ∧ w' = w) (x : Int) (w : World) (hx1 : -9223372036854775808 ≤ x) (hx2 : x ≤ 9223372036854775807) :
    Calls Try.prog 38 #[.int .i64 kind, .int .i64 x] w fun e w' => e = .returned (.tuple #[.bool (fb L M x), .bool true]) ∧ w' = w := by
  unfold fb
  by_cases p1 : L ≤ x
  · by_cases p2 : x < 0
    · go_enter Try.func38, Try.ntmps38
      go_wp2_with (go_at_call 60; refine (c1 _).mono ?_; rintro e w2 ⟨rfl, hw⟩; have hw2 := hw.symm; clear hw; subst hw2)
      go_ret2
      exact ⟨by simp [p1, p2], rfl⟩
    · have p3 : 0 ≤ x := by omega
      go_enter Try.func38, Try.ntmps38
      go_wp2_with (go_at_call 60; refine (c1 _).mono ?_; rintro e w2 ⟨rfl, hw⟩; have hw2 := hw.symm; clear hw; subst hw2)
      go_ret2
      exact ⟨by simp [p1], rfl⟩
  · go_enter Try.func38, Try.ntmps38
    go_wp2_with (go_at_call 60; refine (c1 _).mono ?_; rintro e w2 ⟨rfl, hw⟩; have hw2 := hw.symm; clear hw; subst hw2)
    go_ret2
    exact ⟨by simp; omega, rfl⟩
theorem wrap1 (X : Nat) (w : World) (_hX : X < 18446744073709551616) : Calls Try.prog 37 #[.int .i64 1, .int .u64 (X : Int)] w fun e w' => e = .returned (.tuple #[.int .u64 ((wv 8 true X : Nat) : Int), .bool true]) ∧ w' = w := by
  have e := go8s X
  go_enter Try.func37, Try.ntmps37
  go_wp2
  go_ret2
  exact ⟨rfl, rfl⟩
theorem ends1 (w : World) : Calls Try.prog 60 #[.int .i64 1] w fun e w' => e = .returned (.tuple #[.int .i64 (-128), .int .u64 ((127 : Nat) : Int), .bool true]) ∧ w' = w := by
  go_enter Try.func60, Try.ntmps60
  go_wp2
  go_ret3
  exact ⟨rfl, rfl⟩
theorem kind1 (X : Nat) (x : Int) (hX : X < 18446744073709551616) (hx : x = (if X < 9223372036854775808 then (X : Int) else (X : Int) - 18446744073709551616)) : Kind 1 X x := by
  have hb1 : -9223372036854775808 ≤ x := by split at hx <;> omega
  have hb2 : x ≤ 9223372036854775807 := by split at hx <;> omega
  refine ⟨_, _, fun w => wrap1 X w hX, fun w => fits_any 1 (-128) 127 ends1 x w hb1 hb2, ?_, ?_⟩
  · intro h _
    simp only [fb, Bool.and_eq_true, Bool.or_eq_true, decide_eq_true_eq] at h
    rw [wv8s]
    split at hx <;> (try split) <;> omega
  · intro h _ _
    simp only [fb, Bool.and_eq_false_iff, Bool.or_eq_false_iff, decide_eq_false_iff_not] at h
    rw [wv8s]
    split at hx <;> (try split) <;> omega
theorem wrap2 (X : Nat) (w : World) (_hX : X < 18446744073709551616) : Calls Try.prog 37 #[.int .i64 2, .int .u64 (X : Int)] w fun e w' => e = .returned (.tuple #[.int .u64 ((wv 16 true X : Nat) : Int), .bool true]) ∧ w' = w := by
  have e := go16s X
  go_enter Try.func37, Try.ntmps37
  go_wp2
  go_ret2
  exact ⟨rfl, rfl⟩
theorem ends2 (w : World) : Calls Try.prog 60 #[.int .i64 2] w fun e w' => e = .returned (.tuple #[.int .i64 (-32768), .int .u64 ((32767 : Nat) : Int), .bool true]) ∧ w' = w := by
  go_enter Try.func60, Try.ntmps60
  go_wp2
  go_ret3
  exact ⟨rfl, rfl⟩
theorem kind2 (X : Nat) (x : Int) (hX : X < 18446744073709551616) (hx : x = (if X < 9223372036854775808 then (X : Int) else (X : Int) - 18446744073709551616)) : Kind 2 X x := by
  have hb1 : -9223372036854775808 ≤ x := by split at hx <;> omega
  have hb2 : x ≤ 9223372036854775807 := by split at hx <;> omega
  refine ⟨_, _, fun w => wrap2 X w hX, fun w => fits_any 2 (-32768) 32767 ends2 x w hb1 hb2, ?_, ?_⟩
  · intro h _
    simp only [fb, Bool.and_eq_true, Bool.or_eq_true, decide_eq_true_eq] at h
    rw [wv16s]
    split at hx <;> (try split) <;> omega
  · intro h _ _
    simp only [fb, Bool.and_eq_false_iff, Bool.or_eq_false_iff, decide_eq_false_iff_not] at h
    rw [wv16s]
    split at hx <;> (try split) <;> omega
theorem wrap3 (X : Nat) (w : World) (_hX : X < 18446744073709551616) : Calls Try.prog 37 #[.int .i64 3, .int .u64 (X : Int)] w fun e w' => e = .returned (.tuple #[.int .u64 ((wv 32 true X : Nat) : Int), .bool true]) ∧ w' = w := by
  have e := go32s X
  go_enter Try.func37, Try.ntmps37
  go_wp2
  go_ret2
  exact ⟨rfl, rfl⟩
theorem ends3 (w : World) : Calls Try.prog 60 #[.int .i64 3] w fun e w' => e = .returned (.tuple #[.int .i64 (-2147483648), .int .u64 ((2147483647 : Nat) : Int), .bool true]) ∧ w' = w := by
  go_enter Try.func60, Try.ntmps60
  go_wp2
  go_ret3
  exact ⟨rfl, rfl⟩
theorem kind3 (X : Nat) (x : Int) (hX : X < 18446744073709551616) (hx : x = (if X < 9223372036854775808 then (X : Int) else (X : Int) - 18446744073709551616)) : Kind 3 X x := by
  have hb1 : -9223372036854775808 ≤ x := by split at hx <;> omega
  have hb2 : x ≤ 9223372036854775807 := by split at hx <;> omega
  refine ⟨_, _, fun w => wrap3 X w hX, fun w => fits_any 3 (-2147483648) 2147483647 ends3 x w hb1 hb2, ?_, ?_⟩
  · intro h _
    simp only [fb, Bool.and_eq_true, Bool.or_eq_true, decide_eq_true_eq] at h
    rw [wv32s]
    split at hx <;> (try split) <;> omega
  · intro h _ _
    simp only [fb, Bool.and_eq_false_iff, Bool.or_eq_false_iff, decide_eq_false_iff_not] at h
    rw [wv32s]
    split at hx <;> (try split) <;> omega
theorem wrap4 (X : Nat) (w : World) (hX : X < 18446744073709551616) : Calls Try.prog 37 #[.int .i64 4, .int .u64 (X : Int)] w fun e w' => e = .returned (.tuple #[.int .u64 ((wv 64 true X : Nat) : Int), .bool true]) ∧ w' = w := by
  rw [wv64s X hX]
  go_enter Try.func37, Try.ntmps37
  go_wp2
  go_ret2
  exact ⟨rfl, rfl⟩
theorem ends4 (w : World) : Calls Try.prog 60 #[.int .i64 4] w fun e w' => e = .returned (.tuple #[.int .i64 (-9223372036854775808), .int .u64 ((9223372036854775807 : Nat) : Int), .bool true]) ∧ w' = w := by
  go_enter Try.func60, Try.ntmps60
  go_wp2
  go_ret3
  exact ⟨rfl, rfl⟩
theorem kind4 (X : Nat) (x : Int) (hX : X < 18446744073709551616) (hx : x = (if X < 9223372036854775808 then (X : Int) else (X : Int) - 18446744073709551616)) : Kind 4 X x := by
  have hb1 : -9223372036854775808 ≤ x := by split at hx <;> omega
  have hb2 : x ≤ 9223372036854775807 := by split at hx <;> omega
  refine ⟨_, _, fun w => wrap4 X w hX, fun w => fits_any 4 (-9223372036854775808) 9223372036854775807 ends4 x w hb1 hb2, ?_, ?_⟩
  · intro _ _; rw [wv64s X hX]
  · intro _ _ h; exact absurd rfl h
theorem wrap5 (X : Nat) (w : World) (_hX : X < 18446744073709551616) : Calls Try.prog 37 #[.int .i64 5, .int .u64 (X : Int)] w fun e w' => e = .returned (.tuple #[.int .u64 ((wv 8 false X : Nat) : Int), .bool true]) ∧ w' = w := by
  have e := go8u X
  go_enter Try.func37, Try.ntmps37
  go_wp2
  go_ret2
  exact ⟨rfl, rfl⟩
theorem ends5 (w : World) : Calls Try.prog 60 #[.int .i64 5] w fun e w' => e = .returned (.tuple #[.int .i64 0, .int .u64 ((255 : Nat) : Int), .bool true]) ∧ w' = w := by
  go_enter Try.func60, Try.ntmps60
  go_wp2
  go_ret3
  exact ⟨rfl, rfl⟩
theorem kind5 (X : Nat) (x : Int) (hX : X < 18446744073709551616) (hx : x = (if X < 9223372036854775808 then (X : Int) else (X : Int) - 18446744073709551616)) : Kind 5 X x := by
  have hb1 : -9223372036854775808 ≤ x := by split at hx <;> omega
  have hb2 : x ≤ 9223372036854775807 := by split at hx <;> omega
  refine ⟨_, _, fun w => wrap5 X w hX, fun w => fits_any 5 0 255 ends5 x w hb1 hb2, ?_, ?_⟩
  · intro h _
    simp only [fb, Bool.and_eq_true, Bool.or_eq_true, decide_eq_true_eq] at h
    rw [wv8u]
    split at hx <;> (try split) <;> omega
  · intro h _ _
    simp only [fb, Bool.and_eq_false_iff, Bool.or_eq_false_iff, decide_eq_false_iff_not] at h
    rw [wv8u]
    split at hx <;> (try split) <;> omega
theorem wrap6 (X : Nat) (w : World) (_hX : X < 18446744073709551616) : Calls Try.prog 37 #[.int .i64 6, .int .u64 (X : Int)] w fun e w' => e = .returned (.tuple #[.int .u64 ((wv 16 false X : Nat) : Int), .bool true]) ∧ w' = w := by
  have e := go16u X
  go_enter Try.func37, Try.ntmps37
  go_wp2
  go_ret2
  exact ⟨rfl, rfl⟩
theorem ends6 (w : World) : Calls Try.prog 60 #[.int .i64 6] w fun e w' => e = .returned (.tuple #[.int .i64 0, .int .u64 ((65535 : Nat) : Int), .bool true]) ∧ w' = w := by
  go_enter Try.func60, Try.ntmps60
  go_wp2
  go_ret3
  exact ⟨rfl, rfl⟩
theorem kind6 (X : Nat) (x : Int) (hX : X < 18446744073709551616) (hx : x = (if X < 9223372036854775808 then (X : Int) else (X : Int) - 18446744073709551616)) : Kind 6 X x := by
  have hb1 : -9223372036854775808 ≤ x := by split at hx <;> omega
  have hb2 : x ≤ 9223372036854775807 := by split at hx <;> omega
  refine ⟨_, _, fun w => wrap6 X w hX, fun w => fits_any 6 0 65535 ends6 x w hb1 hb2, ?_, ?_⟩
  · intro h _
    simp only [fb, Bool.and_eq_true, Bool.or_eq_true, decide_eq_true_eq] at h
    rw [wv16u]
    split at hx <;> (try split) <;> omega
  · intro h _ _
    simp only [fb, Bool.and_eq_false_iff, Bool.or_eq_false_iff, decide_eq_false_iff_not] at h
    rw [wv16u]
    split at hx <;> (try split) <;> omega
theorem wrap7 (X : Nat) (w : World) (_hX : X < 18446744073709551616) : Calls Try.prog 37 #[.int .i64 7, .int .u64 (X : Int)] w fun e w' => e = .returned (.tuple #[.int .u64 ((wv 32 false X : Nat) : Int), .bool true]) ∧ w' = w := by
  have e := go32u X
  go_enter Try.func37, Try.ntmps37
  go_wp2
  go_ret2
  exact ⟨rfl, rfl⟩
theorem ends7 (w : World) : Calls Try.prog 60 #[.int .i64 7] w fun e w' => e = .returned (.tuple #[.int .i64 0, .int .u64 ((4294967295 : Nat) : Int), .bool true]) ∧ w' = w := by
  go_enter Try.func60, Try.ntmps60
  go_wp2
  go_ret3
  exact ⟨rfl, rfl⟩
theorem kind7 (X : Nat) (x : Int) (hX : X < 18446744073709551616) (hx : x = (if X < 9223372036854775808 then (X : Int) else (X : Int) - 18446744073709551616)) : Kind 7 X x := by
  have hb1 : -9223372036854775808 ≤ x := by split at hx <;> omega
  have hb2 : x ≤ 9223372036854775807 := by split at hx <;> omega
  refine ⟨_, _, fun w => wrap7 X w hX, fun w => fits_any 7 0 4294967295 ends7 x w hb1 hb2, ?_, ?_⟩
  · intro h _
    simp only [fb, Bool.and_eq_true, Bool.or_eq_true, decide_eq_true_eq] at h
    rw [wv32u]
    split at hx <;> (try split) <;> omega
  · intro h _ _
    simp only [fb, Bool.and_eq_false_iff, Bool.or_eq_false_iff, decide_eq_false_iff_not] at h
    rw [wv32u]
    split at hx <;> (try split) <;> omega
theorem wrap8 (X : Nat) (w : World) (hX : X < 18446744073709551616) : Calls Try.prog 37 #[.int .i64 8, .int .u64 (X : Int)] w fun e w' => e = .returned (.tuple #[.int .u64 ((wv 64 false X : Nat) : Int), .bool true]) ∧ w' = w := by
  rw [wv64u X hX]
  go_enter Try.func37, Try.ntmps37
  go_wp2
  go_ret2
  exact ⟨rfl, rfl⟩
theorem ends8 (w : World) : Calls Try.prog 60 #[.int .i64 8] w fun e w' => e = .returned (.tuple #[.int .i64 0, .int .u64 ((18446744073709551615 : Nat) : Int), .bool true]) ∧ w' = w := by
  go_enter Try.func60, Try.ntmps60
  go_wp2
  go_ret3
  exact ⟨rfl, rfl⟩
theorem kind8 (X : Nat) (x : Int) (hX : X < 18446744073709551616) (hx : x = (if X < 9223372036854775808 then (X : Int) else (X : Int) - 18446744073709551616)) : Kind 8 X x := by
  have hb1 : -9223372036854775808 ≤ x := by split at hx <;> omega
  have hb2 : x ≤ 9223372036854775807 := by split at hx <;> omega
  refine ⟨_, _, fun w => wrap8 X w hX, fun w => fits_any 8 0 18446744073709551615 ends8 x w hb1 hb2, ?_, ?_⟩
  · intro _ h; exact absurd rfl h
  · intro _ h; exact absurd rfl h
end Go.Proofs.Ytaaiogpdeahaaac.BitsL
