/- Plain facts on the guess at a limb of a quotient. No program is named here. -/
import Derived.Test.YtipmdjfhailfbaaLongNum
namespace Go.Proofs.Ytipmdjfhailfbaa.GuessNum
open Go.RowKit LimbNum NatNum DivNum LongNum

theorem three (U : List Nat) (m : Nat) (h : U.length = m + 3) : val U = (U.getD (m + 2) 0 * 4294967296 + U.getD (m + 1) 0) * 4294967296 * 4294967296 ^ m + U.getD m 0 * 4294967296 ^ m + val (U.take m) := by
  have h1 := val_take_any U (m + 2)
  have h2 := val_take_any U (m + 1)
  have h3 := val_take_any U m
  rw [List.take_of_length_le (by omega)] at h1
  rw [h1, h2, h3]
  rw [Nat.pow_add, Nat.pow_add]
  grind
theorem two (V : List Nat) (m : Nat) (h : V.length = m + 2) : val V = V.getD (m + 1) 0 * 4294967296 * 4294967296 ^ m + V.getD m 0 * 4294967296 ^ m + val (V.take m) := by
  have h2 := val_take_any V (m + 1)
  have h3 := val_take_any V m
  rw [List.take_of_length_le (by omega)] at h2
  rw [h2, h3, Nat.pow_add]
  grind
theorem low_lt (U : List Nat) (hU : Small U) (m : Nat) (h : m ≤ U.length) : val (U.take m) < 4294967296 ^ m := by
  have := val_lt (U.take m) (fun x hx => hU x (List.mem_of_mem_take hx))
  rwa [List.length_take, Nat.min_eq_left h] at this
/-- What is known of the numbers at the start, for whatever their highest limbs. -/
structure Top (u v R top u2 high next lo vlo : Nat) : Prop where
  hu : u = (top * 4294967296 + u2) * R + lo
  hv : v = (high * 4294967296 + next) * R + vlo
  lo_lt : lo < R
  vlo_lt : vlo < R
  u2_lt : u2 < 4294967296
  next_lt : next < 4294967296
  high_lt : high < 4294967296
  high_ge : 2147483648 ≤ high
  small : u < v * 4294967296
theorem top_of (U V : List Nat) (m : Nat) (hU : Small U) (hV : Small V) (h1 : U.length = m + 3) (h2 : V.length = m + 2) (hh : 2147483648 ≤ V.getD (m + 1) 0) (hs : val U < val V * 4294967296) :
    Top (val U) (val V) (4294967296 ^ m) (U.getD (m + 2) 0 * 4294967296 + U.getD (m + 1) 0) (U.getD m 0) (V.getD (m + 1) 0) (V.getD m 0) (val (U.take m)) (val (V.take m)) :=
  ⟨by rw [Nat.add_mul]; exact three U m h1, by rw [Nat.add_mul]; exact two V m h2, low_lt U hU m (by omega), low_lt V hV m (by omega), getD_small U hU m, getD_small V hV m, getD_small V hV (m + 1), hh, hs⟩
theorem Top.lt {u v R top u2 high next lo vlo : Nat} (t : Top u v R top u2 high next lo vlo) : top < (high + 1) * 4294967296 := by
  rcases Nat.lt_or_ge top ((high + 1) * 4294967296) with h | h
  · exact h
  · exfalso
    have h4 := t.next_lt
    have e0 : (high + 1) * 4294967296 * 4294967296 ≤ top * 4294967296 + u2 := Nat.le_trans (Nat.mul_le_mul_right 4294967296 h) (Nat.le_add_right _ _)
    have e1 := Nat.mul_le_mul_right R e0
    have e2 := Nat.mul_le_mul_right R (show high * 4294967296 + next + 1 ≤ (high + 1) * 4294967296 by omega)
    have e3 : v < (high * 4294967296 + next + 1) * R := by
      have h5 := t.vlo_lt
      rw [t.hv, Nat.add_mul _ 1, Nat.one_mul]
      exact Nat.add_lt_add_left h5 _
    have hs := t.small
    have hu := t.hu
    obtain ⟨K, hK⟩ : ∃ K, K = (high + 1) * R := ⟨_, rfl⟩
    have e4 : (high + 1) * 4294967296 * 4294967296 * R = K * 4294967296 * 4294967296 := by rw [hK, Nat.mul_right_comm ((high + 1) * 4294967296), Nat.mul_right_comm (high + 1) 4294967296 R]
    have e5 : (high + 1) * 4294967296 * R = K * 4294967296 := by rw [hK, Nat.mul_right_comm]
    rw [e4] at e1
    rw [e5] at e2
    clear e4 e5 hK
    obtain ⟨P1, hP1⟩ : ∃ P, P = (top * 4294967296 + u2) * R := ⟨_, rfl⟩
    obtain ⟨P2, hP2⟩ : ∃ P, P = (high * 4294967296 + next + 1) * R := ⟨_, rfl⟩
    rw [← hP1] at e1 hu
    rw [← hP2] at e2 e3
    clear hP1 hP2 e0 h
    omega
theorem Top.qt_lt {u v R top u2 high next lo vlo : Nat} (t : Top u v R top u2 high next lo vlo) : u / v < 4294967296 := by
  have hs := t.small
  rw [Nat.div_lt_iff_lt_mul (by rcases Nat.eq_zero_or_pos v with h | h; rw [h] at hs; omega; exact h), Nat.mul_comm]
  exact hs
theorem Top.vpos {u v R top u2 high next lo vlo : Nat} (t : Top u v R top u2 high next lo vlo) : 0 < v := by
  have hs := t.small
  rcases Nat.eq_zero_or_pos v with h | h
  · rw [h] at hs; omega
  · exact h
theorem Top.start {u v R top u2 high next lo vlo : Nat} (t : Top u v R top u2 high next lo vlo) : u / v ≤ top / high ∧ top / high ≤ 4294967297 := by
  have hl := t.lt
  have hh := t.high_ge
  refine ⟨?_, ?_⟩
  · have h1 := Nat.div_mul_le_self u v
    refine guess_start u v (4294967296 * R) (u / v) top high (u2 * R + lo) (next * R + vlo) ?_ ?_ ?_ h1 (by omega)
    · rw [t.hv]; grind
    · rw [t.hu]; grind
    · have := t.lo_lt
      have h2 : (u2 + 1) * R ≤ 4294967296 * R := Nat.mul_le_mul_right _ t.u2_lt
      rw [Nat.add_mul, Nat.one_mul] at h2
      omega
  · have : top / high < 4294967298 := by
      rw [Nat.div_lt_iff_lt_mul (by omega)]
      omega
    omega
theorem Top.too {u v R top u2 high next lo vlo : Nat} (t : Top u v R top u2 high next lo vlo) (q r : Nat) (hq : top = q * high + r) (h : 4294967296 ≤ q ∨ r * 4294967296 + u2 < q * next) : u / v < q := by
  rcases h with h | h
  · have := t.qt_lt; omega
  · refine guess_too u v R q (u / v) (high * 4294967296 + next) (top * 4294967296 + u2) lo vlo t.hv t.hu t.lo_lt (Nat.div_mul_le_self u v) ?_
    have e : q * (high * 4294967296 + next) = q * high * 4294967296 + q * next := by rw [Nat.mul_add, Nat.mul_assoc]
    rw [e, hq, Nat.add_mul, Nat.add_assoc]
    exact Nat.add_lt_add_left h _
theorem Top.fin {u v R top u2 high next lo vlo : Nat} (t : Top u v R top u2 high next lo vlo) (q r : Nat) (hq : top = q * high + r) (hB : q ≤ 4294967296) (h : q * next ≤ r * 4294967296 + u2) : q ≤ u / v + 1 := by
  have h1 : u < (u / v + 1) * v := by rw [Nat.mul_comm]; exact Nat.lt_mul_div_succ u t.vpos
  refine guess_end u v R q (u / v) (high * 4294967296 + next) (top * 4294967296 + u2) lo vlo t.hv t.vlo_lt t.hu h1 ?_ hB (by have := t.high_ge; omega)
  have e : q * (high * 4294967296 + next) = q * high * 4294967296 + q * next := by rw [Nat.mul_add, Nat.mul_assoc]
  rw [e, hq, Nat.add_mul, Nat.add_assoc]
  exact Nat.add_le_add_left h _
theorem Top.brk {u v R top u2 high next lo vlo : Nat} (t : Top u v R top u2 high next lo vlo) (q r : Nat) (hq : top = q * high + r) (hB : q ≤ 4294967296) (h : 4294967296 ≤ r) : q ≤ u / v + 1 ∧ q < 4294967296 := by
  refine ⟨t.fin q r hq hB ?_, ?_⟩
  · have h1 : q * next ≤ 4294967296 * 4294967296 := Nat.mul_le_mul hB (by have := t.next_lt; omega)
    have h2 : 4294967296 * 4294967296 ≤ r * 4294967296 := Nat.mul_le_mul_right _ h
    omega
  · have h1 := t.lt
    rw [hq] at h1
    rcases Nat.lt_or_ge q 4294967296 with h3 | h3
    · exact h3
    · have : 4294967296 * high ≤ q * high := Nat.mul_le_mul_right _ h3
      omega
end Go.Proofs.Ytipmdjfhailfbaa.GuessNum
