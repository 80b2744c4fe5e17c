/- The lowest bit that is set; single bits of a list of limbs. No program is named here. -/
import Derived.Test.YtjehfgfgnijkoaaDoorLimbNum
namespace Go.Proofs.YtjehfgfgnijkoaaDoor.TwoN
open Go.RowKit LimbNum

/-- t is the place of the lowest bit that is set. -/
def IsTwo (N t : Nat) : Prop := N.testBit t = true ∧ ∀ i, i < t → N.testBit i = false
theorem IsTwo.uniq {N s t : Nat} (h : IsTwo N s) (k : IsTwo N t) : s = t := by
  rcases Nat.lt_trichotomy s t with h1 | h1 | h1
  · have := k.2 s h1; rw [h.1] at this; exact absurd this (by decide)
  · exact h1
  · have := h.2 t h1; rw [k.1] at this; exact absurd this (by decide)
theorem two_some (N : Nat) (h : N ≠ 0) : ∃ t, IsTwo N t := by
  induction N using Nat.strongRecOn with
  | _ N ih =>
    by_cases h1 : N % 2 = 1
    · exact ⟨0, by rw [Nat.testBit_zero]; simp [h1], fun i hi => by omega⟩
    · obtain ⟨t, h2, h3⟩ := ih (N / 2) (by omega) (by omega)
      refine ⟨t + 1, by rw [Nat.testBit_succ]; exact h2, fun i hi => ?_⟩
      cases i with
      | zero => rw [Nat.testBit_zero]; simp [h1]
      | succ i => rw [Nat.testBit_succ]; exact h3 i (by omega)
theorem IsTwo.pos {N t : Nat} (h : IsTwo N t) : N ≠ 0 := by
  rintro rfl
  have := h.1
  simp at this
theorem IsTwo.lt {N t k : Nat} (h : IsTwo N t) (hN : N < 2 ^ k) : t < k := by
  rcases Nat.lt_or_ge t k with h1 | h1
  · exact h1
  · have := Nat.testBit_lt_two_pow (Nat.lt_of_lt_of_le hN (Nat.pow_le_pow_right (by omega) h1))
    rw [h.1] at this
    exact absurd this (by decide)
theorem IsTwo.mod {N t : Nat} (h : IsTwo N t) : N % 2 ^ t = 0 := by
  apply Nat.eq_of_testBit_eq
  intro i
  rw [Nat.testBit_mod_two_pow, Nat.zero_testBit]
  by_cases hi : i < t
  · simp [h.2 i hi]
  · simp [hi]
theorem IsTwo.div {N t : Nat} (h : IsTwo N t) : N / 2 ^ t % 2 = 1 := by
  have := h.1
  rw [Nat.testBit_eq_decide_div_mod_eq] at this
  exact of_decide_eq_true this
theorem less_div {X P q : Nat} (hP : 0 < P) (h : X = P * (q + 1)) : (X - 1) / P = q := by
  rw [Nat.mul_add, Nat.mul_one] at h
  apply Nat.div_eq_of_lt_le
  · rw [Nat.mul_comm]; omega
  · rw [Nat.add_mul, Nat.one_mul, Nat.mul_comm]; omega
theorem low_bit {X k : Nat} (hX : X < 4294967296) (h : IsTwo X k) : X &&& (4294967296 - X) = 2 ^ k := by
  have hp := h.pos
  rw [show 4294967296 - X = 2 ^ 32 - ((X - 1) + 1) by omega]
  apply Nat.eq_of_testBit_eq
  intro i
  rw [Nat.testBit_and, Nat.testBit_two_pow_sub_succ (by omega), Nat.testBit_two_pow]
  have hk : k < 32 := h.lt (by omega)
  have hP := Nat.two_pow_pos k
  obtain ⟨m, hm⟩ : ∃ m, X / 2 ^ k = 2 * m + 1 := ⟨X / 2 ^ k / 2, by have := h.div; omega⟩
  have hX2 : X = 2 ^ k * (2 * m + 1) := by
    have := Nat.div_add_mod X (2 ^ k)
    rw [h.mod, hm, Nat.add_zero] at this
    exact this.symm
  have hl := less_div hP hX2
  rcases Nat.lt_trichotomy i k with h1 | h1 | h1
  · rw [h.2 i h1]
    simp; omega
  · subst h1
    have e : (X - 1).testBit i = false := by
      rw [Nat.testBit_eq_decide_div_mod_eq, hl]
      exact decide_eq_false (by omega)
    rw [h.1, e]
    simp [hk]
  · obtain ⟨j, rfl⟩ : ∃ j, i = k + (j + 1) := ⟨i - k - 1, by omega⟩
    have e : (X - 1).testBit (k + (j + 1)) = X.testBit (k + (j + 1)) := by
      rw [Nat.testBit_eq_decide_div_mod_eq, Nat.testBit_eq_decide_div_mod_eq, Nat.pow_add, ← Nat.div_div_eq_div_mul, ← Nat.div_div_eq_div_mul, hl, hm, Nat.pow_succ, Nat.mul_comm (2 ^ j) 2, ← Nat.div_div_eq_div_mul, ← Nat.div_div_eq_div_mul]
      rw [show 2 * m / 2 = m by omega, show (2 * m + 1) / 2 = m by omega]
    rw [e]
    cases X.testBit (k + (j + 1)) <;> simp <;> omega
theorem and_neg {X k : Nat} (hX : X < 4294967296) (h : IsTwo X k) : bits BinOp.and IntKind.u32 (X : Int) (-(X : Int) % 4294967296) = ((2 ^ k : Nat) : Int) := by
  have hp := h.pos
  have hk : k < 32 := h.lt (by omega)
  show IntKind.u32.wrap ((BitVec.ofInt 32 (X : Int) &&& BitVec.ofInt 32 (-(X : Int) % 4294967296)).toNat : Int) = _
  rw [BitVec.toNat_and, BitVec.toNat_ofInt, BitVec.toNat_ofInt]
  rw [show ((X : Int) % ((2 ^ 32 : Nat) : Int)).toNat = X by omega, show (-(X : Int) % 4294967296 % ((2 ^ 32 : Nat) : Int)).toNat = 4294967296 - X by omega, low_bit hX h]
  have : (2 : Nat) ^ k < 2 ^ 32 := Nat.pow_lt_pow_right (by omega) hk
  simp only [IntKind.wrap, IntKind.bits, IntKind.signed]
  generalize (2 : Nat) ^ k = Z at *
  simp
  omega
def tab : List Int := [0, 1, 28, 2, 29, 14, 24, 3, 30, 22, 20, 15, 25, 17, 4, 8, 31, 27, 13, 23, 21, 19, 16, 7, 26, 12, 18, 6, 11, 5, 10, 9]
theorem tab_all : ∀ k : Nat, k < 32 → 2 ^ k * 125613361 % 4294967296 / 134217728 < 32 ∧ tab.getD (2 ^ k * 125613361 % 4294967296 / 134217728) 0 = (k : Int) := by decide
/-- A bit of a list of limbs. -/
theorem val_bit (A : List Nat) (hA : Small A) (i p : Nat) (hp : p < 32) : (val A).testBit (32 * i + p) = (A.getD i 0).testBit p := by
  rw [Nat.testBit_eq_decide_div_mod_eq, Nat.pow_add, ← Nat.div_div_eq_div_mul, show (2 : Nat) ^ (32 * i) = 4294967296 ^ i by rw [Nat.pow_mul], val_drop A hA]
  rcases Nat.lt_or_ge i A.length with h | h
  · rw [List.drop_eq_getElem_cons h]
    have e : A.getD i 0 = A[i] := by simp [h]
    rw [e]
    show decide ((A[i] + 4294967296 * val (A.drop (i + 1))) / 2 ^ p % 2 = 1) = _
    rw [← Nat.testBit_eq_decide_div_mod_eq, show (4294967296 : Nat) = 2 ^ 32 by rfl]
    have hlt : A[i] < 2 ^ 32 := hA _ (List.getElem_mem _)
    rw [Nat.add_comm, Nat.testBit_two_pow_mul_add _ hlt, if_pos hp]
  · rw [List.drop_eq_nil_of_le h, show A.getD i 0 = 0 by simp [h]]
    simp [val]
theorem val_bit_out (A : List Nat) (hA : Small A) (n : Nat) (h : 32 * A.length ≤ n) : (val A).testBit n = false := by
  apply Nat.testBit_lt_two_pow
  have h1 := val_lt A hA
  rw [show (4294967296 : Nat) ^ A.length = 2 ^ (32 * A.length) by rw [Nat.pow_mul]] at h1
  exact Nat.lt_of_lt_of_le h1 (Nat.pow_le_pow_right (by omega) h)
theorem two_of (A : List Nat) (hA : Small A) (i k : Nat) (hz : ∀ j, j < i → A.getD j 0 = 0) (h : IsTwo (A.getD i 0) k) (hk : k < 32) : IsTwo (val A) (32 * i + k) := by
  refine ⟨by rw [val_bit A hA i k hk]; exact h.1, fun j hj => ?_⟩
  have e : j = 32 * (j / 32) + j % 32 := by omega
  rw [e, val_bit A hA _ _ (by omega)]
  rcases Nat.lt_or_ge (j / 32) i with h1 | h1
  · rw [hz _ h1]; simp
  · rw [show j / 32 = i by omega]
    exact h.2 _ (by omega)
theorem val_nought (A : List Nat) (h : ∀ j, j < A.length → A.getD j 0 = 0) : val A = 0 := by
  apply val_zero
  intro x hx
  obtain ⟨i, hi, rfl⟩ := List.getElem_of_mem hx
  have := h i hi
  simpa [hi] using this
end Go.Proofs.YtjehfgfgnijkoaaDoor.TwoN
