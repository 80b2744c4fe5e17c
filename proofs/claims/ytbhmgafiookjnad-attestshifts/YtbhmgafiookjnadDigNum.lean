/- Decimal digits of a natural, as bytes. -/
import Derived.Test.YtbhmgafiookjnadLimbNum
namespace Go.Proofs.Ytbhmgafiookjnad.DigNum
open LimbNum

/-- The digits of a number, as bytes, the highest first; none of nought. -/
def dl (n : Nat) : List Nat := if n = 0 then [] else dl (n / 10) ++ [48 + n % 10]
termination_by n
decreasing_by omega
theorem dl_zero : dl 0 = [] := by rw [dl]; simp
theorem dl_pos {n : Nat} (h : n ≠ 0) : dl n = dl (n / 10) ++ [48 + n % 10] := by rw [dl, if_neg h]
/-- The number's text: of nought one digit. -/
def tx (n : Nat) : List Nat := if n = 0 then [48] else dl n
/-- The number of a list of digits. -/
def dv (l : List Nat) : Nat := l.foldl (fun a d => 10 * a + (d - 48)) 0
def DG (l : List Nat) : Prop := ∀ d ∈ l, 48 ≤ d ∧ d ≤ 57
theorem dv_push (l : List Nat) (d : Nat) : dv (l ++ [d]) = 10 * dv l + (d - 48) := by simp [dv]
theorem fold_acc (l : List Nat) : ∀ a, l.foldl (fun a d => 10 * a + (d - 48)) a = a * 10 ^ l.length + dv l := by
  induction l with
  | nil => intro a; simp [dv]
  | cons d t ih =>
    intro a
    have h2 : dv (d :: t) = (10 * 0 + (d - 48)) * 10 ^ t.length + dv t := by rw [← ih]; rfl
    rw [List.foldl_cons, ih, h2, List.length_cons, Nat.pow_succ]
    grind
theorem dv_cons (d : Nat) (l : List Nat) : dv (d :: l) = (d - 48) * 10 ^ l.length + dv l := by
  rw [dv, List.foldl_cons, fold_acc]; simp
theorem dv_lt (l : List Nat) (h : DG l) : dv l < 10 ^ l.length := by
  induction l with
  | nil => simp [dv]
  | cons d t ih =>
    have h1 := ih (fun x hx => h x (List.mem_cons_of_mem _ hx))
    have h2 := h d List.mem_cons_self
    rw [dv_cons, List.length_cons, Nat.pow_succ]
    have h3 : (d - 48) * 10 ^ t.length ≤ 9 * 10 ^ t.length := Nat.mul_le_mul_right _ (by omega)
    omega
theorem dv_dl (n : Nat) : dv (dl n) = n := by
  induction n using Nat.strongRecOn with
  | ind n ih =>
    by_cases h : n = 0
    · subst h; rw [dl_zero]; rfl
    · rw [dl_pos h, dv_push, ih (n / 10) (by omega)]; omega
theorem dv_tx (n : Nat) : dv (tx n) = n := by
  unfold tx
  by_cases h : n = 0
  · rw [if_pos h, h]; rfl
  · rw [if_neg h, dv_dl]
theorem dg_dl (n : Nat) : DG (dl n) := by
  induction n using Nat.strongRecOn with
  | ind n ih =>
    by_cases h : n = 0
    · subst h; rw [dl_zero]; intro d hd; simp at hd
    · rw [dl_pos h]
      intro d hd
      rcases List.mem_append.1 hd with h1 | h1
      · exact ih (n / 10) (by omega) d h1
      · simp at h1; omega
theorem dg_tx (n : Nat) : DG (tx n) := by
  unfold tx
  by_cases h : n = 0
  · rw [if_pos h]; intro d hd; simp at hd; omega
  · rw [if_neg h]; exact dg_dl n
theorem dl_nil {n : Nat} (h : dl n = []) : n = 0 := by
  by_cases h0 : n = 0
  · exact h0
  · rw [dl_pos h0] at h; simp at h
theorem tx_pos (n : Nat) : 0 < (tx n).length := by
  unfold tx
  by_cases h : n = 0
  · rw [if_pos h]; simp
  · rw [if_neg h, dl_pos h]; simp
/-- Digits that do not begin with a nought are the number's. -/
theorem dl_is (k : Nat) : ∀ l : List Nat, l.length = k → DG l → (l = [] ∨ l.getD 0 0 ≠ 48) → l = dl (dv l) := by
  induction k with
  | zero =>
    intro l hl _ _
    rw [List.length_eq_zero_iff.1 hl]
    rw [show dv [] = 0 from rfl, dl_zero]
  | succ k ih =>
    intro l hl hd hh
    have hne : l ≠ [] := by intro e; rw [e] at hl; simp at hl
    have e := (List.dropLast_concat_getLast hne).symm
    obtain ⟨m, hm⟩ : ∃ m, m = l.dropLast := ⟨_, rfl⟩
    obtain ⟨d, hd2⟩ : ∃ d, d = l.getLast hne := ⟨_, rfl⟩
    rw [← hm, ← hd2] at e
    have hml : m.length = k := by rw [hm, List.length_dropLast, hl]; omega
    clear hm hd2
    subst e
    have h1 := hd d (by simp)
    have hdm : DG m := fun x hx => hd x (by simp [hx])
    rw [dv_push]
    by_cases hk : m = []
    · subst hk
      have h2 : d ≠ 48 := by
        rcases hh with h | h
        · simp at h
        · simpa using h
      rw [dl_pos (by omega), show dv [] = 0 from rfl, show (10 * 0 + (d - 48)) / 10 = 0 by omega, dl_zero, show 48 + (10 * 0 + (d - 48)) % 10 = d by omega]
    · have h3 : m.getD 0 0 ≠ 48 := by
        rcases hh with h | h
        · simp at h
        · cases m with
          | nil => exact absurd rfl hk
          | cons a t => simpa using h
      have h4 := ih m hml hdm (.inr h3)
      have h5 : dv m ≠ 0 := by intro e5; rw [e5, dl_zero] at h4; exact hk h4
      rw [dl_pos (by omega), show (10 * dv m + (d - 48)) / 10 = dv m by omega, ← h4, show 48 + (10 * dv m + (d - 48)) % 10 = d by omega]
theorem dv_noughts (l : List Nat) (h : ∀ d ∈ l, d = 48) : dv l = 0 := by
  induction l with
  | nil => rfl
  | cons d t ih => rw [dv_cons, ih (fun x hx => h x (List.mem_cons_of_mem _ hx)), h d List.mem_cons_self]; simp
theorem dv_append (a b : List Nat) : dv (a ++ b) = dv a * 10 ^ b.length + dv b := by
  rw [dv, List.foldl_append, fold_acc]; rfl
/-- Leading noughts taken off. -/
theorem dv_drop (l : List Nat) (i : Nat) (h : ∀ j, j < i → l.getD j 0 = 48) (hi : i ≤ l.length) : dv (l.drop i) = dv l := by
  have e : dv l = dv (l.take i ++ l.drop i) := by rw [List.take_append_drop]
  rw [e, dv_append, dv_noughts (l.take i)]
  · omega
  · intro d hd
    obtain ⟨j, hj, e⟩ := List.mem_iff_getElem.1 hd
    simp only [List.length_take] at hj
    have := h j (by omega)
    rw [List.getElem_take] at e
    rw [← e, ← this, List.getD_eq_getElem?_getD, List.getElem?_eq_getElem (by omega)]; rfl
theorem dl_len_le (n k : Nat) (h : n < 10 ^ k) : (dl n).length ≤ k := by
  induction k generalizing n with
  | zero => rw [show n = 0 by simpa using h, dl_zero]; simp
  | succ k ih =>
    by_cases h0 : n = 0
    · subst h0; rw [dl_zero]; simp
    · rw [dl_pos h0, List.length_append]
      have := ih (n / 10) (by rw [Nat.pow_succ] at h; omega)
      simp; omega
theorem small_ten (m : Nat) : (4294967296 : Nat) ^ m ≤ 10 ^ (10 * m) := by
  rw [Nat.pow_mul]; exact Nat.pow_le_pow_left (by decide) m
/-- One digit more in front. -/
theorem text_step (q low c e D : Nat) : (q * 10 ^ (c + 1) + low) * 10 ^ e + D = (q * 10 ^ c + low / 10) * 10 ^ (e + 1) + (low % 10 * 10 ^ e + D) := by
  obtain ⟨x, hx⟩ : ∃ x, x = low / 10 := ⟨_, rfl⟩
  obtain ⟨y, hy⟩ : ∃ y, y = low % 10 := ⟨_, rfl⟩
  have h : low = 10 * x + y := by omega
  rw [← hx, ← hy, h, Nat.pow_succ, Nat.pow_succ]
  grind
theorem text_room (N q e x m : Nat) (hq : 0 < q) (h : N = q * 10 ^ e + x) (hN : N < 4294967296 ^ m) : e < 10 * m := by
  have h1 := small_ten m
  have h2 : 10 ^ e ≤ q * 10 ^ e := Nat.le_mul_of_pos_left _ hq
  exact (Nat.pow_lt_pow_iff_right (by omega : 1 < 10)).1 (by omega)
end Go.Proofs.Ytbhmgafiookjnad.DigNum
