/- Plain facts on naturals as lists of limbs of 32 bits and as lists of bits, the lowest first. No program is named here; Decimal digits of a natural, as bytes; Plain facts on products and quotients of lists of limbs. No program is named here; Plain facts on quotients: by one limb, and by many with a guess at each limb. No program is named here; Numbers behind Lehmer's steps. No program is named here. -/
import Derived.WalkKit
import Derived.OpenShut
import Derived.Laws.BitsAllLaws
import Derived.Laws.MathBits
/- Plain facts on naturals as lists of limbs of 32 bits and as lists of bits, the lowest first. No program is named here. -/
namespace Go.Proofs.YtefckmkcbgckfaaGreatDoor.LimbNum
open Go.RowKit

/-- The number of a list of limbs. -/
def val : List Nat → Nat
  | [] => 0
  | x :: t => x + 4294967296 * val t
/-- The number of a list of bits. -/
def fromL : List Bool → Nat
  | [] => 0
  | b :: t => b.toNat + 2 * fromL t
/-- The limbs of a number, none at the end nought. -/
def nl (N : Nat) : List Nat := if N = 0 then [] else (N % 4294967296) :: nl (N / 4294967296)
termination_by N
decreasing_by omega
/-- The bits of a number, none at the end nought. -/
def nb (N : Nat) : List Bool := if N = 0 then [] else decide (N % 2 = 1) :: nb (N / 2)
termination_by N
decreasing_by omega
/-- Every limb is below 2^32. -/
def Small (A : List Nat) : Prop := ∀ x ∈ A, x < 4294967296

theorem nl_zero : nl 0 = [] := by rw [nl, if_pos rfl]
theorem nb_zero : nb 0 = [] := by rw [nb, if_pos rfl]
theorem nl_pos {N : Nat} (h : N ≠ 0) : nl N = (N % 4294967296) :: nl (N / 4294967296) := by rw [nl, if_neg h]
theorem nb_pos {N : Nat} (h : N ≠ 0) : nb N = decide (N % 2 = 1) :: nb (N / 2) := by rw [nb, if_neg h]
theorem val_nl (N : Nat) : val (nl N) = N := by
  induction N using Nat.strongRecOn with
  | ind N ih =>
    by_cases h : N = 0
    · subst h; rw [nl_zero]; rfl
    · rw [nl_pos h, val, ih _ (by omega)]; omega
theorem fromL_nb (N : Nat) : fromL (nb N) = N := by
  induction N using Nat.strongRecOn with
  | ind N ih =>
    by_cases h : N = 0
    · subst h; rw [nb_zero]; rfl
    · rw [nb_pos h, fromL, ih _ (by omega)]
      by_cases h2 : N % 2 = 1 <;> simp [h2] <;> omega
theorem small_nl (N : Nat) : Small (nl N) := by
  induction N using Nat.strongRecOn with
  | ind N ih =>
    by_cases h : N = 0
    · subst h; rw [nl_zero]; intro x hx; simp at hx
    · rw [nl_pos h]; intro x hx
      simp only [List.mem_cons] at hx
      rcases hx with rfl | hx
      · omega
      · exact ih _ (by omega) x hx
theorem val_append (a b : List Nat) : val (a ++ b) = val a + 4294967296 ^ a.length * val b := by
  induction a with
  | nil => simp [val]
  | cons x t ih => rw [List.cons_append, val, ih, val, List.length_cons, Nat.pow_succ, Nat.mul_add, Nat.mul_comm (4294967296 ^ t.length) 4294967296, Nat.mul_assoc]; omega
theorem fromL_append (a b : List Bool) : fromL (a ++ b) = fromL a + 2 ^ a.length * fromL b := by
  induction a with
  | nil => simp [fromL]
  | cons x t ih => rw [List.cons_append, fromL, ih, fromL, List.length_cons, Nat.pow_succ, Nat.mul_add, Nat.mul_comm (2 ^ t.length) 2, Nat.mul_assoc]; omega
theorem val_lt (A : List Nat) (h : Small A) : val A < 4294967296 ^ A.length := by
  induction A with
  | nil => simp [val]
  | cons x t ih =>
    have h1 := h x (by simp)
    have h2 := ih (fun y hy => h y (by simp [hy]))
    rw [val, List.length_cons, Nat.pow_succ]; omega
theorem fromL_lt (l : List Bool) : fromL l < 2 ^ l.length := by
  induction l with
  | nil => simp [fromL]
  | cons b t ih => rw [List.length_cons, Nat.pow_succ]; cases b <;> simp [fromL] <;> omega
theorem val_zero (A : List Nat) (h : ∀ x ∈ A, x = 0) : val A = 0 := by
  induction A with
  | nil => rfl
  | cons x t ih => rw [val, ih (fun y hy => h y (by simp [hy])), h x (by simp)]
theorem fromL_zero (l : List Bool) (h : ∀ x ∈ l, x = false) : fromL l = 0 := by
  induction l with
  | nil => rfl
  | cons x t ih => rw [fromL, ih (fun y hy => h y (by simp [hy])), h x (by simp)]; rfl
theorem nl_norm (A : List Nat) (h : Small A) (hl : A = [] ∨ A.getLast? ≠ some 0) : nl (val A) = A ∧ (A ≠ [] → val A ≠ 0) := by
  induction A with
  | nil => exact ⟨nl_zero, by simp⟩
  | cons x t ih =>
    have hx := h x (by simp)
    have h2 : t = [] ∨ t.getLast? ≠ some 0 := by
      cases t with
      | nil => left; rfl
      | cons y s => right; rcases hl with hl | hl; simp at hl; simpa [List.getLast?_cons] using hl
    obtain ⟨i1, i2⟩ := ih (fun y hy => h y (by simp [hy])) h2
    have hv : val (x :: t) ≠ 0 := by
      rw [val]
      cases t with
      | nil => rcases hl with hl | hl; simp at hl; simp at hl; simp [val]; omega
      | cons y s => have := i2 (by simp); omega
    refine ⟨?_, fun _ => hv⟩
    rw [nl_pos hv, val, show (x + 4294967296 * val t) % 4294967296 = x by omega, show (x + 4294967296 * val t) / 4294967296 = val t by omega, i1]
theorem nb_norm (l : List Bool) (hl : l = [] ∨ l.getLast? ≠ some false) : nb (fromL l) = l ∧ (l ≠ [] → fromL l ≠ 0) := by
  induction l with
  | nil => exact ⟨nb_zero, by simp⟩
  | cons x t ih =>
    have h2 : t = [] ∨ t.getLast? ≠ some false := by
      cases t with
      | nil => left; rfl
      | cons y s => right; rcases hl with hl | hl; simp at hl; simpa [List.getLast?_cons] using hl
    obtain ⟨i1, i2⟩ := ih h2
    have hv : fromL (x :: t) ≠ 0 := by
      rw [fromL]
      cases t with
      | nil => rcases hl with hl | hl; simp at hl; simp at hl; simp [fromL, hl]
      | cons y s => have := i2 (by simp); omega
    refine ⟨?_, fun _ => hv⟩
    rw [nb_pos hv, fromL]
    have e1 : (x.toNat + 2 * fromL t) / 2 = fromL t := by cases x <;> simp <;> omega
    have e2 : decide ((x.toNat + 2 * fromL t) % 2 = 1) = x := by cases x <;> simp <;> omega
    rw [e1, e2, i1]
theorem last_take {α : Type} (l : List α) (n : Nat) (d : α) (h : 1 ≤ n) (hn : n ≤ l.length) : (l.take n).getLast? = some (l.getD (n - 1) d) := by
  rw [List.getLast?_eq_getElem?, List.length_take, Nat.min_eq_left hn, List.getElem?_take, if_pos (by omega)]
  simp [show n - 1 < l.length by omega]
/-- Cut where what is behind is nought. -/
theorem trim_is (A : List Nat) (n : Nat) (h : Small A) (hn : n ≤ A.length) (hz : ∀ i, n ≤ i → i < A.length → A.getD i 0 = 0) (hl : n = 0 ∨ A.getD (n - 1) 0 ≠ 0) : A.take n = nl (val A) := by
  have e : val A = val (A.take n) := by
    have h1 := val_append (A.take n) (A.drop n)
    rw [List.take_append_drop] at h1
    rw [h1, val_zero (A.drop n), Nat.mul_zero, Nat.add_zero]
    intro x hx
    obtain ⟨i, hi, rfl⟩ := List.getElem_of_mem hx
    rw [List.getElem_drop]
    simp only [List.length_drop] at hi
    have := hz (n + i) (by omega) (by omega)
    simpa [show n + i < A.length by omega] using this
  rw [e]
  refine (nl_norm _ (fun x hx => h x (List.mem_of_mem_take hx)) ?_).1.symm
  rcases Nat.eq_zero_or_pos n with h0 | h0
  · left; rw [h0]; rfl
  · right; rw [last_take A n 0 h0 hn]
    rcases hl with hl | hl
    · omega
    · simpa using hl
theorem cut_is (l : List Bool) (n : Nat) (hn : n ≤ l.length) (hz : ∀ i, n ≤ i → i < l.length → l.getD i false = false) (hl : n = 0 ∨ l.getD (n - 1) false = true) : l.take n = nb (fromL l) := by
  have e : fromL l = fromL (l.take n) := by
    have h1 := fromL_append (l.take n) (l.drop n)
    rw [List.take_append_drop] at h1
    rw [h1, fromL_zero (l.drop n), Nat.mul_zero, Nat.add_zero]
    intro x hx
    obtain ⟨i, hi, rfl⟩ := List.getElem_of_mem hx
    rw [List.getElem_drop]
    simp only [List.length_drop] at hi
    have := hz (n + i) (by omega) (by omega)
    simpa [show n + i < l.length by omega] using this
  rw [e]
  refine (nb_norm _ ?_).1.symm
  rcases Nat.eq_zero_or_pos n with h0 | h0
  · left; rw [h0]; rfl
  · right; rw [last_take l n false h0 hn]
    rcases hl with hl | hl
    · omega
    · rw [hl]; simp
theorem nl_len (A : List Nat) (h : Small A) : (nl (val A)).length ≤ A.length := by
  have key : ∀ (k N : Nat), N < 4294967296 ^ k → (nl N).length ≤ k := by
    intro k
    induction k with
    | zero => intro N hN; have : N = 0 := by simpa using hN
              subst this; rw [nl_zero]; simp
    | succ k ih =>
      intro N hN
      by_cases h0 : N = 0
      · subst h0; rw [nl_zero]; simp
      · rw [nl_pos h0, List.length_cons]
        have := ih (N / 4294967296) (by rw [Nat.pow_succ] at hN; omega)
        omega
  exact key _ _ (val_lt A h)
theorem nl_lt (k N : Nat) (hN : N < 4294967296 ^ k) : (nl N).length ≤ k := by
  induction k generalizing N with
  | zero => have : N = 0 := by simpa using hN
            subst this; rw [nl_zero]; simp
  | succ k ih =>
    by_cases h0 : N = 0
    · subst h0; rw [nl_zero]; simp
    · rw [nl_pos h0, List.length_cons]
      have := ih (N / 4294967296) (by rw [Nat.pow_succ] at hN; omega)
      omega
theorem nb_lt (k N : Nat) (hN : N < 2 ^ k) : (nb N).length ≤ k := by
  induction k generalizing N with
  | zero => have : N = 0 := by simpa using hN
            subst this; rw [nb_zero]; simp
  | succ k ih =>
    by_cases h0 : N = 0
    · subst h0; rw [nb_zero]; simp
    · rw [nb_pos h0, List.length_cons]
      have := ih (N / 2) (by rw [Nat.pow_succ] at hN; omega)
      omega
theorem nl_nil {N : Nat} (h : (nl N).length = 0) : N = 0 := by
  have := val_nl N
  rw [List.length_eq_zero_iff.1 h] at this
  exact this.symm
theorem nl_last (N : Nat) (h : N ≠ 0) : 1 ≤ (nl N).length ∧ (nl N).getD ((nl N).length - 1) 0 ≠ 0 := by
  induction N using Nat.strongRecOn with
  | ind N ih =>
    rw [nl_pos h, List.length_cons]
    refine ⟨by omega, ?_⟩
    by_cases h1 : N / 4294967296 = 0
    · rw [h1, nl_zero]; simp; omega
    · obtain ⟨i1, i2⟩ := ih (N / 4294967296) (by omega) h1
      obtain ⟨m, hm⟩ : ∃ m, (nl (N / 4294967296)).length = m + 1 := ⟨(nl (N / 4294967296)).length - 1, by omega⟩
      rw [hm] at i2 ⊢
      simpa using i2
theorem val_take (A : List Nat) (k : Nat) (h : k < A.length) : val (A.take (k + 1)) = val (A.take k) + 4294967296 ^ k * A.getD k 0 := by
  rw [List.take_succ_eq_append_getElem h, val_append, List.length_take, Nat.min_eq_left (by omega)]
  simp [val, h]
theorem val_take_out (A : List Nat) (k : Nat) (h : A.length ≤ k) : val (A.take (k + 1)) = val (A.take k) + 4294967296 ^ k * A.getD k 0 := by
  rw [List.take_of_length_le (by omega), List.take_of_length_le h]; simp [h]
theorem val_take_any (A : List Nat) (k : Nat) : val (A.take (k + 1)) = val (A.take k) + 4294967296 ^ k * A.getD k 0 := by
  rcases Nat.lt_or_ge k A.length with h | h
  · exact val_take A k h
  · exact val_take_out A k h
theorem getD_small (A : List Nat) (h : Small A) (k : Nat) : A.getD k 0 < 4294967296 := by
  rcases Nat.lt_or_ge k A.length with h1 | h1
  · have : A.getD k 0 = A[k] := by simp [h1]
    rw [this]; exact h _ (List.getElem_mem h1)
  · simp [h1]
theorem val_drop (A : List Nat) (h : Small A) (i : Nat) : val A / 4294967296 ^ i = val (A.drop i) := by
  induction i generalizing A with
  | zero => simp
  | succ i ih =>
    cases A with
    | nil => simp [val]
    | cons x t =>
      have hx := h x (by simp)
      rw [Nat.pow_succ, Nat.mul_comm, ← Nat.div_div_eq_div_mul, val, show (x + 4294967296 * val t) / 4294967296 = val t by omega, ih t (fun y hy => h y (by simp [hy]))]
      simp
/-- The order of two numbers, as the calls tell it. -/
def cmpV (a b : Nat) : Int := if a < b then -1 else if a = b then 0 else 1
theorem len_nb (N : Nat) : (nb N).length = bitLen N := by
  induction N using Nat.strongRecOn with
  | ind N ih =>
    by_cases h : N = 0
    · subst h; rw [nb_zero]; rfl
    · rw [nb_pos h, List.length_cons, ih _ (by omega)]
      by_cases h1 : N / 2 = 0
      · have : N = 1 := by omega
        subst this; decide
      · have := bitLen_shift N 1 (by simpa using h1)
        simp at this; omega
theorem bitLen_limbs (A : List Nat) (x : Nat) (hA : Small A) (hx : x ≠ 0) : bitLen (val (A ++ [x])) = 32 * A.length + bitLen x := by
  have hv := val_lt A hA
  have e : val (A ++ [x]) / 2 ^ (32 * A.length) = x := by
    rw [val_append, Nat.pow_mul, show (2 : Nat) ^ 32 = 4294967296 by decide, Nat.add_mul_div_left _ _ (Nat.pow_pos (by omega)), Nat.div_eq_of_lt hv]
    simp [val]
  rw [bitLen_shift _ (32 * A.length) (by rw [e]; exact hx), e]
theorem nl_mono (M N : Nat) (h : M ≤ N) : (nl M).length ≤ (nl N).length := by
  have h2 := val_lt (nl N) (small_nl N)
  rw [val_nl] at h2
  exact nl_lt _ M (by omega)
/-- One limb of a difference: x less the borrow less y is o less what is borrowed anew. -/
theorem sub_limb (x y bw : Nat) (hx : x < 4294967296) (hy : y < 4294967296) (hb : bw ≤ 1) :
    ∃ D1 D2 o b2 : Nat, IntKind.u64.wrap ((x : Int) - (bw : Int)) = (D1 : Int) ∧ IntKind.u64.wrap ((D1 : Int) - (y : Int)) = (D2 : Int) ∧ (y = 0 → D2 = D1) ∧ (D2 : Int) % 4294967296 = (o : Int) ∧ (D2 : Int) / 9223372036854775808 = (b2 : Int) ∧
      o < 4294967296 ∧ b2 ≤ 1 ∧ o + bw + y = x + b2 * 4294967296 ∧ D1 ≤ 18446744073709551615 ∧ D2 ≤ 18446744073709551615 := by
  refine ⟨if bw ≤ x then x - bw else 18446744073709551615, if bw + y ≤ x then x - bw - y else x + 18446744073709551616 - bw - y, if bw + y ≤ x then x - bw - y else x + 4294967296 - bw - y, if bw + y ≤ x then 0 else 1, ?_⟩
  refine ⟨?_, ?_, ?_, ?_, ?_, ?_, ?_, ?_, ?_, ?_⟩
  · rw [IntKind.wrap_u64]; split <;> omega
  · rw [IntKind.wrap_u64]; split <;> split <;> omega
  · intro h; subst h; split <;> split <;> omega
  · split <;> omega
  · split <;> omega
  · split <;> omega
  · split <;> omega
  · split <;> omega
  · split <;> omega
  · split <;> omega
theorem sub_step (P Q O : List Nat) (k x y bw o b2 : Nat) (hO : O.length = k) (hx : P.getD k 0 = x) (hy : Q.getD k 0 = y) (h : o + bw + y = x + b2 * 4294967296)
    (hi : val O + val (Q.take k) = val (P.take k) + bw * 4294967296 ^ k) : val (O ++ [o]) + val (Q.take (k + 1)) = val (P.take (k + 1)) + b2 * 4294967296 ^ (k + 1) := by
  rw [val_append, val_take_any, val_take_any, hO, hx, hy, Nat.pow_succ]
  simp only [val, Nat.mul_zero, Nat.add_zero]
  have e : 4294967296 ^ k * o + 4294967296 ^ k * bw + 4294967296 ^ k * y = 4294967296 ^ k * x + b2 * (4294967296 ^ k * 4294967296) := by
    rw [← Nat.mul_add, ← Nat.mul_add, h, Nat.mul_add, Nat.mul_left_comm]
  rw [Nat.mul_comm bw] at hi
  omega
theorem small_push (O : List Nat) (o : Nat) (h : Small O) (ho : o < 4294967296) : Small (O ++ [o]) := by
  intro x hx
  simp only [List.mem_append, List.mem_singleton] at hx
  rcases hx with hx | rfl
  · exact h x hx
  · exact ho
/-- A row that is filled from the left, one limb on. -/
theorem fill_step (O : List Nat) (n k o : Nat) (hO : O.length = k) (hk : k < n) : (O ++ List.replicate (n - k) 0).set k o = O ++ [o] ++ List.replicate (n - (k + 1)) 0 := by
  subst hO
  rw [List.set_append_right _ _ (Nat.le_refl _), Nat.sub_self, show n - O.length = (n - (O.length + 1)) + 1 by omega, List.replicate_succ]
  simp
theorem sub_end (P Q O : List Nat) (bw : Nat) (hO : Small O) (hl : O.length = P.length) (hq : Q.length ≤ P.length) (hle : val Q ≤ val P) (hb : bw ≤ 1)
    (hi : val O + val (Q.take P.length) = val (P.take P.length) + bw * 4294967296 ^ P.length) : val O = val P - val Q := by
  rw [List.take_of_length_le hq, List.take_of_length_le (Nat.le_refl _)] at hi
  have h1 := val_lt O hO
  rw [hl] at h1
  have h2 : bw = 0 := by
    rcases Nat.eq_zero_or_pos bw with h | h
    · exact h
    · have : bw = 1 := by omega
      subst this; omega
  subst h2; omega
/-- The lowest n bits of x. -/
def bl (x n : Nat) : List Bool := (List.range n).map fun i => x.testBit i
theorem bl_length (x n : Nat) : (bl x n).length = n := by simp [bl]
theorem bl_succ (x n : Nat) : bl x (n + 1) = bl x n ++ [x.testBit n] := by simp [bl, List.range_succ]
theorem fromL_bl (x n : Nat) : fromL (bl x n) = x % 2 ^ n := by
  induction n with
  | zero => simp [bl, fromL]; omega
  | succ n ih =>
    rw [bl_succ, fromL_append, ih, bl_length, Nat.mod_pow_succ, Nat.testBit_eq_decide_div_mod_eq]
    simp only [fromL, Nat.mul_zero, Nat.add_zero]
    congr 2
    by_cases h : x / 2 ^ n % 2 = 1
    · simp [h]
    · have : x / 2 ^ n % 2 = 0 := by omega
      simp [this]
theorem bit_of (x k : Nat) : (((x / 2 ^ k : Nat) : Int) % 2 == 1) = x.testBit k := by
  rw [Nat.testBit_eq_decide_div_mod_eq]; generalize x / 2 ^ k = q; rw [Bool.eq_iff_iff]; simp; omega
theorem div_step (X k : Nat) : X / 2 ^ k / 2 = X / 2 ^ (k + 1) := by rw [Nat.div_div_eq_div_mul, Nat.pow_succ]
theorem pow32 (k : Nat) : (2 : Nat) ^ (32 * k) = 4294967296 ^ k := by rw [Nat.pow_mul]
theorem of_step (A : List Nat) (F : List Bool) (k : Nat) (hA : Small A) (hk : k < A.length) (hF : fromL F = val (A.take k)) (hl : F.length = 32 * k) : fromL (F ++ bl (A.getD k 0) 32) = val (A.take (k + 1)) := by
  have hs := getD_small A hA k
  rw [fromL_append, fromL_bl, hF, hl, pow32, val_take A k hk, Nat.mod_eq_of_lt (by omega)]
theorem fromL_drop (l : List Bool) (k : Nat) (h : k < l.length) : fromL (l.drop k) = (l.getD k false).toNat + 2 * fromL (l.drop (k + 1)) := by
  rw [List.drop_eq_getElem_cons h, fromL]; simp [h]
theorem to_step (l : List Bool) (O : List Nat) (k e : Nat) (hO : O.length = k) (hv : val O = fromL (l.take (32 * k))) (he : e = min (32 * k + 32) l.length) (hk : 32 * k < l.length) :
    val (O ++ [fromL ((l.take e).drop (32 * k))]) = fromL (l.take (32 * (k + 1))) ∧ fromL ((l.take e).drop (32 * k)) < 4294967296 := by
  have h1 : l.take (32 * (k + 1)) = l.take e := by
    rcases Nat.lt_or_ge (32 * k + 32) l.length with h | h
    · rw [he, Nat.min_eq_left (by omega)]; congr 1
    · rw [he, Nat.min_eq_right h, List.take_of_length_le (by omega), List.take_of_length_le (Nat.le_refl _)]
  have h2 : l.take (32 * k) = (l.take e).take (32 * k) := by rw [List.take_take, Nat.min_eq_left (by omega)]
  have h3 : (l.take e).length = e := by rw [List.length_take]; omega
  constructor
  · rw [val_append, hO, hv, h1, h2]
    have h4 := fromL_append ((l.take e).take (32 * k)) ((l.take e).drop (32 * k))
    rw [List.take_append_drop, List.length_take, h3, Nat.min_eq_left (by omega), pow32] at h4
    rw [h4]; simp [val]
  · have h5 := fromL_lt ((l.take e).drop (32 * k))
    rw [List.length_drop, h3] at h5
    have h6 : (2 : Nat) ^ (e - 32 * k) ≤ 2 ^ 32 := Nat.pow_le_pow_right (by omega) (by omega)
    omega
theorem nb_bits (N : Nat) : ∀ i, (nb N).getD i false = N.testBit i := by
  induction N using Nat.strongRecOn with
  | ind N ih =>
    intro i
    by_cases h : N = 0
    · subst h; rw [nb_zero]; simp
    · rw [nb_pos h]
      cases i with
      | zero => simp [Nat.testBit_zero]
      | succ i => rw [Nat.testBit_succ, ← ih (N / 2) (by omega) i]; simp
theorem nb_take (N n : Nat) : fromL ((nb N).take n) = N % 2 ^ n := by
  have h1 := fromL_append ((nb N).take n) ((nb N).drop n)
  rw [List.take_append_drop, fromL_nb] at h1
  rcases Nat.lt_or_ge n (nb N).length with h | h
  · rw [List.length_take, Nat.min_eq_left (by omega)] at h1
    have h2 := fromL_lt ((nb N).take n)
    rw [List.length_take, Nat.min_eq_left (by omega)] at h2
    have h3 := congrArg (fun m => m % 2 ^ n) h1
    simp only [Nat.add_mul_mod_self_left, Nat.mod_eq_of_lt h2] at h3
    exact h3.symm
  · rw [List.take_of_length_le h, fromL_nb]
    have h3 := fromL_lt (nb N)
    rw [fromL_nb] at h3
    exact (Nat.mod_eq_of_lt (Nat.lt_of_lt_of_le h3 (Nat.pow_le_pow_right (by omega) h))).symm
theorem add_limb (x y cy : Nat) (hx : x < 4294967296) (hy : y < 4294967296) (hc : cy ≤ 1) :
    ∃ o c2 : Nat, ((x : Int) + (cy : Int) + (y : Int)) % 4294967296 = (o : Int) ∧ ((x : Int) + (cy : Int) + (y : Int)) / 4294967296 = (c2 : Int) ∧ (y = 0 → ((x : Int) + (cy : Int)) % 4294967296 = (o : Int) ∧ ((x : Int) + (cy : Int)) / 4294967296 = (c2 : Int)) ∧
      o < 4294967296 ∧ c2 ≤ 1 ∧ o + c2 * 4294967296 = x + y + cy := by
  refine ⟨(x + cy + y) % 4294967296, (x + cy + y) / 4294967296, ?_, ?_, ?_, ?_, ?_, ?_⟩
  · omega
  · omega
  · intro h; subst h; omega
  · omega
  · omega
  · omega
theorem add_step (P Q O : List Nat) (k x y cy o c2 : Nat) (hO : O.length = k) (hx : P.getD k 0 = x) (hy : Q.getD k 0 = y) (h : o + c2 * 4294967296 = x + y + cy)
    (hi : val O + cy * 4294967296 ^ k = val (P.take k) + val (Q.take k)) : val (O ++ [o]) + c2 * 4294967296 ^ (k + 1) = val (P.take (k + 1)) + val (Q.take (k + 1)) := by
  rw [val_append, val_take_any, val_take_any, hO, hx, hy, Nat.pow_succ]
  simp only [val, Nat.mul_zero, Nat.add_zero]
  have e : 4294967296 ^ k * o + c2 * (4294967296 ^ k * 4294967296) = 4294967296 ^ k * x + 4294967296 ^ k * y + 4294967296 ^ k * cy := by
    rw [← Nat.mul_add, ← Nat.mul_add, ← h, Nat.mul_add, Nat.mul_left_comm]
  rw [Nat.mul_comm cy] at hi
  omega
theorem fromL_take_any (l : List Bool) (k : Nat) : fromL (l.take (k + 1)) = fromL (l.take k) + 2 ^ k * (l.getD k false).toNat := by
  rcases Nat.lt_or_ge k l.length with h | h
  · rw [List.take_succ_eq_append_getElem h, fromL_append, List.length_take, Nat.min_eq_left (by omega)]
    simp [fromL, h]
  · rw [List.take_of_length_le (by omega), List.take_of_length_le h]; simp [h]
theorem badd_step (P Q F : List Bool) (k cy c2 : Nat) (x y z : Bool) (hF : F.length = k) (hx : P.getD k false = x) (hy : Q.getD k false = y) (h : z.toNat + c2 * 2 = x.toNat + y.toNat + cy)
    (hi : fromL F + cy * 2 ^ k = fromL (P.take k) + fromL (Q.take k)) : fromL (F ++ [z]) + c2 * 2 ^ (k + 1) = fromL (P.take (k + 1)) + fromL (Q.take (k + 1)) := by
  rw [fromL_append, fromL_take_any, fromL_take_any, hF, hx, hy, Nat.pow_succ]
  simp only [fromL, Nat.mul_zero, Nat.add_zero]
  have e : 2 ^ k * z.toNat + c2 * (2 ^ k * 2) = 2 ^ k * x.toNat + 2 ^ k * y.toNat + 2 ^ k * cy := by
    rw [← Nat.mul_add, ← Nat.mul_add, ← h, Nat.mul_add, Nat.mul_left_comm]
  rw [Nat.mul_comm cy] at hi
  omega
theorem bsub_step (P Q F : List Bool) (k ow o2 : Nat) (x y z : Bool) (hF : F.length = k) (hx : P.getD k false = x) (hy : Q.getD k false = y) (h : z.toNat + ow + y.toNat = x.toNat + o2 * 2)
    (hi : fromL F + fromL (Q.take k) = fromL (P.take k) + ow * 2 ^ k) : fromL (F ++ [z]) + fromL (Q.take (k + 1)) = fromL (P.take (k + 1)) + o2 * 2 ^ (k + 1) := by
  rw [fromL_append, fromL_take_any, fromL_take_any, hF, hx, hy, Nat.pow_succ]
  simp only [fromL, Nat.mul_zero, Nat.add_zero]
  have e : 2 ^ k * z.toNat + 2 ^ k * ow + 2 ^ k * y.toNat = 2 ^ k * x.toNat + o2 * (2 ^ k * 2) := by
    rw [← Nat.mul_add, ← Nat.mul_add, h, Nat.mul_add, Nat.mul_left_comm]
  rw [Nat.mul_comm ow] at hi
  omega
theorem bsub_end (P Q F : List Bool) (ow : Nat) (hl : F.length = P.length) (hq : Q.length ≤ P.length) (hle : fromL Q ≤ fromL P) (hb : ow ≤ 1)
    (hi : fromL F + fromL (Q.take P.length) = fromL (P.take P.length) + ow * 2 ^ P.length) : fromL F = fromL P - fromL Q := by
  rw [List.take_of_length_le hq, List.take_of_length_le (Nat.le_refl _)] at hi
  have h1 := fromL_lt F
  rw [hl] at h1
  have h2 : ow = 0 := by
    rcases Nat.eq_zero_or_pos ow with h | h
    · exact h
    · have : ow = 1 := by omega
      subst this; omega
  subst h2; omega
theorem nb_mono (M N : Nat) (h : M ≤ N) : (nb M).length ≤ (nb N).length := by
  have h2 := fromL_lt (nb N)
  rw [fromL_nb] at h2
  exact nb_lt _ M (by omega)
theorem nb_len_lt (M N : Nat) (h : (nb M).length < (nb N).length) : M < N := by
  rcases Nat.lt_or_ge M N with h1 | h1
  · exact h1
  · have := nb_mono N M h1; omega
theorem bsplit (P : List Bool) (i : Nat) (h : i < P.length) : fromL P = fromL (P.take i) + 2 ^ i * ((P.getD i false).toNat + 2 * fromL (P.drop (i + 1))) := by
  have h1 := fromL_append (P.take i) (P.drop i)
  rw [List.take_append_drop, List.drop_eq_getElem_cons h, List.length_take, Nat.min_eq_left (by omega), fromL] at h1
  rw [h1]; simp [h]
theorem bcmp_step (P Q : List Bool) (i : Nat) (hl : P.length = Q.length) (h : i < P.length) (hd : P.drop (i + 1) = Q.drop (i + 1)) (hx : P.getD i false = false) (hy : Q.getD i false = true) : fromL P < fromL Q := by
  rw [bsplit P i h, bsplit Q i (by omega), hd, hx, hy]
  have h1 := fromL_lt (P.take i)
  rw [List.length_take, Nat.min_eq_left (by omega)] at h1
  rw [Nat.mul_add (2 ^ i), Nat.mul_add (2 ^ i)]
  simp only [Bool.toNat_false, Bool.toNat_true, Nat.mul_zero, Nat.mul_one]
  omega
end Go.Proofs.YtefckmkcbgckfaaGreatDoor.LimbNum

/- Decimal digits of a natural, as bytes. -/
namespace Go.Proofs.YtefckmkcbgckfaaGreatDoor.DigNum
open LimbNum

/-- The digits of a number, as bytes, the highest first; none of nought. -/
def dl (n : Nat) : List Nat := if n = 0 then [] else dl (n / 10) ++ [48 + n % 10]
termination_by n
decreasing_by omega
theorem dl_zero : dl 0 = [] := by rw [dl]; simp
theorem dl_pos {n : Nat} (h : n ≠ 0) : dl n = dl (n / 10) ++ [48 + n % 10] := by rw [dl, if_neg h]
/-- The number's text: of nought one digit. -/
def tx (n : Nat) : List Nat := if n = 0 then [48] else dl n
/-- The number of a list of digits. -/
def dv (l : List Nat) : Nat := l.foldl (fun a d => 10 * a + (d - 48)) 0
def DG (l : List Nat) : Prop := ∀ d ∈ l, 48 ≤ d ∧ d ≤ 57
theorem dv_push (l : List Nat) (d : Nat) : dv (l ++ [d]) = 10 * dv l + (d - 48) := by simp [dv]
theorem fold_acc (l : List Nat) : ∀ a, l.foldl (fun a d => 10 * a + (d - 48)) a = a * 10 ^ l.length + dv l := by
  induction l with
  | nil => intro a; simp [dv]
  | cons d t ih =>
    intro a
    have h2 : dv (d :: t) = (10 * 0 + (d - 48)) * 10 ^ t.length + dv t := by rw [← ih]; rfl
    rw [List.foldl_cons, ih, h2, List.length_cons, Nat.pow_succ]
    grind
theorem dv_cons (d : Nat) (l : List Nat) : dv (d :: l) = (d - 48) * 10 ^ l.length + dv l := by
  rw [dv, List.foldl_cons, fold_acc]; simp
theorem dv_lt (l : List Nat) (h : DG l) : dv l < 10 ^ l.length := by
  induction l with
  | nil => simp [dv]
  | cons d t ih =>
    have h1 := ih (fun x hx => h x (List.mem_cons_of_mem _ hx))
    have h2 := h d List.mem_cons_self
    rw [dv_cons, List.length_cons, Nat.pow_succ]
    have h3 : (d - 48) * 10 ^ t.length ≤ 9 * 10 ^ t.length := Nat.mul_le_mul_right _ (by omega)
    omega
theorem dv_dl (n : Nat) : dv (dl n) = n := by
  induction n using Nat.strongRecOn with
  | ind n ih =>
    by_cases h : n = 0
    · subst h; rw [dl_zero]; rfl
    · rw [dl_pos h, dv_push, ih (n / 10) (by omega)]; omega
theorem dv_tx (n : Nat) : dv (tx n) = n := by
  unfold tx
  by_cases h : n = 0
  · rw [if_pos h, h]; rfl
  · rw [if_neg h, dv_dl]
theorem dg_dl (n : Nat) : DG (dl n) := by
  induction n using Nat.strongRecOn with
  | ind n ih =>
    by_cases h : n = 0
    · subst h; rw [dl_zero]; intro d hd; simp at hd
    · rw [dl_pos h]
      intro d hd
      rcases List.mem_append.1 hd with h1 | h1
      · exact ih (n / 10) (by omega) d h1
      · simp at h1; omega
theorem dg_tx (n : Nat) : DG (tx n) := by
  unfold tx
  by_cases h : n = 0
  · rw [if_pos h]; intro d hd; simp at hd; omega
  · rw [if_neg h]; exact dg_dl n
theorem dl_nil {n : Nat} (h : dl n = []) : n = 0 := by
  by_cases h0 : n = 0
  · exact h0
  · rw [dl_pos h0] at h; simp at h
theorem tx_pos (n : Nat) : 0 < (tx n).length := by
  unfold tx
  by_cases h : n = 0
  · rw [if_pos h]; simp
  · rw [if_neg h, dl_pos h]; simp
/-- Digits that do not begin with a nought are the number's. -/
theorem dl_is (k : Nat) : ∀ l : List Nat, l.length = k → DG l → (l = [] ∨ l.getD 0 0 ≠ 48) → l = dl (dv l) := by
  induction k with
  | zero =>
    intro l hl _ _
    rw [List.length_eq_zero_iff.1 hl]
    rw [show dv [] = 0 from rfl, dl_zero]
  | succ k ih =>
    intro l hl hd hh
    have hne : l ≠ [] := by intro e; rw [e] at hl; simp at hl
    have e := (List.dropLast_concat_getLast hne).symm
    obtain ⟨m, hm⟩ : ∃ m, m = l.dropLast := ⟨_, rfl⟩
    obtain ⟨d, hd2⟩ : ∃ d, d = l.getLast hne := ⟨_, rfl⟩
    rw [← hm, ← hd2] at e
    have hml : m.length = k := by rw [hm, List.length_dropLast, hl]; omega
    clear hm hd2
    subst e
    have h1 := hd d (by simp)
    have hdm : DG m := fun x hx => hd x (by simp [hx])
    rw [dv_push]
    by_cases hk : m = []
    · subst hk
      have h2 : d ≠ 48 := by
        rcases hh with h | h
        · simp at h
        · simpa using h
      rw [dl_pos (by omega), show dv [] = 0 from rfl, show (10 * 0 + (d - 48)) / 10 = 0 by omega, dl_zero, show 48 + (10 * 0 + (d - 48)) % 10 = d by omega]
    · have h3 : m.getD 0 0 ≠ 48 := by
        rcases hh with h | h
        · simp at h
        · cases m with
          | nil => exact absurd rfl hk
          | cons a t => simpa using h
      have h4 := ih m hml hdm (.inr h3)
      have h5 : dv m ≠ 0 := by intro e5; rw [e5, dl_zero] at h4; exact hk h4
      rw [dl_pos (by omega), show (10 * dv m + (d - 48)) / 10 = dv m by omega, ← h4, show 48 + (10 * dv m + (d - 48)) % 10 = d by omega]
theorem dv_noughts (l : List Nat) (h : ∀ d ∈ l, d = 48) : dv l = 0 := by
  induction l with
  | nil => rfl
  | cons d t ih => rw [dv_cons, ih (fun x hx => h x (List.mem_cons_of_mem _ hx)), h d List.mem_cons_self]; simp
theorem dv_append (a b : List Nat) : dv (a ++ b) = dv a * 10 ^ b.length + dv b := by
  rw [dv, List.foldl_append, fold_acc]; rfl
/-- Leading noughts taken off. -/
theorem dv_drop (l : List Nat) (i : Nat) (h : ∀ j, j < i → l.getD j 0 = 48) (hi : i ≤ l.length) : dv (l.drop i) = dv l := by
  have e : dv l = dv (l.take i ++ l.drop i) := by rw [List.take_append_drop]
  rw [e, dv_append, dv_noughts (l.take i)]
  · omega
  · intro d hd
    obtain ⟨j, hj, e⟩ := List.mem_iff_getElem.1 hd
    simp only [List.length_take] at hj
    have := h j (by omega)
    rw [List.getElem_take] at e
    rw [← e, ← this, List.getD_eq_getElem?_getD, List.getElem?_eq_getElem (by omega)]; rfl
theorem dl_len_le (n k : Nat) (h : n < 10 ^ k) : (dl n).length ≤ k := by
  induction k generalizing n with
  | zero => rw [show n = 0 by simpa using h, dl_zero]; simp
  | succ k ih =>
    by_cases h0 : n = 0
    · subst h0; rw [dl_zero]; simp
    · rw [dl_pos h0, List.length_append]
      have := ih (n / 10) (by rw [Nat.pow_succ] at h; omega)
      simp; omega
theorem small_ten (m : Nat) : (4294967296 : Nat) ^ m ≤ 10 ^ (10 * m) := by
  rw [Nat.pow_mul]; exact Nat.pow_le_pow_left (by decide) m
/-- One digit more in front. -/
theorem text_step (q low c e D : Nat) : (q * 10 ^ (c + 1) + low) * 10 ^ e + D = (q * 10 ^ c + low / 10) * 10 ^ (e + 1) + (low % 10 * 10 ^ e + D) := by
  obtain ⟨x, hx⟩ : ∃ x, x = low / 10 := ⟨_, rfl⟩
  obtain ⟨y, hy⟩ : ∃ y, y = low % 10 := ⟨_, rfl⟩
  have h : low = 10 * x + y := by omega
  rw [← hx, ← hy, h, Nat.pow_succ, Nat.pow_succ]
  grind
theorem text_room (N q e x m : Nat) (hq : 0 < q) (h : N = q * 10 ^ e + x) (hN : N < 4294967296 ^ m) : e < 10 * m := by
  have h1 := small_ten m
  have h2 : 10 ^ e ≤ q * 10 ^ e := Nat.le_mul_of_pos_left _ hq
  exact (Nat.pow_lt_pow_iff_right (by omega : 1 < 10)).1 (by omega)
end Go.Proofs.YtefckmkcbgckfaaGreatDoor.DigNum

/- Plain facts on products and quotients of lists of limbs. No program is named here. -/
namespace Go.Proofs.YtefckmkcbgckfaaGreatDoor.NatNum
open Go.RowKit LimbNum

theorem val_set (O : List Nat) (i v : Nat) (h : i < O.length) : val (O.set i v) + 4294967296 ^ i * O.getD i 0 = val O + 4294967296 ^ i * v := by
  induction O generalizing i with
  | nil => simp at h
  | cons x t ih =>
    cases i with
    | zero => simp [val]; omega
    | succ j =>
      have := ih j (by simpa using h)
      simp only [List.set_cons_succ, val, List.getD_cons_succ, Nat.pow_succ]
      grind
theorem getD_set (O : List Nat) (i j v : Nat) (h : i ≠ j) : (O.set i v).getD j 0 = O.getD j 0 := by
  simp [List.getElem?_set_ne h]
theorem small_put (O : List Nat) (i v : Nat) (h : Small O) (hv : v < 4294967296) : Small (O.set i v) := by
  intro x hx
  rcases List.mem_or_eq_of_mem_set hx with h1 | h1
  · exact h x h1
  · omega
theorem small_noughts (n : Nat) : Small (List.replicate n 0) := by
  intro x hx; have := (List.mem_replicate.1 hx).2; omega
/-- One limb of a product: what stands there, the product of two limbs and the carry fit in 64 bits. -/
theorem mul_limb (x y o c : Nat) (hx : x < 4294967296) (hy : y < 4294967296) (ho : o < 4294967296) (hc : c < 4294967296) :
    x * y + o + c < 18446744073709551616 := by
  have : x * y ≤ 4294967295 * 4294967295 := Nat.mul_le_mul (by omega) (by omega)
  omega
theorem mul_step (O Q : List Nat) (x y c k m T : Nat) (hi : k + m < O.length) (hy : Q.getD m 0 = y)
    (hv : val O + c * 4294967296 ^ (k + m) = T + x * val (Q.take m) * 4294967296 ^ k) :
    val (O.set (k + m) ((x * y + O.getD (k + m) 0 + c) % 4294967296)) + (x * y + O.getD (k + m) 0 + c) / 4294967296 * 4294967296 ^ (k + m + 1) = T + x * val (Q.take (m + 1)) * 4294967296 ^ k := by
  have h1 := val_set O (k + m) ((x * y + O.getD (k + m) 0 + c) % 4294967296) hi
  rw [val_take_any, hy]
  have h2 := Nat.div_add_mod (x * y + O.getD (k + m) 0 + c) 4294967296
  generalize (x * y + O.getD (k + m) 0 + c) % 4294967296 = r at *
  generalize (x * y + O.getD (k + m) 0 + c) / 4294967296 = q at *
  generalize O.getD (k + m) 0 = o at *
  rw [Nat.pow_succ]
  generalize val (O.set (k + m) r) = V at *
  generalize val (Q.take m) = L at *
  have h3 : (4294967296 : Nat) ^ (k + m) = 4294967296 ^ k * 4294967296 ^ m := Nat.pow_add ..
  rw [h3] at h1 hv ⊢
  generalize (4294967296 : Nat) ^ k = K at *
  generalize (4294967296 : Nat) ^ m = M at *
  generalize val O = W at *
  have h4 : K * M * (4294967296 * q + r) = K * M * (x * y + o + c) := by rw [h2]
  grind
theorem mul_last (O : List Nat) (c i S : Nat) (hi : i < O.length) (hz : O.getD i 0 = 0) (hv : val O + c * 4294967296 ^ i = S) : val (O.set i c) = S := by
  have h1 := val_set O i c hi
  rw [hz, Nat.mul_zero, Nat.add_zero, Nat.mul_comm] at h1
  omega
end Go.Proofs.YtefckmkcbgckfaaGreatDoor.NatNum

/- Plain facts on quotients: by one limb, and by many with a guess at each limb. No program is named here. -/
namespace Go.Proofs.YtefckmkcbgckfaaGreatDoor.DivNum
open Go.RowKit LimbNum NatNum

/-- One limb of a quotient by one limb. -/
theorem word_limb (left x v : Nat) (hl : left < v) (hv : v < 4294967296) (hx : x < 4294967296) :
    left * 4294967296 + x < 18446744073709551616 ∧ (left * 4294967296 + x) / v < 4294967296 ∧ (left * 4294967296 + x) % v < v := by
  refine ⟨by omega, ?_, Nat.mod_lt _ (by omega)⟩
  rw [Nat.div_lt_iff_lt_mul (by omega)]
  have : (left + 1) * 4294967296 ≤ v * 4294967296 := Nat.mul_le_mul_right _ hl
  omega
theorem word_step (P D : List Nat) (k v left : Nat) (hk : k < P.length) (h : val (P.drop (k + 1)) = val D * v + left) :
    val (P.drop k) = val (((left * 4294967296 + P.getD k 0) / v) :: D) * v + (left * 4294967296 + P.getD k 0) % v := by
  have h1 := Nat.div_add_mod (left * 4294967296 + P.getD k 0) v
  have e : P.drop k = P.getD k 0 :: P.drop (k + 1) := by rw [List.drop_eq_getElem_cons hk]; simp [hk]
  rw [e, val, val, h]
  generalize (left * 4294967296 + P.getD k 0) / v = q at *
  generalize (left * 4294967296 + P.getD k 0) % v = r at *
  grind
theorem fill_down (D : List Nat) (k q : Nat) : (List.replicate (k + 1) 0 ++ D).set k q = List.replicate k 0 ++ (q :: D) := by
  rw [show k + 1 = k + 1 from rfl, List.replicate_succ', List.append_assoc, List.set_append_right _ _ (by simp)]
  simp
/-- The guess at a limb of a quotient. u: the value of the part (n + 1 limbs), with its highest three limbs U = top * B + u2; v: the divisor, with its highest two limbs. -/
theorem guess_start (u v R qt top high lo vlo : Nat) (hv : v = high * R + vlo) (hu : u = top * R + lo) (hlo : lo < R) (hq : qt * v ≤ u) (hh : 0 < high) : qt ≤ top / high := by
  rw [Nat.le_div_iff_mul_le hh]
  have h1 : qt * high * R ≤ qt * v := by rw [hv, Nat.mul_add, Nat.mul_assoc]; omega
  have h2 : qt * high * R < (top + 1) * R := by rw [Nat.add_mul, Nat.one_mul]; omega
  have := Nat.lt_of_mul_lt_mul_right h2
  omega
theorem guess_too (u v R q qt V2 U lo vlo : Nat) (hv : v = V2 * R + vlo) (hu : u = U * R + lo) (hlo : lo < R) (hq : qt * v ≤ u) (hbig : U < q * V2) : qt < q := by
  have h1 : qt * V2 * R ≤ qt * v := by rw [hv, Nat.mul_add, Nat.mul_assoc]; omega
  have h2 : qt * V2 * R < (U + 1) * R := by rw [Nat.add_mul, Nat.one_mul]; omega
  have h3 := Nat.lt_of_mul_lt_mul_right h2
  have h4 : qt * V2 < q * V2 := by omega
  exact Nat.lt_of_mul_lt_mul_right h4
theorem guess_end (u v R q qt V2 U lo vlo : Nat) (hv : v = V2 * R + vlo) (hvlo : vlo < R) (hu : u = U * R + lo) (hq : u < (qt + 1) * v) (hok : q * V2 ≤ U) (hB : q ≤ 4294967296) (hbig : 4294967296 ≤ V2) : q ≤ qt + 1 := by
  rcases Nat.lt_or_ge (qt + 1) q with h | h
  · exfalso
    have h1 : (qt + 1 + 1) * v ≤ q * v := Nat.mul_le_mul_right _ h
    have h2 : q * v = q * V2 * R + q * vlo := by rw [hv, Nat.mul_add, Nat.mul_assoc]
    have h3 : q * V2 * R ≤ U * R := Nat.mul_le_mul_right _ hok
    have h4 : q * vlo ≤ 4294967296 * vlo := Nat.mul_le_mul_right _ hB
    have h5 : 4294967296 * R ≤ V2 * R := Nat.mul_le_mul_right _ hbig
    have h6 : (qt + 1 + 1) * v = (qt + 1) * v + v := by rw [Nat.add_mul, Nat.one_mul]
    have h7 : 4294967296 * vlo ≤ 4294967296 * R := Nat.mul_le_mul_left _ (by omega)
    omega
  · exact h
/-- One limb of what is left: u less q times w, with a carry and a borrow. -/
theorem take_limb (x w q c b : Nat) (hx : x < 4294967296) (hw : w < 4294967296) (hq : q < 4294967296) (hc : c < 4294967296) (hb : b ≤ 1) :
    ∃ p o b2 c2 D1 D2: Nat, q * w + c = p ∧ p < 18446744073709551616 ∧ p / 4294967296 = c2 ∧ c2 < 4294967296 ∧ IntKind.u64.wrap ((x : Int) - ((p % 4294967296 : Nat) : Int)) = (D1 : Int) ∧ IntKind.u64.wrap ((D1 : Int) - (b : Int)) = (D2 : Int) ∧
      (D2 : Int) % 4294967296 = (o : Int) ∧ (D2 : Int) / 9223372036854775808 = (b2 : Int) ∧ o < 4294967296 ∧ b2 ≤ 1 ∧ o + q * w + c + b = x + (c2 + b2) * 4294967296 ∧ D1 ≤ 18446744073709551615 ∧ D2 ≤ 18446744073709551615 := by
  have hp : q * w ≤ 4294967295 * 4294967295 := Nat.mul_le_mul (by omega) (by omega)
  generalize q * w = m at *
  refine ⟨m + c, if (m + c) % 4294967296 + b ≤ x then x - (m + c) % 4294967296 - b else x + 4294967296 - (m + c) % 4294967296 - b, if (m + c) % 4294967296 + b ≤ x then 0 else 1, (m + c) / 4294967296,
    if (m + c) % 4294967296 ≤ x then x - (m + c) % 4294967296 else x + 18446744073709551616 - (m + c) % 4294967296, if (m + c) % 4294967296 + b ≤ x then x - (m + c) % 4294967296 - b else x + 18446744073709551616 - (m + c) % 4294967296 - b, rfl, by omega, rfl, by omega, ?_, ?_, ?_, ?_, ?_, ?_, ?_, ?_, ?_⟩
  · rw [IntKind.wrap_u64]; split <;> omega
  · rw [IntKind.wrap_u64]; split <;> split <;> omega
  · split <;> omega
  · split <;> omega
  · split <;> omega
  · split <;> omega
  · split <;> omega
  · split <;> omega
  · split <;> omega
theorem take_top (x c b : Nat) (hx : x < 4294967296) (hc : c < 4294967296) (hb : b ≤ 1) :
    ∃ o b2 D1 D2 : Nat, IntKind.u64.wrap ((x : Int) - (c : Int)) = (D1 : Int) ∧ IntKind.u64.wrap ((D1 : Int) - (b : Int)) = (D2 : Int) ∧
      (D2 : Int) % 4294967296 = (o : Int) ∧ (D2 : Int) / 9223372036854775808 = (b2 : Int) ∧ o < 4294967296 ∧ b2 ≤ 1 ∧ o + c + b = x + b2 * 4294967296 ∧ D1 ≤ 18446744073709551615 ∧ D2 ≤ 18446744073709551615 := by
  refine ⟨if c + b ≤ x then x - c - b else x + 4294967296 - c - b, if c + b ≤ x then 0 else 1,
    if c ≤ x then x - c else x + 18446744073709551616 - c, if c + b ≤ x then x - c - b else x + 18446744073709551616 - c - b, ?_, ?_, ?_, ?_, ?_, ?_, ?_, ?_, ?_⟩
  · rw [IntKind.wrap_u64]; split <;> omega
  · rw [IntKind.wrap_u64]; split <;> split <;> omega
  · split <;> omega
  · split <;> omega
  · split <;> omega
  · split <;> omega
  · split <;> omega
  · split <;> omega
  · split <;> omega
end Go.Proofs.YtefckmkcbgckfaaGreatDoor.DivNum

/- Numbers behind Lehmer's steps. No program is named here. -/
namespace Go.Proofs.YtefckmkcbgckfaaGreatDoor.GcdNum
open LimbNum

/-- The steps on the highest bits: a and b, and how often a0 and b0 go into them. -/
structure St (a0 b0 a b sx sy tx ty : Nat) (ev : Bool) : Prop where
  i1 : ty * a + sy * b = a0
  i2 : tx * a + sx * b = b0
  ge : b ≤ a
  pos : 1 ≤ a
  tle : tx ≤ ty
  tpos : 1 ≤ ty
  mono : sy ≤ ty
  sle : sx ≤ sy ∨ (sx = 1 ∧ sy = 0 ∧ tx = 0 ∧ ty = 1)
  det : if ev then sy * tx = sx * ty + 1 else sx * ty = sy * tx + 1
theorem St.start (a0 b0 : Nat) (h : b0 ≤ a0) (h1 : 1 ≤ a0) : St a0 b0 a0 b0 1 0 0 1 false := ⟨by simp, by simp, h, h1, by simp, by simp, by simp, .inr ⟨rfl, rfl, rfl, rfl⟩, by simp⟩
theorem St.step {a0 b0 a b sx sy tx ty : Nat} {ev : Bool} (h : St a0 b0 a b sx sy tx ty ev) (hb : ty ≤ b) : St a0 b0 b (a % b) tx ty (sx + a / b * tx) (sy + a / b * ty) (!ev) := by
  have hb1 : 1 ≤ b := Nat.le_trans h.tpos hb
  have hd := Nat.div_add_mod a b
  have hr := Nat.mod_lt a hb1
  have hq : 1 ≤ a / b := (Nat.one_le_div_iff hb1).2 h.ge
  obtain ⟨q, eq⟩ : ∃ q, q = a / b := ⟨_, rfl⟩
  obtain ⟨r, er⟩ : ∃ r, r = a % b := ⟨_, rfl⟩
  rw [← eq, ← er] at hd
  rw [← er] at hr
  rw [← eq] at hq
  rw [← eq, ← er]
  have h1 := h.i1
  have h2 := h.i2
  refine ⟨?_, ?_, by omega, hb1, ?_, ?_, ?_, .inl h.tle, ?_⟩
  · rw [← hd] at h1; rw [← h1]; grind
  · rw [← hd] at h2; rw [← h2]; grind
  · rcases h.sle with h3 | ⟨rfl, rfl, rfl, rfl⟩
    · exact Nat.add_le_add h3 (Nat.mul_le_mul_left _ h.tle)
    · omega
  · have : 1 * 1 ≤ q * ty := Nat.mul_le_mul hq h.tpos
    omega
  · have : 1 * ty ≤ q * ty := Nat.mul_le_mul_right _ hq
    omega
  · have h3 := h.det
    cases ev with
    | false => simp at h3 ⊢; grind
    | true => simp at h3 ⊢; grind
theorem St.lim {a0 b0 a b sx sy tx ty : Nat} {ev : Bool} (h : St a0 b0 a b sx sy tx ty ev) : ty ≤ a0 ∧ tx ≤ a0 ∧ (1 ≤ b → sy + ty ≤ a0) := by
  have h1 := h.i1
  have h2 : ty * 1 ≤ ty * a := Nat.mul_le_mul_left _ h.pos
  have h3 := h.tle
  refine ⟨by omega, by omega, fun hb => ?_⟩
  have h4 : sy * 1 ≤ sy * b := Nat.mul_le_mul_left _ hb
  omega
/-- Where a step is made, the counts are below 2^32. -/
theorem St.small {a0 b0 a b sx sy tx ty : Nat} {ev : Bool} (h : St a0 b0 a b sx sy tx ty ev) (hb : ty ≤ b) (h0 : a0 < 18446744073709551616) : tx < 4294967296 ∧ ty < 4294967296 := by
  have h1 := h.i1
  have h2 : ty * ty ≤ ty * a := Nat.mul_le_mul_left _ (Nat.le_trans hb h.ge)
  have h3 : ty < 4294967296 := by
    rcases Nat.lt_or_ge ty 4294967296 with h4 | h4
    · exact h4
    · have : 4294967296 * 4294967296 ≤ ty * ty := Nat.mul_le_mul h4 h4
      omega
  exact ⟨Nat.lt_of_le_of_lt h.tle h3, h3⟩
theorem St.small2 {a0 b0 a b sx sy tx ty : Nat} {ev : Bool} (h : St a0 b0 a b sx sy tx ty ev) (hb : ty ≤ b) (h0 : a0 < 18446744073709551616) : sx < 4294967296 ∧ sy < 4294967296 := by
  have h1 := (h.small hb h0).2
  have h2 := h.mono
  rcases h.sle with h3 | ⟨h3, h4, _, _⟩ <;> omega
/-- The pair that is answered: two neighbours at which the steps' condition held. -/
structure Ret (a0 b0 fx fy sx sy : Nat) (ev : Bool) : Prop where
  out : ∃ a b, St a0 b0 a b fx fy sx sy (!ev) ∧ sy ≤ b ∧ b + fy + sy ≤ a
theorem leh_sg {a0 b0 a b sx sy tx ty : Nat} (h : St a0 b0 a b sx sy tx ty false) : sx * a0 = a + sy * b0 ∧ ty * b0 = b + tx * a0 := by
  have h1 := h.i1
  have h2 := h.i2
  have h3 := h.det
  simp at h3
  constructor
  · rw [← h1, ← h2]; grind
  · rw [← h1, ← h2]; grind
theorem leh_sg' {a0 b0 a b sx sy tx ty : Nat} (h : St a0 b0 a b sx sy tx ty true) : sy * b0 = a + sx * a0 ∧ tx * a0 = b + ty * b0 := by
  have h1 := h.i1
  have h2 := h.i2
  have h3 := h.det
  simp at h3
  constructor
  · rw [← h1, ← h2]; grind
  · rw [← h1, ← h2]; grind
theorem leh_ineq {x y a0 b0 M xr yr a b fx fy sx sy : Nat} (hx : x = a0 * M + xr) (hy : y = b0 * M + yr) (h1 : xr ≤ M) (h2 : yr ≤ M) (s1 : fx * a0 = a + fy * b0) (s2 : sy * b0 = b + sx * a0) (hs : sx ≤ sy) (hf : a + fx ≤ a0) (c1 : sy ≤ b) (c2 : b + fy + sy ≤ a) :
    fy * y ≤ fx * x ∧ sx * x ≤ sy * y ∧ sy * y + fy * y ≤ fx * x + sx * x ∧ fx * x ≤ x + fy * y := by
  have e1 : fx * x = a * M + fy * b0 * M + fx * xr := by rw [hx, Nat.mul_add, ← Nat.mul_assoc, s1, Nat.add_mul]
  have e2 : fy * y = fy * b0 * M + fy * yr := by rw [hy, Nat.mul_add, ← Nat.mul_assoc]
  have e3 : sy * y = b * M + sx * a0 * M + sy * yr := by rw [hy, Nat.mul_add, ← Nat.mul_assoc, s2, Nat.add_mul]
  have e4 : sx * x = sx * a0 * M + sx * xr := by rw [hx, Nat.mul_add, ← Nat.mul_assoc]
  have b1 : fy * yr ≤ fy * M := Nat.mul_le_mul_left _ h2
  have b2 : sx * xr ≤ sx * M := Nat.mul_le_mul_left _ h1
  have b3 : sy * yr ≤ sy * M := Nat.mul_le_mul_left _ h2
  have b4 : fx * xr ≤ fx * M := Nat.mul_le_mul_left _ h1
  have b5 : sx * M ≤ sy * M := Nat.mul_le_mul_right _ hs
  have b6 : sy * M ≤ b * M := Nat.mul_le_mul_right _ c1
  have b7 : b * M + fy * M + sy * M ≤ a * M := by rw [← Nat.add_mul, ← Nat.add_mul]; exact Nat.mul_le_mul_right _ c2
  have b8 : a * M + fx * M ≤ a0 * M := by rw [← Nat.add_mul]; exact Nat.mul_le_mul_right _ hf
  rw [e1, e2, e3, e4]
  have hx2 : a0 * M ≤ x := by omega
  generalize fx * xr = p1 at *
  generalize fy * yr = p2 at *
  generalize sx * xr = p3 at *
  generalize sy * yr = p4 at *
  generalize fy * b0 * M = p5 at *
  generalize sx * a0 * M = p6 at *
  generalize a * M = p7 at *
  generalize b * M = p8 at *
  generalize sy * M = p9 at *
  generalize fy * M = p10 at *
  generalize sx * M = p11 at *
  generalize fx * M = p12 at *
  generalize a0 * M = p13 at *
  omega
theorem leh_gcd {x y X Y fx fy sx sy : Nat} (hX : fx * x = X + fy * y) (hY : sy * y = Y + sx * x) (hd : fx * sy = fy * sx + 1) : x = sy * X + fy * Y ∧ y = sx * X + fx * Y ∧ Nat.gcd X Y = Nat.gcd x y := by
  have e1 : x = sy * X + fy * Y := by grind
  have e2 : y = sx * X + fx * Y := by grind
  refine ⟨e1, e2, Nat.dvd_antisymm (Nat.dvd_gcd ?_ ?_) (Nat.dvd_gcd ?_ ?_)⟩
  · rw [e1]; exact Nat.dvd_add (Nat.dvd_trans (Nat.gcd_dvd_left _ _) (Nat.dvd_mul_left _ _)) (Nat.dvd_trans (Nat.gcd_dvd_right _ _) (Nat.dvd_mul_left _ _))
  · rw [e2]; exact Nat.dvd_add (Nat.dvd_trans (Nat.gcd_dvd_left _ _) (Nat.dvd_mul_left _ _)) (Nat.dvd_trans (Nat.gcd_dvd_right _ _) (Nat.dvd_mul_left _ _))
  · have h1 : Nat.gcd x y ∣ fx * x := Nat.dvd_trans (Nat.gcd_dvd_left _ _) (Nat.dvd_mul_left _ _)
    have h2 : Nat.gcd x y ∣ fy * y := Nat.dvd_trans (Nat.gcd_dvd_right _ _) (Nat.dvd_mul_left _ _)
    have h3 := Nat.dvd_sub h1 h2
    rwa [hX, Nat.add_sub_cancel] at h3
  · have h1 : Nat.gcd x y ∣ sy * y := Nat.dvd_trans (Nat.gcd_dvd_right _ _) (Nat.dvd_mul_left _ _)
    have h2 : Nat.gcd x y ∣ sx * x := Nat.dvd_trans (Nat.gcd_dvd_left _ _) (Nat.dvd_mul_left _ _)
    have h3 := Nat.dvd_sub h1 h2
    rwa [hY, Nat.add_sub_cancel] at h3
/-- What a step that was seen on the highest bits does to the whole numbers. -/
structure Near (x y X Y : Nat) : Prop where
  le : Y ≤ X
  top : X ≤ x
  less : X + Y ≤ x
  gcd : Nat.gcd X Y = Nat.gcd x y
theorem Ret.even {x y a0 b0 M xr yr fx fy sx sy : Nat} (h : Ret a0 b0 fx fy sx sy true) (hx : x = a0 * M + xr) (hy : y = b0 * M + yr) (h1 : xr ≤ M) (h2 : yr ≤ M) (hf : 1 ≤ fy) : fy * y ≤ fx * x ∧ sx * x ≤ sy * y ∧ Near x y (fx * x - fy * y) (sy * y - sx * x) := by
  obtain ⟨a, b, hs, c1, c2⟩ := h.out
  simp only [Bool.not_true] at hs
  obtain ⟨s1, s2⟩ := leh_sg hs
  have hle : fx ≤ fy := by rcases hs.sle with h3 | ⟨_, h3, _, _⟩ <;> omega
  have h0 := hs.i1
  have hb : 1 ≤ b := Nat.le_trans hs.tpos c1
  have h4 : 1 * a ≤ sy * a := Nat.mul_le_mul_right _ hs.tpos
  have h5 : fy * 1 ≤ fy * b := Nat.mul_le_mul_left _ hb
  obtain ⟨k1, k2, k3, k4⟩ := leh_ineq hx hy h1 h2 s1 s2 hs.tle (by omega) c1 c2
  have hdet := hs.det
  simp at hdet
  obtain ⟨X, eX⟩ : ∃ X, X = fx * x - fy * y := ⟨_, rfl⟩
  obtain ⟨Y, eY⟩ : ∃ Y, Y = sy * y - sx * x := ⟨_, rfl⟩
  obtain ⟨g1, _, g3⟩ := leh_gcd (x := x) (y := y) (X := X) (Y := Y) (by omega) (by omega) hdet
  rw [← eX, ← eY]
  have h6 : 1 * X ≤ sy * X := Nat.mul_le_mul_right _ hs.tpos
  have h7 : 1 * Y ≤ fy * Y := Nat.mul_le_mul_right _ hf
  exact ⟨k1, k2, by omega, by omega, by omega, g3⟩
theorem Ret.odd {x y a0 b0 M xr yr fx fy sx sy : Nat} (h : Ret a0 b0 fx fy sx sy false) (hx : x = a0 * M + xr) (hy : y = b0 * M + yr) (h1 : xr ≤ M) (h2 : yr ≤ M) (hf : 1 ≤ fy) : fx * x ≤ fy * y ∧ sy * y ≤ sx * x ∧ Near x y (fy * y - fx * x) (sx * x - sy * y) := by
  obtain ⟨a, b, hs, c1, c2⟩ := h.out
  simp only [Bool.not_false] at hs
  obtain ⟨s1, s2⟩ := leh_sg' hs
  have hle : fx ≤ fy := by rcases hs.sle with h3 | ⟨_, h3, _, _⟩ <;> omega
  have h0 := hs.i1
  have hb : 1 ≤ b := Nat.le_trans hs.tpos c1
  have htl := hs.tle
  have h4 : 1 * a ≤ sy * a := Nat.mul_le_mul_right _ hs.tpos
  have h5 : fy * 1 ≤ fy * b := Nat.mul_le_mul_left _ hb
  have k : fx * x ≤ fy * y ∧ sy * y ≤ sx * x ∧ sx * x + fx * x ≤ fy * y + sy * y ∧ fy * y ≤ x + fx * x := by
    have e1 : fy * y = a * M + fx * a0 * M + fy * yr := by rw [hy, Nat.mul_add, ← Nat.mul_assoc, s1, Nat.add_mul]
    have e2 : fx * x = fx * a0 * M + fx * xr := by rw [hx, Nat.mul_add, ← Nat.mul_assoc]
    have e3 : sx * x = b * M + sy * b0 * M + sx * xr := by rw [hx, Nat.mul_add, ← Nat.mul_assoc, s2, Nat.add_mul]
    have e4 : sy * y = sy * b0 * M + sy * yr := by rw [hy, Nat.mul_add, ← Nat.mul_assoc]
    have b1 : fy * yr ≤ fy * M := Nat.mul_le_mul_left _ h2
    have b2 : sx * xr ≤ sx * M := Nat.mul_le_mul_left _ h1
    have b3 : sy * yr ≤ sy * M := Nat.mul_le_mul_left _ h2
    have b4 : fx * xr ≤ fx * M := Nat.mul_le_mul_left _ h1
    have b5 : sx * M ≤ sy * M := Nat.mul_le_mul_right _ htl
    have b5' : fx * M ≤ fy * M := Nat.mul_le_mul_right _ hle
    have b6 : sy * M ≤ b * M := Nat.mul_le_mul_right _ c1
    have b7 : b * M + fy * M + sy * M ≤ a * M := by rw [← Nat.add_mul, ← Nat.add_mul]; exact Nat.mul_le_mul_right _ c2
    have b8 : a * M + fy * M ≤ a0 * M := by rw [← Nat.add_mul]; exact Nat.mul_le_mul_right _ (by omega)
    rw [e1, e2, e3, e4]
    have hx2 : a0 * M ≤ x := by omega
    generalize fx * xr = p1 at *
    generalize fy * yr = p2 at *
    generalize sx * xr = p3 at *
    generalize sy * yr = p4 at *
    generalize fx * a0 * M = p5 at *
    generalize sy * b0 * M = p6 at *
    generalize a * M = p7 at *
    generalize b * M = p8 at *
    generalize sy * M = p9 at *
    generalize fy * M = p10 at *
    generalize sx * M = p11 at *
    generalize fx * M = p12 at *
    generalize a0 * M = p13 at *
    omega
  obtain ⟨k1, k2, k3, k4⟩ := k
  have hdet := hs.det
  simp at hdet
  obtain ⟨X, eX⟩ : ∃ X, X = fy * y - fx * x := ⟨_, rfl⟩
  obtain ⟨Y, eY⟩ : ∃ Y, Y = sx * x - sy * y := ⟨_, rfl⟩
  obtain ⟨_, g1, g3⟩ := leh_gcd (x := y) (y := x) (X := X) (Y := Y) (fx := fy) (fy := fx) (sx := sy) (sy := sx) (by omega) (by omega) (by omega)
  rw [← eX, ← eY]
  have h6 : 1 * X ≤ sy * X := Nat.mul_le_mul_right _ hs.tpos
  have h7 : 1 * Y ≤ fy * Y := Nat.mul_le_mul_right _ hf
  exact ⟨k1, k2, by omega, by omega, by omega, by rw [g3, Nat.gcd_comm]⟩
end Go.Proofs.YtefckmkcbgckfaaGreatDoor.GcdNum

/- Plain facts on long division: what is taken away, put back, and what a round of it leaves. No program is named here. -/
namespace Go.Proofs.YtefckmkcbgckfaaGreatDoor.LongNum
open Go.RowKit LimbNum NatNum DivNum

theorem take_step (U V T : List Nat) (i x w q c b o c2 b2 : Nat) (hT : T.length = i) (hx : U.getD i 0 = x) (hw : V.getD i 0 = w) (h : o + q * w + c + b = x + (c2 + b2) * 4294967296)
    (hi : val T + q * val (V.take i) = val (U.take i) + (c + b) * 4294967296 ^ i) : val (T ++ [o]) + q * val (V.take (i + 1)) = val (U.take (i + 1)) + (c2 + b2) * 4294967296 ^ (i + 1) := by
  rw [val_append, val_take_any, val_take_any, hT, hx, hw, Nat.pow_succ]
  simp only [val, Nat.mul_zero, Nat.add_zero]
  generalize (4294967296 : Nat) ^ i = M at *
  have e : M * (o + q * w + c + b) = M * (x + (c2 + b2) * 4294967296) := by rw [h]
  grind
theorem take_last (U V T : List Nat) (n x q c b o b2 : Nat) (hT : T.length = n) (hU : U.length = n + 1) (hV : V.length = n) (hx : U.getD n 0 = x) (h : o + c + b = x + b2 * 4294967296)
    (hi : val T + q * val (V.take n) = val (U.take n) + (c + b) * 4294967296 ^ n) : val (T ++ [o]) + q * val V = val U + b2 * 4294967296 ^ (n + 1) := by
  have h1 := val_take_any U n
  rw [List.take_of_length_le (Nat.le_of_eq hU), hx] at h1
  rw [List.take_of_length_le (Nat.le_of_eq hV)] at hi
  rw [val_append, hT, h1, Nat.pow_succ]
  simp only [val, Nat.mul_zero, Nat.add_zero]
  generalize (4294967296 : Nat) ^ n = M at *
  have e : M * (o + c + b) = M * (x + b2 * 4294967296) := by rw [h]
  grind
theorem back_last (U V T : List Nat) (n x c o : Nat) (hT : T.length = n) (hTs : Small T) (hU : U.length = n + 1) (hV : V.length = n) (hx : U.getD n 0 = x) (h : o = (x + c) % 4294967296)
    (hi : val T + c * 4294967296 ^ n = val (U.take n) + val (V.take n)) : val (T ++ [o]) = (val U + val V) % 4294967296 ^ (n + 1) := by
  have h1 := val_take_any U n
  rw [List.take_of_length_le (Nat.le_of_eq hU), hx] at h1
  rw [List.take_of_length_le (Nat.le_of_eq hV)] at hi
  have h2 := val_lt T hTs
  rw [hT] at h2
  have h3 := Nat.div_add_mod (x + c) 4294967296
  rw [← h] at h3
  have ho : o < 4294967296 := by omega
  rw [val_append, hT, h1]
  simp only [val, Nat.mul_zero, Nat.add_zero]
  have h4 : val (U.take n) + 4294967296 ^ n * x + val V = val T + 4294967296 ^ n * o + (4294967296 ^ (n + 1)) * ((x + c) / 4294967296) := by
    rw [Nat.pow_succ]
    generalize (4294967296 : Nat) ^ n = M at *
    have e : M * (4294967296 * ((x + c) / 4294967296) + o) = M * (x + c) := by rw [h3]
    grind
  rw [h4, Nat.add_mul_mod_self_left, Nat.mod_eq_of_lt]
  rw [Nat.pow_succ]
  generalize (4294967296 : Nat) ^ n = M at *
  have : M * o ≤ M * 4294967295 := Nat.mul_le_mul_left _ (by omega)
  omega
theorem digit_pos (p v q qt u' E b : Nat) (h0 : qt * v ≤ p) (h1 : p < (qt + 1) * v) (h2 : qt ≤ q) (h3 : q ≤ qt + 1) (h4 : u' < E) (h5 : p < E) (hb : b ≤ 1) (h : u' + q * v = p + b * E) :
    (b = 0 → q = qt ∧ u' = p - qt * v) ∧ (b = 1 → q = qt + 1 ∧ (u' + v) % E = p - qt * v) := by
  have e : (qt + 1) * v = qt * v + v := by rw [Nat.add_mul, Nat.one_mul]
  refine ⟨?_, ?_⟩
  · rintro rfl
    rcases Nat.lt_or_ge qt q with h6 | h6
    · have : q = qt + 1 := by omega
      subst this; omega
    · have : q = qt := by omega
      subst this; omega
  · rintro rfl
    rcases Nat.lt_or_ge qt q with h6 | h6
    · have : q = qt + 1 := by omega
      subst this
      refine ⟨rfl, ?_⟩
      rw [show u' + v = (p - qt * v) + E by omega, Nat.add_mod_right, Nat.mod_eq_of_lt (by omega)]
    · have : q = qt := by omega
      subst this; omega
/-- One round of the long division. -/
theorem round_step (X U' Z : List Nat) (i p v N d D : Nat) (hX : X.length = i) (hXs : Small X) (hZ : val Z = 0) (hu : val U' = p - d * v) (hd : d * v ≤ p) (hd2 : p < (d + 1) * v) (hN : N = val X + 4294967296 ^ i * p + v * 4294967296 ^ (i + 1) * D) :
    N = val (X ++ U' ++ Z) + v * 4294967296 ^ i * (d + 4294967296 * D) ∧ val (X ++ U' ++ Z) < v * 4294967296 ^ i := by
  have e : val (X ++ U' ++ Z) = val X + 4294967296 ^ i * (p - d * v) := by rw [val_append, val_append, hX, hu, hZ, Nat.mul_zero, Nat.add_zero]
  obtain ⟨r, hr⟩ : ∃ r, p = d * v + r := ⟨p - d * v, by omega⟩
  have hrl : r < v := by rw [Nat.add_mul, Nat.one_mul] at hd2; omega
  have hx := val_lt X hXs
  rw [hX] at hx
  rw [e, show p - d * v = r by omega]
  refine ⟨?_, ?_⟩
  · rw [hN, hr, Nat.pow_succ]; grind
  · generalize (4294967296 : Nat) ^ i = M at *
    have h1 : M * (r + 1) ≤ M * v := Nat.mul_le_mul_left _ hrl
    rw [Nat.mul_add, Nat.mul_one] at h1
    rw [Nat.mul_comm v]; omega
theorem set_mid (X T U Z : List Nat) (i j o : Nat) (hX : X.length = i) (hT : T.length = j) (hj : j < U.length) : (X ++ (T ++ U.drop j) ++ Z).set (i + j) o = X ++ ((T ++ [o]) ++ U.drop (j + 1)) ++ Z := by
  subst hX hT
  rw [List.append_assoc, List.set_append_right _ _ (by omega), Nat.add_sub_cancel_left, List.append_assoc, List.set_append_right _ _ (Nat.le_refl _), Nat.sub_self, List.drop_eq_getElem_cons hj]
  generalize U.drop (T.length + 1) = R
  generalize U[T.length] = x
  simp
theorem get_mid (X T U Z : List Nat) (i j : Nat) (hX : X.length = i) (hT : T.length = j) (hj : j < U.length) : (X ++ (T ++ U.drop j) ++ Z).getD (i + j) 0 = U.getD j 0 := by
  subst hX hT
  rw [show U.getD T.length 0 = U[T.length] by simp [hj], List.drop_eq_getElem_cons hj]
  generalize U.drop (T.length + 1) = R
  generalize U[T.length] = x
  simp
end Go.Proofs.YtefckmkcbgckfaaGreatDoor.LongNum

/- Plain facts on the guess at a limb of a quotient. No program is named here. -/
namespace Go.Proofs.YtefckmkcbgckfaaGreatDoor.GuessNum
open Go.RowKit LimbNum NatNum DivNum LongNum

theorem three (U : List Nat) (m : Nat) (h : U.length = m + 3) : val U = (U.getD (m + 2) 0 * 4294967296 + U.getD (m + 1) 0) * 4294967296 * 4294967296 ^ m + U.getD m 0 * 4294967296 ^ m + val (U.take m) := by
  have h1 := val_take_any U (m + 2)
  have h2 := val_take_any U (m + 1)
  have h3 := val_take_any U m
  rw [List.take_of_length_le (by omega)] at h1
  rw [h1, h2, h3]
  rw [Nat.pow_add, Nat.pow_add]
  grind
theorem two (V : List Nat) (m : Nat) (h : V.length = m + 2) : val V = V.getD (m + 1) 0 * 4294967296 * 4294967296 ^ m + V.getD m 0 * 4294967296 ^ m + val (V.take m) := by
  have h2 := val_take_any V (m + 1)
  have h3 := val_take_any V m
  rw [List.take_of_length_le (by omega)] at h2
  rw [h2, h3, Nat.pow_add]
  grind
theorem low_lt (U : List Nat) (hU : Small U) (m : Nat) (h : m ≤ U.length) : val (U.take m) < 4294967296 ^ m := by
  have := val_lt (U.take m) (fun x hx => hU x (List.mem_of_mem_take hx))
  rwa [List.length_take, Nat.min_eq_left h] at this
/-- What is known of the numbers at the start, for whatever their highest limbs. -/
structure Top (u v R top u2 high next lo vlo : Nat) : Prop where
  hu : u = (top * 4294967296 + u2) * R + lo
  hv : v = (high * 4294967296 + next) * R + vlo
  lo_lt : lo < R
  vlo_lt : vlo < R
  u2_lt : u2 < 4294967296
  next_lt : next < 4294967296
  high_lt : high < 4294967296
  high_ge : 2147483648 ≤ high
  small : u < v * 4294967296
theorem top_of (U V : List Nat) (m : Nat) (hU : Small U) (hV : Small V) (h1 : U.length = m + 3) (h2 : V.length = m + 2) (hh : 2147483648 ≤ V.getD (m + 1) 0) (hs : val U < val V * 4294967296) :
    Top (val U) (val V) (4294967296 ^ m) (U.getD (m + 2) 0 * 4294967296 + U.getD (m + 1) 0) (U.getD m 0) (V.getD (m + 1) 0) (V.getD m 0) (val (U.take m)) (val (V.take m)) :=
  ⟨by rw [Nat.add_mul]; exact three U m h1, by rw [Nat.add_mul]; exact two V m h2, low_lt U hU m (by omega), low_lt V hV m (by omega), getD_small U hU m, getD_small V hV m, getD_small V hV (m + 1), hh, hs⟩
theorem Top.lt {u v R top u2 high next lo vlo : Nat} (t : Top u v R top u2 high next lo vlo) : top < (high + 1) * 4294967296 := by
  rcases Nat.lt_or_ge top ((high + 1) * 4294967296) with h | h
  · exact h
  · exfalso
    have h4 := t.next_lt
    have e0 : (high + 1) * 4294967296 * 4294967296 ≤ top * 4294967296 + u2 := Nat.le_trans (Nat.mul_le_mul_right 4294967296 h) (Nat.le_add_right _ _)
    have e1 := Nat.mul_le_mul_right R e0
    have e2 := Nat.mul_le_mul_right R (show high * 4294967296 + next + 1 ≤ (high + 1) * 4294967296 by omega)
    have e3 : v < (high * 4294967296 + next + 1) * R := by
      have h5 := t.vlo_lt
      rw [t.hv, Nat.add_mul _ 1, Nat.one_mul]
      exact Nat.add_lt_add_left h5 _
    have hs := t.small
    have hu := t.hu
    obtain ⟨K, hK⟩ : ∃ K, K = (high + 1) * R := ⟨_, rfl⟩
    have e4 : (high + 1) * 4294967296 * 4294967296 * R = K * 4294967296 * 4294967296 := by rw [hK, Nat.mul_right_comm ((high + 1) * 4294967296), Nat.mul_right_comm (high + 1) 4294967296 R]
    have e5 : (high + 1) * 4294967296 * R = K * 4294967296 := by rw [hK, Nat.mul_right_comm]
    rw [e4] at e1
    rw [e5] at e2
    clear e4 e5 hK
    obtain ⟨P1, hP1⟩ : ∃ P, P = (top * 4294967296 + u2) * R := ⟨_, rfl⟩
    obtain ⟨P2, hP2⟩ : ∃ P, P = (high * 4294967296 + next + 1) * R := ⟨_, rfl⟩
    rw [← hP1] at e1 hu
    rw [← hP2] at e2 e3
    clear hP1 hP2 e0 h
    omega
theorem Top.qt_lt {u v R top u2 high next lo vlo : Nat} (t : Top u v R top u2 high next lo vlo) : u / v < 4294967296 := by
  have hs := t.small
  rw [Nat.div_lt_iff_lt_mul (by rcases Nat.eq_zero_or_pos v with h | h; rw [h] at hs; omega; exact h), Nat.mul_comm]
  exact hs
theorem Top.vpos {u v R top u2 high next lo vlo : Nat} (t : Top u v R top u2 high next lo vlo) : 0 < v := by
  have hs := t.small
  rcases Nat.eq_zero_or_pos v with h | h
  · rw [h] at hs; omega
  · exact h
theorem Top.start {u v R top u2 high next lo vlo : Nat} (t : Top u v R top u2 high next lo vlo) : u / v ≤ top / high ∧ top / high ≤ 4294967297 := by
  have hl := t.lt
  have hh := t.high_ge
  refine ⟨?_, ?_⟩
  · have h1 := Nat.div_mul_le_self u v
    refine guess_start u v (4294967296 * R) (u / v) top high (u2 * R + lo) (next * R + vlo) ?_ ?_ ?_ h1 (by omega)
    · rw [t.hv]; grind
    · rw [t.hu]; grind
    · have := t.lo_lt
      have h2 : (u2 + 1) * R ≤ 4294967296 * R := Nat.mul_le_mul_right _ t.u2_lt
      rw [Nat.add_mul, Nat.one_mul] at h2
      omega
  · have : top / high < 4294967298 := by
      rw [Nat.div_lt_iff_lt_mul (by omega)]
      omega
    omega
theorem Top.too {u v R top u2 high next lo vlo : Nat} (t : Top u v R top u2 high next lo vlo) (q r : Nat) (hq : top = q * high + r) (h : 4294967296 ≤ q ∨ r * 4294967296 + u2 < q * next) : u / v < q := by
  rcases h with h | h
  · have := t.qt_lt; omega
  · refine guess_too u v R q (u / v) (high * 4294967296 + next) (top * 4294967296 + u2) lo vlo t.hv t.hu t.lo_lt (Nat.div_mul_le_self u v) ?_
    have e : q * (high * 4294967296 + next) = q * high * 4294967296 + q * next := by rw [Nat.mul_add, Nat.mul_assoc]
    rw [e, hq, Nat.add_mul, Nat.add_assoc]
    exact Nat.add_lt_add_left h _
theorem Top.fin {u v R top u2 high next lo vlo : Nat} (t : Top u v R top u2 high next lo vlo) (q r : Nat) (hq : top = q * high + r) (hB : q ≤ 4294967296) (h : q * next ≤ r * 4294967296 + u2) : q ≤ u / v + 1 := by
  have h1 : u < (u / v + 1) * v := by rw [Nat.mul_comm]; exact Nat.lt_mul_div_succ u t.vpos
  refine guess_end u v R q (u / v) (high * 4294967296 + next) (top * 4294967296 + u2) lo vlo t.hv t.vlo_lt t.hu h1 ?_ hB (by have := t.high_ge; omega)
  have e : q * (high * 4294967296 + next) = q * high * 4294967296 + q * next := by rw [Nat.mul_add, Nat.mul_assoc]
  rw [e, hq, Nat.add_mul, Nat.add_assoc]
  exact Nat.add_le_add_left h _
theorem Top.brk {u v R top u2 high next lo vlo : Nat} (t : Top u v R top u2 high next lo vlo) (q r : Nat) (hq : top = q * high + r) (hB : q ≤ 4294967296) (h : 4294967296 ≤ r) : q ≤ u / v + 1 ∧ q < 4294967296 := by
  refine ⟨t.fin q r hq hB ?_, ?_⟩
  · have h1 : q * next ≤ 4294967296 * 4294967296 := Nat.mul_le_mul hB (by have := t.next_lt; omega)
    have h2 : 4294967296 * 4294967296 ≤ r * 4294967296 := Nat.mul_le_mul_right _ h
    omega
  · have h1 := t.lt
    rw [hq] at h1
    rcases Nat.lt_or_ge q 4294967296 with h3 | h3
    · exact h3
    · have : 4294967296 * high ≤ q * high := Nat.mul_le_mul_right _ h3
      omega
end Go.Proofs.YtefckmkcbgckfaaGreatDoor.GuessNum

/- Plain facts on lists of limbs that are moved by bits. No program is named here. -/
namespace Go.Proofs.YtefckmkcbgckfaaGreatDoor.ShiftNum
open Go.RowKit LimbNum

theorem and31 (n : Int) : bits BinOp.and IntKind.i64 n 31 = n % 32 := by
  show IntKind.i64.wrap ((BitVec.ofInt 64 n &&& BitVec.ofInt 64 31).toNat : Int) = _
  have e : (BitVec.ofInt 64 31).toNat = 2 ^ 5 - 1 := by decide
  rw [BitVec.toNat_and, e, Nat.and_two_pow_sub_one_eq_mod, BitVec.toNat_ofInt]
  simp [IntKind.wrap, IntKind.bits, IntKind.signed]
  omega
theorem pow_split (p : Nat) (h : p < 32) : (4294967296 : Nat) = 2 ^ (32 - p) * 2 ^ p := by
  rw [← Nat.pow_add, show 32 - p + p = 32 by omega]
theorem shl_limb (x d p : Nat) (hp : p < 32) (hx : x < 4294967296) (hd : d < 2 ^ p) :
    ∃ t lo s hi : Nat, IntKind.u64.wrap ((x : Int) * 2 ^ p) = (t : Int) ∧ (t : Int) % 4294967296 = (lo : Int) ∧ bits BinOp.or IntKind.u32 (d : Int) (lo : Int) = (s : Int) ∧ (t : Int) / 4294967296 = (hi : Int) ∧
      s < 4294967296 ∧ hi < 2 ^ p ∧ hi < 4294967296 ∧ t ≤ 18446744073709551615 ∧ s + 4294967296 * hi = d + x * 2 ^ p := by
  have h1 : (2 : Nat) ^ p ≤ 2 ^ 31 := Nat.pow_le_pow_right (by omega) (by omega)
  have h2 : x * 2 ^ p ≤ 4294967295 * 2 ^ 31 := Nat.mul_le_mul (by omega) h1
  have h3 : x * 2 ^ p < 4294967296 * 2 ^ p := Nat.mul_lt_mul_of_pos_right hx (Nat.two_pow_pos p)
  have h4 : x * 2 ^ p % 4294967296 = x % 2 ^ (32 - p) * 2 ^ p := by
    rw [pow_split p hp, Nat.mul_mod_mul_right]
  have h5 : x % 2 ^ (32 - p) * 2 ^ p + 2 ^ p ≤ 4294967296 := by
    have h6 := Nat.mod_lt x (Nat.two_pow_pos (32 - p))
    have h7 : (x % 2 ^ (32 - p) + 1) * 2 ^ p ≤ 2 ^ (32 - p) * 2 ^ p := Nat.mul_le_mul_right _ h6
    rw [← pow_split p hp, Nat.add_mul] at h7
    omega
  have h8 : x * 2 ^ p / 4294967296 < 2 ^ p := by rw [Nat.div_lt_iff_lt_mul (by omega)]; exact Nat.lt_of_lt_of_eq h3 (Nat.mul_comm _ _)
  refine ⟨x * 2 ^ p, x * 2 ^ p % 4294967296, d + x * 2 ^ p % 4294967296, x * 2 ^ p / 4294967296, ?_, ?_, ?_, ?_, ?_, h8, ?_, ?_, ?_⟩
  · rw [show (x : Int) * 2 ^ p = ((x * 2 ^ p : Nat) : Int) by simp, IntKind.wrap_u64]; omega
  · omega
  · rw [u32_or_nat _ _ (by omega) (by omega), Nat.or_comm, nat_join p _ _ (by rw [h4]; simp) hd, Nat.add_comm]
  · omega
  · rw [h4]; omega
  · omega
  · omega
  · omega
theorem shl_fill (Z : List Nat) (j m d s hi : Nat) (hZ : Z.length = j) : ((Z ++ [d] ++ List.replicate (m + 1) 0).set j s).set (j + 1) hi = Z ++ [s] ++ [hi] ++ List.replicate m 0 := by
  subst hZ
  rw [List.replicate_succ]
  simp
theorem shl_step (P Z : List Nat) (W k p x d s hi : Nat) (hZ : Z.length = k + W) (hk : k < P.length) (hx : P.getD k 0 = x) (h : s + 4294967296 * hi = d + x * 2 ^ p)
    (hv : val (Z ++ [d]) = 4294967296 ^ W * (val (P.take k) * 2 ^ p)) : val (Z ++ [s] ++ [hi]) = 4294967296 ^ W * (val (P.take (k + 1)) * 2 ^ p) := by
  rw [val_take P k hk, hx]
  rw [val_append, hZ] at hv
  rw [List.append_assoc, val_append, hZ]
  simp only [val, List.cons_append, List.nil_append, Nat.mul_zero, Nat.add_zero] at hv ⊢
  have e : 4294967296 ^ (k + W) * (s + 4294967296 * hi) = 4294967296 ^ (k + W) * d + 4294967296 ^ W * (4294967296 ^ k * x * 2 ^ p) := by
    rw [h, Nat.mul_add, Nat.add_comm k W, Nat.pow_add, Nat.mul_assoc (4294967296 ^ W), Nat.mul_assoc (4294967296 ^ W), Nat.mul_assoc (4294967296 ^ k)]
  rw [e, Nat.add_mul, Nat.mul_add, ← hv]
  omega
theorem shl_pow (N W p : Nat) : 4294967296 ^ W * (N * 2 ^ p) = N * 2 ^ (32 * W + p) := by
  rw [Nat.pow_add, pow32, Nat.mul_left_comm]
theorem shr_digit (P : List Nat) (hP : Small P) (W k p V : Nat) (hp : p < 32) (hV : V = val P / 2 ^ (32 * W + p)) :
    V / 4294967296 ^ k % 4294967296 = (P.getD (W + k) 0 + 4294967296 * P.getD (W + k + 1) 0) / 2 ^ p % 4294967296 := by
  have e1 : V / 4294967296 ^ k = val (P.drop (W + k)) / 2 ^ p := by
    rw [hV, Nat.pow_add, pow32, ← Nat.div_div_eq_div_mul, Nat.div_div_eq_div_mul _ (2 ^ p), Nat.mul_comm (2 ^ p), ← Nat.div_div_eq_div_mul, Nat.div_div_eq_div_mul _ (4294967296 ^ W), ← Nat.pow_add, val_drop P hP]
  have e2 : ∃ r, val (P.drop (W + k)) = P.getD (W + k) 0 + 4294967296 * P.getD (W + k + 1) 0 + 4294967296 * 4294967296 * r := by
    refine ⟨val (P.drop (W + k + 1 + 1)), ?_⟩
    have h3 : ∀ j, val (P.drop j) = P.getD j 0 + 4294967296 * val (P.drop (j + 1)) := fun j => by
      rcases Nat.lt_or_ge j P.length with h | h
      · rw [List.drop_eq_getElem_cons h, val]; simp [h]
      · rw [List.drop_eq_nil_of_le h, List.drop_eq_nil_of_le (by omega)]; simp [val, h]
    rw [h3 (W + k), h3 (W + k + 1)]
    omega
  obtain ⟨r, hr⟩ := e2
  rw [e1, hr]
  have e3 : 4294967296 * 4294967296 * r = 2 ^ p * (4294967296 * (2 ^ (32 - p) * r)) := by
    have := pow_split p hp
    have e4 : 4294967296 * 4294967296 * r = 4294967296 * (2 ^ (32 - p) * 2 ^ p) * r := by rw [← this]
    rw [e4, Nat.mul_comm (2 ^ (32 - p)), Nat.mul_left_comm, Nat.mul_assoc, Nat.mul_assoc]
  rw [e3, Nat.add_mul_div_left _ _ (Nat.two_pow_pos p), Nat.add_mul_mod_self_left]
theorem shr_limb (x y p q : Nat) (hx : x < 4294967296) (hy : y < 4294967296) (hq : q = (x + 4294967296 * y) / 2 ^ p % 4294967296) :
    ∃ Y S : Nat, IntKind.u64.wrap ((y : Int) * 4294967296) = (Y : Int) ∧ bits BinOp.or IntKind.u64 (x : Int) (Y : Int) = (S : Int) ∧ ((S : Int) / 2 ^ p) % 4294967296 = (q : Int) ∧ (y = 0 → ((x : Int) / 2 ^ p) % 4294967296 = (q : Int)) ∧ q < 4294967296 := by
  refine ⟨4294967296 * y, x + 4294967296 * y, ?_, ?_, ?_, ?_, ?_⟩
  · rw [IntKind.wrap_u64]; omega
  · rw [u64_or_nat _ _ (by omega) (by omega), Nat.or_comm, nat_join 32 _ _ (by omega) (by omega), Nat.add_comm]
  · rw [show ((x + 4294967296 * y : Nat) : Int) / 2 ^ p = (((x + 4294967296 * y) / 2 ^ p : Nat) : Int) by simp]; omega
  · intro h; subst h; rw [show (x : Int) / 2 ^ p = ((x / 2 ^ p : Nat) : Int) by simp, hq]; simp
  · omega
theorem shr_step (O : List Nat) (V k q : Nat) (hO : O.length = k) (hq : q = V / 4294967296 ^ k % 4294967296) (hv : val O = V % 4294967296 ^ k) : val (O ++ [q]) = V % 4294967296 ^ (k + 1) := by
  rw [val_append, hO, hv, hq, Nat.mod_pow_succ]; simp [val]
theorem shr_end (P : List Nat) (hP : Small P) (W m p V : Nat) (hl : P.length = W + m) (hV : V = val P / 2 ^ (32 * W + p)) : V % 4294967296 ^ m = V := by
  have h1 := val_lt P hP
  rw [hl, Nat.pow_add] at h1
  apply Nat.mod_eq_of_lt
  rw [hV, Nat.pow_add, pow32]
  refine Nat.lt_of_le_of_lt (Nat.div_le_div_left (Nat.le_mul_of_pos_right _ (Nat.two_pow_pos p)) (Nat.pow_pos (by omega))) ?_
  rw [Nat.div_lt_iff_lt_mul (Nat.pow_pos (by omega)), Nat.mul_comm]; exact h1
theorem shr_none (P : List Nat) (hP : Small P) (W p : Nat) (hl : P.length ≤ W) : val P / 2 ^ (32 * W + p) = 0 := by
  have h1 := val_lt P hP
  have h2 : (4294967296 : Nat) ^ P.length ≤ 4294967296 ^ W := Nat.pow_le_pow_right (by omega) hl
  apply Nat.div_eq_of_lt
  rw [Nat.pow_add, pow32]
  exact Nat.lt_of_lt_of_le h1 (Nat.le_trans h2 (Nat.le_mul_of_pos_right _ (Nat.two_pow_pos p)))
end Go.Proofs.YtefckmkcbgckfaaGreatDoor.ShiftNum

/- Products of fractions in lowest terms, divided across ahead of the product. No program is named here. -/
namespace Go.Proofs.YtefckmkcbgckfaaGreatDoor.MulN
open Go.RowKit LimbNum

/-- What is left of the two products is without a common divisor, and what was taken out is the divisor of the whole. -/
theorem across {n1 d1 n2 d2 : Nat} (h1 : Nat.gcd n1 d1 = 1) (h2 : Nat.gcd n2 d2 = 1) (p1 : 1 ≤ d1) (p2 : 1 ≤ d2) :
    n1 / Nat.gcd n1 d2 * (n2 / Nat.gcd n2 d1) = n1 * n2 / Nat.gcd (n1 * n2) (d1 * d2) ∧ d1 / Nat.gcd n2 d1 * (d2 / Nat.gcd n1 d2) = d1 * d2 / Nat.gcd (n1 * n2) (d1 * d2) ∧
    Nat.gcd (n1 / Nat.gcd n1 d2 * (n2 / Nat.gcd n2 d1)) (d1 / Nat.gcd n2 d1 * (d2 / Nat.gcd n1 d2)) = 1 := by
  have g0 : 0 < Nat.gcd n1 d2 := Nat.gcd_pos_of_pos_right _ p2
  have k0 : 0 < Nat.gcd n2 d1 := Nat.gcd_pos_of_pos_right _ p1
  have e1 : n1 = Nat.gcd n1 d2 * (n1 / Nat.gcd n1 d2) := (Nat.mul_div_cancel' (Nat.gcd_dvd_left _ _)).symm
  have e2 : d2 = Nat.gcd n1 d2 * (d2 / Nat.gcd n1 d2) := (Nat.mul_div_cancel' (Nat.gcd_dvd_right _ _)).symm
  have e3 : n2 = Nat.gcd n2 d1 * (n2 / Nat.gcd n2 d1) := (Nat.mul_div_cancel' (Nat.gcd_dvd_left _ _)).symm
  have e4 : d1 = Nat.gcd n2 d1 * (d1 / Nat.gcd n2 d1) := (Nat.mul_div_cancel' (Nat.gcd_dvd_right _ _)).symm
  have c1 : Nat.Coprime (n1 / Nat.gcd n1 d2) (d2 / Nat.gcd n1 d2) := Nat.coprime_div_gcd_div_gcd g0
  have c2 : Nat.Coprime (n2 / Nat.gcd n2 d1) (d1 / Nat.gcd n2 d1) := Nat.coprime_div_gcd_div_gcd k0
  have c3 : Nat.Coprime (n1 / Nat.gcd n1 d2) (d1 / Nat.gcd n2 d1) := Nat.Coprime.coprime_dvd_left (Nat.div_dvd_of_dvd (Nat.gcd_dvd_left _ _)) (Nat.Coprime.coprime_dvd_right (Nat.div_dvd_of_dvd (Nat.gcd_dvd_right _ _)) h1)
  have c4 : Nat.Coprime (n2 / Nat.gcd n2 d1) (d2 / Nat.gcd n1 d2) := Nat.Coprime.coprime_dvd_left (Nat.div_dvd_of_dvd (Nat.gcd_dvd_left _ _)) (Nat.Coprime.coprime_dvd_right (Nat.div_dvd_of_dvd (Nat.gcd_dvd_right _ _)) h2)
  generalize Nat.gcd n1 d2 = g at *
  generalize Nat.gcd n2 d1 = k at *
  generalize n1 / g = x1 at *
  generalize n2 / k = x2 at *
  generalize d1 / k = y1 at *
  generalize d2 / g = y2 at *
  have cc : Nat.Coprime (x1 * x2) (y1 * y2) := Nat.Coprime.mul_left (Nat.Coprime.mul_right c3 c1) (Nat.Coprime.mul_right c2 c4)
  have f1 : n1 * n2 = g * k * (x1 * x2) := by rw [e1, e3]; grind
  have f2 : d1 * d2 = g * k * (y1 * y2) := by rw [e2, e4]; grind
  have f3 : Nat.gcd (n1 * n2) (d1 * d2) = g * k := by rw [f1, f2, Nat.gcd_mul_left, cc, Nat.mul_one]
  have gk : 0 < g * k := Nat.mul_pos g0 k0
  refine ⟨?_, ?_, cc⟩
  · rw [f3, f1, Nat.mul_div_cancel_left _ gk]
  · rw [f3, f2, Nat.mul_div_cancel_left _ gk]
theorem or_zero (a b : Nat) (ha : a < 18446744073709551616) (hb : b < 18446744073709551616) : (bits BinOp.or IntKind.u64 (a : Int) (b : Int) == 0) = (decide (a = 0) && decide (b = 0)) := by
  have e : bits BinOp.or IntKind.u64 (a : Int) (b : Int) = ((a ||| b : Nat) : Int) := by
    show IntKind.u64.wrap ((BitVec.ofInt 64 (a : Int) ||| BitVec.ofInt 64 (b : Int)).toNat : Int) = _
    rw [BitVec.toNat_or, BitVec.toNat_ofInt, BitVec.toNat_ofInt]
    rw [show ((a : Int) % ((2 ^ 64 : Nat) : Int)).toNat = a by omega, show ((b : Int) % ((2 ^ 64 : Nat) : Int)).toNat = b by omega]
    have : a ||| b < 2 ^ 64 := Nat.or_lt_two_pow (by omega) (by omega)
    rw [IntKind.wrap_u64]
    generalize a ||| b = z at *
    omega
  rw [e]
  by_cases h1 : a = 0
  · subst h1
    by_cases h2 : b = 0
    · subst h2; rfl
    · simp [h2]
  · have : a ||| b ≠ 0 := fun h => h1 (by
      apply Nat.eq_of_testBit_eq
      intro i
      have := congrArg (fun z => Nat.testBit z i) h
      simp at this
      simp [this])
    simp [h1]
end Go.Proofs.YtefckmkcbgckfaaGreatDoor.MulN

/- The lowest bit that is set; single bits of a list of limbs. No program is named here. -/
namespace Go.Proofs.YtefckmkcbgckfaaGreatDoor.TwoN
open Go.RowKit LimbNum

/-- t is the place of the lowest bit that is set. -/
def IsTwo (N t : Nat) : Prop := N.testBit t = true ∧ ∀ i, i < t → N.testBit i = false
theorem IsTwo.uniq {N s t : Nat} (h : IsTwo N s) (k : IsTwo N t) : s = t := by
  rcases Nat.lt_trichotomy s t with h1 | h1 | h1
  · have := k.2 s h1; rw [h.1] at this; exact absurd this (by decide)
  · exact h1
  · have := h.2 t h1; rw [k.1] at this; exact absurd this (by decide)
theorem two_some (N : Nat) (h : N ≠ 0) : ∃ t, IsTwo N t := by
  induction N using Nat.strongRecOn with
  | _ N ih =>
    by_cases h1 : N % 2 = 1
    · exact ⟨0, by rw [Nat.testBit_zero]; simp [h1], fun i hi => by omega⟩
    · obtain ⟨t, h2, h3⟩ := ih (N / 2) (by omega) (by omega)
      refine ⟨t + 1, by rw [Nat.testBit_succ]; exact h2, fun i hi => ?_⟩
      cases i with
      | zero => rw [Nat.testBit_zero]; simp [h1]
      | succ i => rw [Nat.testBit_succ]; exact h3 i (by omega)
theorem IsTwo.pos {N t : Nat} (h : IsTwo N t) : N ≠ 0 := by
  rintro rfl
  have := h.1
  simp at this
theorem IsTwo.lt {N t k : Nat} (h : IsTwo N t) (hN : N < 2 ^ k) : t < k := by
  rcases Nat.lt_or_ge t k with h1 | h1
  · exact h1
  · have := Nat.testBit_lt_two_pow (Nat.lt_of_lt_of_le hN (Nat.pow_le_pow_right (by omega) h1))
    rw [h.1] at this
    exact absurd this (by decide)
theorem IsTwo.mod {N t : Nat} (h : IsTwo N t) : N % 2 ^ t = 0 := by
  apply Nat.eq_of_testBit_eq
  intro i
  rw [Nat.testBit_mod_two_pow, Nat.zero_testBit]
  by_cases hi : i < t
  · simp [h.2 i hi]
  · simp [hi]
theorem IsTwo.div {N t : Nat} (h : IsTwo N t) : N / 2 ^ t % 2 = 1 := by
  have := h.1
  rw [Nat.testBit_eq_decide_div_mod_eq] at this
  exact of_decide_eq_true this
theorem less_div {X P q : Nat} (hP : 0 < P) (h : X = P * (q + 1)) : (X - 1) / P = q := by
  rw [Nat.mul_add, Nat.mul_one] at h
  apply Nat.div_eq_of_lt_le
  · rw [Nat.mul_comm]; omega
  · rw [Nat.add_mul, Nat.one_mul, Nat.mul_comm]; omega
theorem low_bit {X k : Nat} (hX : X < 4294967296) (h : IsTwo X k) : X &&& (4294967296 - X) = 2 ^ k := by
  have hp := h.pos
  rw [show 4294967296 - X = 2 ^ 32 - ((X - 1) + 1) by omega]
  apply Nat.eq_of_testBit_eq
  intro i
  rw [Nat.testBit_and, Nat.testBit_two_pow_sub_succ (by omega), Nat.testBit_two_pow]
  have hk : k < 32 := h.lt (by omega)
  have hP := Nat.two_pow_pos k
  obtain ⟨m, hm⟩ : ∃ m, X / 2 ^ k = 2 * m + 1 := ⟨X / 2 ^ k / 2, by have := h.div; omega⟩
  have hX2 : X = 2 ^ k * (2 * m + 1) := by
    have := Nat.div_add_mod X (2 ^ k)
    rw [h.mod, hm, Nat.add_zero] at this
    exact this.symm
  have hl := less_div hP hX2
  rcases Nat.lt_trichotomy i k with h1 | h1 | h1
  · rw [h.2 i h1]
    simp; omega
  · subst h1
    have e : (X - 1).testBit i = false := by
      rw [Nat.testBit_eq_decide_div_mod_eq, hl]
      exact decide_eq_false (by omega)
    rw [h.1, e]
    simp [hk]
  · obtain ⟨j, rfl⟩ : ∃ j, i = k + (j + 1) := ⟨i - k - 1, by omega⟩
    have e : (X - 1).testBit (k + (j + 1)) = X.testBit (k + (j + 1)) := by
      rw [Nat.testBit_eq_decide_div_mod_eq, Nat.testBit_eq_decide_div_mod_eq, Nat.pow_add, ← Nat.div_div_eq_div_mul, ← Nat.div_div_eq_div_mul, hl, hm, Nat.pow_succ, Nat.mul_comm (2 ^ j) 2, ← Nat.div_div_eq_div_mul, ← Nat.div_div_eq_div_mul]
      rw [show 2 * m / 2 = m by omega, show (2 * m + 1) / 2 = m by omega]
    rw [e]
    cases X.testBit (k + (j + 1)) <;> simp <;> omega
theorem and_neg {X k : Nat} (hX : X < 4294967296) (h : IsTwo X k) : bits BinOp.and IntKind.u32 (X : Int) (-(X : Int) % 4294967296) = ((2 ^ k : Nat) : Int) := by
  have hp := h.pos
  have hk : k < 32 := h.lt (by omega)
  show IntKind.u32.wrap ((BitVec.ofInt 32 (X : Int) &&& BitVec.ofInt 32 (-(X : Int) % 4294967296)).toNat : Int) = _
  rw [BitVec.toNat_and, BitVec.toNat_ofInt, BitVec.toNat_ofInt]
  rw [show ((X : Int) % ((2 ^ 32 : Nat) : Int)).toNat = X by omega, show (-(X : Int) % 4294967296 % ((2 ^ 32 : Nat) : Int)).toNat = 4294967296 - X by omega, low_bit hX h]
  have : (2 : Nat) ^ k < 2 ^ 32 := Nat.pow_lt_pow_right (by omega) hk
  simp only [IntKind.wrap, IntKind.bits, IntKind.signed]
  generalize (2 : Nat) ^ k = Z at *
  simp
  omega
def tab : List Int := [0, 1, 28, 2, 29, 14, 24, 3, 30, 22, 20, 15, 25, 17, 4, 8, 31, 27, 13, 23, 21, 19, 16, 7, 26, 12, 18, 6, 11, 5, 10, 9]
theorem tab_all : ∀ k : Nat, k < 32 → 2 ^ k * 125613361 % 4294967296 / 134217728 < 32 ∧ tab.getD (2 ^ k * 125613361 % 4294967296 / 134217728) 0 = (k : Int) := by decide
/-- A bit of a list of limbs. -/
theorem val_bit (A : List Nat) (hA : Small A) (i p : Nat) (hp : p < 32) : (val A).testBit (32 * i + p) = (A.getD i 0).testBit p := by
  rw [Nat.testBit_eq_decide_div_mod_eq, Nat.pow_add, ← Nat.div_div_eq_div_mul, show (2 : Nat) ^ (32 * i) = 4294967296 ^ i by rw [Nat.pow_mul], val_drop A hA]
  rcases Nat.lt_or_ge i A.length with h | h
  · rw [List.drop_eq_getElem_cons h]
    have e : A.getD i 0 = A[i] := by simp [h]
    rw [e]
    show decide ((A[i] + 4294967296 * val (A.drop (i + 1))) / 2 ^ p % 2 = 1) = _
    rw [← Nat.testBit_eq_decide_div_mod_eq, show (4294967296 : Nat) = 2 ^ 32 by rfl]
    have hlt : A[i] < 2 ^ 32 := hA _ (List.getElem_mem _)
    rw [Nat.add_comm, Nat.testBit_two_pow_mul_add _ hlt, if_pos hp]
  · rw [List.drop_eq_nil_of_le h, show A.getD i 0 = 0 by simp [h]]
    simp [val]
theorem val_bit_out (A : List Nat) (hA : Small A) (n : Nat) (h : 32 * A.length ≤ n) : (val A).testBit n = false := by
  apply Nat.testBit_lt_two_pow
  have h1 := val_lt A hA
  rw [show (4294967296 : Nat) ^ A.length = 2 ^ (32 * A.length) by rw [Nat.pow_mul]] at h1
  exact Nat.lt_of_lt_of_le h1 (Nat.pow_le_pow_right (by omega) h)
theorem two_of (A : List Nat) (hA : Small A) (i k : Nat) (hz : ∀ j, j < i → A.getD j 0 = 0) (h : IsTwo (A.getD i 0) k) (hk : k < 32) : IsTwo (val A) (32 * i + k) := by
  refine ⟨by rw [val_bit A hA i k hk]; exact h.1, fun j hj => ?_⟩
  have e : j = 32 * (j / 32) + j % 32 := by omega
  rw [e, val_bit A hA _ _ (by omega)]
  rcases Nat.lt_or_ge (j / 32) i with h1 | h1
  · rw [hz _ h1]; simp
  · rw [show j / 32 = i by omega]
    exact h.2 _ (by omega)
theorem val_nought (A : List Nat) (h : ∀ j, j < A.length → A.getD j 0 = 0) : val A = 0 := by
  apply val_zero
  intro x hx
  obtain ⟨i, hi, rfl⟩ := List.getElem_of_mem hx
  have := h i hi
  simpa [hi] using this
end Go.Proofs.YtefckmkcbgckfaaGreatDoor.TwoN
