/- Plain facts on naturals as lists of limbs of 32 bits and as lists of bits, the lowest first. No program is named here. -/
import Derived.WalkKit
import Derived.OpenShut
import Derived.Laws.BitsAllLaws
import Derived.Laws.MathBits
namespace Go.Proofs.YtjehfgfgnijkoaaDoor.LimbNum
open Go.RowKit

/-- The number of a list of limbs. -/
def val : List Nat → Nat
  | [] => 0
  | x :: t => x + 4294967296 * val t
/-- The number of a list of bits. -/
def fromL : List Bool → Nat
  | [] => 0
  | b :: t => b.toNat + 2 * fromL t
/-- The limbs of a number, none at the end nought. -/
def nl (N : Nat) : List Nat := if N = 0 then [] else (N % 4294967296) :: nl (N / 4294967296)
termination_by N
decreasing_by omega
/-- The bits of a number, none at the end nought. -/
def nb (N : Nat) : List Bool := if N = 0 then [] else decide (N % 2 = 1) :: nb (N / 2)
termination_by N
decreasing_by omega
/-- Every limb is below 2^32. -/
def Small (A : List Nat) : Prop := ∀ x ∈ A, x < 4294967296

theorem nl_zero : nl 0 = [] := by rw [nl, if_pos rfl]
theorem nb_zero : nb 0 = [] := by rw [nb, if_pos rfl]
theorem nl_pos {N : Nat} (h : N ≠ 0) : nl N = (N % 4294967296) :: nl (N / 4294967296) := by rw [nl, if_neg h]
theorem nb_pos {N : Nat} (h : N ≠ 0) : nb N = decide (N % 2 = 1) :: nb (N / 2) := by rw [nb, if_neg h]
theorem val_nl (N : Nat) : val (nl N) = N := by
  induction N using Nat.strongRecOn with
  | ind N ih =>
    by_cases h : N = 0
    · subst h; rw [nl_zero]; rfl
    · rw [nl_pos h, val, ih _ (by omega)]; omega
theorem fromL_nb (N : Nat) : fromL (nb N) = N := by
  induction N using Nat.strongRecOn with
  | ind N ih =>
    by_cases h : N = 0
    · subst h; rw [nb_zero]; rfl
    · rw [nb_pos h, fromL, ih _ (by omega)]
      by_cases h2 : N % 2 = 1 <;> simp [h2] <;> omega
theorem small_nl (N : Nat) : Small (nl N) := by
  induction N using Nat.strongRecOn with
  | ind N ih =>
    by_cases h : N = 0
    · subst h; rw [nl_zero]; intro x hx; simp at hx
    · rw [nl_pos h]; intro x hx
      simp only [List.mem_cons] at hx
      rcases hx with rfl | hx
      · omega
      · exact ih _ (by omega) x hx
theorem val_append (a b : List Nat) : val (a ++ b) = val a + 4294967296 ^ a.length * val b := by
  induction a with
  | nil => simp [val]
  | cons x t ih => rw [List.cons_append, val, ih, val, List.length_cons, Nat.pow_succ, Nat.mul_add, Nat.mul_comm (4294967296 ^ t.length) 4294967296, Nat.mul_assoc]; omega
theorem fromL_append (a b : List Bool) : fromL (a ++ b) = fromL a + 2 ^ a.length * fromL b := by
  induction a with
  | nil => simp [fromL]
  | cons x t ih => rw [List.cons_append, fromL, ih, fromL, List.length_cons, Nat.pow_succ, Nat.mul_add, Nat.mul_comm (2 ^ t.length) 2, Nat.mul_assoc]; omega
theorem val_lt (A : List Nat) (h : Small A) : val A < 4294967296 ^ A.length := by
  induction A with
  | nil => simp [val]
  | cons x t ih =>
    have h1 := h x (by simp)
    have h2 := ih (fun y hy => h y (by simp [hy]))
    rw [val, List.length_cons, Nat.pow_succ]; omega
theorem fromL_lt (l : List Bool) : fromL l < 2 ^ l.length := by
  induction l with
  | nil => simp [fromL]
  | cons b t ih => rw [List.length_cons, Nat.pow_succ]; cases b <;> simp [fromL] <;> omega
theorem val_zero (A : List Nat) (h : ∀ x ∈ A, x = 0) : val A = 0 := by
  induction A with
  | nil => rfl
  | cons x t ih => rw [val, ih (fun y hy => h y (by simp [hy])), h x (by simp)]
theorem fromL_zero (l : List Bool) (h : ∀ x ∈ l, x = false) : fromL l = 0 := by
  induction l with
  | nil => rfl
  | cons x t ih => rw [fromL, ih (fun y hy => h y (by simp [hy])), h x (by simp)]; rfl
theorem nl_norm (A : List Nat) (h : Small A) (hl : A = [] ∨ A.getLast? ≠ some 0) : nl (val A) = A ∧ (A ≠ [] → val A ≠ 0) := by
  induction A with
  | nil => exact ⟨nl_zero, by simp⟩
  | cons x t ih =>
    have hx := h x (by simp)
    have h2 : t = [] ∨ t.getLast? ≠ some 0 := by
      cases t with
      | nil => left; rfl
      | cons y s => right; rcases hl with hl | hl; simp at hl; simpa [List.getLast?_cons] using hl
    obtain ⟨i1, i2⟩ := ih (fun y hy => h y (by simp [hy])) h2
    have hv : val (x :: t) ≠ 0 := by
      rw [val]
      cases t with
      | nil => rcases hl with hl | hl; simp at hl; simp at hl; simp [val]; omega
      | cons y s => have := i2 (by simp); omega
    refine ⟨?_, fun _ => hv⟩
    rw [nl_pos hv, val, show (x + 4294967296 * val t) % 4294967296 = x by omega, show (x + 4294967296 * val t) / 4294967296 = val t by omega, i1]
theorem nb_norm (l : List Bool) (hl : l = [] ∨ l.getLast? ≠ some false) : nb (fromL l) = l ∧ (l ≠ [] → fromL l ≠ 0) := by
  induction l with
  | nil => exact ⟨nb_zero, by simp⟩
  | cons x t ih =>
    have h2 : t = [] ∨ t.getLast? ≠ some false := by
      cases t with
      | nil => left; rfl
      | cons y s => right; rcases hl with hl | hl; simp at hl; simpa [List.getLast?_cons] using hl
    obtain ⟨i1, i2⟩ := ih h2
    have hv : fromL (x :: t) ≠ 0 := by
      rw [fromL]
      cases t with
      | nil => rcases hl with hl | hl; simp at hl; simp at hl; simp [fromL, hl]
      | cons y s => have := i2 (by simp); omega
    refine ⟨?_, fun _ => hv⟩
    rw [nb_pos hv, fromL]
    have e1 : (x.toNat + 2 * fromL t) / 2 = fromL t := by cases x <;> simp <;> omega
    have e2 : decide ((x.toNat + 2 * fromL t) % 2 = 1) = x := by cases x <;> simp <;> omega
    rw [e1, e2, i1]
theorem last_take {α : Type} (l : List α) (n : Nat) (d : α) (h : 1 ≤ n) (hn : n ≤ l.length) : (l.take n).getLast? = some (l.getD (n - 1) d) := by
  rw [List.getLast?_eq_getElem?, List.length_take, Nat.min_eq_left hn, List.getElem?_take, if_pos (by omega)]
  simp [show n - 1 < l.length by omega]
/-- Cut where what is behind is nought. -/
theorem trim_is (A : List Nat) (n : Nat) (h : Small A) (hn : n ≤ A.length) (hz : ∀ i, n ≤ i → i < A.length → A.getD i 0 = 0) (hl : n = 0 ∨ A.getD (n - 1) 0 ≠ 0) : A.take n = nl (val A) := by
  have e : val A = val (A.take n) := by
    have h1 := val_append (A.take n) (A.drop n)
    rw [List.take_append_drop] at h1
    rw [h1, val_zero (A.drop n), Nat.mul_zero, Nat.add_zero]
    intro x hx
    obtain ⟨i, hi, rfl⟩ := List.getElem_of_mem hx
    rw [List.getElem_drop]
    simp only [List.length_drop] at hi
    have := hz (n + i) (by omega) (by omega)
    simpa [show n + i < A.length by omega] using this
  rw [e]
  refine (nl_norm _ (fun x hx => h x (List.mem_of_mem_take hx)) ?_).1.symm
  rcases Nat.eq_zero_or_pos n with h0 | h0
  · left; rw [h0]; rfl
  · right; rw [last_take A n 0 h0 hn]
    rcases hl with hl | hl
    · omega
    · simpa using hl
theorem cut_is (l : List Bool) (n : Nat) (hn : n ≤ l.length) (hz : ∀ i, n ≤ i → i < l.length → l.getD i false = false) (hl : n = 0 ∨ l.getD (n - 1) false = true) : l.take n = nb (fromL l) := by
  have e : fromL l = fromL (l.take n) := by
    have h1 := fromL_append (l.take n) (l.drop n)
    rw [List.take_append_drop] at h1
    rw [h1, fromL_zero (l.drop n), Nat.mul_zero, Nat.add_zero]
    intro x hx
    obtain ⟨i, hi, rfl⟩ := List.getElem_of_mem hx
    rw [List.getElem_drop]
    simp only [List.length_drop] at hi
    have := hz (n + i) (by omega) (by omega)
    simpa [show n + i < l.length by omega] using this
  rw [e]
  refine (nb_norm _ ?_).1.symm
  rcases Nat.eq_zero_or_pos n with h0 | h0
  · left; rw [h0]; rfl
  · right; rw [last_take l n false h0 hn]
    rcases hl with hl | hl
    · omega
    · rw [hl]; simp
theorem nl_len (A : List Nat) (h : Small A) : (nl (val A)).length ≤ A.length := by
  have key : ∀ (k N : Nat), N < 4294967296 ^ k → (nl N).length ≤ k := by
    intro k
    induction k with
    | zero => intro N hN; have : N = 0 := by simpa using hN
              subst this; rw [nl_zero]; simp
    | succ k ih =>
      intro N hN
      by_cases h0 : N = 0
      · subst h0; rw [nl_zero]; simp
      · rw [nl_pos h0, List.length_cons]
        have := ih (N / 4294967296) (by rw [Nat.pow_succ] at hN; omega)
        omega
  exact key _ _ (val_lt A h)
theorem nl_lt (k N : Nat) (hN : N < 4294967296 ^ k) : (nl N).length ≤ k := by
  induction k generalizing N with
  | zero => have : N = 0 := by simpa using hN
            subst this; rw [nl_zero]; simp
  | succ k ih =>
    by_cases h0 : N = 0
    · subst h0; rw [nl_zero]; simp
    · rw [nl_pos h0, List.length_cons]
      have := ih (N / 4294967296) (by rw [Nat.pow_succ] at hN; omega)
      omega
theorem nb_lt (k N : Nat) (hN : N < 2 ^ k) : (nb N).length ≤ k := by
  induction k generalizing N with
  | zero => have : N = 0 := by simpa using hN
            subst this; rw [nb_zero]; simp
  | succ k ih =>
    by_cases h0 : N = 0
    · subst h0; rw [nb_zero]; simp
    · rw [nb_pos h0, List.length_cons]
      have := ih (N / 2) (by rw [Nat.pow_succ] at hN; omega)
      omega
theorem nl_nil {N : Nat} (h : (nl N).length = 0) : N = 0 := by
  have := val_nl N
  rw [List.length_eq_zero_iff.1 h] at this
  exact this.symm
theorem nl_last (N : Nat) (h : N ≠ 0) : 1 ≤ (nl N).length ∧ (nl N).getD ((nl N).length - 1) 0 ≠ 0 := by
  induction N using Nat.strongRecOn with
  | ind N ih =>
    rw [nl_pos h, List.length_cons]
    refine ⟨by omega, ?_⟩
    by_cases h1 : N / 4294967296 = 0
    · rw [h1, nl_zero]; simp; omega
    · obtain ⟨i1, i2⟩ := ih (N / 4294967296) (by omega) h1
      obtain ⟨m, hm⟩ : ∃ m, (nl (N / 4294967296)).length = m + 1 := ⟨(nl (N / 4294967296)).length - 1, by omega⟩
      rw [hm] at i2 ⊢
      simpa using i2
theorem val_take (A : List Nat) (k : Nat) (h : k < A.length) : val (A.take (k + 1)) = val (A.take k) + 4294967296 ^ k * A.getD k 0 := by
  rw [List.take_succ_eq_append_getElem h, val_append, List.length_take, Nat.min_eq_left (by omega)]
  simp [val, h]
theorem val_take_out (A : List Nat) (k : Nat) (h : A.length ≤ k) : val (A.take (k + 1)) = val (A.take k) + 4294967296 ^ k * A.getD k 0 := by
  rw [List.take_of_length_le (by omega), List.take_of_length_le h]; simp [h]
theorem val_take_any (A : List Nat) (k : Nat) : val (A.take (k + 1)) = val (A.take k) + 4294967296 ^ k * A.getD k 0 := by
  rcases Nat.lt_or_ge k A.length with h | h
  · exact val_take A k h
  · exact val_take_out A k h
theorem getD_small (A : List Nat) (h : Small A) (k : Nat) : A.getD k 0 < 4294967296 := by
  rcases Nat.lt_or_ge k A.length with h1 | h1
  · have : A.getD k 0 = A[k] := by simp [h1]
    rw [this]; exact h _ (List.getElem_mem h1)
  · simp [h1]
theorem val_drop (A : List Nat) (h : Small A) (i : Nat) : val A / 4294967296 ^ i = val (A.drop i) := by
  induction i generalizing A with
  | zero => simp
  | succ i ih =>
    cases A with
    | nil => simp [val]
    | cons x t =>
      have hx := h x (by simp)
      rw [Nat.pow_succ, Nat.mul_comm, ← Nat.div_div_eq_div_mul, val, show (x + 4294967296 * val t) / 4294967296 = val t by omega, ih t (fun y hy => h y (by simp [hy]))]
      simp
/-- The order of two numbers, as the calls tell it. -/
def cmpV (a b : Nat) : Int := if a < b then -1 else if a = b then 0 else 1
theorem len_nb (N : Nat) : (nb N).length = bitLen N := by
  induction N using Nat.strongRecOn with
  | ind N ih =>
    by_cases h : N = 0
    · subst h; rw [nb_zero]; rfl
    · rw [nb_pos h, List.length_cons, ih _ (by omega)]
      by_cases h1 : N / 2 = 0
      · have : N = 1 := by omega
        subst this; decide
      · have := bitLen_shift N 1 (by simpa using h1)
        simp at this; omega
theorem bitLen_limbs (A : List Nat) (x : Nat) (hA : Small A) (hx : x ≠ 0) : bitLen (val (A ++ [x])) = 32 * A.length + bitLen x := by
  have hv := val_lt A hA
  have e : val (A ++ [x]) / 2 ^ (32 * A.length) = x := by
    rw [val_append, Nat.pow_mul, show (2 : Nat) ^ 32 = 4294967296 by decide, Nat.add_mul_div_left _ _ (Nat.pow_pos (by omega)), Nat.div_eq_of_lt hv]
    simp [val]
  rw [bitLen_shift _ (32 * A.length) (by rw [e]; exact hx), e]
theorem nl_mono (M N : Nat) (h : M ≤ N) : (nl M).length ≤ (nl N).length := by
  have h2 := val_lt (nl N) (small_nl N)
  rw [val_nl] at h2
  exact nl_lt _ M (by omega)
/-- One limb of a difference: x less the borrow less y is o less what is borrowed anew. -/
theorem sub_limb (x y bw : Nat) (hx : x < 4294967296) (hy : y < 4294967296) (hb : bw ≤ 1) :
    ∃ D1 D2 o b2 : Nat, IntKind.u64.wrap ((x : Int) - (bw : Int)) = (D1 : Int) ∧ IntKind.u64.wrap ((D1 : Int) - (y : Int)) = (D2 : Int) ∧ (y = 0 → D2 = D1) ∧ (D2 : Int) % 4294967296 = (o : Int) ∧ (D2 : Int) / 9223372036854775808 = (b2 : Int) ∧
      o < 4294967296 ∧ b2 ≤ 1 ∧ o + bw + y = x + b2 * 4294967296 ∧ D1 ≤ 18446744073709551615 ∧ D2 ≤ 18446744073709551615 := by
  refine ⟨if bw ≤ x then x - bw else 18446744073709551615, if bw + y ≤ x then x - bw - y else x + 18446744073709551616 - bw - y, if bw + y ≤ x then x - bw - y else x + 4294967296 - bw - y, if bw + y ≤ x then 0 else 1, ?_⟩
  refine ⟨?_, ?_, ?_, ?_, ?_, ?_, ?_, ?_, ?_, ?_⟩
  · rw [IntKind.wrap_u64]; split <;> omega
  · rw [IntKind.wrap_u64]; split <;> split <;> omega
  · intro h; subst h; split <;> split <;> omega
  · split <;> omega
  · split <;> omega
  · split <;> omega
  · split <;> omega
  · split <;> omega
  · split <;> omega
  · split <;> omega
theorem sub_step (P Q O : List Nat) (k x y bw o b2 : Nat) (hO : O.length = k) (hx : P.getD k 0 = x) (hy : Q.getD k 0 = y) (h : o + bw + y = x + b2 * 4294967296)
    (hi : val O + val (Q.take k) = val (P.take k) + bw * 4294967296 ^ k) : val (O ++ [o]) + val (Q.take (k + 1)) = val (P.take (k + 1)) + b2 * 4294967296 ^ (k + 1) := by
  rw [val_append, val_take_any, val_take_any, hO, hx, hy, Nat.pow_succ]
  simp only [val, Nat.mul_zero, Nat.add_zero]
  have e : 4294967296 ^ k * o + 4294967296 ^ k * bw + 4294967296 ^ k * y = 4294967296 ^ k * x + b2 * (4294967296 ^ k * 4294967296) := by
    rw [← Nat.mul_add, ← Nat.mul_add, h, Nat.mul_add, Nat.mul_left_comm]
  rw [Nat.mul_comm bw] at hi
  omega
theorem small_push (O : List Nat) (o : Nat) (h : Small O) (ho : o < 4294967296) : Small (O ++ [o]) := by
  intro x hx
  simp only [List.mem_append, List.mem_singleton] at hx
  rcases hx with hx | rfl
  · exact h x hx
  · exact ho
/-- A row that is filled from the left, one limb on. -/
theorem fill_step (O : List Nat) (n k o : Nat) (hO : O.length = k) (hk : k < n) : (O ++ List.replicate (n - k) 0).set k o = O ++ [o] ++ List.replicate (n - (k + 1)) 0 := by
  subst hO
  rw [List.set_append_right _ _ (Nat.le_refl _), Nat.sub_self, show n - O.length = (n - (O.length + 1)) + 1 by omega, List.replicate_succ]
  simp
theorem sub_end (P Q O : List Nat) (bw : Nat) (hO : Small O) (hl : O.length = P.length) (hq : Q.length ≤ P.length) (hle : val Q ≤ val P) (hb : bw ≤ 1)
    (hi : val O + val (Q.take P.length) = val (P.take P.length) + bw * 4294967296 ^ P.length) : val O = val P - val Q := by
  rw [List.take_of_length_le hq, List.take_of_length_le (Nat.le_refl _)] at hi
  have h1 := val_lt O hO
  rw [hl] at h1
  have h2 : bw = 0 := by
    rcases Nat.eq_zero_or_pos bw with h | h
    · exact h
    · have : bw = 1 := by omega
      subst this; omega
  subst h2; omega
/-- The lowest n bits of x. -/
def bl (x n : Nat) : List Bool := (List.range n).map fun i => x.testBit i
theorem bl_length (x n : Nat) : (bl x n).length = n := by simp [bl]
theorem bl_succ (x n : Nat) : bl x (n + 1) = bl x n ++ [x.testBit n] := by simp [bl, List.range_succ]
theorem fromL_bl (x n : Nat) : fromL (bl x n) = x % 2 ^ n := by
  induction n with
  | zero => simp [bl, fromL]; omega
  | succ n ih =>
    rw [bl_succ, fromL_append, ih, bl_length, Nat.mod_pow_succ, Nat.testBit_eq_decide_div_mod_eq]
    simp only [fromL, Nat.mul_zero, Nat.add_zero]
    congr 2
    by_cases h : x / 2 ^ n % 2 = 1
    · simp [h]
    · have : x / 2 ^ n % 2 = 0 := by omega
      simp [this]
theorem bit_of (x k : Nat) : (((x / 2 ^ k : Nat) : Int) % 2 == 1) = x.testBit k := by
  rw [Nat.testBit_eq_decide_div_mod_eq]; generalize x / 2 ^ k = q; rw [Bool.eq_iff_iff]; simp; omega
theorem div_step (X k : Nat) : X / 2 ^ k / 2 = X / 2 ^ (k + 1) := by rw [Nat.div_div_eq_div_mul, Nat.pow_succ]
theorem pow32 (k : Nat) : (2 : Nat) ^ (32 * k) = 4294967296 ^ k := by rw [Nat.pow_mul]
theorem of_step (A : List Nat) (F : List Bool) (k : Nat) (hA : Small A) (hk : k < A.length) (hF : fromL F = val (A.take k)) (hl : F.length = 32 * k) : fromL (F ++ bl (A.getD k 0) 32) = val (A.take (k + 1)) := by
  have hs := getD_small A hA k
  rw [fromL_append, fromL_bl, hF, hl, pow32, val_take A k hk, Nat.mod_eq_of_lt (by omega)]
theorem fromL_drop (l : List Bool) (k : Nat) (h : k < l.length) : fromL (l.drop k) = (l.getD k false).toNat + 2 * fromL (l.drop (k + 1)) := by
  rw [List.drop_eq_getElem_cons h, fromL]; simp [h]
theorem to_step (l : List Bool) (O : List Nat) (k e : Nat) (hO : O.length = k) (hv : val O = fromL (l.take (32 * k))) (he : e = min (32 * k + 32) l.length) (hk : 32 * k < l.length) :
    val (O ++ [fromL ((l.take e).drop (32 * k))]) = fromL (l.take (32 * (k + 1))) ∧ fromL ((l.take e).drop (32 * k)) < 4294967296 := by
  have h1 : l.take (32 * (k + 1)) = l.take e := by
    rcases Nat.lt_or_ge (32 * k + 32) l.length with h | h
    · rw [he, Nat.min_eq_left (by omega)]; congr 1
    · rw [he, Nat.min_eq_right h, List.take_of_length_le (by omega), List.take_of_length_le (Nat.le_refl _)]
  have h2 : l.take (32 * k) = (l.take e).take (32 * k) := by rw [List.take_take, Nat.min_eq_left (by omega)]
  have h3 : (l.take e).length = e := by rw [List.length_take]; omega
  constructor
  · rw [val_append, hO, hv, h1, h2]
    have h4 := fromL_append ((l.take e).take (32 * k)) ((l.take e).drop (32 * k))
    rw [List.take_append_drop, List.length_take, h3, Nat.min_eq_left (by omega), pow32] at h4
    rw [h4]; simp [val]
  · have h5 := fromL_lt ((l.take e).drop (32 * k))
    rw [List.length_drop, h3] at h5
    have h6 : (2 : Nat) ^ (e - 32 * k) ≤ 2 ^ 32 := Nat.pow_le_pow_right (by omega) (by omega)
    omega
theorem nb_bits (N : Nat) : ∀ i, (nb N).getD i false = N.testBit i := by
  induction N using Nat.strongRecOn with
  | ind N ih =>
    intro i
    by_cases h : N = 0
    · subst h; rw [nb_zero]; simp
    · rw [nb_pos h]
      cases i with
      | zero => simp [Nat.testBit_zero]
      | succ i => rw [Nat.testBit_succ, ← ih (N / 2) (by omega) i]; simp
theorem nb_take (N n : Nat) : fromL ((nb N).take n) = N % 2 ^ n := by
  have h1 := fromL_append ((nb N).take n) ((nb N).drop n)
  rw [List.take_append_drop, fromL_nb] at h1
  rcases Nat.lt_or_ge n (nb N).length with h | h
  · rw [List.length_take, Nat.min_eq_left (by omega)] at h1
    have h2 := fromL_lt ((nb N).take n)
    rw [List.length_take, Nat.min_eq_left (by omega)] at h2
    have h3 := congrArg (fun m => m % 2 ^ n) h1
    simp only [Nat.add_mul_mod_self_left, Nat.mod_eq_of_lt h2] at h3
    exact h3.symm
  · rw [List.take_of_length_le h, fromL_nb]
    have h3 := fromL_lt (nb N)
    rw [fromL_nb] at h3
    exact (Nat.mod_eq_of_lt (Nat.lt_of_lt_of_le h3 (Nat.pow_le_pow_right (by omega) h))).symm
theorem add_limb (x y cy : Nat) (hx : x < 4294967296) (hy : y < 4294967296) (hc : cy ≤ 1) :
    ∃ o c2 : Nat, ((x : Int) + (cy : Int) + (y : Int)) % 4294967296 = (o : Int) ∧ ((x : Int) + (cy : Int) + (y : Int)) / 4294967296 = (c2 : Int) ∧ (y = 0 → ((x : Int) + (cy : Int)) % 4294967296 = (o : Int) ∧ ((x : Int) + (cy : Int)) / 4294967296 = (c2 : Int)) ∧
      o < 4294967296 ∧ c2 ≤ 1 ∧ o + c2 * 4294967296 = x + y + cy := by
  refine ⟨(x + cy + y) % 4294967296, (x + cy + y) / 4294967296, ?_, ?_, ?_, ?_, ?_, ?_⟩
  · omega
  · omega
  · intro h; subst h; omega
  · omega
  · omega
  · omega
theorem add_step (P Q O : List Nat) (k x y cy o c2 : Nat) (hO : O.length = k) (hx : P.getD k 0 = x) (hy : Q.getD k 0 = y) (h : o + c2 * 4294967296 = x + y + cy)
    (hi : val O + cy * 4294967296 ^ k = val (P.take k) + val (Q.take k)) : val (O ++ [o]) + c2 * 4294967296 ^ (k + 1) = val (P.take (k + 1)) + val (Q.take (k + 1)) := by
  rw [val_append, val_take_any, val_take_any, hO, hx, hy, Nat.pow_succ]
  simp only [val, Nat.mul_zero, Nat.add_zero]
  have e : 4294967296 ^ k * o + c2 * (4294967296 ^ k * 4294967296) = 4294967296 ^ k * x + 4294967296 ^ k * y + 4294967296 ^ k * cy := by
    rw [← Nat.mul_add, ← Nat.mul_add, ← h, Nat.mul_add, Nat.mul_left_comm]
  rw [Nat.mul_comm cy] at hi
  omega
theorem fromL_take_any (l : List Bool) (k : Nat) : fromL (l.take (k + 1)) = fromL (l.take k) + 2 ^ k * (l.getD k false).toNat := by
  rcases Nat.lt_or_ge k l.length with h | h
  · rw [List.take_succ_eq_append_getElem h, fromL_append, List.length_take, Nat.min_eq_left (by omega)]
    simp [fromL, h]
  · rw [List.take_of_length_le (by omega), List.take_of_length_le h]; simp [h]
theorem badd_step (P Q F : List Bool) (k cy c2 : Nat) (x y z : Bool) (hF : F.length = k) (hx : P.getD k false = x) (hy : Q.getD k false = y) (h : z.toNat + c2 * 2 = x.toNat + y.toNat + cy)
    (hi : fromL F + cy * 2 ^ k = fromL (P.take k) + fromL (Q.take k)) : fromL (F ++ [z]) + c2 * 2 ^ (k + 1) = fromL (P.take (k + 1)) + fromL (Q.take (k + 1)) := by
  rw [fromL_append, fromL_take_any, fromL_take_any, hF, hx, hy, Nat.pow_succ]
  simp only [fromL, Nat.mul_zero, Nat.add_zero]
  have e : 2 ^ k * z.toNat + c2 * (2 ^ k * 2) = 2 ^ k * x.toNat + 2 ^ k * y.toNat + 2 ^ k * cy := by
    rw [← Nat.mul_add, ← Nat.mul_add, ← h, Nat.mul_add, Nat.mul_left_comm]
  rw [Nat.mul_comm cy] at hi
  omega
theorem bsub_step (P Q F : List Bool) (k ow o2 : Nat) (x y z : Bool) (hF : F.length = k) (hx : P.getD k false = x) (hy : Q.getD k false = y) (h : z.toNat + ow + y.toNat = x.toNat + o2 * 2)
    (hi : fromL F + fromL (Q.take k) = fromL (P.take k) + ow * 2 ^ k) : fromL (F ++ [z]) + fromL (Q.take (k + 1)) = fromL (P.take (k + 1)) + o2 * 2 ^ (k + 1) := by
  rw [fromL_append, fromL_take_any, fromL_take_any, hF, hx, hy, Nat.pow_succ]
  simp only [fromL, Nat.mul_zero, Nat.add_zero]
  have e : 2 ^ k * z.toNat + 2 ^ k * ow + 2 ^ k * y.toNat = 2 ^ k * x.toNat + o2 * (2 ^ k * 2) := by
    rw [← Nat.mul_add, ← Nat.mul_add, h, Nat.mul_add, Nat.mul_left_comm]
  rw [Nat.mul_comm ow] at hi
  omega
theorem bsub_end (P Q F : List Bool) (ow : Nat) (hl : F.length = P.length) (hq : Q.length ≤ P.length) (hle : fromL Q ≤ fromL P) (hb : ow ≤ 1)
    (hi : fromL F + fromL (Q.take P.length) = fromL (P.take P.length) + ow * 2 ^ P.length) : fromL F = fromL P - fromL Q := by
  rw [List.take_of_length_le hq, List.take_of_length_le (Nat.le_refl _)] at hi
  have h1 := fromL_lt F
  rw [hl] at h1
  have h2 : ow = 0 := by
    rcases Nat.eq_zero_or_pos ow with h | h
    · exact h
    · have : ow = 1 := by omega
      subst this; omega
  subst h2; omega
theorem nb_mono (M N : Nat) (h : M ≤ N) : (nb M).length ≤ (nb N).length := by
  have h2 := fromL_lt (nb N)
  rw [fromL_nb] at h2
  exact nb_lt _ M (by omega)
theorem nb_len_lt (M N : Nat) (h : (nb M).length < (nb N).length) : M < N := by
  rcases Nat.lt_or_ge M N with h1 | h1
  · exact h1
  · have := nb_mono N M h1; omega
theorem bsplit (P : List Bool) (i : Nat) (h : i < P.length) : fromL P = fromL (P.take i) + 2 ^ i * ((P.getD i false).toNat + 2 * fromL (P.drop (i + 1))) := by
  have h1 := fromL_append (P.take i) (P.drop i)
  rw [List.take_append_drop, List.drop_eq_getElem_cons h, List.length_take, Nat.min_eq_left (by omega), fromL] at h1
  rw [h1]; simp [h]
theorem bcmp_step (P Q : List Bool) (i : Nat) (hl : P.length = Q.length) (h : i < P.length) (hd : P.drop (i + 1) = Q.drop (i + 1)) (hx : P.getD i false = false) (hy : Q.getD i false = true) : fromL P < fromL Q := by
  rw [bsplit P i h, bsplit Q i (by omega), hd, hx, hy]
  have h1 := fromL_lt (P.take i)
  rw [List.length_take, Nat.min_eq_left (by omega)] at h1
  rw [Nat.mul_add (2 ^ i), Nat.mul_add (2 ^ i)]
  simp only [Bool.toNat_false, Bool.toNat_true, Nat.mul_zero, Nat.mul_one]
  omega
end Go.Proofs.YtjehfgfgnijkoaaDoor.LimbNum
