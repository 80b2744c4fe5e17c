/- Plain facts on naturals as lists of bytes, the lowest first. No program is named here. -/
import Derived.Test.YtbhmgafiookjnadLimbNum
namespace Go.Proofs.Ytbhmgafiookjnad.ByNum
open Go.RowKit LimbNum

/-- The number of a list of bytes, and the bytes of a number. -/
def bv : List Nat → Nat
  | [] => 0
  | x :: t => x + 256 * bv t
def ny (N : Nat) : List Nat := if N = 0 then [] else (N % 256) :: ny (N / 256)
termination_by N
decreasing_by omega
def Byte (A : List Nat) : Prop := ∀ x ∈ A, x < 256
theorem ny_zero : ny 0 = [] := by rw [ny, if_pos rfl]
theorem ny_pos {N : Nat} (h : N ≠ 0) : ny N = (N % 256) :: ny (N / 256) := by rw [ny, if_neg h]
theorem bv_ny (N : Nat) : bv (ny N) = N := by
  induction N using Nat.strongRecOn with
  | ind N ih =>
    by_cases h : N = 0
    · subst h; rw [ny_zero]; rfl
    · rw [ny_pos h, bv, ih _ (by omega)]; omega
theorem byte_ny (N : Nat) : Byte (ny N) := by
  induction N using Nat.strongRecOn with
  | ind N ih =>
    by_cases h : N = 0
    · subst h; rw [ny_zero]; intro x hx; simp at hx
    · rw [ny_pos h]; intro x hx
      simp only [List.mem_cons] at hx
      rcases hx with rfl | hx
      · omega
      · exact ih _ (by omega) x hx
theorem bv_append (a b : List Nat) : bv (a ++ b) = bv a + 256 ^ a.length * bv b := by
  induction a with
  | nil => simp [bv]
  | cons x t ih => rw [List.cons_append, bv, ih, bv, List.length_cons, Nat.pow_succ, Nat.mul_add, Nat.mul_comm (256 ^ t.length) 256, Nat.mul_assoc]; omega
theorem bv_lt (A : List Nat) (h : Byte A) : bv A < 256 ^ A.length := by
  induction A with
  | nil => simp [bv]
  | cons x t ih =>
    have h1 := h x (by simp)
    have h2 := ih (fun y hy => h y (by simp [hy]))
    rw [bv, List.length_cons, Nat.pow_succ]; omega
theorem bv_zero (A : List Nat) (h : ∀ x ∈ A, x = 0) : bv A = 0 := by
  induction A with
  | nil => rfl
  | cons x t ih => rw [bv, ih (fun y hy => h y (by simp [hy])), h x (by simp)]
theorem ny_norm (A : List Nat) (h : Byte A) (hl : A = [] ∨ A.getLast? ≠ some 0) : ny (bv A) = A ∧ (A ≠ [] → bv A ≠ 0) := by
  induction A with
  | nil => exact ⟨ny_zero, by simp⟩
  | cons x t ih =>
    have hx := h x (by simp)
    have h2 : t = [] ∨ t.getLast? ≠ some 0 := by
      cases t with
      | nil => left; rfl
      | cons y s => right; rcases hl with hl | hl; simp at hl; simpa [List.getLast?_cons] using hl
    obtain ⟨i1, i2⟩ := ih (fun y hy => h y (by simp [hy])) h2
    have hv : bv (x :: t) ≠ 0 := by
      rw [bv]
      cases t with
      | nil => rcases hl with hl | hl; simp at hl; simp at hl; simp [bv]; omega
      | cons y s => have := i2 (by simp); omega
    refine ⟨?_, fun _ => hv⟩
    rw [ny_pos hv, bv, show (x + 256 * bv t) % 256 = x by omega, show (x + 256 * bv t) / 256 = bv t by omega, i1]
theorem ytrim_is (A : List Nat) (n : Nat) (h : Byte A) (hn : n ≤ A.length) (hz : ∀ i, n ≤ i → i < A.length → A.getD i 0 = 0) (hl : n = 0 ∨ A.getD (n - 1) 0 ≠ 0) : A.take n = ny (bv A) := by
  have e : bv A = bv (A.take n) := by
    have h1 := bv_append (A.take n) (A.drop n)
    rw [List.take_append_drop] at h1
    rw [h1, bv_zero (A.drop n), Nat.mul_zero, Nat.add_zero]
    intro x hx
    obtain ⟨i, hi, rfl⟩ := List.getElem_of_mem hx
    rw [List.getElem_drop]
    simp only [List.length_drop] at hi
    have := hz (n + i) (by omega) (by omega)
    simpa [show n + i < A.length by omega] using this
  rw [e]
  refine (ny_norm _ (fun x hx => h x (List.mem_of_mem_take hx)) ?_).1.symm
  rcases Nat.eq_zero_or_pos n with h0 | h0
  · left; rw [h0]; rfl
  · right; rw [last_take A n 0 h0 hn]
    rcases hl with hl | hl
    · omega
    · simpa using hl
theorem bv_take (A : List Nat) (k : Nat) (h : k < A.length) : bv (A.take (k + 1)) = bv (A.take k) + 256 ^ k * A.getD k 0 := by
  rw [List.take_succ_eq_append_getElem h, bv_append, List.length_take, Nat.min_eq_left (by omega)]
  simp [bv, h]
theorem bv_take_out (A : List Nat) (k : Nat) (h : A.length ≤ k) : bv (A.take (k + 1)) = bv (A.take k) + 256 ^ k * A.getD k 0 := by
  rw [List.take_of_length_le (by omega), List.take_of_length_le h]; simp [h]
theorem bv_take_any (A : List Nat) (k : Nat) : bv (A.take (k + 1)) = bv (A.take k) + 256 ^ k * A.getD k 0 := by
  rcases Nat.lt_or_ge k A.length with h | h
  · exact bv_take A k h
  · exact bv_take_out A k h
theorem getD_byte (A : List Nat) (h : Byte A) (k : Nat) : A.getD k 0 < 256 := by
  rcases Nat.lt_or_ge k A.length with h1 | h1
  · have : A.getD k 0 = A[k] := by simp [h1]
    rw [this]; exact h _ (List.getElem_mem h1)
  · simp [h1]
theorem ny_len (N : Nat) : (ny N).length = ((nb N).length + 7) / 8 := by
  rw [len_nb]
  induction N using Nat.strongRecOn with
  | ind N ih =>
    by_cases h : N = 0
    · subst h; rw [ny_zero]; rfl
    · rw [ny_pos h, List.length_cons, ih _ (by omega)]
      by_cases h1 : N / 256 = 0
      · rw [h1, ← len_nb, ← len_nb]
        have h2 := nb_lt 8 N (by omega)
        have h3 : 1 ≤ (nb N).length := by rw [nb_pos h, List.length_cons]; omega
        rw [nb_zero]; simp only [List.length_nil]; omega
      · have := bitLen_shift N 8 (by simpa using h1)
        simp only [show (2 : Nat) ^ 8 = 256 by decide] at this
        omega
/-- The four bytes of a limb. -/
def quad (x : Nat) : List Nat := [x % 256, x / 256 % 256, x / 65536 % 256, x / 16777216]
theorem bv_quad (x : Nat) (h : x < 4294967296) : bv (quad x) = x := by simp [quad, bv]; omega
theorem byte_quad (x : Nat) (h : x < 4294967296) : Byte (quad x) := by
  intro y hy
  simp [quad] at hy
  omega
theorem pow256 (k : Nat) : (256 : Nat) ^ (4 * k) = 4294967296 ^ k := by rw [Nat.pow_mul]
/-- A limb more, packed. -/
theorem pack_step (A F : List Nat) (k : Nat) (hA : Small A) (hF : bv F = val (A.take k)) (hl : F.length = 4 * k) : bv (F ++ quad (A.getD k 0)) = val (A.take (k + 1)) := by
  rw [bv_append, bv_quad _ (getD_small A hA k), hF, hl, pow256, val_take_any]
theorem bv_noughts (l : List Nat) (k : Nat) : bv (l ++ List.replicate k 0) = bv l := by
  rw [bv_append, bv_zero (List.replicate k 0) (fun x hx => (List.mem_replicate.1 hx).2)]; simp
/-- The bits of bytes. -/
theorem byte_bits (l : List Nat) (F : List Bool) (k : Nat) (hb : Byte l) (hF : fromL F = bv (l.take k)) (hl : F.length = 8 * k) : fromL (F ++ bl (l.getD k 0) 8) = bv (l.take (k + 1)) := by
  rw [fromL_append, fromL_bl, hF, hl, bv_take_any, Nat.pow_mul, Nat.mod_eq_of_lt (getD_byte l hb k)]
/-- The limb at k / 4 takes in the byte k. -/
theorem unpack_step (l O : List Nat) (k : Nat) (hk : k < l.length) (hO : O.length = (l.length + 3) / 4) (hv : val O = bv (l.take k)) :
    val (O.set (k / 4) (O.getD (k / 4) 0 + l.getD k 0 * 256 ^ (k % 4))) = bv (l.take (k + 1)) := by
  have hlt : k / 4 < O.length := by omega
  have e1 : O = O.take (k / 4) ++ [O.getD (k / 4) 0] ++ O.drop (k / 4 + 1) := by
    have : O.getD (k / 4) 0 = O[k / 4] := by simp [hlt]
    rw [this, List.append_assoc, List.singleton_append, List.getElem_cons_drop, List.take_append_drop]
  have e2 : O.set (k / 4) (O.getD (k / 4) 0 + l.getD k 0 * 256 ^ (k % 4)) = O.take (k / 4) ++ [O.getD (k / 4) 0 + l.getD k 0 * 256 ^ (k % 4)] ++ O.drop (k / 4 + 1) := by
    rw [List.set_eq_take_append_cons_drop, if_pos hlt, List.append_assoc, List.singleton_append]
  rw [bv_take_any, ← hv, e2]
  conv => rhs; rw [e1]
  generalize O.getD (k / 4) 0 = x
  have hlen : (O.take (k / 4)).length = k / 4 := by rw [List.length_take]; omega
  have e3 : (256 : Nat) ^ k = 4294967296 ^ (k / 4) * 256 ^ (k % 4) := by rw [← pow256, ← Nat.pow_add]; congr 1; omega
  simp only [val_append, hlen, List.length_append, List.length_singleton, val, Nat.mul_zero, Nat.add_zero]
  rw [e3, Nat.mul_add, Nat.mul_comm (l.getD k 0), Nat.mul_assoc]
  omega
theorem limb_small (l O : List Nat) (k : Nat) (hb : Byte l) (hO : Small O) (hv : val O = bv (l.take k)) : O.getD (k / 4) 0 < 256 ^ (k % 4) := by
  have h1 : bv (l.take k) < 256 ^ k := Nat.lt_of_lt_of_le (bv_lt _ (fun x hx => hb x (List.mem_of_mem_take hx))) (Nat.pow_le_pow_right (by omega) (by rw [List.length_take]; omega))
  have e3 : (256 : Nat) ^ k = 4294967296 ^ (k / 4) * 256 ^ (k % 4) := by rw [← pow256, ← Nat.pow_add]; congr 1; omega
  have h2 : val O / 4294967296 ^ (k / 4) < 256 ^ (k % 4) := Nat.div_lt_of_lt_mul (by rw [hv, ← e3]; exact h1)
  rw [val_drop O hO] at h2
  rcases Nat.lt_or_ge (k / 4) O.length with h3 | h3
  · rw [List.drop_eq_getElem_cons h3, val] at h2
    have : O.getD (k / 4) 0 = O[k / 4] := by simp [h3]
    rw [this]; omega
  · have : O.getD (k / 4) 0 = 0 := by simp [h3]
    rw [this]; exact Nat.pow_pos (by omega)
theorem or_byte (X C r : Nat) (hX : X < 256 ^ r) (hC : C < 256) (hr : r ≤ 3) : bits BinOp.or IntKind.u32 (X : Int) ((C * 256 ^ r : Nat) : Int) = ((X + C * 256 ^ r : Nat) : Int) ∧ X + C * 256 ^ r < 4294967296 := by
  have h2 : (256 : Nat) ^ r = 2 ^ (8 * r) := by rw [Nat.pow_mul]
  have h3 : (256 : Nat) ^ r ≤ 256 ^ 3 := Nat.pow_le_pow_right (by omega) hr
  have h4 : C * 256 ^ r ≤ 255 * 256 ^ r := Nat.mul_le_mul_right _ (by omega)
  refine ⟨?_, by omega⟩
  rw [u32_or_nat _ _ (by omega) (by omega), Nat.or_comm, nat_join (8 * r) _ _ (by rw [h2]; simp) (by rw [← h2]; exact hX), Nat.add_comm]
theorem small_set (O : List Nat) (i v : Nat) (h : Small O) (hv : v < 4294967296) : Small (O.set i v) := by
  intro y hy
  rcases List.mem_or_eq_of_mem_set hy with h1 | h1
  · exact h y h1
  · omega
end Go.Proofs.Ytbhmgafiookjnad.ByNum
