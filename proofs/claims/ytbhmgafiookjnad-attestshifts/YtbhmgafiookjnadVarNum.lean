/- Plain facts on numbers in groups of seven bits. No program is named here. -/
import Derived.WalkKit
import Derived.OpenShut
import Derived.Laws.BitsAllLaws
namespace Go.Proofs.Ytbhmgafiookjnad.VarNum
open Go.RowKit

/-- The number in groups of seven bits, the lowest first; each group but the last with 128 added. -/
def vb (U : Nat) : List Nat := if U < 128 then [U] else (U % 128 + 128) :: vb (U / 128)
termination_by U
decreasing_by omega
theorem vb_small {U : Nat} (h : U < 128) : vb U = [U] := by rw [vb, if_pos h]
theorem vb_big {U : Nat} (h : 128 ≤ U) : vb U = (U % 128 + 128) :: vb (U / 128) := by rw [vb, if_neg (by omega)]
/-- The number of such groups. -/
def sv : List Nat → Nat
  | [] => 0
  | c :: t => c % 128 + 128 * sv t
theorem sv_vb (U : Nat) : sv (vb U) = U := by
  induction U using Nat.strongRecOn with
  | ind U ih =>
    by_cases h : U < 128
    · rw [vb_small h]; simp [sv]; omega
    · rw [vb_big (by omega), sv, ih (U / 128) (by omega)]; omega
theorem vb_length (k U : Nat) (h : U < 128 ^ (k + 1)) : (vb U).length ≤ k + 1 := by
  induction k generalizing U with
  | zero => rw [vb_small (by omega)]; simp
  | succ k ih =>
    by_cases h1 : U < 128
    · rw [vb_small h1]; simp
    · rw [vb_big (by omega), List.length_cons]
      have := ih (U / 128) (by rw [Nat.pow_succ] at h; omega)
      omega
theorem vb_ten (U : Nat) (h : U < 18446744073709551616) : (vb U).length ≤ 10 := vb_length 9 U (by omega)
theorem vb_pos (U : Nat) : 1 ≤ (vb U).length := by
  by_cases h1 : U < 128
  · rw [vb_small h1]; simp
  · rw [vb_big (by omega), List.length_cons]; omega
theorem vb_byte (U : Nat) : ∀ c ∈ vb U, c < 256 := by
  induction U using Nat.strongRecOn with
  | ind U ih =>
    by_cases h : U < 128
    · rw [vb_small h]; intro c hc; simp at hc; omega
    · rw [vb_big (by omega)]
      intro c hc
      simp only [List.mem_cons] at hc
      rcases hc with rfl | hc
      · omega
      · exact ih (U / 128) (by omega) c hc
theorem vb_last (U : Nat) (h : (vb U).getLast? = some 0) : U = 0 := by
  induction U using Nat.strongRecOn with
  | ind U ih =>
    by_cases h1 : U < 128
    · rw [vb_small h1] at h; simpa using h
    · rw [vb_big (by omega)] at h
      have hp := vb_pos (U / 128)
      rw [List.getLast?_cons] at h
      have h2 : (vb (U / 128)).getLast? = some 0 := by
        cases hv : (vb (U / 128)).getLast? with
        | none => rw [List.getLast?_eq_none_iff] at hv; rw [hv] at hp; simp at hp
        | some x => rw [hv] at h; simp at h; rw [h]
      have := ih (U / 128) (by omega) h2
      omega
theorem or128 (U : Nat) : bits BinOp.or IntKind.u8 ((U : Int) % 256) 128 = ((U % 128 + 128 : Nat) : Int) := by
  have e : (U : Int) % 256 = ((U % 256 : Nat) : Int) := by simp
  rw [e, show (128 : Int) = ((128 : Nat) : Int) from rfl, u8_or_nat _ _ (by omega) (by omega)]
  congr 1
  have key : ∀ x : Fin 256, x.val ||| 128 = x.val % 128 + 128 := by decide +kernel
  have := key ⟨U % 256, by omega⟩
  simp only at this
  rw [this]; omega
/-- What is read at the beginning of a list, from the group i on. -/
def uvGo (i acc : Nat) : List Nat → Nat × Nat
  | [] => (0, 0)
  | c :: t => if i = 9 ∧ 1 < c then (0, 0) else if 128 ≤ c then uvGo (i + 1) (acc + c % 128 * 2 ^ (7 * i)) t else if c = 0 ∧ 0 < i then (0, 0) else (acc + c % 128 * 2 ^ (7 * i), i + 1)
theorem pow_seven (i : Nat) : (2 : Nat) ^ (7 * (i + 1)) = 128 * 2 ^ (7 * i) := by rw [Nat.mul_add, Nat.pow_add]; omega
theorem pow_128 (i : Nat) : (2 : Nat) ^ (7 * i) = 128 ^ i := by rw [Nat.pow_mul]
theorem uv_back (V : Nat) (r : List Nat) : ∀ i acc, V * 2 ^ (7 * i) < 18446744073709551616 → (i = 0 ∨ V ≠ 0) → uvGo i acc (vb V ++ r) = (acc + V * 2 ^ (7 * i), i + (vb V).length) := by
  induction V using Nat.strongRecOn with
  | ind V ih =>
    intro i acc h hi
    by_cases h1 : V < 128
    · rw [vb_small h1, List.cons_append, uvGo, if_neg, if_neg (by omega), if_neg (by omega), show V % 128 = V by omega]
      · rfl
      · rintro ⟨rfl, h2⟩
        have : V * 2 ^ (7 * 9) = V * 9223372036854775808 := by rw [show (2 : Nat) ^ (7 * 9) = 9223372036854775808 by decide]
        omega
    · have h9 : i ≤ 8 := by
        rcases Nat.lt_or_ge i 9 with h2 | h2
        · omega
        · have h3 : (2 : Nat) ^ 63 ≤ 2 ^ (7 * i) := Nat.pow_le_pow_right (by omega) (by omega)
          have h4 : 128 * 2 ^ 63 ≤ V * 2 ^ (7 * i) := Nat.mul_le_mul (by omega) h3
          omega
      have e : acc + (V % 128 + 128) % 128 * 2 ^ (7 * i) + V / 128 * 2 ^ (7 * (i + 1)) = acc + V * 2 ^ (7 * i) := by
        rw [pow_seven, show (V % 128 + 128) % 128 = V % 128 by omega, Nat.mul_left_comm, ← Nat.mul_assoc, Nat.add_assoc, ← Nat.add_mul]
        congr 2; omega
      have h5 : V / 128 * 2 ^ (7 * (i + 1)) ≤ V * 2 ^ (7 * i) := by
        rw [pow_seven, Nat.mul_left_comm, ← Nat.mul_assoc]
        exact Nat.mul_le_mul_right _ (by omega)
      rw [vb_big (by omega), List.cons_append, uvGo, if_neg (by omega), if_pos (by omega), ih (V / 128) (by omega) (i + 1) _ (by omega) (by right; omega), e]
      simp only [List.length_cons]
      congr 1; omega
theorem sv_append (p : List Nat) (c : Nat) : sv (p ++ [c]) = sv p + c % 128 * 128 ^ p.length := by
  induction p with
  | nil => simp [sv]
  | cons x t ih => rw [List.cons_append, sv, ih, sv, List.length_cons, Nat.pow_succ, Nat.mul_add, Nat.add_assoc]; congr 2; rw [Nat.mul_comm 128, Nat.mul_assoc]
theorem sv_lt (p : List Nat) : sv p < 128 ^ p.length := by
  induction p with
  | nil => simp [sv]
  | cons x t ih => rw [sv, List.length_cons, Nat.pow_succ]; omega
theorem canon (p : List Nat) (c : Nat) (hp : ∀ x ∈ p, 128 ≤ x ∧ x < 256) (hc : c < 128) (h : c ≠ 0 ∨ p = []) : vb (sv (p ++ [c])) = p ++ [c] := by
  induction p with
  | nil => simp [sv]; rw [vb_small (by omega)]; congr 1; omega
  | cons x t ih =>
    have hx := hp x (by simp)
    have h0 : c ≠ 0 := by rcases h with h | h; exact h; simp at h
    have hpos : 1 ≤ sv (t ++ [c]) := by
      rw [sv_append]
      have := Nat.mul_pos (show 0 < c % 128 by omega) (Nat.pow_pos (n := t.length) (show 0 < 128 by omega))
      omega
    rw [List.cons_append, sv, vb_big (by omega), show (x % 128 + 128 * sv (t ++ [c])) / 128 = sv (t ++ [c]) by omega, ih (fun y hy => hp y (by simp [hy])) (.inl h0)]
    congr 1; omega
/-- The reference's way comes to the same. -/
theorem ref_step (p t : List Nat) (c : Nat) (hp : ∀ x ∈ p, 128 ≤ x ∧ x < 256) (hc : c < 128) (h9 : p.length ≤ 9) :
    (if vb (sv (p ++ [c]) % 18446744073709551616) = p ++ [c] then (sv (p ++ [c]) % 18446744073709551616, p.length + 1) else (0, 0)) = uvGo p.length (sv p) (c :: t) := by
  have hs := sv_append p c
  have hl := sv_lt p
  rw [show c % 128 = c by omega] at hs
  rw [uvGo]
  by_cases h1 : p.length = 9 ∧ 1 < c
  · rw [if_pos h1, if_neg]
    intro e
    have e2 := congrArg sv e
    rw [sv_vb] at e2
    rw [h1.1] at hs
    have : c * 128 ^ 9 = c * 9223372036854775808 := by rw [show (128 : Nat) ^ 9 = 9223372036854775808 by decide]
    omega
  · rw [if_neg h1, if_neg (show ¬ 128 ≤ c by omega)]
    have hm : sv (p ++ [c]) < 18446744073709551616 := by
      by_cases h2 : p.length = 9
      · rw [h2] at hs hl
        have h4 : c * 128 ^ 9 = c * 9223372036854775808 := by rw [show (128 : Nat) ^ 9 = 9223372036854775808 by decide]
        have h5 : (128 : Nat) ^ 9 = 9223372036854775808 := by decide
        omega
      · have h3 := sv_lt (p ++ [c])
        have h4 : (128 : Nat) ^ (p ++ [c]).length ≤ 128 ^ 9 := Nat.pow_le_pow_right (by omega) (by simp; omega)
        have h5 : (128 : Nat) ^ 9 = 9223372036854775808 := by decide
        omega
    rw [Nat.mod_eq_of_lt hm]
    by_cases h2 : c = 0 ∧ 0 < p.length
    · rw [if_pos h2, if_neg]
      intro e
      have h3 := vb_last (sv (p ++ [c])) (by rw [e, List.getLast?_append, h2.1]; rfl)
      rw [h3, vb_small (by omega)] at e
      have := congrArg List.length e
      simp only [List.length_append, List.length_cons, List.length_nil] at this
      omega
    · rw [if_neg h2, if_pos (canon p c hp hc (by rcases p with _ | ⟨x, t⟩ <;> simp_all)), hs, show c % 128 = c by omega, pow_128]
theorem and127 (c : Nat) (h : c < 256) : bits BinOp.and IntKind.u8 (c : Int) 127 = ((c % 128 : Nat) : Int) := by
  rw [show (127 : Int) = ((127 : Nat) : Int) from rfl, u8_and_nat _ _ h (by omega), nat_mask7]
theorem grp_lt (c k : Nat) (h : k < 9 ∨ (k = 9 ∧ c ≤ 1)) : c % 128 * 2 ^ (7 * k) < 18446744073709551616 := by
  rcases h with h | ⟨rfl, h⟩
  · have h1 : (2 : Nat) ^ (7 * k) ≤ 2 ^ 56 := Nat.pow_le_pow_right (by omega) (by omega)
    have h2 : c % 128 * 2 ^ (7 * k) ≤ 127 * 2 ^ 56 := Nat.mul_le_mul (by omega) h1
    omega
  · have h2 : c % 128 * 2 ^ (7 * 9) ≤ 1 * 2 ^ (7 * 9) := Nat.mul_le_mul_right _ (by omega)
    omega
theorem shl_is (d k : Nat) (h : d * 2 ^ (7 * k) < 18446744073709551616) : IntKind.u64.wrap ((d : Int) * 2 ^ (7 * k)) = ((d * 2 ^ (7 * k) : Nat) : Int) := by
  rw [show (d : Int) * 2 ^ (7 * k) = ((d * 2 ^ (7 * k) : Nat) : Int) by simp, IntKind.wrap_u64]; omega
theorem or_is (acc d k : Nat) (h1 : acc < 2 ^ (7 * k)) (h : d * 2 ^ (7 * k) < 18446744073709551616) (h2 : acc < 18446744073709551616) : bits BinOp.or IntKind.u64 (acc : Int) ((d * 2 ^ (7 * k) : Nat) : Int) = ((acc + d * 2 ^ (7 * k) : Nat) : Int) := by
  rw [u64_or_nat _ _ h2 h, Nat.or_comm, nat_join (7 * k) _ _ (by simp) h1, Nat.add_comm]
theorem acc_lt (acc c k : Nat) (h1 : acc < 2 ^ (7 * k)) : acc + c % 128 * 2 ^ (7 * k) < 2 ^ (7 * (k + 1)) := by
  rw [pow_seven]
  have h2 : c % 128 * 2 ^ (7 * k) ≤ 127 * 2 ^ (7 * k) := Nat.mul_le_mul_right _ (by omega)
  omega
theorem acc_64 (acc k : Nat) (h1 : acc < 2 ^ (7 * k)) (hk : k ≤ 9) : acc < 18446744073709551616 := by
  have h2 : (2 : Nat) ^ (7 * k) ≤ 2 ^ 63 := Nat.pow_le_pow_right (by omega) (by omega)
  omega
/-- From the group k on, the list l is read as R. -/
def At (l : List Nat) (R : Nat × Nat) (k acc : Nat) : Prop := uvGo k acc (l.drop k) = R
theorem At.out {l : List Nat} {R : Nat × Nat} {k acc : Nat} (h : At l R k acc) (hk : l.length ≤ k) : R = (0, 0) := by
  rw [← h, List.drop_eq_nil_of_le hk]; rfl
theorem At.unfold {l : List Nat} {R : Nat × Nat} {k acc : Nat} (h : At l R k acc) (hk : k < l.length) :
    R = if k = 9 ∧ 1 < l.getD k 0 then (0, 0) else if 128 ≤ l.getD k 0 then uvGo (k + 1) (acc + l.getD k 0 % 128 * 2 ^ (7 * k)) (l.drop (k + 1)) else if l.getD k 0 = 0 ∧ 0 < k then (0, 0) else (acc + l.getD k 0 % 128 * 2 ^ (7 * k), k + 1) := by
  rw [← h, List.drop_eq_getElem_cons hk, uvGo]; simp [hk]
/-- Rows of numbers, one behind the other. -/
def pk : List Nat → List Nat
  | [] => []
  | u :: t => vb u ++ pk t
theorem pk_append (a b : List Nat) : pk (a ++ b) = pk a ++ pk b := by
  induction a with
  | nil => rfl
  | cons x t ih => rw [List.cons_append, pk, pk, ih, List.append_assoc]
theorem pk_take (L : List Nat) (k : Nat) (h : k < L.length) : pk (L.take (k + 1)) = pk (L.take k) ++ vb (L.getD k 0) := by
  rw [List.take_succ_eq_append_getElem h, pk_append]; simp [pk, h]
theorem pk_len (L : List Nat) (h : ∀ u ∈ L, u < 18446744073709551616) : (pk L).length ≤ 10 * L.length := by
  induction L with
  | nil => simp [pk]
  | cons x t ih =>
    have h1 := vb_ten x (h x (by simp))
    have h2 := ih (fun u hu => h u (by simp [hu]))
    rw [pk, List.length_append, List.length_cons]; omega
theorem pk_byte (L : List Nat) : ∀ c ∈ pk L, c < 256 := by
  induction L with
  | nil => intro c hc; simp [pk] at hc
  | cons x t ih =>
    intro c hc
    rw [pk, List.mem_append] at hc
    rcases hc with hc | hc
    · exact vb_byte x c hc
    · exact ih c hc
/-- What is taken apart, with so much fuel. -/
def upF : Nat → List Nat → Option (List Nat)
  | _, [] => some []
  | 0, _ :: _ => none
  | f + 1, c :: t => if (uvGo 0 0 (c :: t)).2 = 0 then none else (upF f ((c :: t).drop (uvGo 0 0 (c :: t)).2)).map fun X => (uvGo 0 0 (c :: t)).1 :: X
/-- acc has been taken, rest is left, and the whole is R. -/
def Run (R : Option (List Nat)) (acc rest : List Nat) : Prop := ∃ f, rest.length ≤ f ∧ (upF f rest).map (fun X => acc ++ X) = R
theorem Run.done {R : Option (List Nat)} {acc : List Nat} (h : Run R acc []) : R = some acc := by
  obtain ⟨f, _, h2⟩ := h
  rw [← h2]; cases f <;> simp [upF]
theorem Run.bad {R : Option (List Nat)} {acc rest : List Nat} (h : Run R acc rest) (hr : 0 < rest.length) (h0 : (uvGo 0 0 rest).2 = 0) : R = none := by
  obtain ⟨f, h1, h2⟩ := h
  rw [← h2]
  cases rest with
  | nil => simp at hr
  | cons c t =>
    cases f with
    | zero => simp at h1
    | succ f => rw [upF, if_pos h0]; rfl
theorem Run.step {R : Option (List Nat)} {acc rest : List Nat} {u n : Nat} (h : Run R acc rest) (hr : 0 < rest.length) (hu : uvGo 0 0 rest = (u, n)) (hn : n ≠ 0) : Run R (acc ++ [u]) (rest.drop n) := by
  obtain ⟨f, h1, h2⟩ := h
  cases rest with
  | nil => simp at hr
  | cons c t =>
    cases f with
    | zero => simp at h1
    | succ f =>
      rw [upF, hu, if_neg hn] at h2
      refine ⟨f, by rw [List.length_drop]; simp at h1 ⊢; omega, ?_⟩
      rw [← h2, Option.map_map]
      congr 1
      funext X
      simp
theorem uv_len (l : List Nat) : ∀ (i acc u n : Nat), uvGo i acc l = (u, n) → n ≤ i + l.length := by
  induction l with
  | nil => intro i acc u n h; simp [uvGo] at h; omega
  | cons c t ih =>
    intro i acc u n h
    rw [uvGo] at h
    split at h
    · simp at h; omega
    · split at h
      · have := ih _ _ _ _ h; simp; omega
      · split at h
        · simp at h; omega
        · simp at h; simp; omega
theorem run_pk (L acc : List Nat) (h : ∀ u ∈ L, u < 18446744073709551616) : ∀ f, (pk L).length ≤ f → (upF f (pk L)).map (fun X => acc ++ X) = some (acc ++ L) := by
  induction L generalizing acc with
  | nil => intro f _; cases f <;> simp [pk, upF]
  | cons x t ih =>
    intro f hf
    have hb := uv_back x (pk t) 0 0 (by simpa using h x (by simp)) (.inl rfl)
    simp only [Nat.mul_zero, Nat.pow_zero, Nat.mul_one, Nat.zero_add] at hb
    have hp := vb_pos x
    rw [pk] at hf ⊢
    rw [List.length_append] at hf
    cases hv : vb x with
    | nil => rw [hv] at hp; simp at hp
    | cons c s =>
      cases f with
      | zero => omega
      | succ f =>
        rw [hv, List.cons_append] at hb
        rw [List.cons_append, upF, hb, if_neg (by simp)]
        have e : (c :: (s ++ pk t)).drop (c :: s).length = pk t := by
          rw [← List.cons_append, List.drop_left]
        simp only at e ⊢
        rw [e, Option.map_map]
        have := ih (acc ++ [x]) (fun u hu => h u (by simp [hu])) f (by omega)
        simp only [List.append_assoc, List.cons_append, List.nil_append] at this
        exact this
theorem run_all (L : List Nat) (h : ∀ u ∈ L, u < 18446744073709551616) : Run (some L) [] (pk L) := ⟨(pk L).length, Nat.le_refl _, by have := run_pk L [] h (pk L).length (Nat.le_refl _); simpa using this⟩
end Go.Proofs.Ytbhmgafiookjnad.VarNum
