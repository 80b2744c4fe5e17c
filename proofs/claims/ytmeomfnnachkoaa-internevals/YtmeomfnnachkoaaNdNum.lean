/- Nodes of formulas as plain data: what a table of them answers, and how a list of them lies in cells. -/
import Derived.WalkKit
import Derived.Maps.OwnSet
namespace Go.Proofs.Ytmeomfnnachkoaa.NdNum
open Go.RowKit

/-- A node: its kind and its two numbers. -/
abbrev Nd := Int × Int × Int
def node (n : Nd) : Value := .agg #[.int .i64 n.1, .int .i64 n.2.1, .int .i64 n.2.2]
/-- A list's cells. -/
def flat (L : List Nd) : List Value := L.flatMap (fun n => [.int .i64 n.1, .int .i64 n.2.1, .int .i64 n.2.2])
theorem flat_nil : flat [] = [] := rfl
theorem flat_cons (n : Nd) (L : List Nd) : flat (n :: L) = .int .i64 n.1 :: .int .i64 n.2.1 :: .int .i64 n.2.2 :: flat L := by simp [flat]
theorem flat_append (L M : List Nd) : flat (L ++ M) = flat L ++ flat M := by simp [flat]
theorem flat_length (L : List Nd) : (flat L).length = L.length * 3 := by
  induction L with
  | nil => rfl
  | cons n L ih => rw [flat_cons]; simp only [List.length_cons, ih]; omega
theorem flat_get (L : List Nd) (i : Nat) (n : Nd) (h : L[i]? = some n) : (flat L)[i * 3]? = some (.int .i64 n.1) ∧ (flat L)[i * 3 + 1]? = some (.int .i64 n.2.1) ∧ (flat L)[i * 3 + 2]? = some (.int .i64 n.2.2) := by
  induction L generalizing i with
  | nil => simp at h
  | cons m L ih =>
    rw [flat_cons]
    cases i with
    | zero => simp at h; subst h; simp
    | succ i =>
      have h2 : L[i]? = some n := by simpa using h
      obtain ⟨h3, h4, h5⟩ := ih i h2
      rw [show (i + 1) * 3 = i * 3 + 3 by omega, show i * 3 + 3 + 1 = i * 3 + 1 + 3 by omega, show i * 3 + 3 + 2 = i * 3 + 2 + 3 by omega]
      simp only [List.getElem?_cons_succ]
      exact ⟨h3, h4, h5⟩
theorem flat_one (L : List Nd) : ∀ u ∈ flat L, u.oneCell' = true := by
  intro u hu
  simp only [flat, List.mem_flatMap] at hu
  obtain ⟨n, _, hu⟩ := hu
  simp at hu
  rcases hu with rfl | rfl | rfl <;> rfl
theorem flat_take (L : List Nd) (k : Nat) : (flat L).take (k * 3) = flat (L.take k) := by
  induction L generalizing k with
  | nil => simp [flat]
  | cons n L ih =>
    cases k with
    | zero => simp [flat]
    | succ k => rw [show (k + 1) * 3 = k * 3 + 3 by omega, flat_cons]; simp only [List.take_succ_cons, ih, flat_cons]

/-- Its numbers are ints. -/
def Wf (n : Nd) : Prop := (Lit.int .i64 n.1).wf = true ∧ (Lit.int .i64 n.2.1).wf = true ∧ (Lit.int .i64 n.2.2).wf = true
theorem wf_of {a : Int} (h0 : -9223372036854775808 ≤ a) (h1 : a ≤ 9223372036854775807) : (Lit.int .i64 a).wf = true := WalkArith.wf_i64 ⟨h0, h1⟩

/-! What a table answers; N: the nodes behind the first two. -/
def full (N : List Nd) : List Nd := (1, 0, 0) :: (2, 0, 0) :: N
theorem full_length (N : List Nd) : (full N).length = N.length + 2 := rfl
def nd (N : List Nd) (i : Nat) : Nd := (full N)[i]?.getD (0, 0, 0)
def hasN (N : List Nd) (a : Int) : Bool := decide (0 ≤ a) && decide (a < (N.length : Int) + 2)
theorem hasN_iff {N : List Nd} {a : Int} : hasN N a = true ↔ 0 ≤ a ∧ a < (N.length : Int) + 2 := by simp [hasN]
/-- The number of a node. -/
def num (N : List Nd) (n : Nd) : List Nd × Option Int :=
  if n ∈ N then (N, some ((N.idxOf n : Nat) + 2 : Int)) else if 19998 ≤ N.length then (N, none) else (N ++ [n], some ((N.length : Int) + 2))
def notN (N : List Nd) (a : Int) : List Nd × Option Int :=
  if hasN N a = false then (N, none) else if (nd N a.toNat).1 = 1 then (N, some 1) else if (nd N a.toNat).1 = 2 then (N, some 0) else if (nd N a.toNat).1 = 4 then (N, some (nd N a.toNat).2.1) else num N (4, a, 0)
def isNotN (N : List Nd) (a b : Int) : Bool := nd N a.toNat == (4, b, 0)
def pairN (N : List Nd) (k a b s l : Int) : List Nd × Option Int :=
  if hasN N a = false ∨ hasN N b = false then (N, none)
  else if a = s ∨ b = s ∨ isNotN N a b = true ∨ isNotN N b a = true then (N, some s)
  else if a = l ∨ a = b then (N, some b)
  else if b = l then (N, some a)
  else num N (k, min a b, max a b)
def doN (N : List Nd) (op : Nd) : List Nd × Option Int :=
  if op.1 = 1 then (N, some 0) else if op.1 = 2 then (N, some 1)
  else if op.1 = 3 then (if op.2.1 < 0 then (N, none) else num N (3, op.2.1, 0))
  else if op.1 = 4 then notN N op.2.1
  else if op.1 = 5 then pairN N 5 op.2.1 op.2.2 0 1
  else if op.1 = 6 then pairN N 6 op.2.1 op.2.2 1 0
  else (N, none)
/-- What the program answers. -/
def ans (r : Option Int) : Value := .tuple #[.int .i64 (r.getD 0), .bool r.isSome]
/-- All of a list, one behind the other: the nodes, and the answers. -/
def playN : List Nd → List Nd → List Nd × List (Option Int)
  | N, [] => (N, [])
  | N, op :: ops => ((playN (doN N op).1 ops).1, (doN N op).2 :: (playN (doN N op).1 ops).2)
theorem playN_snoc (N ops : List Nd) (op : Nd) : playN N (ops ++ [op]) = ((doN (playN N ops).1 op).1, (playN N ops).2 ++ [(doN (playN N ops).1 op).2]) := by
  induction ops generalizing N with
  | nil => simp [playN]
  | cons o ops ih => simp only [List.cons_append, playN, ih]
theorem playN_len (N ops : List Nd) : (playN N ops).2.length = ops.length := by
  induction ops generalizing N with
  | nil => rfl
  | cons o ops ih => simp only [playN, List.length_cons, ih]

/-! The table stays in form. -/
/-- Node number i is in form over the nodes ahead of it. -/
def Fine (N : List Nd) (i : Nat) : Prop :=
  ((nd N i).1 = 3 ∧ 0 ≤ (nd N i).2.1 ∧ (nd N i).2.2 = 0) ∨
  ((nd N i).1 = 4 ∧ 2 ≤ (nd N i).2.1 ∧ (nd N i).2.1 < i ∧ (nd N i).2.2 = 0 ∧ (nd N (nd N i).2.1.toNat).1 ≠ 4) ∨
  (((nd N i).1 = 5 ∨ (nd N i).1 = 6) ∧ 2 ≤ (nd N i).2.1 ∧ (nd N i).2.1 < (nd N i).2.2 ∧ (nd N i).2.2 < i)
structure InForm (N : List Nd) : Prop where
  len : N.length ≤ 19998
  wf : ∀ n ∈ N, Wf n
  once : N.Nodup
  fine : ∀ i, 2 ≤ i → i < N.length + 2 → Fine N i
theorem nd_behind (N : List Nd) (i : Nat) : nd N (i + 2) = N[i]?.getD (0, 0, 0) := rfl
theorem nd_old {N : List Nd} {n : Nd} {i : Nat} (h : i < N.length + 2) : nd (N ++ [n]) i = nd N i := by
  match i, h with
  | 0, _ => rfl
  | 1, _ => rfl
  | i + 2, h => rw [nd_behind, nd_behind, List.getElem?_append_left (by omega)]
theorem nd_new (N : List Nd) (n : Nd) : nd (N ++ [n]) (N.length + 2) = n := by rw [nd_behind]; simp
theorem inForm_nil : InForm [] := ⟨by decide, fun n h => by simp at h, List.nodup_nil, fun i h1 h2 => by simp at h2; omega⟩
theorem nd_zero (N : List Nd) : nd N 0 = (1, 0, 0) := rfl
theorem nd_one (N : List Nd) : nd N 1 = (2, 0, 0) := rfl
theorem nd_mem {N : List Nd} {i : Nat} (h1 : 2 ≤ i) (h2 : i < N.length + 2) : nd N i ∈ N := by
  obtain ⟨j, rfl⟩ : ∃ j, i = j + 2 := ⟨i - 2, by omega⟩
  rw [nd_behind, List.getElem?_eq_getElem (by omega)]
  exact List.getElem_mem _
theorem Fine.old {N : List Nd} {n : Nd} {i : Nat} (h : Fine N i) (hi : i < N.length + 2) : Fine (N ++ [n]) i := by
  unfold Fine at h ⊢
  rw [nd_old hi]
  rcases h with h | ⟨h1, h2, h3, h4, h5⟩ | h
  · exact .inl h
  · exact .inr (.inl ⟨h1, h2, h3, h4, by rw [nd_old (by omega)]; exact h5⟩)
  · exact .inr (.inr h)
/-- A node is added. -/
theorem InForm.add {N : List Nd} {n : Nd} (h : InForm N) (hn : n ∉ N) (hl : N.length < 19998) (hw : Wf n) (hf : Fine (N ++ [n]) (N.length + 2)) : InForm (N ++ [n]) := by
  refine ⟨by simp; omega, fun m hm => ?_, ?_, fun i h1 h2 => ?_⟩
  · rcases List.mem_append.1 hm with hm | hm
    · exact h.wf m hm
    · rw [List.mem_singleton.1 hm]; exact hw
  · rw [List.nodup_append]
    refine ⟨h.once, by simp, fun a ha b hb => ?_⟩
    rw [List.mem_singleton.1 hb]
    rintro rfl
    exact hn ha
  · rcases Nat.lt_or_ge i (N.length + 2) with h3 | h3
    · exact (h.fine i h1 h3).old h3
    · obtain rfl : i = N.length + 2 := by simp at h2; omega
      exact hf
theorem num_inForm {N : List Nd} {n : Nd} (h : InForm N) (hw : Wf n) (hf : n ∉ N → Fine (N ++ [n]) (N.length + 2)) : InForm (num N n).1 := by
  unfold num
  split
  · exact h
  · rename_i h1
    split
    · exact h
    · exact h.add h1 (by omega) hw (hf h1)
theorem nd_lt2 {N : List Nd} {a : Int} (h : hasN N a = true) (h1 : (nd N a.toNat).1 ≠ 1) (h2 : (nd N a.toNat).1 ≠ 2) : 2 ≤ a := by
  have h3 := hasN_iff.1 h
  rcases Nat.lt_or_ge a.toNat 2 with h4 | h4
  · rcases (show a.toNat = 0 ∨ a.toNat = 1 by omega) with h5 | h5
    · rw [h5] at h1; exact absurd rfl h1
    · rw [h5] at h2; exact absurd rfl h2
  · omega
theorem inForm_do {N : List Nd} {op : Nd} (h : InForm N) (hw : Wf op) : InForm (doN N op).1 := by
  have hl := h.len
  have wfl : ∀ a : Int, hasN N a = true → (Lit.int .i64 a).wf = true := fun a ha => by
    have := hasN_iff.1 ha
    exact wf_of (by omega) (by omega)
  have hp : ∀ (k a b s l : Int), (k = 5 ∨ k = 6) → ((s = 0 ∧ l = 1) ∨ (s = 1 ∧ l = 0)) → InForm (pairN N k a b s l).1 := by
    intro k a b s l hk hs
    unfold pairN
    split
    · exact h
    · rename_i h1
      split
      · exact h
      · rename_i h2
        split
        · exact h
        · rename_i h3
          split
          · exact h
          · rename_i h4
            simp only [not_or, Bool.not_eq_false] at h1 h2 h3
            have ha := hasN_iff.1 h1.1
            have hb := hasN_iff.1 h1.2
            refine num_inForm h ⟨by rcases hk with rfl | rfl <;> rfl, ?_, ?_⟩ ?_
            · exact wf_of (a := min a b) (by omega) (by omega)
            · exact wf_of (a := max a b) (by omega) (by omega)
            · intro _
              unfold Fine
              rw [nd_new]
              refine .inr (.inr ⟨hk, ?_, ?_, ?_⟩)
              · show 2 ≤ min a b; omega
              · show min a b < max a b; omega
              · show max a b < ((N.length + 2 : Nat) : Int); omega
  unfold doN
  split
  · exact h
  split
  · exact h
  split
  · split
    · exact h
    · rename_i h1
      refine num_inForm h ⟨rfl, hw.2.1, rfl⟩ fun _ => ?_
      unfold Fine
      rw [nd_new]
      exact .inl ⟨rfl, by show 0 ≤ op.2.1; omega, rfl⟩
  split
  · unfold notN
    split
    · exact h
    · rename_i h1
      split
      · exact h
      split
      · exact h
      split
      · exact h
      · rename_i h2 h3 h4
        simp only [Bool.not_eq_false] at h1
        have h5 := nd_lt2 h1 h2 h3
        have h6 := hasN_iff.1 h1
        refine num_inForm h ⟨rfl, wfl _ h1, rfl⟩ fun _ => ?_
        unfold Fine
        rw [nd_new]
        refine .inr (.inl ⟨rfl, h5, ?_, rfl, ?_⟩)
        · show op.2.1 < ((N.length + 2 : Nat) : Int); omega
        · show (nd (N ++ [_]) op.2.1.toNat).1 ≠ 4
          rw [nd_old (by omega)]
          exact h4
  split
  · exact hp _ _ _ _ _ (.inl rfl) (.inl ⟨rfl, rfl⟩)
  split
  · exact hp _ _ _ _ _ (.inr rfl) (.inr ⟨rfl, rfl⟩)
  · exact h
theorem inForm_play {N ops : List Nd} (h : InForm N) (hw : ∀ n ∈ ops, Wf n) : InForm (playN N ops).1 := by
  induction ops generalizing N with
  | nil => exact h
  | cons o ops ih => exact ih (inForm_do h (hw o (by simp))) (fun n hn => hw n (by simp [hn]))
end Go.Proofs.Ytmeomfnnachkoaa.NdNum
