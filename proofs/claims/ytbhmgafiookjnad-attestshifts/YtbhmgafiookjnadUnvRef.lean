/- What the reference's reading of a number in groups of seven bits answers: the same as the program's own. -/
import Derived.Test.YtbhmgafiookjnadVar
namespace Go.Proofs.Ytbhmgafiookjnad.UnvRef
open Go.RowKit Mem VarNum Var

theorem sv_drop (m : List Nat) (j : Nat) (h : j < m.length) : sv (m.drop j) = m.getD j 0 % 128 + 128 * sv (m.drop (j + 1)) := by
  rw [List.drop_eq_getElem_cons h, sv]; simp [h]
theorem take_last (l : List Nat) (k : Nat) (h : k < l.length) : l.take (k + 1) = l.take k ++ [l.getD k 0] := by
  rw [List.take_succ_eq_append_getElem h]; simp [h]
theorem At.next {l : List Nat} {R : Nat × Nat} {k : Nat} (h : At l R k (sv (l.take k))) (hk : k < l.length) (hc : 128 ≤ l.getD k 0) (h9 : k < 9) : At l R (k + 1) (sv (l.take (k + 1))) := by
  have hu := h.unfold hk
  rw [if_neg (by omega), if_pos hc] at hu
  unfold At
  rw [hu, take_last l k hk, sv_append, pow_128, List.length_take, Nat.min_eq_left (by omega)]
theorem At.nine {l : List Nat} {R : Nat × Nat} {k acc : Nat} (h : At l R k acc) (hk : k < l.length) (hc : 128 ≤ l.getD k 0) (h9 : k = 9) : R = (0, 0) := by
  have hu := h.unfold hk
  rw [if_pos (by omega)] at hu
  exact hu
theorem At.found {l : List Nat} {R : Nat × Nat} {k : Nat} (h : At l R k (sv (l.take k))) (hk : k < l.length) (hc : l.getD k 0 < 128) (h9 : k ≤ 9) (hp : ∀ x ∈ l.take k, 128 ≤ x ∧ x < 256) :
    R = if vb (sv (l.take (k + 1)) % 18446744073709551616) = l.take (k + 1) then (sv (l.take (k + 1)) % 18446744073709551616, k + 1) else (0, 0) := by
  have hlen : (l.take k).length = k := by rw [List.length_take, Nat.min_eq_left (by omega)]
  have hr := ref_step (l.take k) (l.drop (k + 1)) (l.getD k 0) hp hc (by omega)
  rw [hlen] at hr
  rw [take_last l k hk, hr]
  rw [← h, List.drop_eq_getElem_cons hk]
  simp [hk]
/-- Where the reference's outer loop stands. -/
def Pos (l : List Nat) (R : Nat × Nat) (k : Nat) : Prop := k ≤ 10 ∧ (∀ x ∈ l.take k, 128 ≤ x ∧ x < 256) ∧ (k ≤ 9 → At l R k (sv (l.take k))) ∧ (k = 10 → R = (0, 0))
theorem Pos.next {l : List Nat} {R : Nat × Nat} {k : Nat} (h : Pos l R k) (hk : k < l.length) (h9 : k ≤ 9) (hb8 : ∀ c ∈ l, c < 256) (hc : 128 ≤ l.getD k 0) : Pos l R (k + 1) := by
  obtain ⟨h1, h2, h3, h4⟩ := h
  refine ⟨by omega, ?_, fun h5 => At.next (h3 h9) hk hc (by omega), fun h5 => At.nine (h3 h9) hk hc (by omega)⟩
  intro x hx
  rw [take_last l k hk] at hx
  simp only [List.mem_append, List.mem_singleton] at hx
  rcases hx with hx | rfl
  · exact h2 x hx
  · have : l.getD k 0 = l[k] := by simp [hk]
    exact ⟨hc, by rw [this]; exact hb8 _ (List.getElem_mem hk)⟩
theorem Pos.out {l : List Nat} {R : Nat × Nat} {k : Nat} (h : Pos l R k) (hk : 10 ≤ k ∨ l.length ≤ k) : R = (0, 0) := by
  obtain ⟨h1, h2, h3, h4⟩ := h
  by_cases h5 : k = 10
  · exact h4 h5
  · exact (h3 (by omega)).out (by omega)
theorem Pos.found {l : List Nat} {R : Nat × Nat} {k : Nat} (h : Pos l R k) (hk : k < l.length) (h9 : k ≤ 9) (hc : l.getD k 0 < 128) :
    R = if vb (sv (l.take (k + 1)) % 18446744073709551616) = l.take (k + 1) then (sv (l.take (k + 1)) % 18446744073709551616, k + 1) else (0, 0) := At.found (h.2.2.1 h9) hk hc h9 h.2.1

end Go.Proofs.Ytbhmgafiookjnad.UnvRef
