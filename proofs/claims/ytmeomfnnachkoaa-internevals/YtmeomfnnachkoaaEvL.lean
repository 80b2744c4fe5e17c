/- The truth of a node, as the program works it out. -/
import Derived.Test.YtmeomfnnachkoaaPlayL
import Derived.Test.YtmeomfnnachkoaaMeanN
namespace Go.Proofs.Ytmeomfnnachkoaa.EvL
open Go.RowKit Go.Maps Mem NdNum TabL NumL DoL DoA PlayL MeanN

theorem infoB : (Try.prog.info? 4).map (fun i => (i.zero, i.size, i.bytes)) = some (some (.bool false), 1, 1) := by kernel_rfl
theorem at_bool {w : World} {ao : Option Addr} {cap : Nat} {X : List Bool} (h : Lies w ao cap (X.map Value.bool)) {i : Nat} (hi : i < X.length) : ∃ b off, ao = some ⟨b, off, none⟩ ∧ w.cell? ⟨b, off + i, none⟩ = some (.bool (at0 X (i : Int))) := by
  obtain ⟨b, off, rfl, _, hc⟩ := h.2.2.2 (by simp; omega)
  refine ⟨b, off, rfl, ?_⟩
  rw [hc i (by simpa using hi), bools_get _ _ hi]
  simp [at0, List.getD]
theorem at0_out {V : List Bool} {a : Int} (h : ¬ a < (V.length : Int)) : at0 V a = false := by
  unfold at0; rw [List.getElem?_eq_none (by omega)]; rfl
set_option maxRecDepth 20000 in
theorem truth_any (n : Nd) (X V : List Bool) (xo vo : Option Addr) (xc vc : Nat) (w : World) (hX : Lies w xo xc (X.map Value.bool)) (hV : Lies w vo vc (V.map Value.bool)) (h3 : n.1 = 3 → 0 ≤ n.2.1)
    (h4 : n.1 = 4 → 0 ≤ n.2.1 ∧ n.2.1 < X.length) (h5 : n.1 = 5 ∨ n.1 = 6 → (0 ≤ n.2.1 ∧ n.2.1 < X.length) ∧ (0 ≤ n.2.2 ∧ n.2.2 < X.length)) :
    Calls Try.prog 24 #[node n, .slice xo X.length xc, .slice vo V.length vc] w fun e w' => e = .returned (.bool (truthN V X n)) ∧ Below w.heap.size w w' := by
  obtain ⟨k, x, y⟩ := n
  simp only at h3 h4 h5
  obtain ⟨W0, eW0⟩ : ∃ W0, w.alloc (.cells #[.int .i64 k, .int .i64 x, .int .i64 y] 33) = W0 := ⟨_, rfl⟩
  have B0 : Below w.heap.size w W0 := by rw [← eW0]; exact (Below.refl _ w).alloc (Nat.le_refl _) _
  have k0 : W0.heap[w.heap.size]? = some (.cells #[.int .i64 k, .int .i64 x, .int .i64 y] 33) := by rw [← eW0]; exact heap_alloc_new w _
  obtain ⟨d0, d1, d2⟩ := cells3 k0
  have hX' := hX.below B0 (Nat.le_refl _)
  have hV' := hV.below B0 (Nat.le_refl _)
  have mX : X.length ≤ 9223372036854775807 := by have := hX.size; simp [maxLen] at this; omega
  have mV : V.length ≤ 9223372036854775807 := by have := hV.size; simp [maxLen] at this; omega
  clear k0 hX hV
  unfold node
  by_cases k2 : k = 2
  · subst k2
    rw [show truthN V X (2, x, y) = true from rfl]
    clear hX' hV'
    go_enter Try.func24, Try.ntmps24
    go_wp2
    go_ret
    exact ⟨rfl, B0⟩
  by_cases k3 : k = 3
  · subst k3
    rw [show truthN V X (3, x, y) = at0 V x from rfl]
    have hx := h3 rfl
    obtain ⟨i, rfl⟩ : ∃ i : Nat, x = (i : Int) := ⟨x.toNat, by omega⟩
    by_cases hl : (i : Int) < (V.length : Int)
    · obtain ⟨b, off, rfl, c⟩ := at_bool hV' (i := i) (by omega)
      generalize at0 V (i : Int) = v at *
      clear hX' hV' k2
      go_enter Try.func24, Try.ntmps24
      go_wp2
      go_ret
      exact ⟨rfl, B0⟩
    · rw [at0_out hl]
      clear hX' hV' k2
      go_enter Try.func24, Try.ntmps24
      go_wp2
      go_ret
      exact ⟨rfl, B0⟩
  by_cases k4 : k = 4
  · subst k4
    rw [show truthN V X (4, x, y) = !(at0 X x) from rfl]
    obtain ⟨hx, hx2⟩ := h4 rfl
    obtain ⟨i, rfl⟩ : ∃ i : Nat, x = (i : Int) := ⟨x.toNat, by omega⟩
    obtain ⟨b, off, rfl, c⟩ := at_bool hX' (i := i) (by omega)
    generalize at0 X (i : Int) = v at *
    clear hX' hV' k2 k3
    go_enter Try.func24, Try.ntmps24
    go_wp2
    go_ret
    exact ⟨rfl, B0⟩
  by_cases k56 : k = 5 ∨ k = 6
  · obtain ⟨⟨hx, hx2⟩, hy, hy2⟩ := h5 k56
    obtain ⟨i, rfl⟩ : ∃ i : Nat, x = (i : Int) := ⟨x.toNat, by omega⟩
    obtain ⟨j, rfl⟩ : ∃ j : Nat, y = (j : Int) := ⟨y.toNat, by omega⟩
    obtain ⟨b, off, rfl, c⟩ := at_bool hX' (i := i) (by omega)
    obtain ⟨b2, off2, e2, c2⟩ := at_bool hX' (i := j) (by omega)
    simp only [Option.some.injEq, Addr.mk.injEq, and_true] at e2
    obtain ⟨rfl, rfl⟩ := e2
    have e5 : truthN V X (5, (i : Int), (j : Int)) = (at0 X (i : Int) && at0 X (j : Int)) := rfl
    have e6 : truthN V X (6, (i : Int), (j : Int)) = (at0 X (i : Int) || at0 X (j : Int)) := rfl
    generalize at0 X (i : Int) = u at *
    generalize at0 X (j : Int) = v at *
    clear hX' hV' k2 k3 k4
    rcases k56 with rfl | rfl
    · rw [e5]
      cases u
      · go_enter Try.func24, Try.ntmps24
        go_wp2
        go_ret
        exact ⟨rfl, B0⟩
      · go_enter Try.func24, Try.ntmps24
        go_wp2
        go_ret
        exact ⟨rfl, B0⟩
    · rw [e6]
      cases u
      · go_enter Try.func24, Try.ntmps24
        go_wp2
        go_ret
        exact ⟨rfl, B0⟩
      · go_enter Try.func24, Try.ntmps24
        go_wp2
        go_ret
        exact ⟨rfl, B0⟩
  rw [show truthN V X (k, x, y) = false by unfold truthN; simp only; rw [if_neg k2, if_neg k3, if_neg k4, if_neg (fun h => k56 (.inl h)), if_neg (fun h => k56 (.inr h))]]
  have q2 : (k == 2) = false := by simpa using k2
  have q3 : (k == 3) = false := by simpa using k3
  have q4 : (k == 4) = false := by simpa using k4
  have q5 : (k == 5) = false := by rw [beq_eq_false_iff_ne]; exact fun h => k56 (.inl h)
  have q6 : (k == 6) = false := by rw [beq_eq_false_iff_ne]; exact fun h => k56 (.inr h)
  clear hX' hV' k2 k3 k4 k56
  go_enter Try.func24, Try.ntmps24
  go_wp2
  go_ret
  exact ⟨rfl, B0⟩
end Go.Proofs.Ytmeomfnnachkoaa.EvL
