/- A nil table; two tables beside one another; variables one behind the other. -/
import Derived.Test.YtmeomfnnachkoaaPlayL
namespace Go.Proofs.Ytmeomfnnachkoaa.NilT
open Go.RowKit Go.Maps Mem NdNum TabL NumL DoL DoA PlayL

theorem nil_len (w : World) : Calls Try.prog 13 #[.pointer none] w fun e w' => e = .returned (.int .i64 0) ∧ w' = w := by
  go_enter Try.func13, Try.ntmps13
  go_wp2
  go_ret
  exact ⟨rfl, rfl⟩
theorem nil_has (w : World) : Calls Try.prog 23 #[.pointer none, .int .i64 0] w fun e w' => e = .returned (.bool false) ∧ w' = w := by
  have cL := nil_len w
  go_enter Try.func23, Try.ntmps23
  go_wp2_with (go_at_call 13; refine cL.mono ?_; rintro e w1 ⟨rfl, hw⟩; have hw2 := hw.symm; clear hw; subst hw2)
  go_ret
  exact ⟨rfl, rfl⟩
theorem nil_do (w : World) (n : Nd) : Calls Try.prog 15 #[.pointer none, .agg #[.int .i64 n.1, .int .i64 n.2.1, .int .i64 n.2.2]] w fun e w' => e = .returned (.tuple #[.int .i64 0, .bool false]) ∧ Below w.heap.size w w' := by
  go_enter Try.func15, Try.ntmps15
  go_wp2
  go_ret2
  exact ⟨rfl, (Below.refl _ _).alloc (Nat.le_refl _) _⟩
theorem nil_node (w : World) : Calls Try.prog 17 #[.pointer none, .int .i64 0] w fun e w' => e = .returned (.tuple #[.agg #[.int .i64 0, .int .i64 0, .int .i64 0], .bool false]) ∧ Below w.heap.size w w' := by
  have cH := nil_has (w.alloc (.cells #[.int .i64 0, .int .i64 0, .int .i64 0] 33))
  go_enter Try.func17, Try.ntmps17
  go_wp2_with (go_at_call 23; refine cH.mono ?_; rintro e w1 ⟨rfl, hw⟩; have hw2 := hw.symm; clear hw; subst hw2)
  refine bodyPost_ret (v := .tuple #[.agg #[.int .i64 0, .int .i64 0, .int .i64 0], .bool false]) ?_ rfl ?_
  · simp [results, go_sem]
  · exact ⟨rfl, (Below.refl _ _).alloc (Nat.le_refl _) _⟩
theorem nil_eval (w : World) : Calls Try.prog 14 #[.pointer none, .int .i64 0, .slice none 0 0] w fun e w' => e = .returned (.tuple #[.bool false, .bool false]) ∧ w' = w := by
  have cH := nil_has w
  go_enter Try.func14, Try.ntmps14
  go_wp2_with (go_at_call 23; refine cH.mono ?_; rintro e w1 ⟨rfl, hw⟩; have hw2 := hw.symm; clear hw; subst hw2)
  go_ret2
  exact ⟨rfl, rfl⟩
theorem nil_reach (w : World) : Calls Try.prog 16 #[.pointer none, .int .i64 0] w fun e w' => e = .returned (.slice none 0 0) ∧ w' = w := by
  have cH := nil_has w
  go_enter Try.func16, Try.ntmps16
  go_wp2_with (go_at_call 23; refine cH.mono ?_; rintro e w1 ⟨rfl, hw⟩; have hw2 := hw.symm; clear hw; subst hw2)
  go_ret
  exact ⟨rfl, rfl⟩
/-- A table stays where another one is gone on with. -/
theorem tab_apart {w w1 : World} {g r m g' r' m' : Nat} {N : List Nd} (h : Tab w g' r' m' N) (hA : Away g r m w w1) (h1 : g' ≠ g ∧ g' ≠ r ∧ g' ≠ m) (h2 : r' ≠ g ∧ r' ≠ r ∧ r' ≠ m) (h3 : m' ≠ g ∧ m' ≠ r ∧ m' ≠ m) : Tab w1 g' r' m' N := by
  obtain ⟨a0, sv, mv, a1, a2⟩ := h
  refine ⟨a0, sv, mv, by rw [hA.block g' (heap_lt a1) h1.1 h1.2.1 h1.2.2]; exact a1, ?_⟩
  rcases a2 with a2 | ⟨b0, b1, b2, b3, ⟨cap, rfl⟩, b5, b6, D, b7, b8⟩
  · exact .inl a2
  · refine .inr ⟨b0, b1, b2, b3, ⟨cap, rfl⟩, owns_block b5 (hA.block r' (b5.lt r' rfl).2 h2.1 h2.2.1 h2.2.2), b6, D, ?_, b8⟩
    have hl := b7.lt
    obtain ⟨es, clock, e1, e2⟩ := b7
    exact ⟨es, clock, by rw [hA.block m' hl h3.1 h3.2.1 h3.2.2]; exact e1, e2⟩
/-- Variables 0, 1, .. as many as there is room for. -/
def V (k : Nat) : List Nd := (List.range (min k 19998)).map (fun v : Nat => ((3, (v : Int), 0) : Nd))
theorem V_length (k : Nat) : (V k).length = min k 19998 := by simp [V]
theorem V_mem (k j : Nat) : ((3, (j : Int), 0) : Nd) ∈ V k ↔ j < min k 19998 := by
  simp only [V, List.mem_map, List.mem_range]
  constructor
  · rintro ⟨v, hv, e⟩
    simp at e
    omega
  · intro h
    exact ⟨j, h, rfl⟩
theorem V_ne (k : Nat) (h : 1 ≤ k) : V k ≠ [] := by
  intro e
  have := V_length k
  rw [e] at this
  simp at this
  omega
theorem doN_var (k : Nat) : doN (V k) (3, (k : Int), 0) = (V (k + 1), if k < 19998 then some ((k : Int) + 2) else none) := by
  unfold doN
  rw [if_neg (by simp), if_neg (by simp), if_pos rfl, if_neg (by simp)]
  unfold num
  rw [if_neg (by show ((3, (k : Int), 0) : Nd) ∉ V k; rw [V_mem]; omega), V_length]
  by_cases h : k < 19998
  · rw [if_neg (by omega), if_pos h]
    refine Prod.ext ?_ ?_
    · show V k ++ [(3, (k : Int), 0)] = V (k + 1)
      unfold V
      rw [show min (k + 1) 19998 = min k 19998 + 1 by omega, List.range_succ, List.map_append, show min k 19998 = k by omega]
      rfl
    · show some (((min k 19998 : Nat) : Int) + 2) = some ((k : Int) + 2)
      rw [show min k 19998 = k by omega]
  · rw [if_pos (by omega), if_neg h]
    refine Prod.ext ?_ rfl
    show V k = V (k + 1)
    unfold V
    rw [show min (k + 1) 19998 = min k 19998 by omega]
theorem doN_again (k : Nat) : doN (V k) (3, 0, 0) = (V (max k 1), some 2) := by
  by_cases h : k = 0
  · subst h
    exact doN_var 0
  · have h0 : ((3, 0, 0) : Nd) ∈ V k := by
      have := (V_mem k 0).2 (by omega)
      simpa using this
    unfold doN
    rw [if_neg (by simp), if_neg (by simp), if_pos rfl, if_neg (by simp)]
    unfold num
    rw [if_pos h0, show max k 1 = k by omega]
    refine Prod.ext rfl ?_
    show some (((List.idxOf ((3, 0, 0) : Nd) (V k) : Nat) : Int) + 2) = some 2
    have e : V k = (3, 0, 0) :: (V k).tail := by
      unfold V
      obtain ⟨j, hj⟩ : ∃ j, min k 19998 = j + 1 := ⟨min k 19998 - 1, by omega⟩
      rw [hj, List.range_succ_eq_map]
      rfl
    rw [e]
    simp
/-- The blocks of two tables. -/
def Apart2 (g r1 m1 r2 m2 s : Nat) : Prop := g ≤ r1 ∧ g ≤ m1 ∧ g < r2 ∧ g < m2 ∧ r1 ≠ g + 1 ∧ m1 ≠ g + 1 ∧ r1 ≠ r2 ∧ r1 ≠ m2 ∧ m1 ≠ r2 ∧ m1 ≠ m2 ∧ r1 < s ∧ m1 < s ∧ r2 < s ∧ m2 < s ∧ g + 2 ≤ s
/-- One is gone on with. -/
theorem two_first {w w1 : World} {g r1 m1 r2 m2 : Nat} {N1 N2 : List Nd} (h1 : Went g r1 m1 N1 w w1) (h2 : Tab w (g + 1) r2 m2 N2) (hs : Apart2 g r1 m1 r2 m2 w.heap.size) (hn : N1 ≠ []) :
    ∃ r m, Tab w1 g r m N1 ∧ Tab w1 (g + 1) r2 m2 N2 ∧ Apart2 g r m r2 m2 w1.heap.size ∧ Below g w w1 := by
  obtain ⟨r, m, t1, t2, t3, t4⟩ := h1
  unfold Apart2 at hs ⊢
  have hz := t2.size
  have hl := (tab_lt t1).resolve_right hn
  exact ⟨r, m, t1, tab_apart h2 t2 ⟨by omega, by omega, by omega⟩ ⟨by omega, by omega, by omega⟩ ⟨by omega, by omega, by omega⟩, by omega, t2.below (by omega) (by omega) (by omega) (by omega)⟩
theorem two_second {w w1 : World} {g r1 m1 r2 m2 : Nat} {N1 N2 : List Nd} (h1 : Tab w g r1 m1 N1) (h2 : Went (g + 1) r2 m2 N2 w w1) (hs : Apart2 g r1 m1 r2 m2 w.heap.size) (hn : N2 ≠ []) :
    ∃ r m, Tab w1 g r1 m1 N1 ∧ Tab w1 (g + 1) r m N2 ∧ Apart2 g r1 m1 r m w1.heap.size ∧ Below g w w1 := by
  obtain ⟨r, m, t1, t2, t3, t4⟩ := h2
  unfold Apart2 at hs ⊢
  have hz := t2.size
  have hl := (tab_lt t1).resolve_right hn
  exact ⟨r, m, tab_apart h1 t2 ⟨by omega, by omega, by omega⟩ ⟨by omega, by omega, by omega⟩ ⟨by omega, by omega, by omega⟩, t1, by omega, t2.below (by omega) (by omega) (by omega) (by omega)⟩
end Go.Proofs.Ytmeomfnnachkoaa.NilT
