/- And and Or on a table; all operations. -/
import Derived.Test.YtmeomfnnachkoaaDoL
namespace Go.Proofs.Ytmeomfnnachkoaa.DoA
open Go.RowKit Go.Maps Mem NdNum TabL NumL DoL

theorem cells3 {w : World} {g : Nat} {a b c : Value} {t : TypeId} (h : w.heap[g]? = some (.cells #[a, b, c] t)) : w.cell? ⟨g, 0, none⟩ = some a ∧ w.cell? ⟨g, 1, none⟩ = some b ∧ w.cell? ⟨g, 2, none⟩ = some c := by
  refine ⟨?_, ?_, ?_⟩ <;> simp [World.cell?, h]
set_option maxHeartbeats 1000000 in
theorem pair_any {w : World} {g r m : Nat} {N : List Nd} (h : Tab w g r m N) (k a b s l : Int) (hk : (Lit.int .i64 k).wf = true) (hi : InForm (pairN N k a b s l).1) :
    Calls Try.prog 27 #[.pointer (some ⟨g, 0, none⟩), .agg #[.int .i64 k, .int .i64 a, .int .i64 b], .int .i64 s, .int .i64 l] w fun e w' => e = .returned (ans (pairN N k a b s l).2) ∧ Went g r m (pairN N k a b s l).1 w w' := by
  obtain ⟨W0, eW0⟩ : ∃ W0, (w.alloc (.cells #[.int .i64 k, .int .i64 a, .int .i64 b] 36)).drew = W0 := ⟨_, rfl⟩
  have B0 : Below w.heap.size w W0 := by rw [← eW0]; exact ((Below.refl _ w).alloc (Nat.le_refl _) _).drew
  have k0 : W0.heap[w.heap.size]? = some (.cells #[.int .i64 k, .int .i64 a, .int .i64 b] 36) := by rw [← eW0]; exact heap_alloc_new w _
  have lt0 := heap_lt k0
  have h' := h.below B0
  have cHa := has_any h' a
  have cHb := has_any h' b
  have K0 : Hid (W0.heap[w.heap.size]? = some (.cells #[.int .i64 k, .int .i64 a, .int .i64 b] 36)) := k0
  obtain ⟨d0, d1, d2⟩ := cells3 k0
  clear k0
  by_cases h0 : hasN N a = false
  · have e1 : pairN N k a b s l = (N, none) := by unfold pairN; rw [if_pos (.inl h0)]
    rw [e1]
    rw [h0] at cHa
    go_enter Try.func27, Try.ntmps27
    go_wp2
    go_region
    go_wp2_with (go_at_call 23; refine cHa.mono ?_; rintro e w1 ⟨rfl, hw⟩; have hw2 := hw.symm; clear hw; subst hw2)
    go_ret2
    exact ⟨rfl, tab_went h B0⟩
  simp only [Bool.not_eq_false] at h0
  rw [h0] at cHa
  have t0 : True := trivial
  by_cases h1 : hasN N b = false
  · have e1 : pairN N k a b s l = (N, none) := by unfold pairN; rw [if_pos (.inr h1)]
    rw [e1]
    rw [h1] at cHb
    go_enter Try.func27, Try.ntmps27
    go_wp2
    go_region
    go_wp2_with (first
      | (go_at_call 23; have _t := t0; clear _t t0; refine cHa.mono ?_; rintro e w1 ⟨rfl, hw⟩; have hw2 := hw.symm; clear hw; subst hw2)
      | (go_at_call 23; refine cHb.mono ?_; rintro e w1 ⟨rfl, hw⟩; have hw2 := hw.symm; clear hw; subst hw2))
    go_ret2
    exact ⟨rfl, tab_went h B0⟩
  simp only [Bool.not_eq_false] at h1
  rw [h1] at cHb
  have e0 : pairN N k a b s l = if a = s ∨ b = s ∨ isNotN N a b = true ∨ isNotN N b a = true then (N, some s) else if a = l ∨ a = b then (N, some b) else if b = l then (N, some a) else num N (k, min a b, max a b) := by
    unfold pairN; rw [if_neg (by simp [h0, h1])]
  rw [e0] at hi ⊢
  clear e0
  by_cases h2 : a = s
  · rw [if_pos (.inl h2)]
    have b2 : (a == s) = true := by simpa using h2
    clear h2 hi
    go_enter Try.func27, Try.ntmps27
    go_wp2
    go_region
    go_wp2_with (first
      | (go_at_call 23; have _t := t0; clear _t t0; refine cHa.mono ?_; rintro e w1 ⟨rfl, hw⟩; have hw2 := hw.symm; clear hw; subst hw2)
      | (go_at_call 23; refine cHb.mono ?_; rintro e w1 ⟨rfl, hw⟩; have hw2 := hw.symm; clear hw; subst hw2))
    go_ret2
    exact ⟨rfl, tab_went h B0⟩
  have b2 : (a == s) = false := by simpa using h2
  by_cases h3 : b = s
  · rw [if_pos (.inr (.inl h3))]
    have b3 : (b == s) = true := by simpa using h3
    clear h3 hi
    go_enter Try.func27, Try.ntmps27
    go_wp2
    go_region
    go_wp2_with (first
      | (go_at_call 23; have _t := t0; clear _t t0; refine cHa.mono ?_; rintro e w1 ⟨rfl, hw⟩; have hw2 := hw.symm; clear hw; subst hw2)
      | (go_at_call 23; refine cHb.mono ?_; rintro e w1 ⟨rfl, hw⟩; have hw2 := hw.symm; clear hw; subst hw2))
    go_ret2
    exact ⟨rfl, tab_went h B0⟩
  have b3 : (b == s) = false := by simpa using h3
  have cI1 := isNot_any h' a b h0 h1
  have cI2 := fun (W : World) (hb : Below w.heap.size w W) => isNot_any (h.below hb) b a h1 h0
  have t1 : True := trivial
  by_cases h4 : isNotN N a b = true
  · rw [if_pos (.inr (.inr (.inl h4)))]
    rw [h4] at cI1
    clear h4 hi
    go_enter Try.func27, Try.ntmps27
    go_wp2
    go_region
    go_wp2_with (first
      | (go_at_call 23; have _t := t0; clear _t t0; refine cHa.mono ?_; rintro e w1 ⟨rfl, hw⟩; have hw2 := hw.symm; clear hw; subst hw2)
      | (go_at_call 23; refine cHb.mono ?_; rintro e w1 ⟨rfl, hw⟩; have hw2 := hw.symm; clear hw; subst hw2)
      | (go_at_call 33; have _t := t1; clear _t t1; refine cI1.mono ?_; rintro e w1 ⟨rfl, hw1⟩))
    go_ret2
    exact ⟨rfl, tab_went h (bt B0 hw1)⟩
  have b4 : isNotN N a b = false := by simpa using h4
  rw [b4] at cI1
  by_cases h5 : isNotN N b a = true
  · rw [if_pos (.inr (.inr (.inr h5)))]
    rw [h5] at cI2
    clear h5 hi b4 h4
    go_enter Try.func27, Try.ntmps27
    go_wp2
    go_region
    go_wp2_with (first
      | (go_at_call 23; have _t := t0; clear _t t0; refine cHa.mono ?_; rintro e w1 ⟨rfl, hw⟩; have hw2 := hw.symm; clear hw; subst hw2)
      | (go_at_call 23; refine cHb.mono ?_; rintro e w1 ⟨rfl, hw⟩; have hw2 := hw.symm; clear hw; subst hw2)
      | (go_at_call 33; have _t := t1; clear _t t1; refine cI1.mono ?_; rintro e w1 ⟨rfl, hw1⟩)
      | (go_at_call 33; refine (cI2 _ (bt B0 hw1)).mono ?_; rintro e w2 ⟨rfl, hw2⟩))
    go_ret2
    exact ⟨rfl, tab_went h (bt (bt B0 hw1) hw2)⟩
  have b5 : isNotN N b a = false := by simpa using h5
  rw [b5] at cI2
  rw [if_neg (by simp [h2, h3, b4, b5])] at hi ⊢
  clear h4 h5 b4 b5
  by_cases h6 : a = l
  · rw [if_pos (.inl h6)]
    have b6 : (a == l) = true := by simpa using h6
    clear h6 hi
    go_enter Try.func27, Try.ntmps27
    go_wp2
    go_region
    go_wp2_with (first
      | (go_at_call 23; have _t := t0; clear _t t0; refine cHa.mono ?_; rintro e w1 ⟨rfl, hw⟩; have hw2 := hw.symm; clear hw; subst hw2)
      | (go_at_call 23; refine cHb.mono ?_; rintro e w1 ⟨rfl, hw⟩; have hw2 := hw.symm; clear hw; subst hw2)
      | (go_at_call 33; have _t := t1; clear _t t1; refine cI1.mono ?_; rintro e w1 ⟨rfl, hw1⟩)
      | (go_at_call 33; refine (cI2 _ (bt B0 hw1)).mono ?_; rintro e w2 ⟨rfl, hw2⟩))
    go_ret2
    exact ⟨rfl, tab_went h (bt (bt B0 hw1) hw2)⟩
  have b6 : (a == l) = false := by simpa using h6
  by_cases h7 : a = b
  · rw [if_pos (.inr h7)]
    have b7 : (a == b) = true := by simpa using h7
    clear h7 hi
    go_enter Try.func27, Try.ntmps27
    go_wp2
    go_region
    go_wp2_with (first
      | (go_at_call 23; have _t := t0; clear _t t0; refine cHa.mono ?_; rintro e w1 ⟨rfl, hw⟩; have hw2 := hw.symm; clear hw; subst hw2)
      | (go_at_call 23; refine cHb.mono ?_; rintro e w1 ⟨rfl, hw⟩; have hw2 := hw.symm; clear hw; subst hw2)
      | (go_at_call 33; have _t := t1; clear _t t1; refine cI1.mono ?_; rintro e w1 ⟨rfl, hw1⟩)
      | (go_at_call 33; refine (cI2 _ (bt B0 hw1)).mono ?_; rintro e w2 ⟨rfl, hw2⟩))
    go_ret2
    exact ⟨rfl, tab_went h (bt (bt B0 hw1) hw2)⟩
  have b7 : (a == b) = false := by simpa using h7
  rw [if_neg (by simp [h6, h7])] at hi ⊢
  by_cases h8 : b = l
  · rw [if_pos h8]
    have b8 : (b == l) = true := by simpa using h8
    clear h8 hi
    go_enter Try.func27, Try.ntmps27
    go_wp2
    go_region
    go_wp2_with (first
      | (go_at_call 23; have _t := t0; clear _t t0; refine cHa.mono ?_; rintro e w1 ⟨rfl, hw⟩; have hw2 := hw.symm; clear hw; subst hw2)
      | (go_at_call 23; refine cHb.mono ?_; rintro e w1 ⟨rfl, hw⟩; have hw2 := hw.symm; clear hw; subst hw2)
      | (go_at_call 33; have _t := t1; clear _t t1; refine cI1.mono ?_; rintro e w1 ⟨rfl, hw1⟩)
      | (go_at_call 33; refine (cI2 _ (bt B0 hw1)).mono ?_; rintro e w2 ⟨rfl, hw2⟩))
    go_ret2
    exact ⟨rfl, tab_went h (bt (bt B0 hw1) hw2)⟩
  have b8 : (b == l) = false := by simpa using h8
  rw [if_neg h8] at hi ⊢
  have wfa := has_wf h.1 h0
  have wfb := has_wf h.1 h1
  have cM := fun (W : World) (hb : Below w.heap.size w W) => number_any (h.below hb) (k, min a b, max a b) ⟨hk, by show (Lit.int .i64 (min a b)).wf = true; rcases (show min a b = a ∨ min a b = b by omega) with e | e <;> rw [e] <;> assumption, by show (Lit.int .i64 (max a b)).wf = true; rcases (show max a b = a ∨ max a b = b by omega) with e | e <;> rw [e] <;> assumption⟩ hi
  generalize num N (k, min a b, max a b) = p at *
  unfold ans at *
  unfold node at cM
  simp only at cM
  clear h2 h3 h6 h7 h8
  go_enter Try.func27, Try.ntmps27
  go_wp2
  go_region
  go_wp2_with (first
      | (go_at_call 23; have _t := t0; clear _t t0; refine cHa.mono ?_; rintro e w1 ⟨rfl, hw⟩; have hw2 := hw.symm; clear hw; subst hw2)
      | (go_at_call 23; refine cHb.mono ?_; rintro e w1 ⟨rfl, hw⟩; have hw2 := hw.symm; clear hw; subst hw2)
      | (go_at_call 33; have _t := t1; clear _t t1; refine cI1.mono ?_; rintro e w1 ⟨rfl, hw1⟩)
      | (go_at_call 33; refine (cI2 _ (bt B0 hw1)).mono ?_; rintro e w2 ⟨rfl, hw2⟩; obtain ⟨x0, x1, x2⟩ := cells3 (((bt hw1 hw2).block _ lt0).trans K0.out))
      | (go_at_call 32; refine (cM _ (bt (bt B0 hw1) hw2)).mono ?_; rintro e w3 ⟨rfl, hw3⟩))
  go_ret2
  exact ⟨rfl, went_after (bt (bt B0 hw1) hw2) hw3⟩
/-- Whatever is asked for. -/
theorem do_any {w : World} {g r m : Nat} {N : List Nd} (h : Tab w g r m N) (op : Nd) (hw : Wf op) :
    Calls Try.prog 15 #[.pointer (some ⟨g, 0, none⟩), node op] w fun e w' => e = .returned (ans (doN N op).2) ∧ Went g r m (doN N op).1 w w' := by
  have hi := inForm_do h.1 hw
  obtain ⟨k, a, b⟩ := op
  obtain ⟨w1, w2, w3⟩ := hw
  simp only at w1 w2 w3
  have B0 : Below w.heap.size w (w.alloc (.cells #[.int .i64 k, .int .i64 a, .int .i64 b] 36)) := (Below.refl _ w).alloc (Nat.le_refl _) _
  have h' := h.below B0
  unfold doN at hi ⊢
  simp only at hi ⊢
  unfold node
  by_cases k1 : k = 1
  · rw [if_pos k1]
    subst k1
    go_enter Try.func15, Try.ntmps15
    go_wp2
    go_ret2
    exact ⟨rfl, tab_went h B0⟩
  rw [if_neg k1] at hi ⊢
  by_cases k2 : k = 2
  · rw [if_pos k2]
    subst k2
    go_enter Try.func15, Try.ntmps15
    go_wp2
    go_ret2
    exact ⟨rfl, tab_went h B0⟩
  rw [if_neg k2] at hi ⊢
  by_cases k3 : k = 3
  · rw [if_pos k3] at hi ⊢
    subst k3
    have cV := variable_any h' a w2 hi
    generalize (if a < 0 then (N, none) else num N (3, a, 0)) = p at *
    unfold ans at *
    go_enter Try.func15, Try.ntmps15
    go_wp2_with (go_at_call 25; refine cV.mono ?_; rintro e w1 ⟨rfl, hw1⟩)
    go_ret2
    exact ⟨rfl, went_after B0 hw1⟩
  rw [if_neg k3] at hi ⊢
  by_cases k4 : k = 4
  · rw [if_pos k4] at hi ⊢
    subst k4
    have cV := not_any h' a hi
    generalize notN N a = p at *
    unfold ans at *
    go_enter Try.func15, Try.ntmps15
    go_wp2_with (go_at_call 26; refine cV.mono ?_; rintro e w1 ⟨rfl, hw1⟩)
    go_ret2
    exact ⟨rfl, went_after B0 hw1⟩
  rw [if_neg k4] at hi ⊢
  by_cases k5 : k = 5
  · rw [if_pos k5] at hi ⊢
    subst k5
    have cV := pair_any h' 5 a b 0 1 rfl hi
    generalize pairN N 5 a b 0 1 = p at *
    unfold ans at *
    go_enter Try.func15, Try.ntmps15
    go_wp2_with (go_at_call 27; refine cV.mono ?_; rintro e w1 ⟨rfl, hw1⟩)
    go_ret2
    exact ⟨rfl, went_after B0 hw1⟩
  rw [if_neg k5] at hi ⊢
  by_cases k6 : k = 6
  · rw [if_pos k6] at hi ⊢
    subst k6
    have cV := pair_any h' 6 a b 1 0 rfl hi
    generalize pairN N 6 a b 1 0 = p at *
    unfold ans at *
    go_enter Try.func15, Try.ntmps15
    go_wp2_with (go_at_call 27; refine cV.mono ?_; rintro e w1 ⟨rfl, hw1⟩)
    go_ret2
    exact ⟨rfl, went_after B0 hw1⟩
  rw [if_neg k6] at hi ⊢
  have q1 : (k == 1) = false := by simpa using k1
  have q2 : (k == 2) = false := by simpa using k2
  have q3 : (k == 3) = false := by simpa using k3
  have q4 : (k == 4) = false := by simpa using k4
  have q5 : (k == 5) = false := by simpa using k5
  have q6 : (k == 6) = false := by simpa using k6
  go_enter Try.func15, Try.ntmps15
  go_wp2
  go_ret2
  exact ⟨rfl, tab_went h B0⟩
end Go.Proofs.Ytmeomfnnachkoaa.DoA
