/- What is done on a table. -/
import Derived.Test.YtmeomfnnachkoaaNumL
import Derived.Lib.MinMax
namespace Go.Proofs.Ytmeomfnnachkoaa.DoL
open Go.RowKit Go.Maps Mem NdNum TabL NumL

theorem equal_node (w : World) (n k : Nd) (hn : Wf n) (hk : Wf k) : (Op.equal 33 (node n) (node k)).run Try.prog w = .ok (n == k) w := by
  obtain ⟨r, h1, h2⟩ := run_equal_deep (P := Try.prog) w (m := 2) (by omega) (k := 33) (by kernel_rfl) wideN (kl_is n hn) (kl_is k hk)
  rw [h1]
  congr 1
  rw [Bool.eq_iff_iff, h2, beq_iff_eq]
  exact ⟨kl_inj hn hk, fun h => by rw [h]⟩
theorem eql_node (w : World) (n k : Nd) (hn : Wf n) (hk : Wf k) :
    (binOp .eql 33 (.agg #[.int .i64 n.1, .int .i64 n.2.1, .int .i64 n.2.2]) (.agg #[.int .i64 k.1, .int .i64 k.2.1, .int .i64 k.2.2])).run Try.prog w = .ok (.bool (n == k)) w := by
  have h := equal_node w n k hn hk
  unfold node at h
  simp only [binOp]
  simp [h]
theorem neq_node (w : World) (n k : Nd) (hn : Wf n) (hk : Wf k) :
    (binOp .neq 33 (.agg #[.int .i64 n.1, .int .i64 n.2.1, .int .i64 n.2.2]) (.agg #[.int .i64 k.1, .int .i64 k.2.1, .int .i64 k.2.2])).run Try.prog w = .ok (.bool (!(n == k))) w := by
  have h := equal_node w n k hn hk
  unfold node at h
  simp only [binOp]
  simp [h]
theorem nd_wf {N : List Nd} (h : InForm N) {i : Nat} (hi : i < N.length + 2) : Wf (nd N i) := by
  match i, hi with
  | 0, _ => exact ⟨rfl, rfl, rfl⟩
  | 1, _ => exact ⟨rfl, rfl, rfl⟩
  | i + 2, hi => exact h.wf _ (nd_mem (by omega) hi)
theorem has_wf {N : List Nd} (h : InForm N) {a : Int} (ha : hasN N a = true) : (Lit.int .i64 a).wf = true := by
  have := hasN_iff.1 ha
  have := h.len
  exact wf_of (by omega) (by omega)
theorem isNot_any {w : World} {g r m : Nat} {N : List Nd} (h : Tab w g r m N) (a b : Int) (ha : hasN N a = true) (hb : hasN N b = true) :
    Calls Try.prog 33 #[.pointer (some ⟨g, 0, none⟩), .int .i64 a, .int .i64 b] w fun e w' => e = .returned (.bool (isNotN N a b)) ∧ Below w.heap.size w w' := by
  have cN := node_any h a ha
  have q := fun (w : World) => eql_node w (nd N a.toNat) (4, b, 0) (nd_wf h.1 (by have := hasN_iff.1 ha; omega)) ⟨rfl, has_wf h.1 hb, rfl⟩
  unfold isNotN
  generalize nd N a.toNat = n at *
  unfold node at cN
  simp only at q
  go_enter Try.func33, Try.ntmps33
  go_wp2_with (go_at_call 20; refine cN.mono ?_; rintro e w1 ⟨rfl, hw1⟩)
  go_ret
  exact ⟨rfl, hw1⟩
theorem went_after {w w1 w2 : World} {g r m : Nat} {N : List Nd} (hb : Below w.heap.size w w1) (h : Went g r m N w1 w2) : Went g r m N w w2 := by
  obtain ⟨r', m', h1, h2, h3, h4⟩ := h
  have hs := hb.size
  exact ⟨r', m', h1, (away_of_below hb).trans h2 (.inl rfl) (.inl rfl), h3.imp id (fun h => by omega), h4.imp id (fun h => by omega)⟩
theorem variable_any {w : World} {g r m : Nat} {N : List Nd} (h : Tab w g r m N) (a : Int) (hw : (Lit.int .i64 a).wf = true) (hi : InForm (if a < 0 then (N, none) else num N (3, a, 0)).1) :
    Calls Try.prog 25 #[.pointer (some ⟨g, 0, none⟩), .int .i64 a] w fun e w' => e = .returned (ans (if a < 0 then (N, none) else num N (3, a, 0)).2) ∧ Went g r m (if a < 0 then (N, none) else num N (3, a, 0)).1 w w' := by
  by_cases h0 : a < 0
  · rw [if_pos h0]
    go_enter Try.func25, Try.ntmps25
    go_wp2
    go_ret2
    exact ⟨rfl, tab_went h (Below.refl _ _)⟩
  · rw [if_neg h0] at hi ⊢
    have cN := number_any h (3, a, 0) ⟨rfl, hw, rfl⟩ hi
    generalize num N (3, a, 0) = p at *
    unfold ans at *
    unfold node at cN
    go_enter Try.func25, Try.ntmps25
    go_wp2_with (go_at_call 32; refine cN.mono ?_; rintro e w1 ⟨rfl, hw1⟩)
    go_ret2
    exact ⟨rfl, hw1⟩
theorem not_any {w : World} {g r m : Nat} {N : List Nd} (h : Tab w g r m N) (a : Int) (hi : InForm (notN N a).1) :
    Calls Try.prog 26 #[.pointer (some ⟨g, 0, none⟩), .int .i64 a] w fun e w' => e = .returned (ans (notN N a).2) ∧ Went g r m (notN N a).1 w w' := by
  have cH := has_any h a
  by_cases h0 : hasN N a = false
  · have e1 : notN N a = (N, none) := by unfold notN; rw [if_pos h0]
    rw [e1]
    rw [h0] at cH
    go_enter Try.func26, Try.ntmps26
    go_wp2_with (go_at_call 23; refine cH.mono ?_; rintro e w1 ⟨rfl, hw⟩; have hw2 := hw.symm; clear hw; subst hw2)
    go_ret2
    exact ⟨rfl, tab_went h (Below.refl _ _)⟩
  · simp only [Bool.not_eq_false] at h0
    rw [h0] at cH
    have cN := node_any h a h0
    have e1 : notN N a = if (nd N a.toNat).1 = 1 then (N, some 1) else if (nd N a.toNat).1 = 2 then (N, some 0) else if (nd N a.toNat).1 = 4 then (N, some (nd N a.toNat).2.1) else num N (4, a, 0) := by unfold notN; rw [if_neg (by simp [h0])]
    rw [e1] at hi ⊢
    have hwa := has_wf h.1 h0
    clear e1
    generalize nd N a.toNat = n at *
    unfold node at cN
    by_cases h1 : n.1 = 1
    · rw [if_pos h1]
      go_enter Try.func26, Try.ntmps26
      go_wp2_with (first
        | (go_at_call 23; refine cH.mono ?_; rintro e w1 ⟨rfl, hw⟩; have hw2 := hw.symm; clear hw; subst hw2)
        | (go_at_call 20; refine cN.mono ?_; rintro e w1 ⟨rfl, hw1⟩))
      go_ret2
      exact ⟨rfl, tab_went h (hw1.alloc hw1.size _)⟩
    rw [if_neg h1] at hi ⊢
    have b1 : (n.1 == 1) = false := by simpa using h1
    by_cases h2 : n.1 = 2
    · rw [if_pos h2]
      go_enter Try.func26, Try.ntmps26
      go_wp2_with (first
        | (go_at_call 23; refine cH.mono ?_; rintro e w1 ⟨rfl, hw⟩; have hw2 := hw.symm; clear hw; subst hw2)
        | (go_at_call 20; refine cN.mono ?_; rintro e w1 ⟨rfl, hw1⟩))
      go_ret2
      exact ⟨rfl, tab_went h (hw1.alloc hw1.size _)⟩
    rw [if_neg h2] at hi ⊢
    have b2 : (n.1 == 2) = false := by simpa using h2
    by_cases h4 : n.1 = 4
    · rw [if_pos h4]
      go_enter Try.func26, Try.ntmps26
      go_wp2_with (first
        | (go_at_call 23; refine cH.mono ?_; rintro e w1 ⟨rfl, hw⟩; have hw2 := hw.symm; clear hw; subst hw2)
        | (go_at_call 20; refine cN.mono ?_; rintro e w1 ⟨rfl, hw1⟩))
      go_ret2
      exact ⟨rfl, tab_went h (hw1.alloc hw1.size _)⟩
    rw [if_neg h4] at hi ⊢
    have b4 : (n.1 == 4) = false := by simpa using h4
    have cM := fun (W : World) (hb : Below w.heap.size w W) => number_any (h.below hb) (4, a, 0) ⟨rfl, hwa, rfl⟩ hi
    generalize num N (4, a, 0) = p at *
    unfold ans at *
    unfold node at cM
    go_enter Try.func26, Try.ntmps26
    go_wp2_with (first
      | (go_at_call 23; refine cH.mono ?_; rintro e w1 ⟨rfl, hw⟩; have hw2 := hw.symm; clear hw; subst hw2)
      | (go_at_call 20; refine cN.mono ?_; rintro e w1 ⟨rfl, hw1⟩)
      | (go_at_call 32; refine (cM _ ?_).mono ?_; exact hw1.alloc hw1.size _; rintro e w2 ⟨rfl, hw2⟩))
    go_ret2
    exact ⟨rfl, went_after (hw1.alloc hw1.size _) hw2⟩
end Go.Proofs.Ytmeomfnnachkoaa.DoL
