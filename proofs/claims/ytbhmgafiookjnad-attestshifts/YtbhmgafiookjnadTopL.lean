/- The small helpers of the theorems through the layers. -/
import Derived.Test.YtbhmgafiookjnadLimb4
namespace Go.Proofs.Ytbhmgafiookjnad.TopL
open Go.RowKit Mem LimbNum Limb1 Limb2 Limb4

theorem cmp_self (V : Nat) : cmpV V V = 0 := by unfold cmpV; simp
set_option maxRecDepth 20000 in
theorem few_any (A : List Nat) (n : Nat) (hn : n ≤ 1000) (ao : Option Addr) (cap : Nat) (w : World) (h : Lies w ao cap (ints .u32 A)) :
    Calls Try.prog 18 #[.slice ao A.length cap, .int .i64 (n : Int)] w fun e w' => ∃ ao' cap', e = .returned (.slice ao' (A.take n).length cap') ∧ w'.ownsRow w.heap.size 48 1 (.slice ao' (A.take n).length cap') (A.take n).length (ints .u32 (A.take n)) ∧ Below w.heap.size w w' := by
  obtain ⟨i0, hi, hz0, hz1, hz2⟩ := info_parts info32
  have hown0 : (w.alloc (.cells #[] 48)).ownsRow w.heap.size 48 1 (.slice (some ⟨w.heap.size, 0, none⟩) 0 0) 0 [] := World.ownsRow_lit w #[] 0 (Nat.le_refl _) (by decide) rfl
  have m1 := h.size
  have m2 := h.1
  have m3 := h.2.1
  rw [ints_length] at m1 m2
  unfold maxLen at m1 m3
  by_cases hl : n < A.length
  · have h3 := h.take n
    rw [← ints_take] at h3
    have e : (A.take n).length = n := by rw [List.length_take]; omega
    rw [e]
    have HT : Hid ((A.take n).length = n) := e
    obtain ⟨b, off, rfl, _, _⟩ := h.2.2.2 (by rw [ints_length]; omega)
    have q1 : (n : Int) < (A.length : Int) := by omega
    have q2 : (n : Int) ≤ (cap : Int) := by omega
    clear h e m1 m2 m3
    generalize A.take n = T at *
    generalize A.length = L at *
    go_enter Try.func18, Try.ntmps18
    go_wp2_with (at_builtin; refine wpList_append_own _ rfl _ _ 22 rfl w.heap.size 48 i0 (.int .u32 0) 1 4 Try.underlying22 hi hz0 hz1 hz2 rfl (by decide) _ 0 [] rfl hown0 ⟨b, off, none⟩ n cap (ints .u32 T) rfl (by rw [ints_length, HT.out]; omega) (h3.alloc _).src (ints_one _ _) (by unfold maxLen; omega) (by omega) (by simp) ?_; intro v1 w1 hown1 hgr1 _)
    have hown2 : w1.ownsRow w.heap.size 48 1 v1 n (ints .u32 T) := by simpa using hown1
    have hb : Below w.heap.size w w1 := ((Below.refl w.heap.size w).alloc (Nat.le_refl _) _).grown hgr1 (by simp) (fun j hj => by cases hj; exact Nat.le_refl _)
    clear hown1 hgr1
    obtain ⟨ao', cap', rfl⟩ := owns_shape hown2
    go_ret
    exact ⟨ao', cap', rfl, hown2, hb⟩
  · have e : A.take n = A := List.take_of_length_le (by omega)
    rw [e]
    have q1 : ¬ (n : Int) < (A.length : Int) := by omega
    have q3 : A.length ≤ 1000 := by omega
    clear e hl
    cases ao with
    | none =>
      have h0 := h.2.2.1 rfl
      obtain rfl : cap = 0 := h0
      obtain rfl : A = [] := List.length_eq_zero_iff.1 (by omega)
      go_enter Try.func18, Try.ntmps18
      go_wp2_with (at_builtin; refine wpList_append_own_none rfl _ _ 22 rfl w.heap.size 48 i0 1 Try.underlying22 hi _ 0 [] rfl hown0 rfl ?_)
      go_ret
      exact ⟨_, _, rfl, hown0, (Below.refl _ _).alloc (Nat.le_refl _) _⟩
    | some ad =>
      go_enter Try.func18, Try.ntmps18
      go_wp2_with (at_builtin; refine wpList_append_own _ rfl _ _ 22 rfl w.heap.size 48 i0 (.int .u32 0) 1 4 Try.underlying22 hi hz0 hz1 hz2 rfl (by decide) _ 0 [] rfl hown0 ad A.length cap (ints .u32 A) rfl (by rw [ints_length]; omega) (h.alloc _).src (ints_one _ _) (by unfold maxLen; omega) (by omega) (by simp) ?_; intro v1 w1 hown1 hgr1 _)
      have hown2 : w1.ownsRow w.heap.size 48 1 v1 A.length (ints .u32 A) := by simpa using hown1
      have hb : Below w.heap.size w w1 := ((Below.refl w.heap.size w).alloc (Nat.le_refl _) _).grown hgr1 (by simp) (fun j hj => by cases hj; exact Nat.le_refl _)
      clear hown1 hgr1
      obtain ⟨ao', cap', rfl⟩ := owns_shape hown2
      go_ret
      exact ⟨ao', cap', rfl, hown2, hb⟩
theorem small_take (A : List Nat) (n : Nat) (h : Small A) : Small (A.take n) := fun x hx => h x (List.mem_of_mem_take hx)
set_option maxRecDepth 20000 in
/-- same, of a list and itself. -/
theorem same_any (A : List Nat) (o1 o2 : Option Addr) (c1 c2 : Nat) (w : World) (h1 : Lies w o1 c1 (ints .u32 A)) (h2 : Lies w o2 c2 (ints .u32 A)) (hA : Small A) :
    Calls Try.prog 17 #[.slice o1 A.length c1, .slice o2 A.length c2] w fun e w' => e = .returned (.bool true) ∧ Below w.heap.size w w' := by
  have cK := cmp_any A A o1 o2 c1 c2 w h1 h2 hA hA
  rw [cmp_self] at cK
  clear h1 h2 hA
  go_enter Try.func17, Try.ntmps17
  go_wp2_with (go_at_call 25; refine cK.mono ?_; rintro e w1 ⟨rfl, hb1⟩)
  all_goals go_ret
  exact ⟨by first | rfl | simp, hb1⟩
theorem among_any (n m : Int) (h0 : 0 < m) (h1 : m ≤ 1000) : ∃ k : Nat, (k : Int) < m ∧ ∀ w : World,
    Calls Try.prog 19 #[.int .i64 n, .int .i64 m] w fun e w' => e = .returned (.int .i64 (k : Int)) ∧ w' = w := by
  have b1 := Int.tmod_lt_of_pos n h0
  have b2 : -m < n.tmod m := Int.lt_tmod_of_pos n h0
  have hne : m ≠ 0 := by omega
  generalize hr : n.tmod m = r at *
  by_cases hc : r < 0
  · refine ⟨(r + m).toNat, by omega, fun w => ?_⟩
    go_enter Try.func19, Try.ntmps19
    go_wp2
    go_ret
    exact ⟨ret_int (by omega), rfl⟩
  · refine ⟨r.toNat, by omega, fun w => ?_⟩
    go_enter Try.func19, Try.ntmps19
    go_wp2
    go_ret
    exact ⟨ret_int (by omega), rfl⟩
end Go.Proofs.Ytbhmgafiookjnad.TopL
