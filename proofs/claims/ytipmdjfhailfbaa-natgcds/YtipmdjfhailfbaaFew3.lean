/- The lowest limbs of a list, copied. -/
import Derived.Test.YtipmdjfhailfbaaLimb1
namespace Go.Proofs.Ytipmdjfhailfbaa.Few3
open Go.RowKit Mem LimbNum Limb1

set_option maxRecDepth 20000 in
theorem few_any (A : List Nat) (n : Nat) (hn : n ≤ 1000) (ao : Option Addr) (cap : Nat) (w : World) (h : Lies w ao cap (ints .u32 A)) :
    Calls Try.prog 5 #[.slice ao A.length cap, .int .i64 (n : Int)] w fun e w' => ∃ ao' cap', e = .returned (.slice ao' (A.take n).length cap') ∧ w'.ownsRow w.heap.size 33 1 (.slice ao' (A.take n).length cap') (A.take n).length (ints .u32 (A.take n)) ∧ Below w.heap.size w w' := by
  have m1 := h.size
  have m2 := h.1
  have m3 := h.2.1
  rw [ints_length] at m1 m2
  unfold maxLen at m1 m3
  by_cases hl : n < A.length
  · have h3 := h.take n
    rw [← ints_take] at h3
    have e : (A.take n).length = n := by rw [List.length_take]; omega
    have cC := copy_any (A.take n) ao cap w h3 (by omega)
    rw [e] at cC ⊢
    obtain ⟨b, off, rfl, _, _⟩ := h.2.2.2 (by rw [ints_length]; omega)
    have q1 : (n : Int) < (A.length : Int) := by omega
    have q2 : (n : Int) ≤ (cap : Int) := by omega
    clear h h3 e m1 m2 m3
    generalize A.take n = T at *
    generalize A.length = L at *
    go_enter Try.func5, Try.ntmps5
    go_wp2_with (go_at_call 7; refine cC.mono ?_; rintro e w2 ⟨o2, c2, rfl, hown2, hb2⟩)
    go_ret
    exact ⟨_, _, rfl, hown2, hb2⟩
  · have e : A.take n = A := List.take_of_length_le (by omega)
    rw [e]
    have cC := copy_any A ao cap w h (by omega)
    clear h e
    go_enter Try.func5, Try.ntmps5
    go_wp2_with (go_at_call 7; refine cC.mono ?_; rintro e w2 ⟨o2, c2, rfl, hown2, hb2⟩)
    go_ret
    exact ⟨_, _, rfl, hown2, hb2⟩
theorem small_take (A : List Nat) (n : Nat) (h : Small A) : Small (A.take n) := fun x hx => h x (List.mem_of_mem_take hx)
theorem bits_le (P : List Nat) (m : Nat) (hs : Small P) (h : P.length ≤ m) : (nb (val P)).length ≤ 32 * m := nb_lt _ _ (by
  have h1 := val_lt P hs
  have h2 : (4294967296 : Nat) ^ P.length ≤ 4294967296 ^ m := Nat.pow_le_pow_right (by omega) h
  rw [pow32]; omega)
end Go.Proofs.Ytipmdjfhailfbaa.Few3
