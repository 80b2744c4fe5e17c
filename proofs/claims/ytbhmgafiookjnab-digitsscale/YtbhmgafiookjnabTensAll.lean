/- What the powers of ten answer, at every count. -/
import Derived.Test.YtbhmgafiookjnabTensL
namespace Go.Proofs.Ytbhmgafiookjnab.TensAll
open Go.RowKit Mem LimbNum Limb1 Limb2 Limb3 Limb4 NatNum NatL Len64 PowL TensL

theorem tens_any (n : Nat) (w : World) (hn : n ≤ 20000) :
    Calls Try.prog 9 #[.int .i64 (n : Int)] w fun e w' => ∃ o c, e = .returned (.tuple #[.slice o (nl (10 ^ n)).length c, .int .i64 0]) ∧ w'.ownsRow w.heap.size 80 1 (.slice o (nl (10 ^ n)).length c) (nl (10 ^ n)).length (ints .u32 (nl (10 ^ n))) ∧ Below w.heap.size w w' := by
  by_cases h : n < 1000
  · exact tens_small n w h
  · exact tens_big n (n / 1000) (n % 1000) 1000 w rfl (by omega) (by omega) (by omega) (by omega) (by omega) hn
set_option maxRecDepth 20000 in
theorem tens_low (n : Int) (w : World) (h : n < 0) :
    Calls Try.prog 9 #[.int .i64 n] w fun e w' => e = .returned (.tuple #[.slice none 0 0, .int .i64 1]) ∧ w' = w := by
  have cO := outside_low n w h
  go_enter Try.func9, Try.ntmps9
  go_wp2_with (go_at_call 48; refine cO.mono ?_; rintro e w2 ⟨rfl, hw⟩; have hw2 := hw.symm; clear hw; subst hw2)
  go_ret2
  exact ⟨rfl, rfl⟩
set_option maxRecDepth 20000 in
theorem tens_high (n : Int) (w : World) (h : 20000 < n) :
    Calls Try.prog 9 #[.int .i64 n] w fun e w' => e = .returned (.tuple #[.slice none 0 0, .int .i64 2]) ∧ w' = w := by
  have cO := outside_high n w h
  go_enter Try.func9, Try.ntmps9
  go_wp2_with (go_at_call 48; refine cO.mono ?_; rintro e w2 ⟨rfl, hw⟩; have hw2 := hw.symm; clear hw; subst hw2)
  go_ret2
  exact ⟨rfl, rfl⟩
end Go.Proofs.Ytbhmgafiookjnab.TensAll
