/- What the check of a count of digits answers. -/
import Derived.Test.YtbhmgafiookjnadMem
namespace Go.Proofs.Ytbhmgafiookjnad.OutL
open Go.RowKit Mem

theorem outside_in (n : Int) (w : World) (h0 : 0 ≤ n) (h1 : n ≤ 20000) : Calls Try.prog 92 #[.int .i64 n] w fun e w' => e = .returned (.int .i64 0) ∧ w' = w := by
  go_enter Try.func92, Try.ntmps92
  go_wp2
  go_ret
  exact ⟨rfl, rfl⟩
theorem outside_low (n : Int) (w : World) (h0 : n < 0) : Calls Try.prog 92 #[.int .i64 n] w fun e w' => e = .returned (.int .i64 1) ∧ w' = w := by
  go_enter Try.func92, Try.ntmps92
  go_wp2
  go_ret
  exact ⟨rfl, rfl⟩
theorem outside_high (n : Int) (w : World) (h0 : 20000 < n) : Calls Try.prog 92 #[.int .i64 n] w fun e w' => e = .returned (.int .i64 2) ∧ w' = w := by
  go_enter Try.func92, Try.ntmps92
  go_wp2
  go_ret
  exact ⟨rfl, rfl⟩
end Go.Proofs.Ytbhmgafiookjnad.OutL
