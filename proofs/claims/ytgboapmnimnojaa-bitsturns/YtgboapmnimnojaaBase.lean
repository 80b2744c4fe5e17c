/- What the calls that every statement of layer 1 makes at its head answer: the check of answers that the document fixes says yes. -/
import Derived.Test.YtgboapmnimnojaaRows
import Derived.WalkKit
import Derived.ProofKit
import Derived.OpenShut
namespace Go.Proofs.Ytgboapmnimnojaa.Base
open Go.RowKit
theorem ret_int {k : IntKind} {a b : Int} (h : a = b) : Ending.returned (.int k a) = .returned (.int k b) := by rw [h]
/-- What was owned in a world stays owned where nothing below its size has turned. -/
theorem grown_of_below {w w' : World} (h : Below w.heap.size w w') : w.grownBy w' none := ⟨h.os, h.tape, h.output, h.size, fun k hk _ => h.block k hk⟩
theorem awake (w : World) :
    Calls Try.prog 11 #[] w fun e w' => e = .returned (.bool true) ∧ w' = w := by
  have a1 : IntKind.u64.wrap (IntKind.i8.wrap 200) = 18446744073709551560 := by decide
  have a2 : bits BinOp.xor IntKind.u64 (IntKind.u64.wrap (IntKind.u64.wrap (-1) * 2)) (IntKind.u64.wrap (-1)) = 1 := by decide
  go_enter Try.func11, Try.ntmps11
  go_wp2
  go_ret
  exact ⟨rfl, rfl⟩
end Go.Proofs.Ytgboapmnimnojaa.Base
