/- What the calls that every statement of layer 1 makes at its head answer: the check of answers that the document fixes says yes. -/
import Derived.Test.YtaaiogpdeahaaacRows
import Derived.WalkKit
import Derived.ProofKit
import Derived.OpenShut
namespace Go.Proofs.Ytaaiogpdeahaaac.Base
open Go.RowKit
theorem ret_int {k : IntKind} {a b : Int} (h : a = b) : Ending.returned (.int k a) = .returned (.int k b) := by rw [h]
/-- What was owned in a world stays owned where nothing below its size has turned. -/
theorem grown_of_below {w w' : World} (h : Below w.heap.size w w') : w.grownBy w' none := ⟨h.os, h.tape, h.output, h.size, fun k hk _ => h.block k hk⟩
end Go.Proofs.Ytaaiogpdeahaaac.Base
