/-
  No cell of these rows narrows 'for every input' (looked for: loops, veiled, ifaces, maps, wideKeys, modest, calm, conditions, laid).
  DERIVED. THE GIVEN ROWS OF THIS SEAT. 5 by the template 'for every input the law returns true; each argument reads behind the call as it read before'; 0 by the template 'total and deterministic' (their statements: YtdliookkkgobbaaTotals.lean).
  GIVEN WITH THE SEED: the statements are not yours to turn. If you find one false, say at which input.
  Laid BY PROGRAM, IN A SANDBOX (cutbox-rows.mjs): the forced cells as the released guide's own fill.sh prints them over the translation 32f51a5bfd18a863… (all of the seat's roots in one cut). By AI agents, Wed Nov 11 2026. No macro, syntax, notation, axiom, sorry.
-/
import Derived.Test.YtdliookkkgobbaaChecked
import GoSem.Claim
import GoSem.ClaimJoined
import GoSem.ClaimMapViews
import Derived.JoinedTies
import Derived.KernelRfl
namespace Go.Proofs.Ytdliookkkgobbaa
/- THE CELL 'sum', in the pinned program and in every row, IS THE sha256 OF THE DUMP (.gsa) THAT YtdliookkkgobbaaProg.lean LOADS. Nothing in Lean hashes anything: it is a label: what it is worth is what the hold of that sum in a sandbox is worth. -/
noncomputable def Try.pinned : Pinned := { name := "ytdliookkkgobbaa", sum := "32f51a5bfd18a863e836214ce272238c9b47efa119de10d45b28a2d4a04b47a3", checked := Try.checked }
namespace Rows
def none {H : Type} : Left H := { results := [], args := [] }

/-- 'attestlaw05.RatKeys': WHATEVER THE INPUT: true; the input reads as it did. -/
def ratKeysSpec : ChangeSpec := { name := "ratKeys", fn := fun _ => fun
  | [d1, d2] => { results := [.lit (.bool true)], args := [d1, d2] }
  | _ => none }
def ratKeysRow : OpenClaim := { program := "ytdliookkkgobbaa", sum := "32f51a5bfd18a863e836214ce272238c9b47efa119de10d45b28a2d4a04b47a3", func := "attest/attestlaw05.RatKeys", spec := "ratKeys", apart := false }
def RatKeysSaid : Prop := ratKeysRow.holds Try.pinned (OpenSpec.ofChange ratKeysSpec)

/-- ITS FALSE NEIGHBOUR: 'it returns false'. Refute it at one input. -/
def ratKeysWrong : ChangeSpec := { name := "ratKeys", fn := fun _ => fun
  | [d1, d2] => { results := [.lit (.bool false)], args := [d1, d2] }
  | _ => none }
def RatKeysWrongFalsely : Prop := ratKeysRow.holds Try.pinned (OpenSpec.ofChange ratKeysWrong)

/-- 'attestlaw07.DeltaSums': WHATEVER THE INPUT: true; the input reads as it did. -/
def deltaSumsSpec : ChangeSpec := { name := "deltaSums", fn := fun _ => fun
  | [d1, d2, d3] => { results := [.lit (.bool true)], args := [d1, d2, d3] }
  | _ => none }
def deltaSumsRow : OpenClaim := { program := "ytdliookkkgobbaa", sum := "32f51a5bfd18a863e836214ce272238c9b47efa119de10d45b28a2d4a04b47a3", func := "attest/attestlaw07.DeltaSums", spec := "deltaSums", inPlace := ["math/bits.Add64"], apart := false }
def DeltaSumsSaid : Prop := deltaSumsRow.holds Try.pinned (OpenSpec.ofChange deltaSumsSpec)

/-- ITS FALSE NEIGHBOUR: 'it returns false'. Refute it at one input. -/
def deltaSumsWrong : ChangeSpec := { name := "deltaSums", fn := fun _ => fun
  | [d1, d2, d3] => { results := [.lit (.bool false)], args := [d1, d2, d3] }
  | _ => none }
def DeltaSumsWrongFalsely : Prop := deltaSumsRow.holds Try.pinned (OpenSpec.ofChange deltaSumsWrong)

/-- 'attestlaw07.DeltaOrder': WHATEVER THE INPUT: true; the input reads as it did. -/
def deltaOrderSpec : ChangeSpec := { name := "deltaOrder", fn := fun _ => fun
  | [d1, d2] => { results := [.lit (.bool true)], args := [d1, d2] }
  | _ => none }
def deltaOrderRow : OpenClaim := { program := "ytdliookkkgobbaa", sum := "32f51a5bfd18a863e836214ce272238c9b47efa119de10d45b28a2d4a04b47a3", func := "attest/attestlaw07.DeltaOrder", spec := "deltaOrder", inPlace := ["math/bits.Add64"], apart := false }
def DeltaOrderSaid : Prop := deltaOrderRow.holds Try.pinned (OpenSpec.ofChange deltaOrderSpec)

/-- ITS FALSE NEIGHBOUR: 'it returns false'. Refute it at one input. -/
def deltaOrderWrong : ChangeSpec := { name := "deltaOrder", fn := fun _ => fun
  | [d1, d2] => { results := [.lit (.bool false)], args := [d1, d2] }
  | _ => none }
def DeltaOrderWrongFalsely : Prop := deltaOrderRow.holds Try.pinned (OpenSpec.ofChange deltaOrderWrong)

/-- 'attestlaw07.DeltaChoice': WHATEVER THE INPUT: true; the input reads as it did. -/
def deltaChoiceSpec : ChangeSpec := { name := "deltaChoice", fn := fun _ => fun
  | [d1, d2] => { results := [.lit (.bool true)], args := [d1, d2] }
  | _ => none }
def deltaChoiceRow : OpenClaim := { program := "ytdliookkkgobbaa", sum := "32f51a5bfd18a863e836214ce272238c9b47efa119de10d45b28a2d4a04b47a3", func := "attest/attestlaw07.DeltaChoice", spec := "deltaChoice", inPlace := ["math/bits.Add64"], apart := false }
def DeltaChoiceSaid : Prop := deltaChoiceRow.holds Try.pinned (OpenSpec.ofChange deltaChoiceSpec)

/-- ITS FALSE NEIGHBOUR: 'it returns false'. Refute it at one input. -/
def deltaChoiceWrong : ChangeSpec := { name := "deltaChoice", fn := fun _ => fun
  | [d1, d2] => { results := [.lit (.bool false)], args := [d1, d2] }
  | _ => none }
def DeltaChoiceWrongFalsely : Prop := deltaChoiceRow.holds Try.pinned (OpenSpec.ofChange deltaChoiceWrong)

/-- 'attestlaw07.DeltaHolds': WHATEVER THE INPUT: true; the input reads as it did. -/
def deltaHoldsSpec : ChangeSpec := { name := "deltaHolds", fn := fun _ => fun
  | [d1, d2, d3] => { results := [.lit (.bool true)], args := [d1, d2, d3] }
  | _ => none }
def deltaHoldsRow : OpenClaim := { program := "ytdliookkkgobbaa", sum := "32f51a5bfd18a863e836214ce272238c9b47efa119de10d45b28a2d4a04b47a3", func := "attest/attestlaw07.DeltaHolds", spec := "deltaHolds", inPlace := ["math/bits.Add64"], apart := false }
def DeltaHoldsSaid : Prop := deltaHoldsRow.holds Try.pinned (OpenSpec.ofChange deltaHoldsSpec)

/-- ITS FALSE NEIGHBOUR: 'it returns false'. Refute it at one input. -/
def deltaHoldsWrong : ChangeSpec := { name := "deltaHolds", fn := fun _ => fun
  | [d1, d2, d3] => { results := [.lit (.bool false)], args := [d1, d2, d3] }
  | _ => none }
def DeltaHoldsWrongFalsely : Prop := deltaHoldsRow.holds Try.pinned (OpenSpec.ofChange deltaHoldsWrong)

/- THE SECOND FORM. 'bulk': how many values and letters a reading holds, each counted each time it is reached (what is shared counts as often as it is met; a slice's spare places count too). A statement '..UptoSaid' is the law's where the arguments, and the package variables that the reading takes, are together of bulk at most 1048576: NARROWER than '..Said'. Prove '..Said' where nothing that the law and all that it calls make is longer than what came in: it says more and counts as full. Else prove '..UptoSaid'. A law counts once. -/
mutual
def uptoBulk {H : Type} : DataW H → Nat
  | .lit (.string bytes) => bytes.length + 1
  | .lit _ => 1
  | .nil => 1
  | .ptr d => uptoBulk d + 1
  | .slice elems spare => uptoBulkAll elems + uptoBulkAll spare + 1
  | .agg parts => uptoBulkAll parts + 1
  | .iface _ d => uptoBulk d + 1
  | .map entries => uptoBulkEntries entries + 1
  | .held _ => 1
def uptoBulkAll {H : Type} : List (DataW H) → Nat
  | [] => 0
  | d :: r => uptoBulk d + uptoBulkAll r
def uptoBulkEntries {H : Type} : List (Lit × DataW H) → Nat
  | [] => 0
  | x :: r => uptoBulkEntry x + uptoBulkEntries r
def uptoBulkEntry {H : Type} : Lit × DataW H → Nat
  | (.string bytes, d) => bytes.length + uptoBulk d + 1
  | (_, d) => uptoBulk d + 1
 end
def uptoSmall : (H : Type) → List (DataW H) → Bool := fun _ ds => decide (uptoBulkAll ds ≤ 1048576)
def OpenSpec.upto (s : _root_.Go.ChangeSpec) : _root_.Go.OpenSpec := { _root_.Go.OpenSpec.ofChange s with cond := some uptoSmall }

/-- 'attestlaw05.RatKeys', WHERE WHAT IT READS IS OF BULK AT MOST 1048576: true; the input reads as it did. -/
def ratKeysUptoRow : OpenClaim := { program := "ytdliookkkgobbaa", sum := "32f51a5bfd18a863e836214ce272238c9b47efa119de10d45b28a2d4a04b47a3", func := "attest/attestlaw05.RatKeys", spec := "ratKeys", apart := false, narrowed := true }
def RatKeysUptoSaid : Prop := ratKeysUptoRow.holds Try.pinned (OpenSpec.upto ratKeysSpec)

/-- 'attestlaw07.DeltaSums', WHERE WHAT IT READS IS OF BULK AT MOST 1048576: true; the input reads as it did. -/
def deltaSumsUptoRow : OpenClaim := { program := "ytdliookkkgobbaa", sum := "32f51a5bfd18a863e836214ce272238c9b47efa119de10d45b28a2d4a04b47a3", func := "attest/attestlaw07.DeltaSums", spec := "deltaSums", inPlace := ["math/bits.Add64"], apart := false, narrowed := true }
def DeltaSumsUptoSaid : Prop := deltaSumsUptoRow.holds Try.pinned (OpenSpec.upto deltaSumsSpec)

/-- 'attestlaw07.DeltaOrder', WHERE WHAT IT READS IS OF BULK AT MOST 1048576: true; the input reads as it did. -/
def deltaOrderUptoRow : OpenClaim := { program := "ytdliookkkgobbaa", sum := "32f51a5bfd18a863e836214ce272238c9b47efa119de10d45b28a2d4a04b47a3", func := "attest/attestlaw07.DeltaOrder", spec := "deltaOrder", inPlace := ["math/bits.Add64"], apart := false, narrowed := true }
def DeltaOrderUptoSaid : Prop := deltaOrderUptoRow.holds Try.pinned (OpenSpec.upto deltaOrderSpec)

/-- 'attestlaw07.DeltaChoice', WHERE WHAT IT READS IS OF BULK AT MOST 1048576: true; the input reads as it did. -/
def deltaChoiceUptoRow : OpenClaim := { program := "ytdliookkkgobbaa", sum := "32f51a5bfd18a863e836214ce272238c9b47efa119de10d45b28a2d4a04b47a3", func := "attest/attestlaw07.DeltaChoice", spec := "deltaChoice", inPlace := ["math/bits.Add64"], apart := false, narrowed := true }
def DeltaChoiceUptoSaid : Prop := deltaChoiceUptoRow.holds Try.pinned (OpenSpec.upto deltaChoiceSpec)

/-- 'attestlaw07.DeltaHolds', WHERE WHAT IT READS IS OF BULK AT MOST 1048576: true; the input reads as it did. -/
def deltaHoldsUptoRow : OpenClaim := { program := "ytdliookkkgobbaa", sum := "32f51a5bfd18a863e836214ce272238c9b47efa119de10d45b28a2d4a04b47a3", func := "attest/attestlaw07.DeltaHolds", spec := "deltaHolds", inPlace := ["math/bits.Add64"], apart := false, narrowed := true }
def DeltaHoldsUptoSaid : Prop := deltaHoldsUptoRow.holds Try.pinned (OpenSpec.upto deltaHoldsSpec)

end Rows
end Go.Proofs.Ytdliookkkgobbaa
