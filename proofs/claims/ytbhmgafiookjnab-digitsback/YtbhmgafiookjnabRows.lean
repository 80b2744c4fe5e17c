/-
  No cell of these rows narrows 'for every input' (looked for: loops, veiled, ifaces, maps, wideKeys, modest, calm, conditions, laid).
  DERIVED. THE GIVEN ROWS OF THIS SEAT. 6 by the template 'for every input the law returns true; each argument reads behind the call as it read before'; 0 by the template 'total and deterministic' (their statements: YtbhmgafiookjnabTotals.lean).
  GIVEN WITH THE SEED: the statements are not yours to turn. If you find one false, say at which input.
  Laid BY PROGRAM, IN A SANDBOX (cutbox-rows.mjs): the forced cells as the released guide's own fill.sh prints them over the translation 26272506ac21f1cb… (all of the seat's roots in one cut). By AI agents, Wed Nov 11 2026. No macro, syntax, notation, axiom, sorry.
-/
import Derived.Test.YtbhmgafiookjnabChecked
import GoSem.Claim
import GoSem.ClaimJoined
import GoSem.ClaimMapViews
import Derived.JoinedTies
import Derived.KernelRfl
namespace Go.Proofs.Ytbhmgafiookjnab
/- THE CELL 'sum', in the pinned program and in every row, IS THE sha256 OF THE DUMP (.gsa) THAT YtbhmgafiookjnabProg.lean LOADS. Nothing in Lean hashes anything: it is a label: what it is worth is what the hold of that sum in a sandbox is worth. -/
noncomputable def Try.pinned : Pinned := { name := "ytbhmgafiookjnab", sum := "26272506ac21f1cbf0000c6483f4b8b051160a16f70258a269419b8d393ed6e7", checked := Try.checked }
namespace Rows
def none {H : Type} : Left H := { results := [], args := [] }

/-- 'attestlaw04.DigitsTens': WHATEVER THE INPUT: true; the input reads as it did. -/
def digitsTensSpec : ChangeSpec := { name := "digitsTens", fn := fun _ => fun
  | [d] => { results := [.lit (.bool true)], args := [d] }
  | _ => none }
def digitsTensRow : OpenClaim := { program := "ytbhmgafiookjnab", sum := "26272506ac21f1cbf0000c6483f4b8b051160a16f70258a269419b8d393ed6e7", func := "attest/attestlaw04.DigitsTens", spec := "digitsTens", apart := false }
def DigitsTensSaid : Prop := digitsTensRow.holds Try.pinned (OpenSpec.ofChange digitsTensSpec)

/-- ITS FALSE NEIGHBOUR: 'it returns false'. Refute it at one input. -/
def digitsTensWrong : ChangeSpec := { name := "digitsTens", fn := fun _ => fun
  | [d] => { results := [.lit (.bool false)], args := [d] }
  | _ => none }
def DigitsTensWrongFalsely : Prop := digitsTensRow.holds Try.pinned (OpenSpec.ofChange digitsTensWrong)

/-- 'attestlaw04.DigitsBack': WHATEVER THE INPUT: true; the input reads as it did. -/
def digitsBackSpec : ChangeSpec := { name := "digitsBack", fn := fun _ => fun
  | [d1, d2] => { results := [.lit (.bool true)], args := [d1, d2] }
  | _ => none }
def digitsBackRow : OpenClaim := { program := "ytbhmgafiookjnab", sum := "26272506ac21f1cbf0000c6483f4b8b051160a16f70258a269419b8d393ed6e7", func := "attest/attestlaw04.DigitsBack", spec := "digitsBack", inPlace := ["internal/abi.NoEscape", "internal/bytealg.MakeNoZero"], apart := false }
def DigitsBackSaid : Prop := digitsBackRow.holds Try.pinned (OpenSpec.ofChange digitsBackSpec)

/-- ITS FALSE NEIGHBOUR: 'it returns false'. Refute it at one input. -/
def digitsBackWrong : ChangeSpec := { name := "digitsBack", fn := fun _ => fun
  | [d1, d2] => { results := [.lit (.bool false)], args := [d1, d2] }
  | _ => none }
def DigitsBackWrongFalsely : Prop := digitsBackRow.holds Try.pinned (OpenSpec.ofChange digitsBackWrong)

/-- 'attestlaw04.DigitsScale': WHATEVER THE INPUT: true; the input reads as it did. -/
def digitsScaleSpec : ChangeSpec := { name := "digitsScale", fn := fun _ => fun
  | [d1, d2] => { results := [.lit (.bool true)], args := [d1, d2] }
  | _ => none }
def digitsScaleRow : OpenClaim := { program := "ytbhmgafiookjnab", sum := "26272506ac21f1cbf0000c6483f4b8b051160a16f70258a269419b8d393ed6e7", func := "attest/attestlaw04.DigitsScale", spec := "digitsScale", apart := false }
def DigitsScaleSaid : Prop := digitsScaleRow.holds Try.pinned (OpenSpec.ofChange digitsScaleSpec)

/-- ITS FALSE NEIGHBOUR: 'it returns false'. Refute it at one input. -/
def digitsScaleWrong : ChangeSpec := { name := "digitsScale", fn := fun _ => fun
  | [d1, d2] => { results := [.lit (.bool false)], args := [d1, d2] }
  | _ => none }
def DigitsScaleWrongFalsely : Prop := digitsScaleRow.holds Try.pinned (OpenSpec.ofChange digitsScaleWrong)

/-- 'attestlaw05.RatMakes': WHATEVER THE INPUT: true; the input reads as it did. -/
def ratMakesSpec : ChangeSpec := { name := "ratMakes", fn := fun _ => fun
  | [d1, d2, d3] => { results := [.lit (.bool true)], args := [d1, d2, d3] }
  | _ => none }
def ratMakesRow : OpenClaim := { program := "ytbhmgafiookjnab", sum := "26272506ac21f1cbf0000c6483f4b8b051160a16f70258a269419b8d393ed6e7", func := "attest/attestlaw05.RatMakes", spec := "ratMakes", apart := false }
def RatMakesSaid : Prop := ratMakesRow.holds Try.pinned (OpenSpec.ofChange ratMakesSpec)

/-- ITS FALSE NEIGHBOUR: 'it returns false'. Refute it at one input. -/
def ratMakesWrong : ChangeSpec := { name := "ratMakes", fn := fun _ => fun
  | [d1, d2, d3] => { results := [.lit (.bool false)], args := [d1, d2, d3] }
  | _ => none }
def RatMakesWrongFalsely : Prop := ratMakesRow.holds Try.pinned (OpenSpec.ofChange ratMakesWrong)

/-- 'attestlaw05.RatKeys': WHATEVER THE INPUT: true; the input reads as it did. -/
def ratKeysSpec : ChangeSpec := { name := "ratKeys", fn := fun _ => fun
  | [d1, d2] => { results := [.lit (.bool true)], args := [d1, d2] }
  | _ => none }
def ratKeysRow : OpenClaim := { program := "ytbhmgafiookjnab", sum := "26272506ac21f1cbf0000c6483f4b8b051160a16f70258a269419b8d393ed6e7", func := "attest/attestlaw05.RatKeys", spec := "ratKeys", apart := false }
def RatKeysSaid : Prop := ratKeysRow.holds Try.pinned (OpenSpec.ofChange ratKeysSpec)

/-- ITS FALSE NEIGHBOUR: 'it returns false'. Refute it at one input. -/
def ratKeysWrong : ChangeSpec := { name := "ratKeys", fn := fun _ => fun
  | [d1, d2] => { results := [.lit (.bool false)], args := [d1, d2] }
  | _ => none }
def RatKeysWrongFalsely : Prop := ratKeysRow.holds Try.pinned (OpenSpec.ofChange ratKeysWrong)

/-- 'attestlaw05.RatSums': WHATEVER THE INPUT: true; the input reads as it did. -/
def ratSumsSpec : ChangeSpec := { name := "ratSums", fn := fun _ => fun
  | [d1, d2] => { results := [.lit (.bool true)], args := [d1, d2] }
  | _ => none }
def ratSumsRow : OpenClaim := { program := "ytbhmgafiookjnab", sum := "26272506ac21f1cbf0000c6483f4b8b051160a16f70258a269419b8d393ed6e7", func := "attest/attestlaw05.RatSums", spec := "ratSums", inPlace := ["math/bits.Add64"], apart := false }
def RatSumsSaid : Prop := ratSumsRow.holds Try.pinned (OpenSpec.ofChange ratSumsSpec)

/-- ITS FALSE NEIGHBOUR: 'it returns false'. Refute it at one input. -/
def ratSumsWrong : ChangeSpec := { name := "ratSums", fn := fun _ => fun
  | [d1, d2] => { results := [.lit (.bool false)], args := [d1, d2] }
  | _ => none }
def RatSumsWrongFalsely : Prop := ratSumsRow.holds Try.pinned (OpenSpec.ofChange ratSumsWrong)

/- THE SECOND FORM. 'bulk': how many values and letters a reading holds, each counted each time it is reached (what is shared counts as often as it is met; a slice's spare places count too). A statement '..UptoSaid' is the law's where the arguments, and the package variables that the reading takes, are together of bulk at most 1048576: NARROWER than '..Said'. Prove '..Said' where nothing that the law and all that it calls make is longer than what came in: it says more and counts as full. Else prove '..UptoSaid'. A law counts once. -/
mutual
def uptoBulk {H : Type} : DataW H → Nat
  | .lit (.string bytes) => bytes.length + 1
  | .lit _ => 1
  | .nil => 1
  | .ptr d => uptoBulk d + 1
  | .slice elems spare => uptoBulkAll elems + uptoBulkAll spare + 1
  | .agg parts => uptoBulkAll parts + 1
  | .iface _ d => uptoBulk d + 1
  | .map entries => uptoBulkEntries entries + 1
  | .held _ => 1
def uptoBulkAll {H : Type} : List (DataW H) → Nat
  | [] => 0
  | d :: r => uptoBulk d + uptoBulkAll r
def uptoBulkEntries {H : Type} : List (Lit × DataW H) → Nat
  | [] => 0
  | x :: r => uptoBulkEntry x + uptoBulkEntries r
def uptoBulkEntry {H : Type} : Lit × DataW H → Nat
  | (.string bytes, d) => bytes.length + uptoBulk d + 1
  | (_, d) => uptoBulk d + 1
 end
def uptoSmall : (H : Type) → List (DataW H) → Bool := fun _ ds => decide (uptoBulkAll ds ≤ 1048576)
def OpenSpec.upto (s : _root_.Go.ChangeSpec) : _root_.Go.OpenSpec := { _root_.Go.OpenSpec.ofChange s with cond := some uptoSmall }

/-- 'attestlaw04.DigitsTens', WHERE WHAT IT READS IS OF BULK AT MOST 1048576: true; the input reads as it did. -/
def digitsTensUptoRow : OpenClaim := { program := "ytbhmgafiookjnab", sum := "26272506ac21f1cbf0000c6483f4b8b051160a16f70258a269419b8d393ed6e7", func := "attest/attestlaw04.DigitsTens", spec := "digitsTens", apart := false, narrowed := true }
def DigitsTensUptoSaid : Prop := digitsTensUptoRow.holds Try.pinned (OpenSpec.upto digitsTensSpec)

/-- 'attestlaw04.DigitsBack', WHERE WHAT IT READS IS OF BULK AT MOST 1048576: true; the input reads as it did. -/
def digitsBackUptoRow : OpenClaim := { program := "ytbhmgafiookjnab", sum := "26272506ac21f1cbf0000c6483f4b8b051160a16f70258a269419b8d393ed6e7", func := "attest/attestlaw04.DigitsBack", spec := "digitsBack", inPlace := ["internal/abi.NoEscape", "internal/bytealg.MakeNoZero"], apart := false, narrowed := true }
def DigitsBackUptoSaid : Prop := digitsBackUptoRow.holds Try.pinned (OpenSpec.upto digitsBackSpec)

/-- 'attestlaw04.DigitsScale', WHERE WHAT IT READS IS OF BULK AT MOST 1048576: true; the input reads as it did. -/
def digitsScaleUptoRow : OpenClaim := { program := "ytbhmgafiookjnab", sum := "26272506ac21f1cbf0000c6483f4b8b051160a16f70258a269419b8d393ed6e7", func := "attest/attestlaw04.DigitsScale", spec := "digitsScale", apart := false, narrowed := true }
def DigitsScaleUptoSaid : Prop := digitsScaleUptoRow.holds Try.pinned (OpenSpec.upto digitsScaleSpec)

/-- 'attestlaw05.RatMakes', WHERE WHAT IT READS IS OF BULK AT MOST 1048576: true; the input reads as it did. -/
def ratMakesUptoRow : OpenClaim := { program := "ytbhmgafiookjnab", sum := "26272506ac21f1cbf0000c6483f4b8b051160a16f70258a269419b8d393ed6e7", func := "attest/attestlaw05.RatMakes", spec := "ratMakes", apart := false, narrowed := true }
def RatMakesUptoSaid : Prop := ratMakesUptoRow.holds Try.pinned (OpenSpec.upto ratMakesSpec)

/-- 'attestlaw05.RatKeys', WHERE WHAT IT READS IS OF BULK AT MOST 1048576: true; the input reads as it did. -/
def ratKeysUptoRow : OpenClaim := { program := "ytbhmgafiookjnab", sum := "26272506ac21f1cbf0000c6483f4b8b051160a16f70258a269419b8d393ed6e7", func := "attest/attestlaw05.RatKeys", spec := "ratKeys", apart := false, narrowed := true }
def RatKeysUptoSaid : Prop := ratKeysUptoRow.holds Try.pinned (OpenSpec.upto ratKeysSpec)

/-- 'attestlaw05.RatSums', WHERE WHAT IT READS IS OF BULK AT MOST 1048576: true; the input reads as it did. -/
def ratSumsUptoRow : OpenClaim := { program := "ytbhmgafiookjnab", sum := "26272506ac21f1cbf0000c6483f4b8b051160a16f70258a269419b8d393ed6e7", func := "attest/attestlaw05.RatSums", spec := "ratSums", inPlace := ["math/bits.Add64"], apart := false, narrowed := true }
def RatSumsUptoSaid : Prop := ratSumsUptoRow.holds Try.pinned (OpenSpec.upto ratSumsSpec)

end Rows
end Go.Proofs.Ytbhmgafiookjnab
