/-
  No cell of these rows narrows 'for every input' (looked for: loops, veiled, ifaces, maps, wideKeys, modest, calm, conditions, laid).
  DERIVED. THE GIVEN ROWS OF THIS SEAT. 6 by the template 'for every input the law returns true; each argument reads behind the call as it read before'; 0 by the template 'total and deterministic' (their statements: YtfkaeehbnnhfoaaTotals.lean).
  GIVEN WITH THE SEED: the statements are not yours to turn. If you find one false, say at which input.
  Laid BY PROGRAM, IN A SANDBOX (cutbox-rows.mjs): the forced cells as the released guide's own fill.sh prints them over the translation 8461c12af8406502… (all of the seat's roots in one cut). By AI agents, Wed Nov 11 2026. No macro, syntax, notation, axiom, sorry.
-/
import Derived.Test.YtfkaeehbnnhfoaaChecked
import GoSem.Claim
import GoSem.ClaimJoined
import GoSem.ClaimMapViews
import Derived.JoinedTies
import Derived.KernelRfl
namespace Go.Proofs.Ytfkaeehbnnhfoaa
/- THE CELL 'sum', in the pinned program and in every row, IS THE sha256 OF THE DUMP (.gsa) THAT YtfkaeehbnnhfoaaProg.lean LOADS. Nothing in Lean hashes anything: it is a label: what it is worth is what the hold of that sum in a sandbox is worth. -/
noncomputable def Try.pinned : Pinned := { name := "ytfkaeehbnnhfoaa", sum := "8461c12af84065029bf9fc22c3c07270ff1d9b7f6c4449a8e80e4fe69fed2007", checked := Try.checked }
namespace Rows
def none {H : Type} : Left H := { results := [], args := [] }

/-- 'attestlaw05.RatKeys': WHATEVER THE INPUT: true; the input reads as it did. -/
def ratKeysSpec : ChangeSpec := { name := "ratKeys", fn := fun _ => fun
  | [d1, d2] => { results := [.lit (.bool true)], args := [d1, d2] }
  | _ => none }
def ratKeysRow : OpenClaim := { program := "ytfkaeehbnnhfoaa", sum := "8461c12af84065029bf9fc22c3c07270ff1d9b7f6c4449a8e80e4fe69fed2007", func := "attest/attestlaw05.RatKeys", spec := "ratKeys", apart := false }
def RatKeysSaid : Prop := ratKeysRow.holds Try.pinned (OpenSpec.ofChange ratKeysSpec)

/-- ITS FALSE NEIGHBOUR: 'it returns false'. Refute it at one input. -/
def ratKeysWrong : ChangeSpec := { name := "ratKeys", fn := fun _ => fun
  | [d1, d2] => { results := [.lit (.bool false)], args := [d1, d2] }
  | _ => none }
def RatKeysWrongFalsely : Prop := ratKeysRow.holds Try.pinned (OpenSpec.ofChange ratKeysWrong)

/-- 'attestlaw05.RatSums': WHATEVER THE INPUT: true; the input reads as it did. -/
def ratSumsSpec : ChangeSpec := { name := "ratSums", fn := fun _ => fun
  | [d1, d2] => { results := [.lit (.bool true)], args := [d1, d2] }
  | _ => none }
def ratSumsRow : OpenClaim := { program := "ytfkaeehbnnhfoaa", sum := "8461c12af84065029bf9fc22c3c07270ff1d9b7f6c4449a8e80e4fe69fed2007", func := "attest/attestlaw05.RatSums", spec := "ratSums", inPlace := ["math/bits.Add64"], apart := false }
def RatSumsSaid : Prop := ratSumsRow.holds Try.pinned (OpenSpec.ofChange ratSumsSpec)

/-- ITS FALSE NEIGHBOUR: 'it returns false'. Refute it at one input. -/
def ratSumsWrong : ChangeSpec := { name := "ratSums", fn := fun _ => fun
  | [d1, d2] => { results := [.lit (.bool false)], args := [d1, d2] }
  | _ => none }
def RatSumsWrongFalsely : Prop := ratSumsRow.holds Try.pinned (OpenSpec.ofChange ratSumsWrong)

/-- 'attestlaw05.RatDivs': WHATEVER THE INPUT: true; the input reads as it did. -/
def ratDivsSpec : ChangeSpec := { name := "ratDivs", fn := fun _ => fun
  | [d1, d2] => { results := [.lit (.bool true)], args := [d1, d2] }
  | _ => none }
def ratDivsRow : OpenClaim := { program := "ytfkaeehbnnhfoaa", sum := "8461c12af84065029bf9fc22c3c07270ff1d9b7f6c4449a8e80e4fe69fed2007", func := "attest/attestlaw05.RatDivs", spec := "ratDivs", apart := false }
def RatDivsSaid : Prop := ratDivsRow.holds Try.pinned (OpenSpec.ofChange ratDivsSpec)

/-- ITS FALSE NEIGHBOUR: 'it returns false'. Refute it at one input. -/
def ratDivsWrong : ChangeSpec := { name := "ratDivs", fn := fun _ => fun
  | [d1, d2] => { results := [.lit (.bool false)], args := [d1, d2] }
  | _ => none }
def RatDivsWrongFalsely : Prop := ratDivsRow.holds Try.pinned (OpenSpec.ofChange ratDivsWrong)

/-- 'attestlaw05.RatOrder': WHATEVER THE INPUT: true; the input reads as it did. -/
def ratOrderSpec : ChangeSpec := { name := "ratOrder", fn := fun _ => fun
  | [d1, d2] => { results := [.lit (.bool true)], args := [d1, d2] }
  | _ => none }
def ratOrderRow : OpenClaim := { program := "ytfkaeehbnnhfoaa", sum := "8461c12af84065029bf9fc22c3c07270ff1d9b7f6c4449a8e80e4fe69fed2007", func := "attest/attestlaw05.RatOrder", spec := "ratOrder", apart := false }
def RatOrderSaid : Prop := ratOrderRow.holds Try.pinned (OpenSpec.ofChange ratOrderSpec)

/-- ITS FALSE NEIGHBOUR: 'it returns false'. Refute it at one input. -/
def ratOrderWrong : ChangeSpec := { name := "ratOrder", fn := fun _ => fun
  | [d1, d2] => { results := [.lit (.bool false)], args := [d1, d2] }
  | _ => none }
def RatOrderWrongFalsely : Prop := ratOrderRow.holds Try.pinned (OpenSpec.ofChange ratOrderWrong)

/-- 'attestlaw05.RatInts': WHATEVER THE INPUT: true; the input reads as it did. -/
def ratIntsSpec : ChangeSpec := { name := "ratInts", fn := fun _ => fun
  | [d1, d2] => { results := [.lit (.bool true)], args := [d1, d2] }
  | _ => none }
def ratIntsRow : OpenClaim := { program := "ytfkaeehbnnhfoaa", sum := "8461c12af84065029bf9fc22c3c07270ff1d9b7f6c4449a8e80e4fe69fed2007", func := "attest/attestlaw05.RatInts", spec := "ratInts", apart := false }
def RatIntsSaid : Prop := ratIntsRow.holds Try.pinned (OpenSpec.ofChange ratIntsSpec)

/-- ITS FALSE NEIGHBOUR: 'it returns false'. Refute it at one input. -/
def ratIntsWrong : ChangeSpec := { name := "ratInts", fn := fun _ => fun
  | [d1, d2] => { results := [.lit (.bool false)], args := [d1, d2] }
  | _ => none }
def RatIntsWrongFalsely : Prop := ratIntsRow.holds Try.pinned (OpenSpec.ofChange ratIntsWrong)

/-- 'attestlaw05.RatField': WHATEVER THE INPUT: true; the input reads as it did. -/
def ratFieldSpec : ChangeSpec := { name := "ratField", fn := fun _ => fun
  | [d1, d2, d3] => { results := [.lit (.bool true)], args := [d1, d2, d3] }
  | _ => none }
def ratFieldRow : OpenClaim := { program := "ytfkaeehbnnhfoaa", sum := "8461c12af84065029bf9fc22c3c07270ff1d9b7f6c4449a8e80e4fe69fed2007", func := "attest/attestlaw05.RatField", spec := "ratField", inPlace := ["math/bits.Add64"], apart := false }
def RatFieldSaid : Prop := ratFieldRow.holds Try.pinned (OpenSpec.ofChange ratFieldSpec)

/-- ITS FALSE NEIGHBOUR: 'it returns false'. Refute it at one input. -/
def ratFieldWrong : ChangeSpec := { name := "ratField", fn := fun _ => fun
  | [d1, d2, d3] => { results := [.lit (.bool false)], args := [d1, d2, d3] }
  | _ => none }
def RatFieldWrongFalsely : Prop := ratFieldRow.holds Try.pinned (OpenSpec.ofChange ratFieldWrong)

/- THE SECOND FORM. 'bulk': how many values and letters a reading holds, each counted each time it is reached (what is shared counts as often as it is met; a slice's spare places count too). A statement '..UptoSaid' is the law's where the arguments, and the package variables that the reading takes, are together of bulk at most 1048576: NARROWER than '..Said'. Prove '..Said' where nothing that the law and all that it calls make is longer than what came in: it says more and counts as full. Else prove '..UptoSaid'. A law counts once. -/
mutual
def uptoBulk {H : Type} : DataW H → Nat
  | .lit (.string bytes) => bytes.length + 1
  | .lit _ => 1
  | .nil => 1
  | .ptr d => uptoBulk d + 1
  | .slice elems spare => uptoBulkAll elems + uptoBulkAll spare + 1
  | .agg parts => uptoBulkAll parts + 1
  | .iface _ d => uptoBulk d + 1
  | .map entries => uptoBulkEntries entries + 1
  | .held _ => 1
def uptoBulkAll {H : Type} : List (DataW H) → Nat
  | [] => 0
  | d :: r => uptoBulk d + uptoBulkAll r
def uptoBulkEntries {H : Type} : List (Lit × DataW H) → Nat
  | [] => 0
  | x :: r => uptoBulkEntry x + uptoBulkEntries r
def uptoBulkEntry {H : Type} : Lit × DataW H → Nat
  | (.string bytes, d) => bytes.length + uptoBulk d + 1
  | (_, d) => uptoBulk d + 1
 end
def uptoSmall : (H : Type) → List (DataW H) → Bool := fun _ ds => decide (uptoBulkAll ds ≤ 1048576)
def OpenSpec.upto (s : _root_.Go.ChangeSpec) : _root_.Go.OpenSpec := { _root_.Go.OpenSpec.ofChange s with cond := some uptoSmall }

/-- 'attestlaw05.RatKeys', WHERE WHAT IT READS IS OF BULK AT MOST 1048576: true; the input reads as it did. -/
def ratKeysUptoRow : OpenClaim := { program := "ytfkaeehbnnhfoaa", sum := "8461c12af84065029bf9fc22c3c07270ff1d9b7f6c4449a8e80e4fe69fed2007", func := "attest/attestlaw05.RatKeys", spec := "ratKeys", apart := false, narrowed := true }
def RatKeysUptoSaid : Prop := ratKeysUptoRow.holds Try.pinned (OpenSpec.upto ratKeysSpec)

/-- 'attestlaw05.RatSums', WHERE WHAT IT READS IS OF BULK AT MOST 1048576: true; the input reads as it did. -/
def ratSumsUptoRow : OpenClaim := { program := "ytfkaeehbnnhfoaa", sum := "8461c12af84065029bf9fc22c3c07270ff1d9b7f6c4449a8e80e4fe69fed2007", func := "attest/attestlaw05.RatSums", spec := "ratSums", inPlace := ["math/bits.Add64"], apart := false, narrowed := true }
def RatSumsUptoSaid : Prop := ratSumsUptoRow.holds Try.pinned (OpenSpec.upto ratSumsSpec)

/-- 'attestlaw05.RatDivs', WHERE WHAT IT READS IS OF BULK AT MOST 1048576: true; the input reads as it did. -/
def ratDivsUptoRow : OpenClaim := { program := "ytfkaeehbnnhfoaa", sum := "8461c12af84065029bf9fc22c3c07270ff1d9b7f6c4449a8e80e4fe69fed2007", func := "attest/attestlaw05.RatDivs", spec := "ratDivs", apart := false, narrowed := true }
def RatDivsUptoSaid : Prop := ratDivsUptoRow.holds Try.pinned (OpenSpec.upto ratDivsSpec)

/-- 'attestlaw05.RatOrder', WHERE WHAT IT READS IS OF BULK AT MOST 1048576: true; the input reads as it did. -/
def ratOrderUptoRow : OpenClaim := { program := "ytfkaeehbnnhfoaa", sum := "8461c12af84065029bf9fc22c3c07270ff1d9b7f6c4449a8e80e4fe69fed2007", func := "attest/attestlaw05.RatOrder", spec := "ratOrder", apart := false, narrowed := true }
def RatOrderUptoSaid : Prop := ratOrderUptoRow.holds Try.pinned (OpenSpec.upto ratOrderSpec)

/-- 'attestlaw05.RatInts', WHERE WHAT IT READS IS OF BULK AT MOST 1048576: true; the input reads as it did. -/
def ratIntsUptoRow : OpenClaim := { program := "ytfkaeehbnnhfoaa", sum := "8461c12af84065029bf9fc22c3c07270ff1d9b7f6c4449a8e80e4fe69fed2007", func := "attest/attestlaw05.RatInts", spec := "ratInts", apart := false, narrowed := true }
def RatIntsUptoSaid : Prop := ratIntsUptoRow.holds Try.pinned (OpenSpec.upto ratIntsSpec)

/-- 'attestlaw05.RatField', WHERE WHAT IT READS IS OF BULK AT MOST 1048576: true; the input reads as it did. -/
def ratFieldUptoRow : OpenClaim := { program := "ytfkaeehbnnhfoaa", sum := "8461c12af84065029bf9fc22c3c07270ff1d9b7f6c4449a8e80e4fe69fed2007", func := "attest/attestlaw05.RatField", spec := "ratField", inPlace := ["math/bits.Add64"], apart := false, narrowed := true }
def RatFieldUptoSaid : Prop := ratFieldUptoRow.holds Try.pinned (OpenSpec.upto ratFieldSpec)

end Rows
end Go.Proofs.Ytfkaeehbnnhfoaa
