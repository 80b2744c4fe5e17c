/-
  No cell of these rows narrows 'for every input' (looked for: loops, veiled, ifaces, maps, wideKeys, modest, calm, conditions, laid).
  DERIVED. THE GIVEN ROWS OF THIS SEAT. 4 by the template 'for every input the law returns true; each argument reads behind the call as it read before'; 0 by the template 'total and deterministic' (their statements: YtefckmkcbgckfaaTotals.lean).
  GIVEN WITH THE SEED: the statements are not yours to turn. If you find one false, say at which input.
  Laid BY PROGRAM, IN A SANDBOX (cutbox-rows.mjs): the forced cells as the released guide's own fill.sh prints them over the translation cbb75debdacbb16a… (all of the seat's roots in one cut). By AI agents, Wed Nov 11 2026. No macro, syntax, notation, axiom, sorry.
-/
import Derived.Test.YtefckmkcbgckfaaChecked
import GoSem.Claim
import GoSem.ClaimJoined
import GoSem.ClaimMapViews
import Derived.JoinedTies
import Derived.KernelRfl
namespace Go.Proofs.Ytefckmkcbgckfaa
/- THE CELL 'sum', in the pinned program and in every row, IS THE sha256 OF THE DUMP (.gsa) THAT YtefckmkcbgckfaaProg.lean LOADS. Nothing in Lean hashes anything: it is a label: what it is worth is what the hold of that sum in a sandbox is worth. -/
noncomputable def Try.pinned : Pinned := { name := "ytefckmkcbgckfaa", sum := "cbb75debdacbb16a4da3bc8a40233d3376330094d4c2448ee63d70221b3a2238", checked := Try.checked }
namespace Rows
def none {H : Type} : Left H := { results := [], args := [] }

/-- 'attestlaw06.RtextParses': WHATEVER THE INPUT: true; the input reads as it did. -/
def rtextParsesSpec : ChangeSpec := { name := "rtextParses", fn := fun _ => fun
  | [d] => { results := [.lit (.bool true)], args := [d] }
  | _ => none }
def rtextParsesRow : OpenClaim := { program := "ytefckmkcbgckfaa", sum := "cbb75debdacbb16a4da3bc8a40233d3376330094d4c2448ee63d70221b3a2238", func := "attest/attestlaw06.RtextParses", spec := "rtextParses", inPlace := ["internal/bytealg.IndexByteString", "internal/bytealg.IndexString"], named := ["internal/bytealg.MaxLen"], apart := false }
def RtextParsesSaid : Prop := rtextParsesRow.holds Try.pinned (OpenSpec.ofChange rtextParsesSpec)

/-- ITS FALSE NEIGHBOUR: 'it returns false'. Refute it at one input. -/
def rtextParsesWrong : ChangeSpec := { name := "rtextParses", fn := fun _ => fun
  | [d] => { results := [.lit (.bool false)], args := [d] }
  | _ => none }
def RtextParsesWrongFalsely : Prop := rtextParsesRow.holds Try.pinned (OpenSpec.ofChange rtextParsesWrong)

/-- 'attestlaw06.RtextPrints': WHATEVER THE INPUT: true; the input reads as it did. -/
def rtextPrintsSpec : ChangeSpec := { name := "rtextPrints", fn := fun _ => fun
  | [d] => { results := [.lit (.bool true)], args := [d] }
  | _ => none }
def rtextPrintsRow : OpenClaim := { program := "ytefckmkcbgckfaa", sum := "cbb75debdacbb16a4da3bc8a40233d3376330094d4c2448ee63d70221b3a2238", func := "attest/attestlaw06.RtextPrints", spec := "rtextPrints", inPlace := ["internal/bytealg.IndexByteString", "internal/bytealg.IndexString"], named := ["internal/bytealg.MaxLen"], apart := false }
def RtextPrintsSaid : Prop := rtextPrintsRow.holds Try.pinned (OpenSpec.ofChange rtextPrintsSpec)

/-- ITS FALSE NEIGHBOUR: 'it returns false'. Refute it at one input. -/
def rtextPrintsWrong : ChangeSpec := { name := "rtextPrints", fn := fun _ => fun
  | [d] => { results := [.lit (.bool false)], args := [d] }
  | _ => none }
def RtextPrintsWrongFalsely : Prop := rtextPrintsRow.holds Try.pinned (OpenSpec.ofChange rtextPrintsWrong)

/-- 'attestlaw06.RtextDecimals': WHATEVER THE INPUT: true; the input reads as it did. -/
def rtextDecimalsSpec : ChangeSpec := { name := "rtextDecimals", fn := fun _ => fun
  | [d1, d2] => { results := [.lit (.bool true)], args := [d1, d2] }
  | _ => none }
def rtextDecimalsRow : OpenClaim := { program := "ytefckmkcbgckfaa", sum := "cbb75debdacbb16a4da3bc8a40233d3376330094d4c2448ee63d70221b3a2238", func := "attest/attestlaw06.RtextDecimals", spec := "rtextDecimals", inPlace := ["internal/abi.NoEscape", "internal/bytealg.MakeNoZero", "internal/bytealg.IndexByteString", "internal/bytealg.IndexString"], named := ["internal/bytealg.MaxLen"], apart := false }
def RtextDecimalsSaid : Prop := rtextDecimalsRow.holds Try.pinned (OpenSpec.ofChange rtextDecimalsSpec)

/-- ITS FALSE NEIGHBOUR: 'it returns false'. Refute it at one input. -/
def rtextDecimalsWrong : ChangeSpec := { name := "rtextDecimals", fn := fun _ => fun
  | [d1, d2] => { results := [.lit (.bool false)], args := [d1, d2] }
  | _ => none }
def RtextDecimalsWrongFalsely : Prop := rtextDecimalsRow.holds Try.pinned (OpenSpec.ofChange rtextDecimalsWrong)

/-- 'attestlaw06.RtextBack': WHATEVER THE INPUT: true; the input reads as it did. -/
def rtextBackSpec : ChangeSpec := { name := "rtextBack", fn := fun _ => fun
  | [d1, d2] => { results := [.lit (.bool true)], args := [d1, d2] }
  | _ => none }
def rtextBackRow : OpenClaim := { program := "ytefckmkcbgckfaa", sum := "cbb75debdacbb16a4da3bc8a40233d3376330094d4c2448ee63d70221b3a2238", func := "attest/attestlaw06.RtextBack", spec := "rtextBack", inPlace := ["internal/bytealg.IndexByteString", "internal/bytealg.IndexString", "math/bits.Add64"], named := ["internal/bytealg.MaxLen"], apart := false }
def RtextBackSaid : Prop := rtextBackRow.holds Try.pinned (OpenSpec.ofChange rtextBackSpec)

/-- ITS FALSE NEIGHBOUR: 'it returns false'. Refute it at one input. -/
def rtextBackWrong : ChangeSpec := { name := "rtextBack", fn := fun _ => fun
  | [d1, d2] => { results := [.lit (.bool false)], args := [d1, d2] }
  | _ => none }
def RtextBackWrongFalsely : Prop := rtextBackRow.holds Try.pinned (OpenSpec.ofChange rtextBackWrong)

/- THE SECOND FORM. 'bulk': how many values and letters a reading holds, each counted each time it is reached (what is shared counts as often as it is met; a slice's spare places count too). A statement '..UptoSaid' is the law's where the arguments, and the package variables that the reading takes, are together of bulk at most 1048576: NARROWER than '..Said'. Prove '..Said' where nothing that the law and all that it calls make is longer than what came in: it says more and counts as full. Else prove '..UptoSaid'. A law counts once. -/
mutual
def uptoBulk {H : Type} : DataW H → Nat
  | .lit (.string bytes) => bytes.length + 1
  | .lit _ => 1
  | .nil => 1
  | .ptr d => uptoBulk d + 1
  | .slice elems spare => uptoBulkAll elems + uptoBulkAll spare + 1
  | .agg parts => uptoBulkAll parts + 1
  | .iface _ d => uptoBulk d + 1
  | .map entries => uptoBulkEntries entries + 1
  | .held _ => 1
def uptoBulkAll {H : Type} : List (DataW H) → Nat
  | [] => 0
  | d :: r => uptoBulk d + uptoBulkAll r
def uptoBulkEntries {H : Type} : List (Lit × DataW H) → Nat
  | [] => 0
  | x :: r => uptoBulkEntry x + uptoBulkEntries r
def uptoBulkEntry {H : Type} : Lit × DataW H → Nat
  | (.string bytes, d) => bytes.length + uptoBulk d + 1
  | (_, d) => uptoBulk d + 1
 end
def uptoSmall : (H : Type) → List (DataW H) → Bool := fun _ ds => decide (uptoBulkAll ds ≤ 1048576)
def OpenSpec.upto (s : _root_.Go.ChangeSpec) : _root_.Go.OpenSpec := { _root_.Go.OpenSpec.ofChange s with cond := some uptoSmall }

/-- 'attestlaw06.RtextParses', WHERE WHAT IT READS IS OF BULK AT MOST 1048576: true; the input reads as it did. -/
def rtextParsesUptoRow : OpenClaim := { program := "ytefckmkcbgckfaa", sum := "cbb75debdacbb16a4da3bc8a40233d3376330094d4c2448ee63d70221b3a2238", func := "attest/attestlaw06.RtextParses", spec := "rtextParses", inPlace := ["internal/bytealg.IndexByteString", "internal/bytealg.IndexString"], named := ["internal/bytealg.MaxLen"], apart := false, narrowed := true }
def RtextParsesUptoSaid : Prop := rtextParsesUptoRow.holds Try.pinned (OpenSpec.upto rtextParsesSpec)

/-- 'attestlaw06.RtextPrints', WHERE WHAT IT READS IS OF BULK AT MOST 1048576: true; the input reads as it did. -/
def rtextPrintsUptoRow : OpenClaim := { program := "ytefckmkcbgckfaa", sum := "cbb75debdacbb16a4da3bc8a40233d3376330094d4c2448ee63d70221b3a2238", func := "attest/attestlaw06.RtextPrints", spec := "rtextPrints", inPlace := ["internal/bytealg.IndexByteString", "internal/bytealg.IndexString"], named := ["internal/bytealg.MaxLen"], apart := false, narrowed := true }
def RtextPrintsUptoSaid : Prop := rtextPrintsUptoRow.holds Try.pinned (OpenSpec.upto rtextPrintsSpec)

/-- 'attestlaw06.RtextDecimals', WHERE WHAT IT READS IS OF BULK AT MOST 1048576: true; the input reads as it did. -/
def rtextDecimalsUptoRow : OpenClaim := { program := "ytefckmkcbgckfaa", sum := "cbb75debdacbb16a4da3bc8a40233d3376330094d4c2448ee63d70221b3a2238", func := "attest/attestlaw06.RtextDecimals", spec := "rtextDecimals", inPlace := ["internal/abi.NoEscape", "internal/bytealg.MakeNoZero", "internal/bytealg.IndexByteString", "internal/bytealg.IndexString"], named := ["internal/bytealg.MaxLen"], apart := false, narrowed := true }
def RtextDecimalsUptoSaid : Prop := rtextDecimalsUptoRow.holds Try.pinned (OpenSpec.upto rtextDecimalsSpec)

/-- 'attestlaw06.RtextBack', WHERE WHAT IT READS IS OF BULK AT MOST 1048576: true; the input reads as it did. -/
def rtextBackUptoRow : OpenClaim := { program := "ytefckmkcbgckfaa", sum := "cbb75debdacbb16a4da3bc8a40233d3376330094d4c2448ee63d70221b3a2238", func := "attest/attestlaw06.RtextBack", spec := "rtextBack", inPlace := ["internal/bytealg.IndexByteString", "internal/bytealg.IndexString", "math/bits.Add64"], named := ["internal/bytealg.MaxLen"], apart := false, narrowed := true }
def RtextBackUptoSaid : Prop := rtextBackUptoRow.holds Try.pinned (OpenSpec.upto rtextBackSpec)

end Rows
end Go.Proofs.Ytefckmkcbgckfaa
