/-
  No cell of these rows narrows 'for every input' (looked for: loops, veiled, ifaces, maps, wideKeys, modest, calm, conditions, laid).
  DERIVED. THE GIVEN ROWS OF THIS SEAT. 5 by the template 'for every input the law returns true; each argument reads behind the call as it read before'; 0 by the template 'total and deterministic' (their statements: YtaaiogpdeahaaacTotals.lean).
  GIVEN WITH THE SEED: the statements are not yours to turn. If you find one false, say at which input.
  Laid BY PROGRAM, IN A SANDBOX (cutbox-rows.mjs): the forced cells as the released guide's own fill.sh prints them over the translation 4410db7ca3497f01… (all of the seat's roots in one cut). By AI agents, Wed Nov 11 2026. No macro, syntax, notation, axiom, sorry.
-/
import Derived.Test.YtaaiogpdeahaaacChecked
import GoSem.Claim
import GoSem.ClaimJoined
import GoSem.ClaimMapViews
import Derived.JoinedTies
import Derived.KernelRfl
namespace Go.Proofs.Ytaaiogpdeahaaac
/- THE CELL 'sum', in the pinned program and in every row, IS THE sha256 OF THE DUMP (.gsa) THAT YtaaiogpdeahaaacProg.lean LOADS. Nothing in Lean hashes anything: it is a label: what it is worth is what the hold of that sum in a sandbox is worth. -/
noncomputable def Try.pinned : Pinned := { name := "ytaaiogpdeahaaac", sum := "4410db7ca3497f0133aa3fa2d0ca994ea46bf1c8d03118e626279db1718f2e88", checked := Try.checked }
namespace Rows
def none {H : Type} : Left H := { results := [], args := [] }

/-- 'attestlaw04.DigitsTens': WHATEVER THE INPUT: true; the input reads as it did. -/
def digitsTensSpec : ChangeSpec := { name := "digitsTens", fn := fun _ => fun
  | [d] => { results := [.lit (.bool true)], args := [d] }
  | _ => none }
def digitsTensRow : OpenClaim := { program := "ytaaiogpdeahaaac", sum := "4410db7ca3497f0133aa3fa2d0ca994ea46bf1c8d03118e626279db1718f2e88", func := "attest/attestlaw04.DigitsTens", spec := "digitsTens", apart := false }
def DigitsTensSaid : Prop := digitsTensRow.holds Try.pinned (OpenSpec.ofChange digitsTensSpec)

/-- ITS FALSE NEIGHBOUR: 'it returns false'. Refute it at one input. -/
def digitsTensWrong : ChangeSpec := { name := "digitsTens", fn := fun _ => fun
  | [d] => { results := [.lit (.bool false)], args := [d] }
  | _ => none }
def DigitsTensWrongFalsely : Prop := digitsTensRow.holds Try.pinned (OpenSpec.ofChange digitsTensWrong)

/-- 'attestlaw04.DigitsBack': WHATEVER THE INPUT: true; the input reads as it did. -/
def digitsBackSpec : ChangeSpec := { name := "digitsBack", fn := fun _ => fun
  | [d1, d2] => { results := [.lit (.bool true)], args := [d1, d2] }
  | _ => none }
def digitsBackRow : OpenClaim := { program := "ytaaiogpdeahaaac", sum := "4410db7ca3497f0133aa3fa2d0ca994ea46bf1c8d03118e626279db1718f2e88", func := "attest/attestlaw04.DigitsBack", spec := "digitsBack", inPlace := ["internal/abi.NoEscape", "internal/bytealg.MakeNoZero"], apart := false }
def DigitsBackSaid : Prop := digitsBackRow.holds Try.pinned (OpenSpec.ofChange digitsBackSpec)

/-- ITS FALSE NEIGHBOUR: 'it returns false'. Refute it at one input. -/
def digitsBackWrong : ChangeSpec := { name := "digitsBack", fn := fun _ => fun
  | [d1, d2] => { results := [.lit (.bool false)], args := [d1, d2] }
  | _ => none }
def DigitsBackWrongFalsely : Prop := digitsBackRow.holds Try.pinned (OpenSpec.ofChange digitsBackWrong)

/-- 'attestlaw04.DigitsScale': WHATEVER THE INPUT: true; the input reads as it did. -/
def digitsScaleSpec : ChangeSpec := { name := "digitsScale", fn := fun _ => fun
  | [d1, d2] => { results := [.lit (.bool true)], args := [d1, d2] }
  | _ => none }
def digitsScaleRow : OpenClaim := { program := "ytaaiogpdeahaaac", sum := "4410db7ca3497f0133aa3fa2d0ca994ea46bf1c8d03118e626279db1718f2e88", func := "attest/attestlaw04.DigitsScale", spec := "digitsScale", apart := false }
def DigitsScaleSaid : Prop := digitsScaleRow.holds Try.pinned (OpenSpec.ofChange digitsScaleSpec)

/-- ITS FALSE NEIGHBOUR: 'it returns false'. Refute it at one input. -/
def digitsScaleWrong : ChangeSpec := { name := "digitsScale", fn := fun _ => fun
  | [d1, d2] => { results := [.lit (.bool false)], args := [d1, d2] }
  | _ => none }
def DigitsScaleWrongFalsely : Prop := digitsScaleRow.holds Try.pinned (OpenSpec.ofChange digitsScaleWrong)

/-- 'attesttop.AttestShifts': WHATEVER THE INPUT: true; the input reads as it did. -/
def attestShiftsSpec : ChangeSpec := { name := "attestShifts", fn := fun _ => fun
  | [d1, d2] => { results := [.lit (.bool true)], args := [d1, d2] }
  | _ => none }
def attestShiftsRow : OpenClaim := { program := "ytaaiogpdeahaaac", sum := "4410db7ca3497f0133aa3fa2d0ca994ea46bf1c8d03118e626279db1718f2e88", func := "attest/attesttop.AttestShifts", spec := "attestShifts", apart := false }
def AttestShiftsSaid : Prop := attestShiftsRow.holds Try.pinned (OpenSpec.ofChange attestShiftsSpec)

/-- ITS FALSE NEIGHBOUR: 'it returns false'. Refute it at one input. -/
def attestShiftsWrong : ChangeSpec := { name := "attestShifts", fn := fun _ => fun
  | [d1, d2] => { results := [.lit (.bool false)], args := [d1, d2] }
  | _ => none }
def AttestShiftsWrongFalsely : Prop := attestShiftsRow.holds Try.pinned (OpenSpec.ofChange attestShiftsWrong)

/-- 'attesttop.AttestWords': WHATEVER THE INPUT: true; the input reads as it did. -/
def attestWordsSpec : ChangeSpec := { name := "attestWords", fn := fun _ => fun
  | [d1, d2, d3] => { results := [.lit (.bool true)], args := [d1, d2, d3] }
  | _ => none }
def attestWordsRow : OpenClaim := { program := "ytaaiogpdeahaaac", sum := "4410db7ca3497f0133aa3fa2d0ca994ea46bf1c8d03118e626279db1718f2e88", func := "attest/attesttop.AttestWords", spec := "attestWords", apart := false }
def AttestWordsSaid : Prop := attestWordsRow.holds Try.pinned (OpenSpec.ofChange attestWordsSpec)

/-- ITS FALSE NEIGHBOUR: 'it returns false'. Refute it at one input. -/
def attestWordsWrong : ChangeSpec := { name := "attestWords", fn := fun _ => fun
  | [d1, d2, d3] => { results := [.lit (.bool false)], args := [d1, d2, d3] }
  | _ => none }
def AttestWordsWrongFalsely : Prop := attestWordsRow.holds Try.pinned (OpenSpec.ofChange attestWordsWrong)

/- THE SECOND FORM. 'bulk': how many values and letters a reading holds, each counted each time it is reached (what is shared counts as often as it is met; a slice's spare places count too). A statement '..UptoSaid' is the law's where the arguments, and the package variables that the reading takes, are together of bulk at most 1048576: NARROWER than '..Said'. Prove '..Said' where nothing that the law and all that it calls make is longer than what came in: it says more and counts as full. Else prove '..UptoSaid'. A law counts once. -/
mutual
def uptoBulk {H : Type} : DataW H → Nat
  | .lit (.string bytes) => bytes.length + 1
  | .lit _ => 1
  | .nil => 1
  | .ptr d => uptoBulk d + 1
  | .slice elems spare => uptoBulkAll elems + uptoBulkAll spare + 1
  | .agg parts => uptoBulkAll parts + 1
  | .iface _ d => uptoBulk d + 1
  | .map entries => uptoBulkEntries entries + 1
  | .held _ => 1
def uptoBulkAll {H : Type} : List (DataW H) → Nat
  | [] => 0
  | d :: r => uptoBulk d + uptoBulkAll r
def uptoBulkEntries {H : Type} : List (Lit × DataW H) → Nat
  | [] => 0
  | x :: r => uptoBulkEntry x + uptoBulkEntries r
def uptoBulkEntry {H : Type} : Lit × DataW H → Nat
  | (.string bytes, d) => bytes.length + uptoBulk d + 1
  | (_, d) => uptoBulk d + 1
 end
def uptoSmall : (H : Type) → List (DataW H) → Bool := fun _ ds => decide (uptoBulkAll ds ≤ 1048576)
def OpenSpec.upto (s : _root_.Go.ChangeSpec) : _root_.Go.OpenSpec := { _root_.Go.OpenSpec.ofChange s with cond := some uptoSmall }

/-- 'attestlaw04.DigitsTens', WHERE WHAT IT READS IS OF BULK AT MOST 1048576: true; the input reads as it did. -/
def digitsTensUptoRow : OpenClaim := { program := "ytaaiogpdeahaaac", sum := "4410db7ca3497f0133aa3fa2d0ca994ea46bf1c8d03118e626279db1718f2e88", func := "attest/attestlaw04.DigitsTens", spec := "digitsTens", apart := false, narrowed := true }
def DigitsTensUptoSaid : Prop := digitsTensUptoRow.holds Try.pinned (OpenSpec.upto digitsTensSpec)

/-- 'attestlaw04.DigitsBack', WHERE WHAT IT READS IS OF BULK AT MOST 1048576: true; the input reads as it did. -/
def digitsBackUptoRow : OpenClaim := { program := "ytaaiogpdeahaaac", sum := "4410db7ca3497f0133aa3fa2d0ca994ea46bf1c8d03118e626279db1718f2e88", func := "attest/attestlaw04.DigitsBack", spec := "digitsBack", inPlace := ["internal/abi.NoEscape", "internal/bytealg.MakeNoZero"], apart := false, narrowed := true }
def DigitsBackUptoSaid : Prop := digitsBackUptoRow.holds Try.pinned (OpenSpec.upto digitsBackSpec)

/-- 'attestlaw04.DigitsScale', WHERE WHAT IT READS IS OF BULK AT MOST 1048576: true; the input reads as it did. -/
def digitsScaleUptoRow : OpenClaim := { program := "ytaaiogpdeahaaac", sum := "4410db7ca3497f0133aa3fa2d0ca994ea46bf1c8d03118e626279db1718f2e88", func := "attest/attestlaw04.DigitsScale", spec := "digitsScale", apart := false, narrowed := true }
def DigitsScaleUptoSaid : Prop := digitsScaleUptoRow.holds Try.pinned (OpenSpec.upto digitsScaleSpec)

/-- 'attesttop.AttestShifts', WHERE WHAT IT READS IS OF BULK AT MOST 1048576: true; the input reads as it did. -/
def attestShiftsUptoRow : OpenClaim := { program := "ytaaiogpdeahaaac", sum := "4410db7ca3497f0133aa3fa2d0ca994ea46bf1c8d03118e626279db1718f2e88", func := "attest/attesttop.AttestShifts", spec := "attestShifts", apart := false, narrowed := true }
def AttestShiftsUptoSaid : Prop := attestShiftsUptoRow.holds Try.pinned (OpenSpec.upto attestShiftsSpec)

/-- 'attesttop.AttestWords', WHERE WHAT IT READS IS OF BULK AT MOST 1048576: true; the input reads as it did. -/
def attestWordsUptoRow : OpenClaim := { program := "ytaaiogpdeahaaac", sum := "4410db7ca3497f0133aa3fa2d0ca994ea46bf1c8d03118e626279db1718f2e88", func := "attest/attesttop.AttestWords", spec := "attestWords", apart := false, narrowed := true }
def AttestWordsUptoSaid : Prop := attestWordsUptoRow.holds Try.pinned (OpenSpec.upto attestWordsSpec)

end Rows
end Go.Proofs.Ytaaiogpdeahaaac
