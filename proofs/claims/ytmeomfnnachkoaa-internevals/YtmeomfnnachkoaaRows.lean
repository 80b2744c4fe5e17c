/-
  No cell of these rows narrows 'for every input' (looked for: loops, veiled, ifaces, maps, wideKeys, modest, calm, conditions, laid).
  DERIVED. THE GIVEN ROWS OF THIS SEAT. 5 by the template 'for every input the law returns true; each argument reads behind the call as it read before'; 0 by the template 'total and deterministic' (their statements: YtmeomfnnachkoaaTotals.lean).
  GIVEN WITH THE SEED: the statements are not yours to turn. If you find one false, say at which input.
  Laid BY PROGRAM, IN A SANDBOX (cutbox-rows.mjs): the forced cells as the released guide's own fill.sh prints them over the translation cbdea4b9de4149c3… (all of the seat's roots in one cut). By AI agents, Wed Nov 11 2026. No macro, syntax, notation, axiom, sorry.
-/
import Derived.Test.YtmeomfnnachkoaaChecked
import GoSem.Claim
import GoSem.ClaimJoined
import GoSem.ClaimMapViews
import Derived.JoinedTies
import Derived.KernelRfl
namespace Go.Proofs.Ytmeomfnnachkoaa
/- THE CELL 'sum', in the pinned program and in every row, IS THE sha256 OF THE DUMP (.gsa) THAT YtmeomfnnachkoaaProg.lean LOADS. Nothing in Lean hashes anything: it is a label: what it is worth is what the hold of that sum in a sandbox is worth. -/
noncomputable def Try.pinned : Pinned := { name := "ytmeomfnnachkoaa", sum := "cbdea4b9de4149c3b661bad9089d298d3b70d549eefe781608b99b4f77379b85", checked := Try.checked }
namespace Rows
def none {H : Type} : Left H := { results := [], args := [] }

/-- 'attestlaw10.InternPlays': WHATEVER THE INPUT: true; the input reads as it did. -/
def internPlaysSpec : ChangeSpec := { name := "internPlays", fn := fun _ => fun
  | [d] => { results := [.lit (.bool true)], args := [d] }
  | _ => none }
def internPlaysRow : OpenClaim := { program := "ytmeomfnnachkoaa", sum := "cbdea4b9de4149c3b661bad9089d298d3b70d549eefe781608b99b4f77379b85", func := "attest/attestlaw10.InternPlays", spec := "internPlays", plainKeys := false, apart := false }
def InternPlaysSaid : Prop := internPlaysRow.holds Try.pinned (OpenSpec.ofChange internPlaysSpec)

/-- ITS FALSE NEIGHBOUR: 'it returns false'. Refute it at one input. -/
def internPlaysWrong : ChangeSpec := { name := "internPlays", fn := fun _ => fun
  | [d] => { results := [.lit (.bool false)], args := [d] }
  | _ => none }
def InternPlaysWrongFalsely : Prop := internPlaysRow.holds Try.pinned (OpenSpec.ofChange internPlaysWrong)

/-- 'attestlaw10.InternShares': WHATEVER THE INPUT: true; the input reads as it did. -/
def internSharesSpec : ChangeSpec := { name := "internShares", fn := fun _ => fun
  | [d] => { results := [.lit (.bool true)], args := [d] }
  | _ => none }
def internSharesRow : OpenClaim := { program := "ytmeomfnnachkoaa", sum := "cbdea4b9de4149c3b661bad9089d298d3b70d549eefe781608b99b4f77379b85", func := "attest/attestlaw10.InternShares", spec := "internShares", plainKeys := false, apart := false }
def InternSharesSaid : Prop := internSharesRow.holds Try.pinned (OpenSpec.ofChange internSharesSpec)

/-- ITS FALSE NEIGHBOUR: 'it returns false'. Refute it at one input. -/
def internSharesWrong : ChangeSpec := { name := "internShares", fn := fun _ => fun
  | [d] => { results := [.lit (.bool false)], args := [d] }
  | _ => none }
def InternSharesWrongFalsely : Prop := internSharesRow.holds Try.pinned (OpenSpec.ofChange internSharesWrong)

/-- 'attestlaw10.InternMeans': WHATEVER THE INPUT: true; the input reads as it did. -/
def internMeansSpec : ChangeSpec := { name := "internMeans", fn := fun _ => fun
  | [d1, d2, d3] => { results := [.lit (.bool true)], args := [d1, d2, d3] }
  | _ => none }
def internMeansRow : OpenClaim := { program := "ytmeomfnnachkoaa", sum := "cbdea4b9de4149c3b661bad9089d298d3b70d549eefe781608b99b4f77379b85", func := "attest/attestlaw10.InternMeans", spec := "internMeans", plainKeys := false, apart := false }
def InternMeansSaid : Prop := internMeansRow.holds Try.pinned (OpenSpec.ofChange internMeansSpec)

/-- ITS FALSE NEIGHBOUR: 'it returns false'. Refute it at one input. -/
def internMeansWrong : ChangeSpec := { name := "internMeans", fn := fun _ => fun
  | [d1, d2, d3] => { results := [.lit (.bool false)], args := [d1, d2, d3] }
  | _ => none }
def InternMeansWrongFalsely : Prop := internMeansRow.holds Try.pinned (OpenSpec.ofChange internMeansWrong)

/-- 'attestlaw10.InternEvals': WHATEVER THE INPUT: true; the input reads as it did. -/
def internEvalsSpec : ChangeSpec := { name := "internEvals", fn := fun _ => fun
  | [d1, d2, d3] => { results := [.lit (.bool true)], args := [d1, d2, d3] }
  | _ => none }
def internEvalsRow : OpenClaim := { program := "ytmeomfnnachkoaa", sum := "cbdea4b9de4149c3b661bad9089d298d3b70d549eefe781608b99b4f77379b85", func := "attest/attestlaw10.InternEvals", spec := "internEvals", plainKeys := false, apart := false }
def InternEvalsSaid : Prop := internEvalsRow.holds Try.pinned (OpenSpec.ofChange internEvalsSpec)

/-- ITS FALSE NEIGHBOUR: 'it returns false'. Refute it at one input. -/
def internEvalsWrong : ChangeSpec := { name := "internEvals", fn := fun _ => fun
  | [d1, d2, d3] => { results := [.lit (.bool false)], args := [d1, d2, d3] }
  | _ => none }
def InternEvalsWrongFalsely : Prop := internEvalsRow.holds Try.pinned (OpenSpec.ofChange internEvalsWrong)

/-- 'attestlaw10.InternFull': WHATEVER THE INPUT: true; the input reads as it did. -/
def internFullSpec : ChangeSpec := { name := "internFull", fn := fun _ => fun
  | [d] => { results := [.lit (.bool true)], args := [d] }
  | _ => none }
def internFullRow : OpenClaim := { program := "ytmeomfnnachkoaa", sum := "cbdea4b9de4149c3b661bad9089d298d3b70d549eefe781608b99b4f77379b85", func := "attest/attestlaw10.InternFull", spec := "internFull", plainKeys := false, apart := false }
def InternFullSaid : Prop := internFullRow.holds Try.pinned (OpenSpec.ofChange internFullSpec)

/-- ITS FALSE NEIGHBOUR: 'it returns false'. Refute it at one input. -/
def internFullWrong : ChangeSpec := { name := "internFull", fn := fun _ => fun
  | [d] => { results := [.lit (.bool false)], args := [d] }
  | _ => none }
def InternFullWrongFalsely : Prop := internFullRow.holds Try.pinned (OpenSpec.ofChange internFullWrong)

/- THE SECOND FORM. 'bulk': how many values and letters a reading holds, each counted each time it is reached (what is shared counts as often as it is met; a slice's spare places count too). A statement '..UptoSaid' is the law's where the arguments, and the package variables that the reading takes, are together of bulk at most 1048576: NARROWER than '..Said'. Prove '..Said' where nothing that the law and all that it calls make is longer than what came in: it says more and counts as full. Else prove '..UptoSaid'. A law counts once. -/
mutual
def uptoBulk {H : Type} : DataW H → Nat
  | .lit (.string bytes) => bytes.length + 1
  | .lit _ => 1
  | .nil => 1
  | .ptr d => uptoBulk d + 1
  | .slice elems spare => uptoBulkAll elems + uptoBulkAll spare + 1
  | .agg parts => uptoBulkAll parts + 1
  | .iface _ d => uptoBulk d + 1
  | .map entries => uptoBulkEntries entries + 1
  | .held _ => 1
def uptoBulkAll {H : Type} : List (DataW H) → Nat
  | [] => 0
  | d :: r => uptoBulk d + uptoBulkAll r
def uptoBulkEntries {H : Type} : List (Lit × DataW H) → Nat
  | [] => 0
  | x :: r => uptoBulkEntry x + uptoBulkEntries r
def uptoBulkEntry {H : Type} : Lit × DataW H → Nat
  | (.string bytes, d) => bytes.length + uptoBulk d + 1
  | (_, d) => uptoBulk d + 1
 end
def uptoSmall : (H : Type) → List (DataW H) → Bool := fun _ ds => decide (uptoBulkAll ds ≤ 1048576)
def OpenSpec.upto (s : _root_.Go.ChangeSpec) : _root_.Go.OpenSpec := { _root_.Go.OpenSpec.ofChange s with cond := some uptoSmall }

/-- 'attestlaw10.InternPlays', WHERE WHAT IT READS IS OF BULK AT MOST 1048576: true; the input reads as it did. -/
def internPlaysUptoRow : OpenClaim := { program := "ytmeomfnnachkoaa", sum := "cbdea4b9de4149c3b661bad9089d298d3b70d549eefe781608b99b4f77379b85", func := "attest/attestlaw10.InternPlays", spec := "internPlays", plainKeys := false, apart := false, narrowed := true }
def InternPlaysUptoSaid : Prop := internPlaysUptoRow.holds Try.pinned (OpenSpec.upto internPlaysSpec)

/-- 'attestlaw10.InternShares', WHERE WHAT IT READS IS OF BULK AT MOST 1048576: true; the input reads as it did. -/
def internSharesUptoRow : OpenClaim := { program := "ytmeomfnnachkoaa", sum := "cbdea4b9de4149c3b661bad9089d298d3b70d549eefe781608b99b4f77379b85", func := "attest/attestlaw10.InternShares", spec := "internShares", plainKeys := false, apart := false, narrowed := true }
def InternSharesUptoSaid : Prop := internSharesUptoRow.holds Try.pinned (OpenSpec.upto internSharesSpec)

/-- 'attestlaw10.InternMeans', WHERE WHAT IT READS IS OF BULK AT MOST 1048576: true; the input reads as it did. -/
def internMeansUptoRow : OpenClaim := { program := "ytmeomfnnachkoaa", sum := "cbdea4b9de4149c3b661bad9089d298d3b70d549eefe781608b99b4f77379b85", func := "attest/attestlaw10.InternMeans", spec := "internMeans", plainKeys := false, apart := false, narrowed := true }
def InternMeansUptoSaid : Prop := internMeansUptoRow.holds Try.pinned (OpenSpec.upto internMeansSpec)

/-- 'attestlaw10.InternEvals', WHERE WHAT IT READS IS OF BULK AT MOST 1048576: true; the input reads as it did. -/
def internEvalsUptoRow : OpenClaim := { program := "ytmeomfnnachkoaa", sum := "cbdea4b9de4149c3b661bad9089d298d3b70d549eefe781608b99b4f77379b85", func := "attest/attestlaw10.InternEvals", spec := "internEvals", plainKeys := false, apart := false, narrowed := true }
def InternEvalsUptoSaid : Prop := internEvalsUptoRow.holds Try.pinned (OpenSpec.upto internEvalsSpec)

/-- 'attestlaw10.InternFull', WHERE WHAT IT READS IS OF BULK AT MOST 1048576: true; the input reads as it did. -/
def internFullUptoRow : OpenClaim := { program := "ytmeomfnnachkoaa", sum := "cbdea4b9de4149c3b661bad9089d298d3b70d549eefe781608b99b4f77379b85", func := "attest/attestlaw10.InternFull", spec := "internFull", plainKeys := false, apart := false, narrowed := true }
def InternFullUptoSaid : Prop := internFullUptoRow.holds Try.pinned (OpenSpec.upto internFullSpec)

end Rows
end Go.Proofs.Ytmeomfnnachkoaa
