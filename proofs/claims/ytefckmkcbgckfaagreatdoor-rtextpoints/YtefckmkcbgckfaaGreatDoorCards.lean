/-
  DERIVED. GIVEN WITH THE SEED: THE CARDS: each row of YtefckmkcbgckfaaGreatDoorRows.lean that lists a variable, with what it lists TIED to the program's text (the seventh form; the later family's looks); each row that meets fmt, with fmt's text TOLD by the authors' own Lean function (tested against real Go, not proved from fmt's source: count such statements apart). THE CARD IS WHAT COUNTS. Prove the row's statement (the work); the ties are given (YtefckmkcbgckfaaGreatDoorTie.lean); close each card by the builder's one call (the guide's Derived/Test/ToyasCard.lean, 'card_holds'). Laid BY PROGRAM, IN A SANDBOX (cutbox-door.mjs). By AI agents, Wed Nov 11 2026. No macro, syntax, notation, axiom, sorry.
-/
import Derived.Test.YtefckmkcbgckfaaGreatDoorRows
import GoSem.ClaimSeven
namespace Go.Proofs.YtefckmkcbgckfaaGreatDoor
namespace Rows

/-- THE TIED CARD OF 'attestlaw06.RtextPoints'. -/
def rtextPointsCard : Claim7 := { stood := { row := rtextPointsRow, standIns := [], harness := (true, "98b61c3b91e8ca567b9136c98cf1c26a9779c06b79fb986bf70aa60d026a2610"), looks := false }, kinds := [], alts := [], laidByText := true, laidKinds := [.data], laidTests := true, laidLooks := .later }
def RtextPointsCardSaid : Prop := Claim7.holds Tryz.pinned (.plain (OpenSpec.ofChange rtextPointsSpec)) rtextPointsCard

/-- THE SECOND FORM's CARD OF 'attestlaw06.RtextPoints'. -/
def rtextPointsUptoCard : Claim7 := { stood := { row := rtextPointsUptoRow, standIns := [], harness := (true, "98b61c3b91e8ca567b9136c98cf1c26a9779c06b79fb986bf70aa60d026a2610"), looks := false }, kinds := [], alts := [], laidByText := true, laidKinds := [.data], laidTests := true, laidLooks := .later }
def RtextPointsUptoCardSaid : Prop := Claim7.holds Tryz.pinned (.plain (OpenSpec.upto rtextPointsSpec)) rtextPointsUptoCard
end Rows
end Go.Proofs.YtefckmkcbgckfaaGreatDoor
