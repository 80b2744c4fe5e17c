/- For every input the law RtextPoints returns true: a number that has a finite decimal fraction gets just that, one that has none is told so. No condition but what the card says of the table. -/
import Derived.Test.YtefckmkcbgckfaaGreatDoorRows
import Derived.Test.YtefckmkcbgckfaaGreatDoorCards
import Derived.Test.YtefckmkcbgckfaaGreatDoorTie
import Derived.Test.YtefckmkcbgckfaaGreatDoorChecked
import Derived.WalkKit
import Derived.ProofKit
import Derived.OpenShut
import Derived.ShutString
import Derived.ChangeOld
import Derived.Below
import Derived.Lib.SmallJoins
import Derived.Deep.DeepHandedRow
import Derived.Lib.LaidTab
import Derived.JoinedCond
import Derived.HandedShaped
import Derived.Test.YtefckmkcbgckfaaGreatDoorSetBF
import Derived.Test.YtefckmkcbgckfaaGreatDoorSetAX
import Derived.Test.YtefckmkcbgckfaaGreatDoorSetBG
namespace Go.Proofs.YtefckmkcbgckfaaGreatDoor.rtextPoints
open Go.ChangeShapes Go.WideShapes Go.ChangeAt Go.RowKit
open Mem LimbNum OpD StrL ShelfC TwoN TwoL

theorem own : ownKnob Tryz.prog.godebug = none := by kernel_rfl
theorem laidOut : laidOutB Tryz.prog = true := by kernel_rfl
theorem walk (b00 : Bool) (ao00 : Option Addr) (ca00 : Nat) (A00 : List Nat) (bo00 : Option Addr) (cb00 : Nat) (B00 : List Nat) (w : World) (hm : ML w) (hT : Tabl w) (f00 : Lies w ao00 ca00 (ints .u32 A00) ∧ Lies w bo00 cb00 (ints .u32 B00) ∧ Small A00 ∧ Small B00) :
    Calls Tryz.prog 3 #[.agg #[.bool b00, .slice ao00 A00.length ca00, .slice bo00 B00.length cb00]] w fun e w' => e = .returned (.bool true) ∧ Below w.heap.size w w' :=
  PlW.law b00 _ _ w hm hT (fun V hV => BnL.both_nm b00 A00 B00 ao00 bo00 ca00 cb00 V (f00.1.below hV (Nat.le_refl _)) (f00.2.1.below hV (Nat.le_refl _)) f00.2.2.1 f00.2.2.2)
theorem gTab : Tryz.prog.globalNamed "math/bits.deBruijn32tab" = some 0 := by kernel_rfl
theorem gTabType : (Tryz.prog.globals[0]?).map (·.type) = some 109 := by kernel_rfl
theorem cellsT : Tryz.prog.cellsOf 109 = 32 := by kernel_rfl
theorem cellsB : Tryz.prog.cellsOf 5 = 1 := by kernel_rfl
/-- What the row's list gives: the table's cells hold its numbers. -/
theorem table {W : World} (h : laidMetH Tryz.prog Rows.rtextPointsRow.laid W) : Tabl W := fun i hi => by
  have ht : Lib.TabIs Tryz.prog W "math/bits.deBruijn32tab" .u8 tab := Lib.tabIs_of_head (rest := []) gTab gTabType Tryz.underlying109 Tryz.underlying5 cellsB cellsT h
  exact ht.cell gTab i (by show i < 32; exact hi)
set_option maxRecDepth 100000 in
theorem contract (H : Type) (enc : TypeId × Value → H) (W : World) (base : Nat) (args : Array Value) (ds gs : List (DataW H)) (before : List MemPlace)
    (hval : ∀ (j : Nat) t v, Tryz.f3.params[j]? = some t → args[j]? = some v → Value.okWide Tryz.prog W .any base t v)
    (hW : DataW.Whole enc Tryz.prog Tryz.f3.params.toList Rows.rtextPointsSpec.vars false W args.toList ds gs before) (hL : laidMetH Tryz.prog Rows.rtextPointsRow.laid W) (hsh : W.ShapedOpen Tryz.prog) :
    Calls Tryz.prog 3 args W fun e W' => ∃ v, e = .returned v ∧ Rows.rtextPointsSpec.post enc Tryz.prog Tryz.f3 false true false false W args v W' := by
  have hW' := hW
  obtain ⟨p, q, hA0, hV, rfl, hfz, hnd⟩ := hW
  have hA : DataW.TrodAll enc Tryz.prog W 0 (fun _ => true) true Tryz.f3.params.toList args.toList ds p := hA0
  rw [Tryz.params3] at hA hval
  obtain ⟨v0, vs0, d0, ds0, p0, q0, hargs, rfl, rfl, h0, r0⟩ := trodAll_cons hA
  obtain ⟨rfl, rfl, rfl⟩ := trodAll_nil r0
  obtain rfl : args = #[v0] := by cases args; simp_all
  obtain ⟨rfl, rfl⟩ := trodVars_none hV
  have k0 := h0
  have lt0 : ∀ x ∈ p0, x.block < W.heap.size := by obtain ⟨m, hm⟩ := k0; exact DataW.trod_lt m _ _ _ hm
  obtain ⟨b00, ao00, ca00, A00, bo00, cb00, B00, rfl, f00⟩ := open_n1 (hval 0 24 v0 rfl rfl) h0
  clear hA0
  refine (walk b00 ao00 ca00 A00 bo00 cb00 B00 W (ML.of hsh) (table hL) f00).mono fun e W' ⟨he, bel⟩ => ?_
  subst he
  exact ⟨_, rfl, _, _, _, [], _, [], hW', trodAll_mk1 (shut_bool Tryz.underlying4 _), (trodAll_cons_mk (Below.trod laidOut (by kernel_rfl) (of_decide_eq_true (by kernel_rfl)) k0 bel lt0) trodAll_mk0), rfl, bel.frame _, fun h => by cases h⟩
/-- A world for the witness: the settled one, the table (block 0) holding what its initialiser lays. -/
noncomputable def laidWorld (os : Os) : World :=
  { World.holding Tryz.prog os ⟨#[], #[], []⟩ with heap := (World.holding Tryz.prog os ⟨#[], #[], []⟩).heap.modify 0 fun
      | .cells _ t frozen => .cells (tab.map (Value.int .u8)).toArray t frozen
      | o => o }
theorem laid_met (os : Os) : laidMet Tryz.prog Rows.rtextPointsRow.laid ((laidWorld os).forCall (fun _ _ => 0) ⟨#[], #[.agg #[.bool false, .slice none 0 0, .slice none 0 0]], []⟩).memory :=
  laidMet_of_run' 8 (by kernel_rfl) (by kernel_rfl)
set_option maxRecDepth 100000 in
theorem lifted (os : Os) (started : os.Started) (H : Type) (enc : TypeId × Value → H) (F : Stop.Interp) :
    ReturnsInHanded {} Tryz.checked os 3 .any ((OpenSpec.ofChange Rows.rtextPointsSpec).preRow enc Tryz.prog Tryz.f3 Rows.rtextPointsRow.domain false Rows.rtextPointsRow.laid) (((OpenSpec.ofChange Rows.rtextPointsSpec).at F).post enc Tryz.prog Tryz.f3 false true false false) := by
  refine returnsInHanded_of_row (C := Tryz.checked) (s := OpenSpec.ofChange Rows.rtextPointsSpec) own started (by kernel_rfl) Tryz.func3
    (witness_row_at (enc := enc) (C := Tryz.checked) false (laidWorld os) #[.agg #[.bool false, .slice none 0 0, .slice none 0 0]] rfl (by kernel_rfl) (by kernel_rfl) (by kernel_rfl)
      (OpenSpec.preRow_of_B rfl 8 (by kernel_rfl) (by kernel_rfl) (laid_met os))) ?_
  intro W base args ds gs before hval hW _ _ _ hL hsh _
  exact contract H enc W base args ds gs before hval hW hL hsh
theorem said : Rows.RtextPointsSaid :=
  OpenClaim.holds_of_cond 3 Tryz.f3 rfl rfl rfl rfl rfl rfl rfl ⟨rfl, rfl, rfl, rfl, rfl⟩ rfl rfl rfl rfl rfl (by kernel_rfl) Tryz.func3 (by kernel_rfl)
    (of_decide_eq_true (by kernel_rfl)) (by unfold Func.isWrapper; first | (rw [if_pos (by decide +kernel)]; kernel_rfl) | (rw [if_neg (by decide +kernel)]; exact ⟨rfl, rfl⟩))
    (fun os started H enc _ F => by rw [OpenClaim.pre_eq_preRow]; exact lifted os started H enc F)
/-- No parameter wants a stand-in; the program's own looks are off. -/
theorem plain (f : FuncId) (fn : Func) (hf : Tryz.pinned.checked.prog.funcNamed "attest/attestlaw06.RtextPoints" = some f) (hfn : Tryz.pinned.checked.prog.funcs[f]? = some fn) :
    false = Tryz.pinned.checked.prog.looks [] ∧ ∀ (j : Nat) t, fn.params[j]? = some t → Tryz.pinned.checked.prog.wantsStandIn t = false := by
  obtain rfl : f = 3 := Option.some.inj ((show Tryz.prog.funcNamed "attest/attestlaw06.RtextPoints" = some 3 by kernel_rfl).symm.trans hf) |>.symm
  obtain rfl : fn = Tryz.f3 := (Option.some.inj (Tryz.func3.symm.trans hfn)).symm
  refine ⟨by kernel_rfl, fun j t ht => ?_⟩
  rw [Tryz.params3] at ht
  obtain rfl : t = 24 := by have := Array.mem_of_getElem? ht; simp at this; omega
  exact (show Tryz.prog.wantsStandIn 24 = false by kernel_rfl)
theorem card : Rows.RtextPointsCardSaid :=
  Claim7.holds_tied_plain_at .later [] _ _ _ _ said (fun _ h => by cases h) (by kernel_rfl) (fun _ h => by cases h) rtextPoints_row_tie rfl ⟨rfl, rfl⟩ (by kernel_rfl) rfl plain (by kernel_rfl)
end Go.Proofs.YtefckmkcbgckfaaGreatDoor.rtextPoints
namespace Go.Proofs.YtefckmkcbgckfaaGreatDoor
/-- THE CARD. -/
theorem rtextPointsCard_holds : Rows.RtextPointsCardSaid := rtextPoints.card
#print axioms rtextPointsCard_holds
end Go.Proofs.YtefckmkcbgckfaaGreatDoor
