/- For every input the law RtextNear returns true: a decimal text lies towards 0 from its number by less than one unit of its last digit. No condition. -/
import Derived.Test.YtefckmkcbgckfaaGreatRows
import Derived.WalkKit
import Derived.ProofKit
import Derived.OpenShut
import Derived.ShutString
import Derived.ChangeOld
import Derived.Below
import Derived.Lib.SmallJoins
import Derived.HandedShaped
import Derived.Test.YtefckmkcbgckfaaGreatSetBF
import Derived.Test.YtefckmkcbgckfaaGreatSetAX
import Derived.Test.YtefckmkcbgckfaaGreatSetBG
namespace Go.Proofs.YtefckmkcbgckfaaGreat.rtextNear
open Go.ChangeShapes Go.WideShapes Go.ChangeAt Go.RowKit
open Mem LimbNum OpD StrL ShelfC

theorem own : ownKnob Tryz.prog.godebug = none := by kernel_rfl
theorem laidOut : laidOutB Tryz.prog = true := by kernel_rfl
theorem walk (b00 : Bool) (ao00 : Option Addr) (ca00 : Nat) (A00 : List Nat) (bo00 : Option Addr) (cb00 : Nat) (B00 : List Nat) (i1 : Int) (w : World) (hm : ML w) (f00 : Lies w ao00 ca00 (ints .u32 A00) ∧ Lies w bo00 cb00 (ints .u32 B00) ∧ Small A00 ∧ Small B00) (wi1 : (Lit.int .i64 i1).wf = true) :
    Calls Tryz.prog 3 #[.agg #[.bool b00, .slice ao00 A00.length ca00, .slice bo00 B00.length cb00], .int .i64 i1] w fun e w' => e = .returned (.bool true) ∧ Below w.heap.size w w' := by
  have _ := wi1
  have cb := fun (V : World) (hV : Below w.heap.size w V) => BnL.both_nm b00 A00 B00 ao00 bo00 ca00 cb00 V (f00.1.below hV (Nat.le_refl _)) (f00.2.1.below hV (Nat.le_refl _)) f00.2.2.1 f00.2.2.2
  by_cases hr : Int.tmod i1 40 < 0
  · exact NrW.law_neg b00 _ _ i1 w hm hr cb
  · exact NrX.law_pos b00 _ _ i1 w hm hr cb
set_option maxRecDepth 100000 in
theorem lifted (os : Os) (started : os.Started) (H : Type) (enc : TypeId × Value → H) :
    ReturnsInHanded {} Tryz.checked os 3 .any (Rows.rtextNearSpec.pre6 enc Tryz.prog Tryz.f3 Rows.rtextNearRow.domain false) (Rows.rtextNearSpec.post enc Tryz.prog Tryz.f3 false true false false) := by
  refine returnsInHanded_of_change_shaped (C := Tryz.checked) own started (by kernel_rfl) Tryz.func3
    (ChangeSpec.witness6 (enc := enc) (C := Tryz.checked) false ⟨#[], #[.agg #[.bool false, .slice none 0 0, .slice none 0 0], .int .i64 0], []⟩ 8 (by kernel_rfl) (by kernel_rfl) (by kernel_rfl) (by kernel_rfl)) ?_
  intro W base args ds gs before hval0 hW hcnd _ hsh _
  have hval : ∀ (j : Nat) t v, Tryz.f3.params[j]? = some t → args[j]? = some v → Value.okWide Tryz.prog W .any base t v := hval0
  have hW' := hW
  obtain ⟨p, q, hA0, hV, rfl, hfz, hnd⟩ := hW
  have hA : DataW.TrodAll enc Tryz.prog W 0 (fun _ => true) true Tryz.f3.params.toList args.toList ds p := hA0
  rw [Tryz.params3] at hA hval
  obtain ⟨v0, vs0, d0, ds0, p0, q0, hargs, rfl, rfl, h0, r0⟩ := trodAll_cons hA
  obtain ⟨v1, vs1, d1, ds1, p1, q1, rfl, rfl, rfl, h1, r1⟩ := trodAll_cons r0
  obtain ⟨rfl, rfl, rfl⟩ := trodAll_nil r1
  obtain rfl : args = #[v0, v1] := by cases args; simp_all
  obtain ⟨rfl, rfl⟩ := trodVars_none hV
  have k0 := h0
  have k1 := h1
  have lt0 : ∀ x ∈ p0, x.block < W.heap.size := by obtain ⟨m, hm⟩ := k0; exact DataW.trod_lt m _ _ _ hm
  have lt1 : ∀ x ∈ p1, x.block < W.heap.size := by obtain ⟨m, hm⟩ := k1; exact DataW.trod_lt m _ _ _ hm
  obtain ⟨b00, ao00, ca00, A00, bo00, cb00, B00, rfl, f00⟩ := open_n1 (hval 0 24 v0 rfl rfl) h0
  obtain ⟨i1, rfl, _, _, wi1⟩ := open_int Tryz.underlying3 (hval 1 3 v1 rfl rfl) h1
  clear hA0 hval0
  refine (walk b00 ao00 ca00 A00 bo00 cb00 B00 i1 W (ML.of hsh) f00 wi1).mono fun e W' ⟨he, bel⟩ => ?_
  subst he
  exact ⟨_, rfl, _, _, _, [], _, [], hW', trodAll_mk1 (shut_bool Tryz.underlying4 _), (trodAll_cons_mk (Below.trod laidOut (by kernel_rfl) (of_decide_eq_true (by kernel_rfl)) k0 bel lt0) (trodAll_cons_mk (Below.trod laidOut (by kernel_rfl) (of_decide_eq_true (by kernel_rfl)) k1 bel lt1) trodAll_mk0)), rfl, bel.frame _, fun h => by cases h⟩
theorem over : Rows.rtextNearRow.holds Tryz.pinned (OpenSpec.ofChange Rows.rtextNearSpec) :=
  OpenClaim.holds_of_wide 3 Tryz.f3 rfl rfl rfl rfl rfl rfl rfl ⟨rfl, rfl, rfl, rfl, rfl⟩ rfl rfl rfl rfl rfl (by kernel_rfl) Tryz.func3 (by kernel_rfl)
    (of_decide_eq_true (by kernel_rfl)) (by unfold Func.isWrapper; first | (rw [if_pos (by decide +kernel)]; kernel_rfl) | (rw [if_neg (by decide +kernel)]; exact ⟨rfl, rfl⟩))
    (fun os started H enc _ => lifted os started H enc)
theorem proved : Rows.RtextNearSaid := over
end Go.Proofs.YtefckmkcbgckfaaGreat.rtextNear
namespace Go.Proofs.YtefckmkcbgckfaaGreat
/-- THE STATEMENT. -/
theorem rtextNear_holds : Rows.RtextNearSaid := rtextNear.proved
#print axioms rtextNear_holds
end Go.Proofs.YtefckmkcbgckfaaGreat
