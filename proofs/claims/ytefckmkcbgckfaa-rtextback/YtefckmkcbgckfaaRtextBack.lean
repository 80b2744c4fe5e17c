/- For every input the law RtextBack returns true: printed numbers are read back, and two texts are alike just if the numbers are. No condition. -/
import Derived.Test.YtefckmkcbgckfaaRows
import Derived.WalkKit
import Derived.ProofKit
import Derived.OpenShut
import Derived.ShutString
import Derived.ChangeOld
import Derived.Below
import Derived.Lib.SmallJoins
import Derived.HandedShaped
import Derived.Test.YtefckmkcbgckfaaSetBC
import Derived.Test.YtefckmkcbgckfaaSetAX
import Derived.Test.YtefckmkcbgckfaaSetBD
namespace Go.Proofs.Ytefckmkcbgckfaa.rtextBack
open Go.ChangeShapes Go.WideShapes Go.ChangeAt Go.RowKit
open Mem LimbNum OpD StrL ShelfC

theorem own : ownKnob Try.prog.godebug = none := by kernel_rfl
theorem laidOut : laidOutB Try.prog = true := by kernel_rfl
theorem walk (b00 : Bool) (ao00 : Option Addr) (ca00 : Nat) (A00 : List Nat) (bo00 : Option Addr) (cb00 : Nat) (B00 : List Nat) (b10 : Bool) (ao10 : Option Addr) (ca10 : Nat) (A10 : List Nat) (bo10 : Option Addr) (cb10 : Nat) (B10 : List Nat) (w : World) (hm : ML w) (f00 : Lies w ao00 ca00 (ints .u32 A00) ∧ Lies w bo00 cb00 (ints .u32 B00) ∧ Small A00 ∧ Small B00) (f10 : Lies w ao10 ca10 (ints .u32 A10) ∧ Lies w bo10 cb10 (ints .u32 B10) ∧ Small A10 ∧ Small B10) :
    Calls Try.prog 6 #[.agg #[.bool b00, .slice ao00 A00.length ca00, .slice bo00 B00.length cb00], .agg #[.bool b10, .slice ao10 A10.length ca10, .slice bo10 B10.length cb10]] w fun e w' => e = .returned (.bool true) ∧ Below w.heap.size w w' := by
  exact BkW.law b00 _ _ b10 _ _ w hm (fun V hV => BnL.both_nm b00 A00 B00 ao00 bo00 ca00 cb00 V (f00.1.below hV (Nat.le_refl _)) (f00.2.1.below hV (Nat.le_refl _)) f00.2.2.1 f00.2.2.2) (fun V hV => BnL.both_nm b10 A10 B10 ao10 bo10 ca10 cb10 V (f10.1.below hV (Nat.le_refl _)) (f10.2.1.below hV (Nat.le_refl _)) f10.2.2.1 f10.2.2.2)
set_option maxRecDepth 100000 in
theorem lifted (os : Os) (started : os.Started) (H : Type) (enc : TypeId × Value → H) :
    ReturnsInHanded {} Try.checked os 6 .any (Rows.rtextBackSpec.pre6 enc Try.prog Try.f6 Rows.rtextBackRow.domain false) (Rows.rtextBackSpec.post enc Try.prog Try.f6 false true false false) := by
  refine returnsInHanded_of_change_shaped (C := Try.checked) own started (by kernel_rfl) Try.func6
    (ChangeSpec.witness6 (enc := enc) (C := Try.checked) false ⟨#[], #[.agg #[.bool false, .slice none 0 0, .slice none 0 0], .agg #[.bool false, .slice none 0 0, .slice none 0 0]], []⟩ 8 (by kernel_rfl) (by kernel_rfl) (by kernel_rfl) (by kernel_rfl)) ?_
  intro W base args ds gs before hval0 hW hcnd _ hsh _
  have hval : ∀ (j : Nat) t v, Try.f6.params[j]? = some t → args[j]? = some v → Value.okWide Try.prog W .any base t v := hval0
  have hW' := hW
  obtain ⟨p, q, hA0, hV, rfl, hfz, hnd⟩ := hW
  have hA : DataW.TrodAll enc Try.prog W 0 (fun _ => true) true Try.f6.params.toList args.toList ds p := hA0
  rw [Try.params6] at hA hval
  obtain ⟨v0, vs0, d0, ds0, p0, q0, hargs, rfl, rfl, h0, r0⟩ := trodAll_cons hA
  obtain ⟨v1, vs1, d1, ds1, p1, q1, rfl, rfl, rfl, h1, r1⟩ := trodAll_cons r0
  obtain ⟨rfl, rfl, rfl⟩ := trodAll_nil r1
  obtain rfl : args = #[v0, v1] := by cases args; simp_all
  obtain ⟨rfl, rfl⟩ := trodVars_none hV
  have k0 := h0
  have k1 := h1
  have lt0 : ∀ x ∈ p0, x.block < W.heap.size := by obtain ⟨m, hm⟩ := k0; exact DataW.trod_lt m _ _ _ hm
  have lt1 : ∀ x ∈ p1, x.block < W.heap.size := by obtain ⟨m, hm⟩ := k1; exact DataW.trod_lt m _ _ _ hm
  obtain ⟨b00, ao00, ca00, A00, bo00, cb00, B00, rfl, f00⟩ := open_n1 (hval 0 40 v0 rfl rfl) h0
  obtain ⟨b10, ao10, ca10, A10, bo10, cb10, B10, rfl, f10⟩ := open_n1 (hval 1 40 v1 rfl rfl) h1
  clear hA0 hval0
  refine (walk b00 ao00 ca00 A00 bo00 cb00 B00 b10 ao10 ca10 A10 bo10 cb10 B10 W (ML.of hsh) f00 f10).mono fun e W' ⟨he, bel⟩ => ?_
  subst he
  exact ⟨_, rfl, _, _, _, [], _, [], hW', trodAll_mk1 (shut_bool Try.underlying4 _), (trodAll_cons_mk (Below.trod laidOut (by kernel_rfl) (of_decide_eq_true (by kernel_rfl)) k0 bel lt0) (trodAll_cons_mk (Below.trod laidOut (by kernel_rfl) (of_decide_eq_true (by kernel_rfl)) k1 bel lt1) trodAll_mk0)), rfl, bel.frame _, fun h => by cases h⟩
theorem over : Rows.rtextBackRow.holds Try.pinned (OpenSpec.ofChange Rows.rtextBackSpec) :=
  OpenClaim.holds_of_wide 6 Try.f6 rfl rfl rfl rfl rfl rfl rfl ⟨rfl, rfl, rfl, rfl, rfl⟩ rfl rfl rfl rfl rfl (by kernel_rfl) Try.func6 (by kernel_rfl)
    (of_decide_eq_true (by kernel_rfl)) (by unfold Func.isWrapper; first | (rw [if_pos (by decide +kernel)]; kernel_rfl) | (rw [if_neg (by decide +kernel)]; exact ⟨rfl, rfl⟩))
    (fun os started H enc _ => lifted os started H enc)
theorem proved : Rows.RtextBackSaid := over
end Go.Proofs.Ytefckmkcbgckfaa.rtextBack
namespace Go.Proofs.Ytefckmkcbgckfaa
/-- THE STATEMENT. -/
theorem rtextBack_holds : Rows.RtextBackSaid := rtextBack.proved
#print axioms rtextBack_holds
end Go.Proofs.Ytefckmkcbgckfaa
