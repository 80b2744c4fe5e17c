/- For every input the law AttestFractions returns true: texts, parts, keys of two numbers and of what they make go together. No condition. -/
import Derived.Test.YtefckmkcbgckfabRows
import Derived.WalkKit
import Derived.ProofKit
import Derived.OpenShut
import Derived.ShutString
import Derived.ChangeOld
import Derived.Below
import Derived.Lib.SmallJoins
import Derived.HandedShaped
import Derived.Test.YtefckmkcbgckfabSetBI
import Derived.Test.YtefckmkcbgckfabSetBF
import Derived.Test.YtefckmkcbgckfabSetAX
import Derived.Test.YtefckmkcbgckfabSetBJ
namespace Go.Proofs.Ytefckmkcbgckfab.attestFractions
open Go.ChangeShapes Go.WideShapes Go.ChangeAt Go.RowKit
open Mem LimbNum OpD StrL ShelfC

theorem own : ownKnob Try.prog.godebug = none := by kernel_rfl
theorem laidOut : laidOutB Try.prog = true := by kernel_rfl
theorem walk (b00 : Bool) (ao00 : Option Addr) (ca00 : Nat) (A00 : List Nat) (bo00 : Option Addr) (cb00 : Nat) (B00 : List Nat) (b10 : Bool) (ao10 : Option Addr) (ca10 : Nat) (A10 : List Nat) (bo10 : Option Addr) (cb10 : Nat) (B10 : List Nat) (w : World) (hm : ML w) (f00 : Lies w ao00 ca00 (ints .u32 A00) ∧ Lies w bo00 cb00 (ints .u32 B00) ∧ Small A00 ∧ Small B00) (f10 : Lies w ao10 ca10 (ints .u32 A10) ∧ Lies w bo10 cb10 (ints .u32 B10) ∧ Small A10 ∧ Small B10) :
    Calls Try.prog 3 #[.agg #[.bool b00, .slice ao00 A00.length ca00, .slice bo00 B00.length cb00], .agg #[.bool b10, .slice ao10 A10.length ca10, .slice bo10 B10.length cb10]] w fun e w' => e = .returned (.bool true) ∧ Below w.heap.size w w' := by
  have cN := fun (b : Bool) (A B : List Nat) (ao bo : Option Addr) (c1 c2 : Nat) (f : Lies w ao c1 (ints .u32 A) ∧ Lies w bo c2 (ints .u32 B) ∧ Small A ∧ Small B) (V : World) (hV : Below w.heap.size w V) => FrB.number_nm b (.slice ao A.length c1) (.slice bo B.length c2) V (fun U hU => BnL.both_nm b A B ao bo c1 c2 U (f.1.below (bt hV hU) (Nat.le_refl _)) (f.2.1.below (bt hV hU) (Nat.le_refl _)) f.2.2.1 f.2.2.2)
  exact FrW.law b00 b10 _ _ _ _ w hm (fun V hV => cN b00 A00 B00 ao00 bo00 ca00 cb00 f00 V hV) (fun V hV => cN b10 A10 B10 ao10 bo10 ca10 cb10 f10 V hV)
set_option maxRecDepth 100000 in
theorem lifted (os : Os) (started : os.Started) (H : Type) (enc : TypeId × Value → H) :
    ReturnsInHanded {} Try.checked os 3 .any (Rows.attestFractionsSpec.pre6 enc Try.prog Try.f3 Rows.attestFractionsRow.domain false) (Rows.attestFractionsSpec.post enc Try.prog Try.f3 false true false false) := by
  refine returnsInHanded_of_change_shaped (C := Try.checked) own started (by kernel_rfl) Try.func3
    (ChangeSpec.witness6 (enc := enc) (C := Try.checked) false ⟨#[], #[.agg #[.bool false, .slice none 0 0, .slice none 0 0], .agg #[.bool false, .slice none 0 0, .slice none 0 0]], []⟩ 8 (by kernel_rfl) (by kernel_rfl) (by kernel_rfl) (by kernel_rfl)) ?_
  intro W base args ds gs before hval0 hW hcnd _ hsh _
  have hval : ∀ (j : Nat) t v, Try.f3.params[j]? = some t → args[j]? = some v → Value.okWide Try.prog W .any base t v := hval0
  have hW' := hW
  obtain ⟨p, q, hA0, hV, rfl, hfz, hnd⟩ := hW
  have hA : DataW.TrodAll enc Try.prog W 0 (fun _ => true) true Try.f3.params.toList args.toList ds p := hA0
  rw [Try.params3] at hA hval
  obtain ⟨v0, vs0, d0, ds0, p0, q0, hargs, rfl, rfl, h0, r0⟩ := trodAll_cons hA
  obtain ⟨v1, vs1, d1, ds1, p1, q1, rfl, rfl, rfl, h1, r1⟩ := trodAll_cons r0
  obtain ⟨rfl, rfl, rfl⟩ := trodAll_nil r1
  obtain rfl : args = #[v0, v1] := by cases args; simp_all
  obtain ⟨rfl, rfl⟩ := trodVars_none hV
  have k0 := h0
  have k1 := h1
  have lt0 : ∀ x ∈ p0, x.block < W.heap.size := by obtain ⟨m, hm⟩ := k0; exact DataW.trod_lt m _ _ _ hm
  have lt1 : ∀ x ∈ p1, x.block < W.heap.size := by obtain ⟨m, hm⟩ := k1; exact DataW.trod_lt m _ _ _ hm
  obtain ⟨b00, ao00, ca00, A00, bo00, cb00, B00, rfl, f00⟩ := open_n1 (hval 0 24 v0 rfl rfl) h0
  obtain ⟨b10, ao10, ca10, A10, bo10, cb10, B10, rfl, f10⟩ := open_n1 (hval 1 24 v1 rfl rfl) h1
  clear hA0 hval0
  refine (walk b00 ao00 ca00 A00 bo00 cb00 B00 b10 ao10 ca10 A10 bo10 cb10 B10 W (ML.of hsh) f00 f10).mono fun e W' ⟨he, bel⟩ => ?_
  subst he
  exact ⟨_, rfl, _, _, _, [], _, [], hW', trodAll_mk1 (shut_bool Try.underlying4 _), (trodAll_cons_mk (Below.trod laidOut (by kernel_rfl) (of_decide_eq_true (by kernel_rfl)) k0 bel lt0) (trodAll_cons_mk (Below.trod laidOut (by kernel_rfl) (of_decide_eq_true (by kernel_rfl)) k1 bel lt1) trodAll_mk0)), rfl, bel.frame _, fun h => by cases h⟩
theorem over : Rows.attestFractionsRow.holds Try.pinned (OpenSpec.ofChange Rows.attestFractionsSpec) :=
  OpenClaim.holds_of_wide 3 Try.f3 rfl rfl rfl rfl rfl rfl rfl ⟨rfl, rfl, rfl, rfl, rfl⟩ rfl rfl rfl rfl rfl (by kernel_rfl) Try.func3 (by kernel_rfl)
    (of_decide_eq_true (by kernel_rfl)) (by unfold Func.isWrapper; first | (rw [if_pos (by decide +kernel)]; kernel_rfl) | (rw [if_neg (by decide +kernel)]; exact ⟨rfl, rfl⟩))
    (fun os started H enc _ => lifted os started H enc)
theorem proved : Rows.AttestFractionsSaid := over
end Go.Proofs.Ytefckmkcbgckfab.attestFractions
namespace Go.Proofs.Ytefckmkcbgckfab
/-- THE STATEMENT. -/
theorem attestFractions_holds : Rows.AttestFractionsSaid := attestFractions.proved
#print axioms attestFractions_holds
end Go.Proofs.Ytefckmkcbgckfab
