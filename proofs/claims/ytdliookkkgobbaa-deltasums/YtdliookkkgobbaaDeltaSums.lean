/- For every input the law DeltaSums returns true: numbers with an infinitely small part are added, scaled and evaluated part by part. No condition. -/
import Derived.Test.YtdliookkkgobbaaRows
import Derived.WalkKit
import Derived.ProofKit
import Derived.OpenShut
import Derived.ShutString
import Derived.ChangeOld
import Derived.Below
import Derived.Lib.SmallJoins
import Derived.Test.YtdliookkkgobbaaSetAT
import Derived.Test.YtdliookkkgobbaaSetAU
namespace Go.Proofs.Ytdliookkkgobbaa.deltaSums
open Go.ChangeShapes Go.WideShapes Go.ChangeAt Go.RowKit
open Mem LimbNum OpD

theorem own : ownKnob Try.prog.godebug = none := by kernel_rfl
theorem laidOut : laidOutB Try.prog = true := by kernel_rfl
theorem walk (b00 : Bool) (ao00 : Option Addr) (ca00 : Nat) (A00 : List Nat) (bo00 : Option Addr) (cb00 : Nat) (B00 : List Nat) (b01 : Bool) (ao01 : Option Addr) (ca01 : Nat) (A01 : List Nat) (bo01 : Option Addr) (cb01 : Nat) (B01 : List Nat) (b10 : Bool) (ao10 : Option Addr) (ca10 : Nat) (A10 : List Nat) (bo10 : Option Addr) (cb10 : Nat) (B10 : List Nat) (b11 : Bool) (ao11 : Option Addr) (ca11 : Nat) (A11 : List Nat) (bo11 : Option Addr) (cb11 : Nat) (B11 : List Nat) (b20 : Bool) (ao20 : Option Addr) (ca20 : Nat) (A20 : List Nat) (bo20 : Option Addr) (cb20 : Nat) (B20 : List Nat) (w : World) (f00 : Lies w ao00 ca00 (ints .u32 A00) ∧ Lies w bo00 cb00 (ints .u32 B00) ∧ Small A00 ∧ Small B00) (f01 : Lies w ao01 ca01 (ints .u32 A01) ∧ Lies w bo01 cb01 (ints .u32 B01) ∧ Small A01 ∧ Small B01) (f10 : Lies w ao10 ca10 (ints .u32 A10) ∧ Lies w bo10 cb10 (ints .u32 B10) ∧ Small A10 ∧ Small B10) (f11 : Lies w ao11 ca11 (ints .u32 A11) ∧ Lies w bo11 cb11 (ints .u32 B11) ∧ Small A11 ∧ Small B11) (f20 : Lies w ao20 ca20 (ints .u32 A20) ∧ Lies w bo20 cb20 (ints .u32 B20) ∧ Small A20 ∧ Small B20) :
    Calls Try.prog 4 #[.agg #[.bool b00, .slice ao00 A00.length ca00, .slice bo00 B00.length cb00, .bool b01, .slice ao01 A01.length ca01, .slice bo01 B01.length cb01], .agg #[.bool b10, .slice ao10 A10.length ca10, .slice bo10 B10.length cb10, .bool b11, .slice ao11 A11.length ca11, .slice bo11 B11.length cb11], .agg #[.bool b20, .slice ao20 A20.length ca20, .slice bo20 B20.length cb20]] w fun e w' => e = .returned (.bool true) ∧ Below w.heap.size w w' := by
  exact DsW.law b00 b01 _ _ _ _ b10 b11 _ _ _ _ b20 _ _ w (fun W hW => DaL.both_d ⟨f00.1.below hW (Nat.le_refl _), f00.2.1.below hW (Nat.le_refl _), f00.2.2⟩ ⟨f01.1.below hW (Nat.le_refl _), f01.2.1.below hW (Nat.le_refl _), f01.2.2⟩) (fun W hW => DaL.both_d ⟨f10.1.below hW (Nat.le_refl _), f10.2.1.below hW (Nat.le_refl _), f10.2.2⟩ ⟨f11.1.below hW (Nat.le_refl _), f11.2.1.below hW (Nat.le_refl _), f11.2.2⟩) (fun W hW => DaL.both_nm b20 A20 B20 ao20 bo20 ca20 cb20 W (f20.1.below hW (Nat.le_refl _)) (f20.2.1.below hW (Nat.le_refl _)) f20.2.2.1 f20.2.2.2)
set_option maxRecDepth 100000 in
theorem lifted (os : Os) (started : os.Started) (H : Type) (enc : TypeId × Value → H) :
    ReturnsInHanded {} Try.checked os 4 .any (Rows.deltaSumsSpec.pre6 enc Try.prog Try.f4 Rows.deltaSumsRow.domain false) (Rows.deltaSumsSpec.post enc Try.prog Try.f4 false true false false) := by
  refine returnsInHanded_of_change (C := Try.checked) own started (by kernel_rfl) Try.func4
    (ChangeSpec.witness6 (enc := enc) (C := Try.checked) false ⟨#[], #[.agg #[.bool false, .slice none 0 0, .slice none 0 0, .bool false, .slice none 0 0, .slice none 0 0], .agg #[.bool false, .slice none 0 0, .slice none 0 0, .bool false, .slice none 0 0, .slice none 0 0], .agg #[.bool false, .slice none 0 0, .slice none 0 0]], []⟩ 8 (by kernel_rfl) (by kernel_rfl) (by kernel_rfl) (by kernel_rfl)) ?_
  intro W base args ds gs before hval0 hW hcnd _
  have hval : ∀ (j : Nat) t v, Try.f4.params[j]? = some t → args[j]? = some v → Value.okWide Try.prog W .any base t v := hval0
  have hW' := hW
  obtain ⟨p, q, hA0, hV, rfl, hfz, hnd⟩ := hW
  have hA : DataW.TrodAll enc Try.prog W 0 (fun _ => true) true Try.f4.params.toList args.toList ds p := hA0
  rw [Try.params4] at hA hval
  obtain ⟨v0, vs0, d0, ds0, p0, q0, hargs, rfl, rfl, h0, r0⟩ := trodAll_cons hA
  obtain ⟨v1, vs1, d1, ds1, p1, q1, rfl, rfl, rfl, h1, r1⟩ := trodAll_cons r0
  obtain ⟨v2, vs2, d2, ds2, p2, q2, rfl, rfl, rfl, h2, r2⟩ := trodAll_cons r1
  obtain ⟨rfl, rfl, rfl⟩ := trodAll_nil r2
  obtain rfl : args = #[v0, v1, v2] := by cases args; simp_all
  obtain ⟨rfl, rfl⟩ := trodVars_none hV
  have k0 := h0
  have k1 := h1
  have k2 := h2
  have lt0 : ∀ x ∈ p0, x.block < W.heap.size := by obtain ⟨m, hm⟩ := k0; exact DataW.trod_lt m _ _ _ hm
  have lt1 : ∀ x ∈ p1, x.block < W.heap.size := by obtain ⟨m, hm⟩ := k1; exact DataW.trod_lt m _ _ _ hm
  have lt2 : ∀ x ∈ p2, x.block < W.heap.size := by obtain ⟨m, hm⟩ := k2; exact DataW.trod_lt m _ _ _ hm
  obtain ⟨b00, ao00, ca00, A00, bo00, cb00, B00, b01, ao01, ca01, A01, bo01, cb01, B01, rfl, f00, f01⟩ := open_d (hval 0 47 v0 rfl rfl) h0
  obtain ⟨b10, ao10, ca10, A10, bo10, cb10, B10, b11, ao11, ca11, A11, bo11, cb11, B11, rfl, f10, f11⟩ := open_d (hval 1 47 v1 rfl rfl) h1
  obtain ⟨b20, ao20, ca20, A20, bo20, cb20, B20, rfl, f20⟩ := open_n1 (hval 2 24 v2 rfl rfl) h2
  clear hA0 hval0
  refine (walk b00 ao00 ca00 A00 bo00 cb00 B00 b01 ao01 ca01 A01 bo01 cb01 B01 b10 ao10 ca10 A10 bo10 cb10 B10 b11 ao11 ca11 A11 bo11 cb11 B11 b20 ao20 ca20 A20 bo20 cb20 B20 W f00 f01 f10 f11 f20).mono fun e W' ⟨he, bel⟩ => ?_
  subst he
  exact ⟨_, rfl, _, _, _, [], _, [], hW', trodAll_mk1 (shut_bool Try.underlying4 _), (trodAll_cons_mk (Below.trod laidOut (by kernel_rfl) (of_decide_eq_true (by kernel_rfl)) k0 bel lt0) (trodAll_cons_mk (Below.trod laidOut (by kernel_rfl) (of_decide_eq_true (by kernel_rfl)) k1 bel lt1) (trodAll_cons_mk (Below.trod laidOut (by kernel_rfl) (of_decide_eq_true (by kernel_rfl)) k2 bel lt2) trodAll_mk0))), rfl, bel.frame _, fun h => by cases h⟩
theorem over : Rows.deltaSumsRow.holds Try.pinned (OpenSpec.ofChange Rows.deltaSumsSpec) :=
  OpenClaim.holds_of_wide 4 Try.f4 rfl rfl rfl rfl rfl rfl rfl ⟨rfl, rfl, rfl, rfl, rfl⟩ rfl rfl rfl rfl rfl (by kernel_rfl) Try.func4 (by kernel_rfl)
    (of_decide_eq_true (by kernel_rfl)) (by unfold Func.isWrapper; first | (rw [if_pos (by decide +kernel)]; kernel_rfl) | (rw [if_neg (by decide +kernel)]; exact ⟨rfl, rfl⟩))
    (fun os started H enc _ => lifted os started H enc)
theorem proved : Rows.DeltaSumsSaid := over
end Go.Proofs.Ytdliookkkgobbaa.deltaSums
namespace Go.Proofs.Ytdliookkkgobbaa
/-- THE STATEMENT. -/
theorem deltaSums_holds : Rows.DeltaSumsSaid := deltaSums.proved
#print axioms deltaSums_holds
end Go.Proofs.Ytdliookkkgobbaa
