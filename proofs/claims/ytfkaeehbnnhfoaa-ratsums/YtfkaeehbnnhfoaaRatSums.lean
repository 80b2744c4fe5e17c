/- For every input the law RatSums returns true: sums, differences, products, signs and sizes of rational numbers are exact. No condition. -/
import Derived.Test.YtfkaeehbnnhfoaaRows
import Derived.WalkKit
import Derived.ProofKit
import Derived.OpenShut
import Derived.ShutString
import Derived.ChangeOld
import Derived.Below
import Derived.Lib.SmallJoins
import Derived.Test.YtfkaeehbnnhfoaaSetAS
namespace Go.Proofs.Ytfkaeehbnnhfoaa.ratSums
open Go.ChangeShapes Go.WideShapes Go.ChangeAt Go.RowKit
open Mem LimbNum

theorem own : ownKnob Try.prog.godebug = none := by kernel_rfl
theorem laidOut : laidOutB Try.prog = true := by kernel_rfl
/-- A slice of limbs that came in. -/
theorem open_row {H : Type} {enc : TypeId × Value → H} {W : World} {base : Nat} {held : Bool} {fuel : Nat} {x : Value} {y : DataW H × List MemPlace} (h : DataW.trod enc Try.prog W base (fun _ => true) held fuel 22 [x] = some y) :
    ∃ (a : Option Addr) (cap : Nat) (A : List Nat), x = .slice a A.length cap ∧ Lies W a cap (ints .u32 A) ∧ Small A := by
  rcases open_ints Try.underlying22 Try.underlying68 (by kernel_rfl) h with ⟨hcs, _⟩ | ⟨x', l, c, zs, hcs, _, hl, hm, hz, _, hcell, hwz⟩
  · simp at hcs
    subst hcs
    obtain ⟨A, e, h1, h2⟩ := lies_of_row (k := .u32) (w := W) (a := none) (len := 0) (cap := 0) (zs := []) nonneg_u32 (.inl ⟨rfl, rfl, rfl, rfl⟩)
    exact ⟨none, 0, A, by rw [e], h1, fun n hn => by have := (bounds_u32 (h2 n hn)).2; omega⟩
  · simp at hcs
    subst hcs
    obtain ⟨A, e, h1, h2⟩ := lies_of_row (k := .u32) (w := W) (a := some x') (len := l) (cap := c) (zs := zs) nonneg_u32 (.inr ⟨_, rfl, hl, hm, by simpa using hz, hcell, hwz⟩)
    exact ⟨some x', c, A, by rw [e], h1, fun n hn => by have := (bounds_u32 (h2 n hn)).2; omega⟩
theorem walk (b0 : Bool) (A0 B0 : List Nat) (ao0 bo0 : Option Addr) (ca0 cb0 : Nat) (b1 : Bool) (A1 B1 : List Nat) (ao1 bo1 : Option Addr) (ca1 cb1 : Nat) (w : World) (la0 : Lies w ao0 ca0 (ints .u32 A0)) (lb0 : Lies w bo0 cb0 (ints .u32 B0)) (sa0 : Small A0) (sb0 : Small B0) (la1 : Lies w ao1 ca1 (ints .u32 A1)) (lb1 : Lies w bo1 cb1 (ints .u32 B1)) (sa1 : Small A1) (sb1 : Small B1) :
    Calls Try.prog 4 #[.agg #[.bool b0, .slice ao0 A0.length ca0, .slice bo0 B0.length cb0], .agg #[.bool b1, .slice ao1 A1.length ca1, .slice bo1 B1.length cb1]] w fun e w' => e = .returned (.bool true) ∧ Below w.heap.size w w' := by
  exact SwW.law b0 b1 _ _ _ _ w (fun W hW => DvW.both_any b0 A0 B0 ao0 bo0 ca0 cb0 W (la0.below hW (Nat.le_refl _)) (lb0.below hW (Nat.le_refl _)) sa0 sb0) (fun W hW => DvW.both_any b1 A1 B1 ao1 bo1 ca1 cb1 W (la1.below hW (Nat.le_refl _)) (lb1.below hW (Nat.le_refl _)) sa1 sb1)
set_option maxRecDepth 100000 in
theorem lifted (os : Os) (started : os.Started) (H : Type) (enc : TypeId × Value → H) :
    ReturnsInHanded {} Try.checked os 4 .any (Rows.ratSumsSpec.pre6 enc Try.prog Try.f4 Rows.ratSumsRow.domain false) (Rows.ratSumsSpec.post enc Try.prog Try.f4 false true false false) := by
  refine returnsInHanded_of_change (C := Try.checked) own started (by kernel_rfl) Try.func4
    (ChangeSpec.witness6 (enc := enc) (C := Try.checked) false ⟨#[], #[.agg #[.bool false, .slice none 0 0, .slice none 0 0], .agg #[.bool false, .slice none 0 0, .slice none 0 0]], []⟩ 8 (by kernel_rfl) (by kernel_rfl) (by kernel_rfl) (by kernel_rfl)) ?_
  intro W base args ds gs before hval0 hW hcnd _
  have hval : ∀ (j : Nat) t v, Try.f4.params[j]? = some t → args[j]? = some v → Value.okWide Try.prog W .any base t v := hval0
  have hW' := hW
  obtain ⟨p, q, hA0, hV, rfl, hfz, hnd⟩ := hW
  have hA : DataW.TrodAll enc Try.prog W 0 (fun _ => true) true Try.f4.params.toList args.toList ds p := hA0
  rw [Try.params4] at hA hval
  obtain ⟨v0, vs0, d0, ds0, p0, q0, hargs, rfl, rfl, h0, r0⟩ := trodAll_cons hA
  obtain ⟨v1, vs1, d1, ds1, p1, q1, rfl, rfl, rfl, h1, r1⟩ := trodAll_cons r0
  obtain ⟨rfl, rfl, rfl⟩ := trodAll_nil r1
  obtain rfl : args = #[v0, v1] := by cases args; simp_all
  obtain ⟨rfl, rfl⟩ := trodVars_none hV
  have k0 := h0
  have k1 := h1
  have lt0 : ∀ x ∈ p0, x.block < W.heap.size := by obtain ⟨m, hm⟩ := k0; exact DataW.trod_lt m _ _ _ hm
  have lt1 : ∀ x ∈ p1, x.block < W.heap.size := by obtain ⟨m, hm⟩ := k1; exact DataW.trod_lt m _ _ _ hm
  obtain ⟨x00, x01, x02, y00, y01, y02, nn0, rfl, _, _, g00, g01, g02⟩ := Go.Joins.open_agg3 Try.underlying24 (by kernel_rfl) (by kernel_rfl) (hval 0 24 v0 rfl rfl) h0
  obtain ⟨b0, hb0, _⟩ := DataW.trod_bool Try.underlying4 g00
  simp at hb0
  subst hb0
  obtain ⟨ao0, ca0, A0, rfl, la0, sa0⟩ := open_row g01
  obtain ⟨bo0, cb0, B0, rfl, lb0, sb0⟩ := open_row g02
  obtain ⟨x10, x11, x12, y10, y11, y12, nn1, rfl, _, _, g10, g11, g12⟩ := Go.Joins.open_agg3 Try.underlying24 (by kernel_rfl) (by kernel_rfl) (hval 1 24 v1 rfl rfl) h1
  obtain ⟨b1, hb1, _⟩ := DataW.trod_bool Try.underlying4 g10
  simp at hb1
  subst hb1
  obtain ⟨ao1, ca1, A1, rfl, la1, sa1⟩ := open_row g11
  obtain ⟨bo1, cb1, B1, rfl, lb1, sb1⟩ := open_row g12
  clear hA0 hval0
  refine (walk b0 A0 B0 ao0 bo0 ca0 cb0 b1 A1 B1 ao1 bo1 ca1 cb1 W la0 lb0 sa0 sb0 la1 lb1 sa1 sb1).mono fun e W' ⟨he, bel⟩ => ?_
  subst he
  exact ⟨_, rfl, _, _, _, [], _, [], hW', trodAll_mk1 (shut_bool Try.underlying4 _), (trodAll_cons_mk (Below.trod laidOut (by kernel_rfl) (of_decide_eq_true (by kernel_rfl)) k0 bel lt0) (trodAll_cons_mk (Below.trod laidOut (by kernel_rfl) (of_decide_eq_true (by kernel_rfl)) k1 bel lt1) trodAll_mk0)), rfl, bel.frame _, fun h => by cases h⟩
theorem over : Rows.ratSumsRow.holds Try.pinned (OpenSpec.ofChange Rows.ratSumsSpec) :=
  OpenClaim.holds_of_wide 4 Try.f4 rfl rfl rfl rfl rfl rfl rfl ⟨rfl, rfl, rfl, rfl, rfl⟩ rfl rfl rfl rfl rfl (by kernel_rfl) Try.func4 (by kernel_rfl)
    (of_decide_eq_true (by kernel_rfl)) (by unfold Func.isWrapper; first | (rw [if_pos (by decide +kernel)]; kernel_rfl) | (rw [if_neg (by decide +kernel)]; exact ⟨rfl, rfl⟩))
    (fun os started H enc _ => lifted os started H enc)
theorem proved : Rows.RatSumsSaid := over
end Go.Proofs.Ytfkaeehbnnhfoaa.ratSums
namespace Go.Proofs.Ytfkaeehbnnhfoaa
/-- THE STATEMENT. -/
theorem ratSums_holds : Rows.RatSumsSaid := ratSums.proved
#print axioms ratSums_holds
end Go.Proofs.Ytfkaeehbnnhfoaa
