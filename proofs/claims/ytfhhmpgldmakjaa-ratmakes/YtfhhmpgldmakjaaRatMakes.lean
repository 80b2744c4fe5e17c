/- For every input the law RatMakes returns true: a rational number made of any sign and two naturals, or of two ints, is in lowest terms; a nought below the bar is refused. No condition. -/
import Derived.Test.YtfhhmpgldmakjaaRows
import Derived.WalkKit
import Derived.ProofKit
import Derived.OpenShut
import Derived.ShutString
import Derived.ChangeOld
import Derived.Below
import Derived.Lib.SmallJoins
import Derived.Test.YtfhhmpgldmakjaaMk5
import Derived.Test.YtfhhmpgldmakjaaMkZn
import Derived.Test.YtfhhmpgldmakjaaMkNz
import Derived.Test.YtfhhmpgldmakjaaMkZz
namespace Go.Proofs.Ytfhhmpgldmakjaa.ratMakes
open Go.ChangeShapes Go.WideShapes Go.ChangeAt Go.RowKit
open Mem LimbNum

theorem own : ownKnob Try.prog.godebug = none := by kernel_rfl
theorem laidOut : laidOutB Try.prog = true := by kernel_rfl
/-- A slice of limbs that came in. -/
theorem open_row {H : Type} {enc : TypeId × Value → H} {W : World} {base : Nat} {held : Bool} {fuel : Nat} {x : Value} {y : DataW H × List MemPlace} (h : DataW.trod enc Try.prog W base (fun _ => true) held fuel 22 [x] = some y) :
    ∃ (a : Option Addr) (cap : Nat) (A : List Nat), x = .slice a A.length cap ∧ Lies W a cap (ints .u32 A) ∧ Small A := by
  rcases open_ints Try.underlying22 Try.underlying77 (by kernel_rfl) h with ⟨hcs, _⟩ | ⟨x', l, c, zs, hcs, _, hl, hm, hz, _, hcell, hwz⟩
  · simp at hcs
    subst hcs
    obtain ⟨A, e, h1, h2⟩ := lies_of_row (k := .u32) (w := W) (a := none) (len := 0) (cap := 0) (zs := []) nonneg_u32 (.inl ⟨rfl, rfl, rfl, rfl⟩)
    exact ⟨none, 0, A, by rw [e], h1, fun n hn => by have := (bounds_u32 (h2 n hn)).2; omega⟩
  · simp at hcs
    subst hcs
    obtain ⟨A, e, h1, h2⟩ := lies_of_row (k := .u32) (w := W) (a := some x') (len := l) (cap := c) (zs := zs) nonneg_u32 (.inr ⟨_, rfl, hl, hm, by simpa using hz, hcell, hwz⟩)
    exact ⟨some x', c, A, by rw [e], h1, fun n hn => by have := (bounds_u32 (h2 n hn)).2; omega⟩
theorem walk (b : Bool) (A B : List Nat) (i j : Int) (ao bo : Option Addr) (cap1 cap2 : Nat) (w : World) (hl : Lies w ao cap1 (ints .u32 A)) (hl2 : Lies w bo cap2 (ints .u32 B)) (hA : Small A) (hB : Small B)
    (hi : (Lit.int .i64 i).wf = true) (hj : (Lit.int .i64 j).wf = true) :
    Calls Try.prog 3 #[.agg #[.bool b, .slice ao A.length cap1, .slice bo B.length cap2], .int .i64 i, .int .i64 j] w fun e w' => e = .returned (.bool true) ∧ Below w.heap.size w w' := by
  obtain ⟨i0, i1⟩ := bounds_i64 hi
  obtain ⟨j0, j1⟩ := bounds_i64 hj
  by_cases h0 : val (B.take 8) = 0
  · by_cases hj0 : j = 0
    · subst hj0; exact MkZz.law_zz b A B i ao bo cap1 cap2 w hl hl2 hA hB i0 (by omega) h0
    · exact MkZn.law_zn b A B i j ao bo cap1 cap2 w hl hl2 hA hB i0 (by omega) j0 (by omega) hj0 h0
  · by_cases hj0 : j = 0
    · subst hj0; exact MkNz.law_nz b A B i ao bo cap1 cap2 w hl hl2 hA hB i0 (by omega) h0
    · exact Mk5.law_nn b A B i j ao bo cap1 cap2 w hl hl2 hA hB i0 (by omega) j0 (by omega) hj0 h0
set_option maxRecDepth 100000 in
theorem lifted (os : Os) (started : os.Started) (H : Type) (enc : TypeId × Value → H) :
    ReturnsInHanded {} Try.checked os 3 .any (Rows.ratMakesSpec.pre6 enc Try.prog Try.f3 Rows.ratMakesRow.domain false) (Rows.ratMakesSpec.post enc Try.prog Try.f3 false true false false) := by
  refine returnsInHanded_of_change (C := Try.checked) own started (by kernel_rfl) Try.func3
    (ChangeSpec.witness6 (enc := enc) (C := Try.checked) false ⟨#[], #[.agg #[.bool false, .slice none 0 0, .slice none 0 0], .int .i64 0, .int .i64 0], []⟩ 8 (by kernel_rfl) (by kernel_rfl) (by kernel_rfl) (by kernel_rfl)) ?_
  intro W base args ds gs before hval0 hW hcnd _
  have hval : ∀ (j : Nat) t v, Try.f3.params[j]? = some t → args[j]? = some v → Value.okWide Try.prog W .any base t v := hval0
  have hW' := hW
  obtain ⟨p, q, hA0, hV, rfl, hfz, hnd⟩ := hW
  have hA : DataW.TrodAll enc Try.prog W 0 (fun _ => true) true Try.f3.params.toList args.toList ds p := hA0
  rw [Try.params3] at hA hval
  obtain ⟨v0, vs0, d0, ds0, p0, q0, hargs, rfl, rfl, h0, r0⟩ := trodAll_cons hA
  obtain ⟨v1, vs1, d1, ds1, p1, q1, rfl, rfl, rfl, h1, r1⟩ := trodAll_cons r0
  obtain ⟨v2, vs2, d2, ds2, p2, q2, rfl, rfl, rfl, h2, r2⟩ := trodAll_cons r1
  obtain ⟨rfl, rfl, rfl⟩ := trodAll_nil r2
  obtain rfl : args = #[v0, v1, v2] := by cases args; simp_all
  obtain ⟨rfl, rfl⟩ := trodVars_none hV
  have k0 := h0
  have k1 := h1
  have k2 := h2
  have lt0 : ∀ x ∈ p0, x.block < W.heap.size := by obtain ⟨m, hm⟩ := k0; exact DataW.trod_lt m _ _ _ hm
  have lt1 : ∀ x ∈ p1, x.block < W.heap.size := by obtain ⟨m, hm⟩ := k1; exact DataW.trod_lt m _ _ _ hm
  have lt2 : ∀ x ∈ p2, x.block < W.heap.size := by obtain ⟨m, hm⟩ := k2; exact DataW.trod_lt m _ _ _ hm
  obtain ⟨x0, x1, x2, y0, y1, y2, nn, rfl, _, _, g0, g1, g2⟩ := Go.Joins.open_agg3 Try.underlying24 (by kernel_rfl) (by kernel_rfl) (hval 0 24 v0 rfl rfl) h0
  obtain ⟨b, hb, _⟩ := DataW.trod_bool Try.underlying4 g0
  simp at hb
  subst hb
  obtain ⟨ao, cap1, A, rfl, hl, sA⟩ := open_row g1
  obtain ⟨bo, cap2, B, rfl, hl2, sB⟩ := open_row g2
  obtain ⟨i, rfl, _, _, wi⟩ := open_int Try.underlying3 (hval 1 3 v1 rfl rfl) h1
  obtain ⟨j, rfl, _, _, wj⟩ := open_int Try.underlying3 (hval 2 3 v2 rfl rfl) h2
  clear hA0 hval0
  refine (walk b A B i j ao bo cap1 cap2 W hl hl2 sA sB wi wj).mono fun e W' ⟨he, bel⟩ => ?_
  subst he
  exact ⟨_, rfl, _, _, _, [], _, [], hW', trodAll_mk1 (shut_bool Try.underlying4 _), (trodAll_cons_mk (Below.trod laidOut (by kernel_rfl) (of_decide_eq_true (by kernel_rfl)) k0 bel lt0) (trodAll_cons_mk (Below.trod laidOut (by kernel_rfl) (of_decide_eq_true (by kernel_rfl)) k1 bel lt1) (trodAll_cons_mk (Below.trod laidOut (by kernel_rfl) (of_decide_eq_true (by kernel_rfl)) k2 bel lt2) trodAll_mk0))), rfl, bel.frame _, fun h => by cases h⟩
theorem over : Rows.ratMakesRow.holds Try.pinned (OpenSpec.ofChange Rows.ratMakesSpec) :=
  OpenClaim.holds_of_wide 3 Try.f3 rfl rfl rfl rfl rfl rfl rfl ⟨rfl, rfl, rfl, rfl, rfl⟩ rfl rfl rfl rfl rfl (by kernel_rfl) Try.func3 (by kernel_rfl)
    (of_decide_eq_true (by kernel_rfl)) (by unfold Func.isWrapper; first | (rw [if_pos (by decide +kernel)]; kernel_rfl) | (rw [if_neg (by decide +kernel)]; exact ⟨rfl, rfl⟩))
    (fun os started H enc _ => lifted os started H enc)
theorem proved : Rows.RatMakesSaid := over
end Go.Proofs.Ytfhhmpgldmakjaa.ratMakes
namespace Go.Proofs.Ytfhhmpgldmakjaa
/-- THE STATEMENT. -/
theorem ratMakes_holds : Rows.RatMakesSaid := ratMakes.proved
#print axioms ratMakes_holds
end Go.Proofs.Ytfhhmpgldmakjaa
