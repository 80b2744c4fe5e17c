/- For every input the law DigitsTens returns true: powers of ten are exact, and refused beyond the limit. -/
import Derived.Test.YtbhmgafiookjnabRows
import Derived.WalkKit
import Derived.ProofKit
import Derived.OpenShut
import Derived.Test.YtbhmgafiookjnabAw4
import Derived.Test.YtbhmgafiookjnabTensAll
import Derived.Test.YtbhmgafiookjnabRTens
namespace Go.Proofs.Ytbhmgafiookjnab.digitsTens
open Go.ChangeShapes Go.WideShapes Go.ChangeAt Go.RowKit
set_option linter.unusedVariables false      -- a walk need not use every 'w<i>' (that an integer argument fits its kind)

theorem own : ownKnob Try.prog.godebug = none := by kernel_rfl

open Mem LimbNum Limb1 Limb2 Limb4 RefL NatL DigNum DigL StrL ParseL TextL Aw4 TensL TensAll RTens

set_option maxRecDepth 20000 in
theorem law_low (n : Int) (w : World) (h : n < 0) :
    Calls Try.prog 3 #[.int .i64 n] w fun e w' => e = .returned (.bool true) ∧ Below w.heap.size w w' := by
  have cP := tens_low n w h
  go_enter Try.func3, Try.ntmps3
  go_wp2_with (first
    | (go_at_call 9; refine cP.mono ?_; rintro e w2 ⟨rfl, hw⟩; have hw2 := hw.symm; clear hw; subst hw2)
    | (go_at_call 10; refine (awake4 _).mono ?_; rintro e w4 ⟨rfl, hb4⟩))
  all_goals go_ret
  exact ⟨rfl, hb4⟩
set_option maxRecDepth 20000 in
theorem law_high (n : Int) (w : World) (h : 20000 < n) :
    Calls Try.prog 3 #[.int .i64 n] w fun e w' => e = .returned (.bool true) ∧ Below w.heap.size w w' := by
  have cP := tens_high n w h
  go_enter Try.func3, Try.ntmps3
  go_wp2_with (first
    | (go_at_call 9; refine cP.mono ?_; rintro e w2 ⟨rfl, hw⟩; have hw2 := hw.symm; clear hw; subst hw2)
    | (go_at_call 10; refine (awake4 _).mono ?_; rintro e w4 ⟨rfl, hb4⟩))
  all_goals go_ret
  exact ⟨rfl, hb4⟩
set_option maxRecDepth 20000 in
theorem law_mid (n : Nat) (w : World) (h0 : 120 < n) (h1 : n ≤ 20000) :
    Calls Try.prog 3 #[.int .i64 (n : Int)] w fun e w' => e = .returned (.bool true) ∧ Below w.heap.size w w' := by
  have cP := tens_any n w h1
  have hl : 1 ≤ (nl (10 ^ n)).length := (nl_last (10 ^ n) (by have := Nat.pow_pos (n := n) (show 0 < 10 by omega); omega)).1
  have hli : (0 : Int) < ((nl (10 ^ n)).length : Int) := by omega
  generalize nl (10 ^ n) = T at *
  obtain ⟨x, ex⟩ : ∃ x : Int, x = (n : Int) := ⟨_, rfl⟩
  rw [← ex] at cP ⊢
  have x0 : 120 < x := by omega
  have x1 : x ≤ 20000 := by omega
  clear ex h0 h1 hl
  go_enter Try.func3, Try.ntmps3
  go_wp2_with (first
    | (go_at_call 9; refine cP.mono ?_; rintro e w2 ⟨o2, c2, rfl, hown2, hb2⟩)
    | (go_at_call 10; refine (awake4 _).mono ?_; rintro e w4 ⟨rfl, hb4⟩))
  all_goals go_ret
  exact ⟨by first | rfl | (simp; omega), bt hb2 hb4⟩
set_option maxRecDepth 20000 in
theorem law_few (n : Nat) (w : World) (h1 : n ≤ 120) :
    Calls Try.prog 3 #[.int .i64 (n : Int)] w fun e w' => e = .returned (.bool true) ∧ Below w.heap.size w w' := by
  have cP := tens_any n w (by omega)
  have cR := fun (W : World) => rtens_any n W h1
  have hlb := tlen n h1
  obtain ⟨X, eX⟩ : ∃ X, X = 10 ^ n := ⟨_, rfl⟩
  rw [← eX] at cP cR hlb
  have cT := fun (W : World) (o : Option Addr) (c : Nat) (h : Lies W o c (bools (nb X))) => to_any (nb X) o c W h (by omega)
  rw [fromL_nb] at cT
  have cS := fun (W : World) (o1 o2 : Option Addr) (c1 c2 : Nat) (h1 : Lies W o1 c1 (ints .u32 (nl X))) (h2 : Lies W o2 c2 (ints .u32 (nl X))) => same_any (nl X) (nl X) o1 o2 c1 c2 W h1 h2
  simp only [decide_true] at cS
  obtain ⟨x, ex⟩ : ∃ x : Int, x = (n : Int) := ⟨_, rfl⟩
  rw [← ex] at cP cR ⊢
  have x0 : 0 ≤ x := by omega
  have x1 : x ≤ 120 := by omega
  clear ex h1 hlb eX
  generalize nl X = NX at *
  generalize nb X = BX at *
  go_enter Try.func3, Try.ntmps3
  go_wp2_with (first
    | (go_at_call 9; refine cP.mono ?_; rintro e w2 ⟨o2, c2, rfl, hown2, hb2⟩)
    | (go_at_call 10; refine (awake4 _).mono ?_; rintro e w4 ⟨rfl, hb4⟩)
    | (go_at_call 13; refine (cR _).mono ?_; rintro e w3 ⟨o3, c3, rfl, hown3, hb3⟩)
    | (go_at_call 12; refine (cT _ _ _ (lies_of_owns hown3)).mono ?_; rintro e w5 ⟨o5, c5, rfl, hown5, hb5⟩)
    | (go_at_call 11; refine (cS _ _ _ _ _ (lies_of_owns (keep (keep (keep hown2 hb4) hb3) hb5)) (lies_of_owns hown5)).mono ?_; rintro e w6 ⟨rfl, hb6⟩))
  all_goals go_ret
  exact ⟨rfl, bt (bt (bt (bt hb2 hb4) hb3) hb5) hb6⟩
theorem walk (a0 : Int) (w0 : (Lit.int .i64 a0).wf = true) (w : World) :
    Calls Try.prog 3 #[.int .i64 a0] w fun e w' => e = .returned (.bool true) ∧ Below w.heap.size w w' := by
  by_cases h1 : a0 < 0
  · exact law_low a0 w h1
  · by_cases h2 : 20000 < a0
    · exact law_high a0 w h2
    · obtain ⟨n, rfl⟩ : ∃ n : Nat, a0 = (n : Int) := ⟨a0.toNat, by omega⟩
      by_cases h3 : n ≤ 120
      · exact law_few n w h3
      · exact law_mid n w (by omega) (by omega)

/-! ### THE ROW's STEP: WRITTEN OUT: LEAVE IT -/
set_option maxRecDepth 100000 in
theorem lifted (os : Os) (started : os.Started) (H : Type) (enc : TypeId × Value → H) :
    ReturnsInHanded {} Try.checked os 3 .any (Rows.digitsTensSpec.pre6 enc Try.prog Try.f3 Rows.digitsTensRow.domain false) (Rows.digitsTensSpec.post enc Try.prog Try.f3 false true false false) := by
  refine returnsInHanded_of_change (C := Try.checked) own started (by kernel_rfl) Try.func3
    (ChangeSpec.witness6 (enc := enc) (C := Try.checked) false ⟨#[], #[.int .i64 0], []⟩ 8 (by kernel_rfl) (by kernel_rfl) (by kernel_rfl) (by kernel_rfl)) ?_
  intro W base args ds gs before hval0 hW hcnd _
  have hval : ∀ (j : Nat) t v, Try.f3.params[j]? = some t → args[j]? = some v → Value.okWide Try.prog W .any base t v := hval0
  have hW' := hW
  obtain ⟨p, q, hA0, hV, rfl, hfz, hnd⟩ := hW
  have hA : DataW.TrodAll enc Try.prog W 0 (fun _ => true) true Try.f3.params.toList args.toList ds p := hA0
  rw [Try.params3] at hA hval
  obtain ⟨v0, vs0, d0, ds0, p0, q0, hargs, rfl, rfl, h0, r0⟩ := trodAll_cons hA
  obtain ⟨rfl, rfl, rfl⟩ := trodAll_nil r0
  obtain rfl : args = #[v0] := by cases args; simp_all
  obtain ⟨rfl, rfl⟩ := trodVars_none hV
  obtain ⟨a0, rfl, rfl, rfl, w0⟩ := open_int Try.underlying3 (hval 0 3 v0 rfl rfl) h0
  clear hA0 hval0
  simp only [List.append_nil] at hW'
  refine (walk a0 w0 W).mono fun e W' ⟨he, hg⟩ => ?_
  subst he
  exact ⟨_, rfl, _, _, _, [], [], [], hW', (trodAll_cons_mk (shut_bool Try.underlying4 _) trodAll_mk0), (trodAll_cons_mk (shut_int Try.underlying3 w0) trodAll_mk0), rfl, hg.frame _, fun h => by cases h⟩

theorem over : Rows.digitsTensRow.holds Try.pinned (OpenSpec.ofChange Rows.digitsTensSpec) :=
  OpenClaim.holds_of_wide 3 Try.f3 rfl rfl rfl rfl rfl rfl rfl ⟨rfl, rfl, rfl, rfl, rfl⟩ rfl rfl rfl rfl rfl (by kernel_rfl) Try.func3 (by kernel_rfl)
    (of_decide_eq_true (by kernel_rfl)) (by unfold Func.isWrapper; first | (rw [if_pos (by decide +kernel)]; kernel_rfl) | (rw [if_neg (by decide +kernel)]; exact ⟨rfl, rfl⟩))
    (fun os started H enc _ => lifted os started H enc)

/-- ████ THE STATEMENT ████ -/
theorem proved : Rows.DigitsTensSaid :=
  over
end Go.Proofs.Ytbhmgafiookjnab.digitsTens
namespace Go.Proofs.Ytbhmgafiookjnab
/-- THE STATEMENT. -/
theorem digitsTens_holds : Rows.DigitsTensSaid := digitsTens.proved
#print axioms digitsTens_holds
end Go.Proofs.Ytbhmgafiookjnab
