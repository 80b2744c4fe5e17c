/- For every input the law BitsWraps returns true: a conversion to a kind of whole number keeps just the bits that the kind holds, with its sign, for every kind and all 64 bits, and converting again changes nothing. No condition. -/
import Derived.Test.YtgboapmnimnojaaRows
import Derived.WalkKit
import Derived.ProofKit
import Derived.OpenShut
import Derived.Test.YtgboapmnimnojaaRef
import Derived.Test.YtgboapmnimnojaaBitWrap
namespace Go.Proofs.Ytgboapmnimnojaa.bitsWraps
open Go.ChangeShapes Go.WideShapes Go.ChangeAt Go.RowKit
set_option linter.unusedVariables false      -- a walk need not use every 'w<i>' (that an integer argument fits its kind)

theorem own : ownKnob Try.prog.godebug = none := by kernel_rfl

open Base BitNum BitWrap Ref

/-- The program's own conversion, at a kind of W bits with the sign S. -/
def Has (kind : Int) (W : Nat) (S : Bool) : Prop := 1 ≤ W ∧ W ≤ 64 ∧
  (∀ (X : Nat) (w : World), X < 18446744073709551616 → Calls Try.prog 9 #[.int .i64 kind, .int .u64 (X : Int)] w fun e w' => e = .returned (.tuple #[.int .u64 ((wv W S X : Nat) : Int), .bool true]) ∧ w' = w) ∧
  (∀ w : World, Calls Try.prog 28 #[.int .i64 kind] w fun e w' => e = .returned (.tuple #[.int .i64 (W : Int), .bool S]) ∧ w' = w)

theorem has1 : Has 1 8 true := by
  refine ⟨by decide, by decide, fun X w hX => ?_, fun w => ?_⟩
  · have e := go8s X
    go_enter Try.func9, Try.ntmps9
    go_wp2
    go_ret2
    exact ⟨rfl, rfl⟩
  · go_enter Try.func28, Try.ntmps28
    go_wp2
    go_ret2
    exact ⟨rfl, rfl⟩
theorem has2 : Has 2 16 true := by
  refine ⟨by decide, by decide, fun X w hX => ?_, fun w => ?_⟩
  · have e := go16s X
    go_enter Try.func9, Try.ntmps9
    go_wp2
    go_ret2
    exact ⟨rfl, rfl⟩
  · go_enter Try.func28, Try.ntmps28
    go_wp2
    go_ret2
    exact ⟨rfl, rfl⟩
theorem has3 : Has 3 32 true := by
  refine ⟨by decide, by decide, fun X w hX => ?_, fun w => ?_⟩
  · have e := go32s X
    go_enter Try.func9, Try.ntmps9
    go_wp2
    go_ret2
    exact ⟨rfl, rfl⟩
  · go_enter Try.func28, Try.ntmps28
    go_wp2
    go_ret2
    exact ⟨rfl, rfl⟩
theorem has4 : Has 4 64 true := by
  refine ⟨by decide, by decide, fun X w hX => ?_, fun w => ?_⟩
  · rw [wv64s X hX]
    go_enter Try.func9, Try.ntmps9
    go_wp2
    go_ret2
    exact ⟨rfl, rfl⟩
  · go_enter Try.func28, Try.ntmps28
    go_wp2
    go_ret2
    exact ⟨rfl, rfl⟩
theorem has5 : Has 5 8 false := by
  refine ⟨by decide, by decide, fun X w hX => ?_, fun w => ?_⟩
  · have e := go8u X
    go_enter Try.func9, Try.ntmps9
    go_wp2
    go_ret2
    exact ⟨rfl, rfl⟩
  · go_enter Try.func28, Try.ntmps28
    go_wp2
    go_ret2
    exact ⟨rfl, rfl⟩
theorem has6 : Has 6 16 false := by
  refine ⟨by decide, by decide, fun X w hX => ?_, fun w => ?_⟩
  · have e := go16u X
    go_enter Try.func9, Try.ntmps9
    go_wp2
    go_ret2
    exact ⟨rfl, rfl⟩
  · go_enter Try.func28, Try.ntmps28
    go_wp2
    go_ret2
    exact ⟨rfl, rfl⟩
theorem has7 : Has 7 32 false := by
  refine ⟨by decide, by decide, fun X w hX => ?_, fun w => ?_⟩
  · have e := go32u X
    go_enter Try.func9, Try.ntmps9
    go_wp2
    go_ret2
    exact ⟨rfl, rfl⟩
  · go_enter Try.func28, Try.ntmps28
    go_wp2
    go_ret2
    exact ⟨rfl, rfl⟩
theorem has8 : Has 8 64 false := by
  refine ⟨by decide, by decide, fun X w hX => ?_, fun w => ?_⟩
  · rw [wv64u X hX]
    go_enter Try.func9, Try.ntmps9
    go_wp2
    go_ret2
    exact ⟨rfl, rfl⟩
  · go_enter Try.func28, Try.ntmps28
    go_wp2
    go_ret2
    exact ⟨rfl, rfl⟩

/-- The reference's conversion, at such a kind. -/
theorem ref_any (kind : Int) (W : Nat) (S : Bool) (h : Has kind W S) (X : Nat) (w : World) (hX : X < 18446744073709551616) :
    Calls Try.prog 10 #[.int .i64 kind, .int .u64 (X : Int)] w fun e w' => e = .returned (.tuple #[.int .u64 ((wv W S X : Nat) : Int), .bool true]) ∧ Below w.heap.size w w' := by
  obtain ⟨h1, h64, _, hwidth⟩ := h
  have hne : ((W : Int) == 0) = false := by simp; omega
  go_enter Try.func10, Try.ntmps10
  go_wp2_with (first
    | (go_at_call 28; refine (hwidth _).mono ?_; rintro e w' ⟨rfl, hw⟩; have hw2 := hw.symm; clear hw; subst hw2)
    | (go_at_call 29; refine (bits_any _ _ hX).mono ?_; rintro e w1 ⟨g, cap, rfl, hcap, hg, hown, hb⟩))
  clear hwidth
  go_loopw [9] (fun i wr => ∃ k : Nat, W ≤ k ∧ k ≤ 64 ∧ i = .int .i64 k ∧ wr.ownsRow w.heap.size 4 1 (.slice (some ⟨g, 0, none⟩) 64 cap) 64 ((lk X W S k).map Value.bool) ∧ Below w.heap.size w wr)
    (fun i _ => 64 - (intOf i).toNat)
  case atStart => exact ⟨W, Nat.le_refl _, h64, rfl, by rw [lk_start]; exact hown, hb⟩
  case round =>
    clear hown hb
    obtain ⟨k, hWk, hk, rfl, hown, hb⟩ := hrel
    by_cases hlt : k < 64
    · have hc1 : wr.cell? ⟨g, W - 1, none⟩ = some (.bool (X.testBit (W - 1))) := by
        rw [hown.cellAt (W - 1) (by omega), map_bool_get _ _ (by rw [lk_length]; omega), lk_get _ _ _ _ _ (by omega), if_pos (by omega)]
      have hf := hown.frozenAt k
      have hR := hown.stored k (.bool (S && X.testBit (W - 1)))
      have hc2 : wr.cell? ⟨g, k, none⟩ = some (.bool ((lk X W S k).getD k false)) := by
        rw [hown.cellAt k (by omega), map_bool_get _ _ (by rw [lk_length]; omega)]
      have hrl : wr.ownsRow w.heap.size 4 1 (.slice (some ⟨g, 0, none⟩) 64 cap) 64 ((lk X W S k).map Value.bool) := hown
      have hlt2 := hown.lt g rfl
      obtain ⟨hR1, hR2⟩ := hR
      have hR3 : (wr.setCell ⟨g, k, none⟩ (.bool (S && X.testBit (W - 1)))).ownsRow w.heap.size 4 1 (.slice (some ⟨g, 0, none⟩) 64 cap) 64 ((lk X W S (k + 1)).map Value.bool) := by
        rw [lk_step X W S k hWk, List.map_set]; exact hR1
      have hb1 : Below w.heap.size w (wr.setCell ⟨g, k, none⟩ (.bool (S && X.testBit (W - 1)))) := hb.setCell (by exact hg) _
      clear hR1 hR2 hrl hown hlt2
      cases S
      · simp only [Bool.false_and] at hR3 hb1
        go_wp2
        go_roundw
        case rel => exact ⟨k + 1, by omega, by omega, by go_num, hR3, hb1⟩
        case measure => simp [intOf]; omega
      · simp only [Bool.true_and] at hR3 hb1
        go_wp2
        go_roundw
        case rel => exact ⟨k + 1, by omega, by omega, by go_num, hR3, hb1⟩
        case measure => simp [intOf]; omega
    · have e64 : k = 64 := by omega
      subst e64
      have hcs : ∀ j, j < 64 → wr.cell? ⟨g, 0 + j, none⟩ = some (.bool ((lk X W S 64).getD j false)) := fun j hj => by
        rw [Nat.zero_add, hown.cellAt j (by omega), map_bool_get _ _ (by rw [lk_length]; omega)]
      go_wp2_with (go_at_call 30; refine (from_any (lk X W S 64) g 0 64 cap _ (lk_length _ _ _ _) (by decide) hcs).mono ?_; rintro e w2 ⟨rfl, rfl⟩)
      go_ret2
      exact ⟨rfl, hb⟩

/-- The law at such a kind. -/
theorem law_any (kind : Int) (W : Nat) (S : Bool) (h : Has kind W S) (X : Nat) (w : World) (hX : X < 18446744073709551616) :
    Calls Try.prog 3 #[.int .i64 kind, .int .u64 (X : Int)] w fun e w' => e = .returned (.bool true) ∧ Below w.heap.size w w' := by
  have hr := ref_any kind W S h X
  obtain ⟨h1, h64, hw, _⟩ := h
  have ha := wv_again W S X h1 h64
  have hl := wv_lt W S X
  have c1 := fun v => hw X v hX
  have c2 := fun v => hw (wv W S X) v hl
  rw [ha] at c2
  have c3 := fun v => hr v hX
  generalize wv W S X = Y at c1 c2 c3
  clear hr hw ha hl
  have t1 : True := trivial
  go_enter Try.func3, Try.ntmps3
  go_wp2_with (first
    | (go_at_call 10; refine (c3 _).mono ?_; rintro e w1 ⟨rfl, hb⟩)
    | (go_at_call 9; have _t := t1; clear _t t1; refine (c1 _).mono ?_; rintro e w2 ⟨rfl, hw⟩; have hw2 := hw.symm; clear hw; subst hw2)
    | (go_at_call 9; refine (c2 _).mono ?_; rintro e w3 ⟨rfl, hw⟩; have hw2 := hw.symm; clear hw; subst hw2)
    | (go_at_call 11; refine (awake _).mono ?_; rintro e w4 ⟨rfl, hw⟩; have hw2 := hw.symm; clear hw; subst hw2))
  all_goals go_ret
  all_goals exact ⟨rfl, hb⟩

theorem law_none (kind : Int) (X : Nat) (w : World) (h : kind < 1 ∨ 8 < kind) :
    Calls Try.prog 3 #[.int .i64 kind, .int .u64 (X : Int)] w fun e w' => e = .returned (.bool true) ∧ Below w.heap.size w w' := by
  rcases h with h | h
  all_goals
    go_enter Try.func3, Try.ntmps3
    go_wp2_with (first
      | (go_at_call 11; refine (awake _).mono ?_; rintro e w4 ⟨rfl, hw⟩; have hw2 := hw.symm; clear hw; subst hw2)
      | go_in)
    all_goals go_ret
    all_goals exact ⟨rfl, Below.refl _ _⟩

theorem walk (a0 : Int) (a1 : Int) (w0 : (Lit.int .i64 a0).wf = true) (w1 : (Lit.int .u64 a1).wf = true) (w : World) :
    Calls Try.prog 3 #[.int .i64 a0, .int .u64 a1] w fun e w' => e = .returned (.bool true) ∧ Below w.heap.size w w' := by
  have b1 := bounds_u64 w1
  obtain ⟨X, rfl⟩ := Int.eq_ofNat_of_zero_le b1.1
  have hX : X < 18446744073709551616 := by omega
  by_cases h : a0 < 1 ∨ 8 < a0
  · exact law_none a0 X w h
  · have hc : a0 = 1 ∨ a0 = 2 ∨ a0 = 3 ∨ a0 = 4 ∨ a0 = 5 ∨ a0 = 6 ∨ a0 = 7 ∨ a0 = 8 := by omega
    rcases hc with rfl | rfl | rfl | rfl | rfl | rfl | rfl | rfl
    · exact law_any _ _ _ has1 X w hX
    · exact law_any _ _ _ has2 X w hX
    · exact law_any _ _ _ has3 X w hX
    · exact law_any _ _ _ has4 X w hX
    · exact law_any _ _ _ has5 X w hX
    · exact law_any _ _ _ has6 X w hX
    · exact law_any _ _ _ has7 X w hX
    · exact law_any _ _ _ has8 X w hX

/-! ### THE ROW's STEP: WRITTEN OUT: LEAVE IT -/
set_option maxRecDepth 100000 in
theorem lifted (os : Os) (started : os.Started) (H : Type) (enc : TypeId × Value → H) :
    ReturnsInHanded {} Try.checked os 3 .any (Rows.bitsWrapsSpec.pre6 enc Try.prog Try.f3 Rows.bitsWrapsRow.domain false) (Rows.bitsWrapsSpec.post enc Try.prog Try.f3 false true false false) := by
  refine returnsInHanded_of_change (C := Try.checked) own started (by kernel_rfl) Try.func3
    (ChangeSpec.witness6 (enc := enc) (C := Try.checked) false ⟨#[], #[.int .i64 0, .int .u64 0], []⟩ 8 (by kernel_rfl) (by kernel_rfl) (by kernel_rfl) (by kernel_rfl)) ?_
  intro W base args ds gs before hval0 hW hcnd _
  have hval : ∀ (j : Nat) t v, Try.f3.params[j]? = some t → args[j]? = some v → Value.okWide Try.prog W .any base t v := hval0
  have hW' := hW
  obtain ⟨p, q, hA0, hV, rfl, hfz, hnd⟩ := hW
  have hA : DataW.TrodAll enc Try.prog W 0 (fun _ => true) true Try.f3.params.toList args.toList ds p := hA0
  rw [Try.params3] at hA hval
  obtain ⟨v0, vs0, d0, ds0, p0, q0, hargs, rfl, rfl, h0, r0⟩ := trodAll_cons hA
  obtain ⟨v1, vs1, d1, ds1, p1, q1, rfl, rfl, rfl, h1, r1⟩ := trodAll_cons r0
  obtain ⟨rfl, rfl, rfl⟩ := trodAll_nil r1
  obtain rfl : args = #[v0, v1] := by cases args; simp_all
  obtain ⟨rfl, rfl⟩ := trodVars_none hV
  obtain ⟨a0, rfl, rfl, rfl, w0⟩ := open_int Try.underlying3 (hval 0 3 v0 rfl rfl) h0
  obtain ⟨a1, rfl, rfl, rfl, w1⟩ := open_int Try.underlying22 (hval 1 22 v1 rfl rfl) h1
  clear hA0 hval0
  simp only [List.append_nil] at hW'
  refine (walk a0 a1 w0 w1 W).mono fun e W' ⟨he, hg⟩ => ?_
  subst he
  exact ⟨_, rfl, _, _, _, [], [], [], hW', (trodAll_cons_mk (shut_bool Try.underlying4 _) trodAll_mk0), (trodAll_cons_mk (shut_int Try.underlying3 w0) (trodAll_cons_mk (shut_int Try.underlying22 w1) trodAll_mk0)), rfl, hg.frame _, fun h => by cases h⟩

theorem over : Rows.bitsWrapsRow.holds Try.pinned (OpenSpec.ofChange Rows.bitsWrapsSpec) :=
  OpenClaim.holds_of_wide 3 Try.f3 rfl rfl rfl rfl rfl rfl rfl ⟨rfl, rfl, rfl, rfl, rfl⟩ rfl rfl rfl rfl rfl (by kernel_rfl) Try.func3 (by kernel_rfl)
    (of_decide_eq_true (by kernel_rfl)) (by unfold Func.isWrapper; first | (rw [if_pos (by decide +kernel)]; kernel_rfl) | (rw [if_neg (by decide +kernel)]; exact ⟨rfl, rfl⟩))
    (fun os started H enc _ => lifted os started H enc)

/-- ████ THE STATEMENT ████ -/
theorem proved : Rows.BitsWrapsSaid :=
  over
end Go.Proofs.Ytgboapmnimnojaa.bitsWraps
namespace Go.Proofs.Ytgboapmnimnojaa
/-- THE STATEMENT. -/
theorem bitsWraps_holds : Rows.BitsWrapsSaid := bitsWraps.proved
#print axioms bitsWraps_holds
end Go.Proofs.Ytgboapmnimnojaa
