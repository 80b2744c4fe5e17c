/- For every input the law BitsRanges returns true: which numbers lie in a kind's range, and what its least and greatest numbers are, is told rightly for every kind. No condition. -/
import Derived.Test.YtgboapmnimnojaaRows
import Derived.WalkKit
import Derived.ProofKit
import Derived.OpenShut
import Derived.Test.YtgboapmnimnojaaRef
import Derived.Test.YtgboapmnimnojaaBitEnds
namespace Go.Proofs.Ytgboapmnimnojaa.bitsRanges
open Go.ChangeShapes Go.WideShapes Go.ChangeAt Go.RowKit
set_option linter.unusedVariables false      -- a walk need not use every 'w<i>' (that an integer argument fits its kind)

theorem own : ownKnob Try.prog.godebug = none := by kernel_rfl

open Base BitNum BitEnds Ref

/-- What is known of a kind of W bits with the sign S, whose least number is L and whose greatest is M. -/
structure Has (kind : Int) (W : Nat) (S : Bool) (L : Int) (M : Nat) : Prop where
  one : 1 ≤ W
  most : W ≤ 64
  top : M < 18446744073709551616
  made : fromL (el W S W) = M
  plus : S = false → L = 0
  minus : S = true → L = -(M : Int) - 1 ∧ M < 9223372036854775808
  ends : ∀ w : World, Calls Try.prog 14 #[.int .i64 kind] w fun e w' => e = .returned (.tuple #[.int .i64 L, .int .u64 (M : Int), .bool true]) ∧ w' = w
  width : ∀ w : World, Calls Try.prog 28 #[.int .i64 kind] w fun e w' => e = .returned (.tuple #[.int .i64 (W : Int), .bool S]) ∧ w' = w

theorem has1 : Has 1 8 true (-128) 127 := by
  refine ⟨by decide, by decide, by decide, by decide, by decide, by decide, fun w => ?_, fun w => ?_⟩
  · go_enter Try.func14, Try.ntmps14
    go_wp2
    go_ret3
    exact ⟨rfl, rfl⟩
  · go_enter Try.func28, Try.ntmps28
    go_wp2
    go_ret2
    exact ⟨rfl, rfl⟩
theorem has2 : Has 2 16 true (-32768) 32767 := by
  refine ⟨by decide, by decide, by decide, by decide, by decide, by decide, fun w => ?_, fun w => ?_⟩
  · go_enter Try.func14, Try.ntmps14
    go_wp2
    go_ret3
    exact ⟨rfl, rfl⟩
  · go_enter Try.func28, Try.ntmps28
    go_wp2
    go_ret2
    exact ⟨rfl, rfl⟩
theorem has3 : Has 3 32 true (-2147483648) 2147483647 := by
  refine ⟨by decide, by decide, by decide, by decide, by decide, by decide, fun w => ?_, fun w => ?_⟩
  · go_enter Try.func14, Try.ntmps14
    go_wp2
    go_ret3
    exact ⟨rfl, rfl⟩
  · go_enter Try.func28, Try.ntmps28
    go_wp2
    go_ret2
    exact ⟨rfl, rfl⟩
theorem has4 : Has 4 64 true (-9223372036854775808) 9223372036854775807 := by
  refine ⟨by decide, by decide, by decide, by decide, by decide, by decide, fun w => ?_, fun w => ?_⟩
  · go_enter Try.func14, Try.ntmps14
    go_wp2
    go_ret3
    exact ⟨rfl, rfl⟩
  · go_enter Try.func28, Try.ntmps28
    go_wp2
    go_ret2
    exact ⟨rfl, rfl⟩
theorem has5 : Has 5 8 false (0) 255 := by
  refine ⟨by decide, by decide, by decide, by decide, by decide, by decide, fun w => ?_, fun w => ?_⟩
  · go_enter Try.func14, Try.ntmps14
    go_wp2
    go_ret3
    exact ⟨rfl, rfl⟩
  · go_enter Try.func28, Try.ntmps28
    go_wp2
    go_ret2
    exact ⟨rfl, rfl⟩
theorem has6 : Has 6 16 false (0) 65535 := by
  refine ⟨by decide, by decide, by decide, by decide, by decide, by decide, fun w => ?_, fun w => ?_⟩
  · go_enter Try.func14, Try.ntmps14
    go_wp2
    go_ret3
    exact ⟨rfl, rfl⟩
  · go_enter Try.func28, Try.ntmps28
    go_wp2
    go_ret2
    exact ⟨rfl, rfl⟩
theorem has7 : Has 7 32 false (0) 4294967295 := by
  refine ⟨by decide, by decide, by decide, by decide, by decide, by decide, fun w => ?_, fun w => ?_⟩
  · go_enter Try.func14, Try.ntmps14
    go_wp2
    go_ret3
    exact ⟨rfl, rfl⟩
  · go_enter Try.func28, Try.ntmps28
    go_wp2
    go_ret2
    exact ⟨rfl, rfl⟩
theorem has8 : Has 8 64 false (0) 18446744073709551615 := by
  refine ⟨by decide, by decide, by decide, by decide, by decide, by decide, fun w => ?_, fun w => ?_⟩
  · go_enter Try.func14, Try.ntmps14
    go_wp2
    go_ret3
    exact ⟨rfl, rfl⟩
  · go_enter Try.func28, Try.ntmps28
    go_wp2
    go_ret2
    exact ⟨rfl, rfl⟩

set_option maxHeartbeats 400000 in
theorem rends_any (kind : Int) (W : Nat) (S : Bool) (L : Int) (M : Nat) (h : Has kind W S L M) (w : World) :
    Calls Try.prog 15 #[.int .i64 kind] w fun e w' => e = .returned (.tuple #[.int .i64 L, .int .u64 (M : Int), .bool true]) ∧ Below w.heap.size w w' := by
  obtain ⟨h1, h64, hM, hmade, hplus, hminus, _, hwidth⟩ := h
  obtain ⟨i0, hi, hz0, hz1, hz2⟩ := info_parts infoB
  have hne : ((W : Int) == 0) = false := by simp; omega
  go_enter Try.func15, Try.ntmps15
  go_wp2_with (first
    | (go_at_call 28; refine (hwidth _).mono ?_; rintro e w2 ⟨rfl, hw⟩; have hw2 := hw.symm; clear hw; subst hw2)
    | (at_make; refine wpList_make_full _ rfl _ _ 48 rfl w.heap.size 4 i0 (.bool false) 1 Try.underlying48 hi hz0 hz1 .i64 .i64 64 64 64 rfl rfl rfl rfl (by rw [hz2]; decide) (by decide) (Nat.le_refl _) ?_; intro w1 hown hgr))
  have hown0 : w1.ownsRow w.heap.size 4 1 (.slice (some ⟨w.heap.size, 0, none⟩) 64 64) 64 ((el W S 0).map Value.bool) := by
    rw [el_start, ← toList_madeCells_one]; exact hown
  have hb : Below w.heap.size w w1 := (Below.refl _ _).grown hgr (Nat.le_refl _) (by simp)
  clear hown hgr hwidth
  generalize hgg : w.heap.size = g at *
  go_loopw [8] (fun i wr => ∃ k : Nat, k ≤ W ∧ i = .int .i64 k ∧ wr.ownsRow g 4 1 (.slice (some ⟨g, 0, none⟩) 64 64) 64 ((el W S k).map Value.bool) ∧ Below g w wr)
    (fun i _ => W - (intOf i).toNat)
  case atStart => exact ⟨0, Nat.zero_le _, rfl, hown0, hb⟩
  case round =>
    clear hown0 hb
    obtain ⟨k, hk, rfl, hown, hb⟩ := hrel
    by_cases hlt : k < W
    · have hf := hown.frozenAt k
      have hc : wr.cell? ⟨g, k, none⟩ = some (.bool ((el W S k).getD k false)) := by
        rw [hown.cellAt k (by omega), map_bool_get _ _ (by rw [el_length]; omega)]
      obtain ⟨hR1, _⟩ := hown.stored k (.bool (!S || decide (k + 1 < W)))
      rw [← List.map_set, ← el_step] at hR1
      have hb1 : Below g w (wr.setCell ⟨g, k, none⟩ (.bool (!S || decide (k + 1 < W)))) := hb.setCell (by exact Nat.le_refl _) _
      clear hown hb
      cases S
      · simp only [Bool.not_false, Bool.true_or] at hR1 hb1
        go_wp2
        go_roundw
        case rel => exact ⟨k + 1, by omega, by go_num, hR1, hb1⟩
        case measure => simp [intOf]; omega
      · by_cases h2 : k + 1 < W
        · simp only [Bool.not_true, Bool.false_or, h2, decide_true] at hR1 hb1
          have h3 : (k : Int) < (W : Int) - 1 := by omega
          go_wp2
          go_roundw
          case rel => exact ⟨k + 1, by omega, by go_num, by simpa [h3] using hR1, by simpa [h3] using hb1⟩
          case measure => simp [intOf]; omega
        · simp only [Bool.not_true, Bool.false_or, h2, decide_false] at hR1 hb1
          have h3 : ¬ (k : Int) < (W : Int) - 1 := by omega
          go_wp2
          go_roundw
          case rel => exact ⟨k + 1, by omega, by go_num, by simpa [h3] using hR1, by simpa [h3] using hb1⟩
          case measure => simp [intOf]; omega
    · have e64 : k = W := by omega
      subst e64
      have hcs : ∀ j, j < 64 → wr.cell? ⟨g, 0 + j, none⟩ = some (.bool ((el k S k).getD j false)) := fun j hj => by
        rw [Nat.zero_add, hown.cellAt j (by omega), map_bool_get _ _ (by rw [el_length]; omega)]
      have c1 := from_any (el k S k) g 0 64 64 wr (el_length _ _ _) (by decide) hcs
      rw [hmade] at c1
      clear hmade
      cases S
      · have hL := hplus rfl
        subst hL
        clear hplus hminus
        go_wp2_with (go_at_call 30; refine c1.mono ?_; rintro e w2 ⟨rfl, rfl⟩)
        go_ret3
        exact ⟨rfl, by rw [hgg]; exact hb⟩
      · obtain ⟨hL, hMl⟩ := hminus rfl
        subst hL
        clear hplus hminus
        go_wp2_with (go_at_call 30; refine c1.mono ?_; rintro e w2 ⟨rfl, rfl⟩)
        go_ret3
        exact ⟨rfl, by rw [hgg]; exact hb⟩

theorem fits_any (kind : Int) (W : Nat) (S : Bool) (L : Int) (M : Nat) (h : Has kind W S L M) (x : Int) (w : World) (hx1 : -9223372036854775808 ≤ x) (hx2 : x ≤ 9223372036854775807) :
    Calls Try.prog 12 #[.int .i64 kind, .int .i64 x] w fun e w' => e = .returned (.tuple #[.bool (fb L M x), .bool true]) ∧ w' = w := by
  have c1 := h.ends
  clear h
  unfold fb
  by_cases p1 : L ≤ x
  · by_cases p2 : x < 0
    · go_enter Try.func12, Try.ntmps12
      go_wp2_with (go_at_call 14; refine (c1 _).mono ?_; rintro e w2 ⟨rfl, hw⟩; have hw2 := hw.symm; clear hw; subst hw2)
      go_ret2
      exact ⟨by simp [p1, p2], rfl⟩
    · have p3 : 0 ≤ x := by omega
      go_enter Try.func12, Try.ntmps12
      go_wp2_with (go_at_call 14; refine (c1 _).mono ?_; rintro e w2 ⟨rfl, hw⟩; have hw2 := hw.symm; clear hw; subst hw2)
      go_ret2
      exact ⟨by simp [p1], rfl⟩
  · go_enter Try.func12, Try.ntmps12
    go_wp2_with (go_at_call 14; refine (c1 _).mono ?_; rintro e w2 ⟨rfl, hw⟩; have hw2 := hw.symm; clear hw; subst hw2)
    go_ret2
    exact ⟨by simp; omega, rfl⟩
theorem rfits_any (kind : Int) (W : Nat) (S : Bool) (L : Int) (M : Nat) (h : Has kind W S L M) (x : Int) (w : World) (hx1 : -9223372036854775808 ≤ x) (hx2 : x ≤ 9223372036854775807) :
    Calls Try.prog 13 #[.int .i64 kind, .int .i64 x] w fun e w' => e = .returned (.tuple #[.bool (fb L M x), .bool true]) ∧ Below w.heap.size w w' := by
  have c1 := rends_any kind W S L M h
  clear h
  unfold fb
  by_cases p1 : L ≤ x
  · by_cases p2 : x < 0
    · go_enter Try.func13, Try.ntmps13
      go_wp2_with (go_at_call 15; refine (c1 _).mono ?_; rintro e w2 ⟨rfl, hb⟩)
      go_ret2
      exact ⟨by simp [p1, p2], hb⟩
    · have p3 : 0 ≤ x := by omega
      go_enter Try.func13, Try.ntmps13
      go_wp2_with (go_at_call 15; refine (c1 _).mono ?_; rintro e w2 ⟨rfl, hb⟩)
      go_ret2
      exact ⟨by simp [p1], hb⟩
  · go_enter Try.func13, Try.ntmps13
    go_wp2_with (go_at_call 15; refine (c1 _).mono ?_; rintro e w2 ⟨rfl, hb⟩)
    go_ret2
    exact ⟨by simp; omega, hb⟩

theorem law_any (kind : Int) (W : Nat) (S : Bool) (L : Int) (M : Nat) (h : Has kind W S L M) (x : Int) (w : World) (hx1 : -9223372036854775808 ≤ x) (hx2 : x ≤ 9223372036854775807) :
    Calls Try.prog 4 #[.int .i64 kind, .int .i64 x] w fun e w' => e = .returned (.bool true) ∧ Below w.heap.size w w' := by
  have c1 := fun v => fits_any kind W S L M h x v hx1 hx2
  have c2 := fun v => rfits_any kind W S L M h x v hx1 hx2
  have c3 := h.ends
  have c4 := rends_any kind W S L M h
  clear h
  generalize fb L M x = B at c1 c2
  go_enter Try.func4, Try.ntmps4
  go_wp2_with (first
    | (go_at_call 12; refine (c1 _).mono ?_; rintro e w2 ⟨rfl, hw⟩; have hw2 := hw.symm; clear hw; subst hw2)
    | (go_at_call 13; refine (c2 _).mono ?_; rintro e w1 ⟨rfl, hb1⟩)
    | (go_at_call 14; refine (c3 _).mono ?_; rintro e w2 ⟨rfl, hw⟩; have hw2 := hw.symm; clear hw; subst hw2)
    | (go_at_call 15; refine (c4 _).mono ?_; rintro e w3 ⟨rfl, hb3⟩)
    | (go_at_call 11; refine (awake _).mono ?_; rintro e w4 ⟨rfl, hw⟩; have hw2 := hw.symm; clear hw; subst hw2))
  all_goals go_ret
  all_goals exact ⟨rfl, hb1.trans (hb3.mono hb1.size)⟩

theorem ends_none (kind : Int) (w : World) (h : kind < 1 ∨ 8 < kind) :
    Calls Try.prog 14 #[.int .i64 kind] w fun e w' => e = .returned (.tuple #[.int .i64 0, .int .u64 0, .bool false]) ∧ w' = w := by
  rcases h with h | h
  all_goals
    go_enter Try.func14, Try.ntmps14
    go_wp2
    go_ret3
    exact ⟨rfl, rfl⟩
theorem rends_none (kind : Int) (w : World) (h : kind < 1 ∨ 8 < kind) :
    Calls Try.prog 15 #[.int .i64 kind] w fun e w' => e = .returned (.tuple #[.int .i64 0, .int .u64 0, .bool false]) ∧ w' = w := by
  rcases h with h | h
  all_goals
    go_enter Try.func15, Try.ntmps15
    go_wp2
    go_ret3
    exact ⟨rfl, rfl⟩
theorem law_none (kind x : Int) (w : World) (h : kind < 1 ∨ 8 < kind) :
    Calls Try.prog 4 #[.int .i64 kind, .int .i64 x] w fun e w' => e = .returned (.bool true) ∧ Below w.heap.size w w' := by
  have c3 := fun v => ends_none kind v h
  have c4 := fun v => rends_none kind v h
  clear h
  go_enter Try.func4, Try.ntmps4
  go_wp2_with (first
    | (go_at_call 14; refine (c3 _).mono ?_; rintro e w2 ⟨rfl, hw⟩; have hw2 := hw.symm; clear hw; subst hw2)
    | (go_at_call 15; refine (c4 _).mono ?_; rintro e w2 ⟨rfl, hw⟩; have hw2 := hw.symm; clear hw; subst hw2)
    | (go_at_call 11; refine (awake _).mono ?_; rintro e w4 ⟨rfl, hw⟩; have hw2 := hw.symm; clear hw; subst hw2)
    | go_in)
  all_goals go_ret
  all_goals exact ⟨rfl, Below.refl _ _⟩

theorem walk (a0 : Int) (a1 : Int) (w0 : (Lit.int .i64 a0).wf = true) (w1 : (Lit.int .i64 a1).wf = true) (w : World) :
    Calls Try.prog 4 #[.int .i64 a0, .int .i64 a1] w fun e w' => e = .returned (.bool true) ∧ Below w.heap.size w w' := by
  have b1 := bounds_i64 w1
  by_cases h : a0 < 1 ∨ 8 < a0
  · exact law_none a0 a1 w h
  · have hc : a0 = 1 ∨ a0 = 2 ∨ a0 = 3 ∨ a0 = 4 ∨ a0 = 5 ∨ a0 = 6 ∨ a0 = 7 ∨ a0 = 8 := by omega
    rcases hc with rfl | rfl | rfl | rfl | rfl | rfl | rfl | rfl
    · exact law_any _ _ _ _ _ has1 a1 w b1.1 b1.2
    · exact law_any _ _ _ _ _ has2 a1 w b1.1 b1.2
    · exact law_any _ _ _ _ _ has3 a1 w b1.1 b1.2
    · exact law_any _ _ _ _ _ has4 a1 w b1.1 b1.2
    · exact law_any _ _ _ _ _ has5 a1 w b1.1 b1.2
    · exact law_any _ _ _ _ _ has6 a1 w b1.1 b1.2
    · exact law_any _ _ _ _ _ has7 a1 w b1.1 b1.2
    · exact law_any _ _ _ _ _ has8 a1 w b1.1 b1.2

/-! ### THE ROW's STEP: WRITTEN OUT: LEAVE IT -/
set_option maxRecDepth 100000 in
theorem lifted (os : Os) (started : os.Started) (H : Type) (enc : TypeId × Value → H) :
    ReturnsInHanded {} Try.checked os 4 .any (Rows.bitsRangesSpec.pre6 enc Try.prog Try.f4 Rows.bitsRangesRow.domain false) (Rows.bitsRangesSpec.post enc Try.prog Try.f4 false true false false) := by
  refine returnsInHanded_of_change (C := Try.checked) own started (by kernel_rfl) Try.func4
    (ChangeSpec.witness6 (enc := enc) (C := Try.checked) false ⟨#[], #[.int .i64 0, .int .i64 0], []⟩ 8 (by kernel_rfl) (by kernel_rfl) (by kernel_rfl) (by kernel_rfl)) ?_
  intro W base args ds gs before hval0 hW hcnd _
  have hval : ∀ (j : Nat) t v, Try.f4.params[j]? = some t → args[j]? = some v → Value.okWide Try.prog W .any base t v := hval0
  have hW' := hW
  obtain ⟨p, q, hA0, hV, rfl, hfz, hnd⟩ := hW
  have hA : DataW.TrodAll enc Try.prog W 0 (fun _ => true) true Try.f4.params.toList args.toList ds p := hA0
  rw [Try.params4] at hA hval
  obtain ⟨v0, vs0, d0, ds0, p0, q0, hargs, rfl, rfl, h0, r0⟩ := trodAll_cons hA
  obtain ⟨v1, vs1, d1, ds1, p1, q1, rfl, rfl, rfl, h1, r1⟩ := trodAll_cons r0
  obtain ⟨rfl, rfl, rfl⟩ := trodAll_nil r1
  obtain rfl : args = #[v0, v1] := by cases args; simp_all
  obtain ⟨rfl, rfl⟩ := trodVars_none hV
  obtain ⟨a0, rfl, rfl, rfl, w0⟩ := open_int Try.underlying3 (hval 0 3 v0 rfl rfl) h0
  obtain ⟨a1, rfl, rfl, rfl, w1⟩ := open_int Try.underlying3 (hval 1 3 v1 rfl rfl) h1
  clear hA0 hval0
  simp only [List.append_nil] at hW'
  refine (walk a0 a1 w0 w1 W).mono fun e W' ⟨he, hg⟩ => ?_
  subst he
  exact ⟨_, rfl, _, _, _, [], [], [], hW', (trodAll_cons_mk (shut_bool Try.underlying4 _) trodAll_mk0), (trodAll_cons_mk (shut_int Try.underlying3 w0) (trodAll_cons_mk (shut_int Try.underlying3 w1) trodAll_mk0)), rfl, hg.frame _, fun h => by cases h⟩

theorem over : Rows.bitsRangesRow.holds Try.pinned (OpenSpec.ofChange Rows.bitsRangesSpec) :=
  OpenClaim.holds_of_wide 4 Try.f4 rfl rfl rfl rfl rfl rfl rfl ⟨rfl, rfl, rfl, rfl, rfl⟩ rfl rfl rfl rfl rfl (by kernel_rfl) Try.func4 (by kernel_rfl)
    (of_decide_eq_true (by kernel_rfl)) (by unfold Func.isWrapper; first | (rw [if_pos (by decide +kernel)]; kernel_rfl) | (rw [if_neg (by decide +kernel)]; exact ⟨rfl, rfl⟩))
    (fun os started H enc _ => lifted os started H enc)

/-- ████ THE STATEMENT ████ -/
theorem proved : Rows.BitsRangesSaid :=
  over
end Go.Proofs.Ytgboapmnimnojaa.bitsRanges
namespace Go.Proofs.Ytgboapmnimnojaa
/-- THE STATEMENT. -/
theorem bitsRanges_holds : Rows.BitsRangesSaid := bitsRanges.proved
#print axioms bitsRanges_holds
end Go.Proofs.Ytgboapmnimnojaa
