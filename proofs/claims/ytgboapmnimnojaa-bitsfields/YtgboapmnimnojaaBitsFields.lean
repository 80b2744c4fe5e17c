/- For every input the law BitsFields returns true: any run of bits can be read out of a word and written into one, and nothing else of the word changes; runs outside the word are refused. No condition. -/
import Derived.Test.YtgboapmnimnojaaRows
import Derived.WalkKit
import Derived.ProofKit
import Derived.OpenShut
import Derived.Test.YtgboapmnimnojaaRef
import Derived.Test.YtgboapmnimnojaaBitField
namespace Go.Proofs.Ytgboapmnimnojaa.bitsFields
open Go.ChangeShapes Go.WideShapes Go.ChangeAt Go.RowKit
set_option linter.unusedVariables false      -- a walk need not use every 'w<i>' (that an integer argument fits its kind)

theorem own : ownKnob Try.prog.godebug = none := by kernel_rfl

open Base BitNum BitField Ref

/-- The place and the width of a run that does not lie within the 64 bits. -/
def Out (a b : Int) : Prop := a < 0 ∨ 64 < a ∨ (0 ≤ a ∧ a ≤ 64 ∧ b < 0) ∨ (0 ≤ a ∧ a ≤ 64 ∧ 0 ≤ b ∧ 64 - a < b)

theorem inside_in (A W : Nat) (w : World) (h : A + W ≤ 64) :
    Calls Try.prog 31 #[.int .i64 (A : Int), .int .i64 (W : Int)] w fun e w' => e = .returned (.bool true) ∧ w' = w := by
  have h1 : (A : Int) ≤ 64 := by omega
  have h2 : (W : Int) ≤ 64 - (A : Int) := by omega
  go_enter Try.func31, Try.ntmps31
  go_wp2
  go_ret
  exact ⟨by simp, rfl⟩
theorem inside_out (a b : Int) (w : World) (h : Out a b) :
    Calls Try.prog 31 #[.int .i64 a, .int .i64 b] w fun e w' => e = .returned (.bool false) ∧ w' = w := by
  rcases h with h | h | ⟨h1, h2, h⟩ | ⟨h1, h2, h3, h⟩
  · have h4 : ¬ 0 ≤ a := by omega
    go_enter Try.func31, Try.ntmps31
    go_wp2
    go_ret
    exact ⟨rfl, rfl⟩
  · have h4 : ¬ a ≤ 64 := by omega
    have h5 : 0 ≤ a := by omega
    go_enter Try.func31, Try.ntmps31
    go_wp2
    go_ret
    exact ⟨rfl, rfl⟩
  · have h4 : ¬ 0 ≤ b := by omega
    go_enter Try.func31, Try.ntmps31
    go_wp2
    go_ret
    exact ⟨rfl, rfl⟩
  · have h4 : ¬ b ≤ 64 - a := by omega
    go_enter Try.func31, Try.ntmps31
    go_wp2
    go_ret
    exact ⟨by simp, rfl⟩
theorem range_in (A W : Nat) (w : World) (h : A + W ≤ 64) :
    Calls Try.prog 33 #[.int .i64 (A : Int), .int .i64 (W : Int)] w fun e w' => e = .returned (.bool true) ∧ w' = w := by
  have h1 : (A : Int) ≤ 64 := by omega
  have h2 : (W : Int) ≤ 64 - (A : Int) := by omega
  go_enter Try.func33, Try.ntmps33
  go_wp2
  go_ret
  exact ⟨by simp, rfl⟩
theorem range_out (a b : Int) (w : World) (h : Out a b) :
    Calls Try.prog 33 #[.int .i64 a, .int .i64 b] w fun e w' => e = .returned (.bool false) ∧ w' = w := by
  rcases h with h | h | ⟨h1, h2, h⟩ | ⟨h1, h2, h3, h⟩
  · have h4 : ¬ 0 ≤ a := by omega
    go_enter Try.func33, Try.ntmps33
    go_wp2
    go_ret
    exact ⟨rfl, rfl⟩
  · have h4 : ¬ a ≤ 64 := by omega
    have h5 : 0 ≤ a := by omega
    by_cases h6 : 0 ≤ b
    all_goals
      go_enter Try.func33, Try.ntmps33
      go_wp2
      go_ret
      exact ⟨rfl, rfl⟩
  · have h4 : ¬ 0 ≤ b := by omega
    go_enter Try.func33, Try.ntmps33
    go_wp2
    go_ret
    exact ⟨rfl, rfl⟩
  · have h4 : ¬ b ≤ 64 - a := by omega
    go_enter Try.func33, Try.ntmps33
    go_wp2
    go_ret
    exact ⟨by simp, rfl⟩
theorem lowest_any (W : Nat) (w : World) (h : W ≤ 64) :
    Calls Try.prog 32 #[.int .i64 (W : Int)] w fun e w' => e = .returned (.int .u64 ((2 ^ W - 1 : Nat) : Int)) ∧ w' = w := by
  have e := low_is W h
  go_enter Try.func32, Try.ntmps32
  go_wp2
  go_ret
  exact ⟨rfl, rfl⟩
theorem field_any (X A W : Nat) (w : World) (hX : X < 18446744073709551616) (h : A + W ≤ 64) :
    Calls Try.prog 16 #[.int .u64 (X : Int), .int .i64 (A : Int), .int .i64 (W : Int)] w fun e w' => e = .returned (.tuple #[.int .u64 ((fv X A W : Nat) : Int), .bool true]) ∧ w' = w := by
  have e := field_is X A W hX (by omega)
  have c1 := fun v => lowest_any W v (by omega)
  generalize 2 ^ W - 1 = M at e c1
  go_enter Try.func16, Try.ntmps16
  go_wp2_with (first
    | (go_at_call 31; refine (inside_in _ _ _ h).mono ?_; rintro e w2 ⟨rfl, hw⟩; have hw2 := hw.symm; clear hw; subst hw2)
    | (go_at_call 32; refine (c1 _).mono ?_; rintro e w2 ⟨rfl, hw⟩; have hw2 := hw.symm; clear hw; subst hw2))
  go_ret2
  exact ⟨rfl, rfl⟩
theorem put_any (X V A W : Nat) (w : World) (hX : X < 18446744073709551616) (hV : V < 18446744073709551616) (h : A + W ≤ 64) :
    Calls Try.prog 18 #[.int .u64 (X : Int), .int .i64 (A : Int), .int .i64 (W : Int), .int .u64 (V : Int)] w fun e w' => e = .returned (.tuple #[.int .u64 ((pv X V A W : Nat) : Int), .bool true]) ∧ w' = w := by
  have e := put_is X V A W hX hV h
  have c1 := fun v => lowest_any W v (by omega)
  generalize 2 ^ W - 1 = M at e c1
  go_enter Try.func18, Try.ntmps18
  go_wp2_with (first
    | (go_at_call 31; refine (inside_in _ _ _ h).mono ?_; rintro e w2 ⟨rfl, hw⟩; have hw2 := hw.symm; clear hw; subst hw2)
    | (go_at_call 32; refine (c1 _).mono ?_; rintro e w2 ⟨rfl, hw⟩; have hw2 := hw.symm; clear hw; subst hw2))
  go_ret2
  exact ⟨rfl, rfl⟩
theorem rfield_any (X A W : Nat) (w : World) (hX : X < 18446744073709551616) (h : A + W ≤ 64) :
    Calls Try.prog 17 #[.int .u64 (X : Int), .int .i64 (A : Int), .int .i64 (W : Int)] w fun e w' => e = .returned (.tuple #[.int .u64 ((fv X A W : Nat) : Int), .bool true]) ∧ Below w.heap.size w w' := by
  go_enter Try.func17, Try.ntmps17
  go_wp2_with (first
    | (go_at_call 33; refine (range_in _ _ _ h).mono ?_; rintro e w2 ⟨rfl, hw⟩; have hw2 := hw.symm; clear hw; subst hw2)
    | (go_at_call 29; refine (bits_any _ _ hX).mono ?_; rintro e w1 ⟨g, cap, rfl, hcap, hg, hown, hb⟩))
  all_goals
    have hcs : ∀ j, j < W → w1.cell? ⟨g, A + j, none⟩ = some (.bool (((List.range W).map fun i => X.testBit (A + i)).getD j false)) := fun j hj => by
      rw [hown.cellAt (A + j) (by omega), map_bool_get _ _ (by rw [bl_length]; omega), bl_get _ _ _ (by omega)]
      simp [hj]
    have fl := fv_list X A W
    generalize hL : ((List.range W).map fun i => X.testBit (A + i)) = L at hcs fl
    have hLl : L.length = W := by rw [← hL]; simp
    clear hL
  · refine (from_any L g 0 W 0 _ hLl (by omega) (fun j hj => by omega)).mono ?_
    rintro e w2 ⟨rfl, hw⟩
    have hw2 := hw.symm
    clear hw
    subst hw2
    rw [fl]
    go_wp2
    go_ret2
    exact ⟨rfl, hb⟩
  · refine (from_any L g A W _ _ hLl (by omega) hcs).mono ?_
    rintro e w2 ⟨rfl, hw⟩
    have hw2 := hw.symm
    clear hw
    subst hw2
    rw [fl]
    go_wp2
    go_ret2
    exact ⟨rfl, hb⟩
set_option maxHeartbeats 400000 in
theorem rput_any (X V A W : Nat) (w : World) (hX : X < 18446744073709551616) (hV : V < 18446744073709551616) (h : A + W ≤ 64) :
    Calls Try.prog 19 #[.int .u64 (X : Int), .int .i64 (A : Int), .int .i64 (W : Int), .int .u64 (V : Int)] w fun e w' => e = .returned (.tuple #[.int .u64 ((pv X V A W : Nat) : Int), .bool true]) ∧ Below w.heap.size w w' := by
  have t1 : True := trivial
  go_enter Try.func19, Try.ntmps19
  go_wp2_with (first
    | (go_at_call 33; refine (range_in _ _ _ h).mono ?_; rintro e w2 ⟨rfl, hw⟩; have hw2 := hw.symm; clear hw; subst hw2)
    | (go_at_call 29; have _t := t1; clear _t t1; refine (bits_any X _ hX).mono ?_; rintro e w1 ⟨g, cap, rfl, hcap, hg, hown, hb⟩)
    | (go_at_call 29; refine (bits_any V _ hV).mono ?_; rintro e w2 ⟨g2, cap2, rfl, hcap2, hg2, hown2, hb2⟩))
  have hlt := hown.lt g rfl
  have hown3 : w2.ownsRow w.heap.size 4 1 (.slice (some ⟨g, 0, none⟩) 64 cap) 64 ((bl X 64).map Value.bool) := hown.kept (grown_of_below hb2) (.inr (by simp [Value.ownBlock]))
  have hb3 : Below w.heap.size w w2 := hb.trans (hb2.mono hb.size)
  clear hown
  go_loopw [12] (fun i wr => ∃ k : Nat, k ≤ W ∧ i = .int .i64 k ∧ wr.ownsRow w.heap.size 4 1 (.slice (some ⟨g, 0, none⟩) 64 cap) 64 ((pl X V A k).map Value.bool) ∧
      wr.ownsRow w1.heap.size 4 1 (.slice (some ⟨g2, 0, none⟩) 64 cap2) 64 ((bl V 64).map Value.bool) ∧ Below w.heap.size w wr)
    (fun i _ => W - (intOf i).toNat)
  case atStart => exact ⟨0, Nat.zero_le _, rfl, by rw [pl_start]; exact hown3, hown2, hb3⟩
  case round =>
    clear hown2 hown3 hb3 hb2 hb
    obtain ⟨k, hk, rfl, hown, hown2, hb⟩ := hrel
    by_cases hlt2 : k < W
    · have hc1 : wr.cell? ⟨g2, k, none⟩ = some (.bool (V.testBit k)) := by
        rw [hown2.cellAt k (by omega), map_bool_get _ _ (by rw [bl_length]; omega), bl_get _ _ _ (by omega)]
      have hf := hown.frozenAt (A + k)
      have hc2 : wr.cell? ⟨g, A + k, none⟩ = some (.bool ((pl X V A k).getD (A + k) false)) := by
        rw [hown.cellAt (A + k) (by omega), map_bool_get _ _ (by rw [pl_length]; omega)]
      obtain ⟨hR1, hR2⟩ := hown.stored (A + k) (.bool (V.testBit k))
      rw [← List.map_set, ← pl_step] at hR1
      have hR3 := hown2.kept hR2 (.inr (by simp [Value.ownBlock]; omega))
      have hb1 : Below w.heap.size w (wr.setCell ⟨g, A + k, none⟩ (.bool (V.testBit k))) := hb.setCell (by exact hg) _
      clear hR2 hown hown2 hb
      go_wp2
      go_roundw
      case rel => exact ⟨k + 1, by omega, by go_num, hR1, hR3, hb1⟩
      case measure => simp [intOf]; omega
    · have e64 : k = W := by omega
      subst e64
      have hcs : ∀ j, j < 64 → wr.cell? ⟨g, 0 + j, none⟩ = some (.bool ((pl X V A k).getD j false)) := fun j hj => by
        rw [Nat.zero_add, hown.cellAt j (by omega), map_bool_get _ _ (by rw [pl_length]; omega)]
      go_wp2_with (go_at_call 30; refine (from_any (pl X V A k) g 0 64 cap _ (pl_length _ _ _ _) (by decide) hcs).mono ?_; rintro e w2 ⟨rfl, rfl⟩)
      go_ret2
      exact ⟨rfl, hb⟩

theorem law_in (X V A W : Nat) (w : World) (hX : X < 18446744073709551616) (hV : V < 18446744073709551616) (h : A + W ≤ 64) :
    Calls Try.prog 5 #[.int .u64 (X : Int), .int .i64 (A : Int), .int .i64 (W : Int), .int .u64 (V : Int)] w fun e w' => e = .returned (.bool true) ∧ Below w.heap.size w w' := by
  have c1 := fun v => field_any X A W v hX h
  have c2 := fun v => put_any X V A W v hX hV h
  have c3 := fun v => rfield_any X A W v hX h
  have c4 := fun v => rput_any X V A W v hX hV h
  generalize fv X A W = Y at c1 c3
  generalize pv X V A W = Z at c2 c4
  go_enter Try.func5, Try.ntmps5
  go_wp2_with (first
    | (go_at_call 16; refine (c1 _).mono ?_; rintro e w2 ⟨rfl, hw⟩; have hw2 := hw.symm; clear hw; subst hw2)
    | (go_at_call 18; refine (c2 _).mono ?_; rintro e w2 ⟨rfl, hw⟩; have hw2 := hw.symm; clear hw; subst hw2)
    | (go_at_call 17; refine (c3 _).mono ?_; rintro e w1 ⟨rfl, hb1⟩)
    | (go_at_call 19; refine (c4 _).mono ?_; rintro e w3 ⟨rfl, hb3⟩)
    | (go_at_call 11; refine (awake _).mono ?_; rintro e w4 ⟨rfl, hw⟩; have hw2 := hw.symm; clear hw; subst hw2))
  all_goals go_ret
  all_goals exact ⟨rfl, hb1.trans (hb3.mono hb1.size)⟩

theorem field_out (x a b : Int) (w : World) (h : Out a b) :
    Calls Try.prog 16 #[.int .u64 x, .int .i64 a, .int .i64 b] w fun e w' => e = .returned (.tuple #[.int .u64 0, .bool false]) ∧ w' = w := by
  go_enter Try.func16, Try.ntmps16
  go_wp2_with (go_at_call 31; refine (inside_out _ _ _ h).mono ?_; rintro e w2 ⟨rfl, hw⟩; have hw2 := hw.symm; clear hw; subst hw2)
  go_ret2
  exact ⟨rfl, rfl⟩
theorem put_out (x v a b : Int) (w : World) (h : Out a b) :
    Calls Try.prog 18 #[.int .u64 x, .int .i64 a, .int .i64 b, .int .u64 v] w fun e w' => e = .returned (.tuple #[.int .u64 0, .bool false]) ∧ w' = w := by
  go_enter Try.func18, Try.ntmps18
  go_wp2_with (go_at_call 31; refine (inside_out _ _ _ h).mono ?_; rintro e w2 ⟨rfl, hw⟩; have hw2 := hw.symm; clear hw; subst hw2)
  go_ret2
  exact ⟨rfl, rfl⟩
theorem rfield_out (x a b : Int) (w : World) (h : Out a b) :
    Calls Try.prog 17 #[.int .u64 x, .int .i64 a, .int .i64 b] w fun e w' => e = .returned (.tuple #[.int .u64 0, .bool false]) ∧ w' = w := by
  go_enter Try.func17, Try.ntmps17
  go_wp2_with (go_at_call 33; refine (range_out _ _ _ h).mono ?_; rintro e w2 ⟨rfl, hw⟩; have hw2 := hw.symm; clear hw; subst hw2)
  go_ret2
  exact ⟨rfl, rfl⟩
theorem rput_out (x v a b : Int) (w : World) (h : Out a b) :
    Calls Try.prog 19 #[.int .u64 x, .int .i64 a, .int .i64 b, .int .u64 v] w fun e w' => e = .returned (.tuple #[.int .u64 0, .bool false]) ∧ w' = w := by
  go_enter Try.func19, Try.ntmps19
  go_wp2_with (go_at_call 33; refine (range_out _ _ _ h).mono ?_; rintro e w2 ⟨rfl, hw⟩; have hw2 := hw.symm; clear hw; subst hw2)
  go_ret2
  exact ⟨rfl, rfl⟩
theorem law_out (x v a b : Int) (w : World) (h : Out a b) :
    Calls Try.prog 5 #[.int .u64 x, .int .i64 a, .int .i64 b, .int .u64 v] w fun e w' => e = .returned (.bool true) ∧ Below w.heap.size w w' := by
  have c1 := fun u => field_out x a b u h
  have c2 := fun u => put_out x v a b u h
  have c3 := fun u => rfield_out x a b u h
  have c4 := fun u => rput_out x v a b u h
  clear h
  go_enter Try.func5, Try.ntmps5
  go_wp2_with (first
    | (go_at_call 16; refine (c1 _).mono ?_; rintro e w2 ⟨rfl, hw⟩; have hw2 := hw.symm; clear hw; subst hw2)
    | (go_at_call 18; refine (c2 _).mono ?_; rintro e w2 ⟨rfl, hw⟩; have hw2 := hw.symm; clear hw; subst hw2)
    | (go_at_call 17; refine (c3 _).mono ?_; rintro e w2 ⟨rfl, hw⟩; have hw2 := hw.symm; clear hw; subst hw2)
    | (go_at_call 19; refine (c4 _).mono ?_; rintro e w2 ⟨rfl, hw⟩; have hw2 := hw.symm; clear hw; subst hw2)
    | (go_at_call 11; refine (awake _).mono ?_; rintro e w4 ⟨rfl, hw⟩; have hw2 := hw.symm; clear hw; subst hw2))
  all_goals go_ret
  all_goals exact ⟨rfl, Below.refl _ _⟩

theorem walk (a0 : Int) (a1 : Int) (a2 : Int) (a3 : Int) (w0 : (Lit.int .u64 a0).wf = true) (w1 : (Lit.int .i64 a1).wf = true) (w2 : (Lit.int .i64 a2).wf = true) (w3 : (Lit.int .u64 a3).wf = true) (w : World) :
    Calls Try.prog 5 #[.int .u64 a0, .int .i64 a1, .int .i64 a2, .int .u64 a3] w fun e w' => e = .returned (.bool true) ∧ Below w.heap.size w w' := by
  have b0 := bounds_u64 w0
  have b1 := bounds_i64 w1
  have b2 := bounds_i64 w2
  have b3 := bounds_u64 w3
  by_cases h : 0 ≤ a1 ∧ 0 ≤ a2 ∧ a1 + a2 ≤ 64
  · obtain ⟨X, rfl⟩ := Int.eq_ofNat_of_zero_le b0.1
    obtain ⟨V, rfl⟩ := Int.eq_ofNat_of_zero_le b3.1
    obtain ⟨A, rfl⟩ := Int.eq_ofNat_of_zero_le h.1
    obtain ⟨W, rfl⟩ := Int.eq_ofNat_of_zero_le h.2.1
    exact law_in X V A W w (by omega) (by omega) (by omega)
  · exact law_out a0 a3 a1 a2 w (by unfold Out; omega)

/-! ### THE ROW's STEP: WRITTEN OUT: LEAVE IT -/
set_option maxRecDepth 100000 in
theorem lifted (os : Os) (started : os.Started) (H : Type) (enc : TypeId × Value → H) :
    ReturnsInHanded {} Try.checked os 5 .any (Rows.bitsFieldsSpec.pre6 enc Try.prog Try.f5 Rows.bitsFieldsRow.domain false) (Rows.bitsFieldsSpec.post enc Try.prog Try.f5 false true false false) := by
  refine returnsInHanded_of_change (C := Try.checked) own started (by kernel_rfl) Try.func5
    (ChangeSpec.witness6 (enc := enc) (C := Try.checked) false ⟨#[], #[.int .u64 0, .int .i64 0, .int .i64 0, .int .u64 0], []⟩ 8 (by kernel_rfl) (by kernel_rfl) (by kernel_rfl) (by kernel_rfl)) ?_
  intro W base args ds gs before hval0 hW hcnd _
  have hval : ∀ (j : Nat) t v, Try.f5.params[j]? = some t → args[j]? = some v → Value.okWide Try.prog W .any base t v := hval0
  have hW' := hW
  obtain ⟨p, q, hA0, hV, rfl, hfz, hnd⟩ := hW
  have hA : DataW.TrodAll enc Try.prog W 0 (fun _ => true) true Try.f5.params.toList args.toList ds p := hA0
  rw [Try.params5] at hA hval
  obtain ⟨v0, vs0, d0, ds0, p0, q0, hargs, rfl, rfl, h0, r0⟩ := trodAll_cons hA
  obtain ⟨v1, vs1, d1, ds1, p1, q1, rfl, rfl, rfl, h1, r1⟩ := trodAll_cons r0
  obtain ⟨v2, vs2, d2, ds2, p2, q2, rfl, rfl, rfl, h2, r2⟩ := trodAll_cons r1
  obtain ⟨v3, vs3, d3, ds3, p3, q3, rfl, rfl, rfl, h3, r3⟩ := trodAll_cons r2
  obtain ⟨rfl, rfl, rfl⟩ := trodAll_nil r3
  obtain rfl : args = #[v0, v1, v2, v3] := by cases args; simp_all
  obtain ⟨rfl, rfl⟩ := trodVars_none hV
  obtain ⟨a0, rfl, rfl, rfl, w0⟩ := open_int Try.underlying22 (hval 0 22 v0 rfl rfl) h0
  obtain ⟨a1, rfl, rfl, rfl, w1⟩ := open_int Try.underlying3 (hval 1 3 v1 rfl rfl) h1
  obtain ⟨a2, rfl, rfl, rfl, w2⟩ := open_int Try.underlying3 (hval 2 3 v2 rfl rfl) h2
  obtain ⟨a3, rfl, rfl, rfl, w3⟩ := open_int Try.underlying22 (hval 3 22 v3 rfl rfl) h3
  clear hA0 hval0
  simp only [List.append_nil] at hW'
  refine (walk a0 a1 a2 a3 w0 w1 w2 w3 W).mono fun e W' ⟨he, hg⟩ => ?_
  subst he
  exact ⟨_, rfl, _, _, _, [], [], [], hW', (trodAll_cons_mk (shut_bool Try.underlying4 _) trodAll_mk0), (trodAll_cons_mk (shut_int Try.underlying22 w0) (trodAll_cons_mk (shut_int Try.underlying3 w1) (trodAll_cons_mk (shut_int Try.underlying3 w2) (trodAll_cons_mk (shut_int Try.underlying22 w3) trodAll_mk0)))), rfl, hg.frame _, fun h => by cases h⟩

theorem over : Rows.bitsFieldsRow.holds Try.pinned (OpenSpec.ofChange Rows.bitsFieldsSpec) :=
  OpenClaim.holds_of_wide 5 Try.f5 rfl rfl rfl rfl rfl rfl rfl ⟨rfl, rfl, rfl, rfl, rfl⟩ rfl rfl rfl rfl rfl (by kernel_rfl) Try.func5 (by kernel_rfl)
    (of_decide_eq_true (by kernel_rfl)) (by unfold Func.isWrapper; first | (rw [if_pos (by decide +kernel)]; kernel_rfl) | (rw [if_neg (by decide +kernel)]; exact ⟨rfl, rfl⟩))
    (fun os started H enc _ => lifted os started H enc)

/-- ████ THE STATEMENT ████ -/
theorem proved : Rows.BitsFieldsSaid :=
  over
end Go.Proofs.Ytgboapmnimnojaa.bitsFields
namespace Go.Proofs.Ytgboapmnimnojaa
/-- THE STATEMENT. -/
theorem bitsFields_holds : Rows.BitsFieldsSaid := bitsFields.proved
#print axioms bitsFields_holds
end Go.Proofs.Ytgboapmnimnojaa
