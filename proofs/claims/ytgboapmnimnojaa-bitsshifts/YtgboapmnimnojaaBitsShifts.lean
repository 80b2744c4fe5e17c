/- For every input the law BitsShifts returns true: a shift by any count, however great or below nought, moves numbers with their sign and bits with noughts as the document says. No condition. -/
import Derived.Test.YtgboapmnimnojaaRows
import Derived.WalkKit
import Derived.ProofKit
import Derived.OpenShut
import Derived.Test.YtgboapmnimnojaaRef
import Derived.Test.YtgboapmnimnojaaBitShift
namespace Go.Proofs.Ytgboapmnimnojaa.bitsShifts
open Go.ChangeShapes Go.WideShapes Go.ChangeAt Go.RowKit
set_option linter.unusedVariables false      -- a walk need not use every 'w<i>' (that an integer argument fits its kind)

theorem own : ownKnob Try.prog.godebug = none := by kernel_rfl

open Base BitNum BitShift Ref

set_option maxHeartbeats 800000 in
theorem rmove_any (X : Nat) (n : Int) (fill : Bool) (w : World) (hX : X < 18446744073709551616) (hn1 : -9223372036854775808 ≤ n) (hn2 : n ≤ 9223372036854775807) :
    Calls Try.prog 21 #[.int .u64 (X : Int), .int .i64 n, .bool fill] w fun e w' => e = .returned (.int .u64 ((mv X n fill : Nat) : Int)) ∧ Below w.heap.size w w' := by
  obtain ⟨i0, hi, hz0, hz1, hz2⟩ := info_parts infoB
  go_enter Try.func21, Try.ntmps21
  go_wp2_with (first
    | (go_at_call 29; refine (bits_any X _ hX).mono ?_; rintro e w1 ⟨g2, cap, rfl, hcap, hg2, hown2, hb⟩)
    | (at_make; refine wpList_make_full _ rfl _ _ 48 rfl w1.heap.size 4 i0 (.bool false) 1 Try.underlying48 hi hz0 hz1 .i64 .i64 64 64 64 rfl rfl rfl rfl (by rw [hz2]; decide) (by decide) (Nat.le_refl _) ?_; intro w2 hown hgr))
  have hown0 : w2.ownsRow w1.heap.size 4 1 (.slice (some ⟨w1.heap.size, 0, none⟩) 64 64) 64 ((ml X n fill 0).map Value.bool) := by
    rw [ml_start, ← toList_madeCells_one]; exact hown
  have hlt := hown2.lt g2 rfl
  have hb2 : Below w.heap.size w w2 := hb.grown hgr hb.size (by simp)
  have hown3 := hown2.kept hgr (.inr (by simp [Value.ownBlock]))
  have hs := hb.size
  clear hown hgr hown2 hb
  generalize hgg : w1.heap.size = g at *
  go_loopw [9] (fun i wr => ∃ k : Nat, k ≤ 64 ∧ i = .int .i64 k ∧ wr.ownsRow g 4 1 (.slice (some ⟨g, 0, none⟩) 64 64) 64 ((ml X n fill k).map Value.bool) ∧
      wr.ownsRow w.heap.size 4 1 (.slice (some ⟨g2, 0, none⟩) 64 cap) 64 ((bl X 64).map Value.bool) ∧ Below w.heap.size w wr)
    (fun i _ => 64 - (intOf i).toNat)
  case atStart => exact ⟨0, Nat.zero_le _, rfl, hown0, hown3, hb2⟩
  case round =>
    clear hown0 hown3 hb2
    obtain ⟨k, hk, rfl, hown, hown2, hb⟩ := hrel
    by_cases hl : k < 64
    · have hf := hown.frozenAt k
      have hc : wr.cell? ⟨g, k, none⟩ = some (.bool ((ml X n fill k).getD k false)) := by
        rw [hown.cellAt k (by omega), map_bool_get _ _ (by rw [ml_length]; omega)]
      obtain ⟨hR1, hR2⟩ := hown.stored k (.bool (mbit X n fill k))
      rw [← List.map_set, ← ml_step] at hR1
      have hR3 := hown2.kept hR2 (.inr (by simp [Value.ownBlock]; omega))
      have hb1 : Below w.heap.size w (wr.setCell ⟨g, k, none⟩ (.bool (mbit X n fill k))) := hb.setCell (by exact hs) _
      have hcs : ∀ j, j < 64 → wr.cell? ⟨g2, j, none⟩ = some (.bool (X.testBit j)) := fun j hj => by
        rw [hown2.cellAt j (by omega), map_bool_get _ _ (by rw [bl_length]; omega), bl_get _ _ _ hj]
      clear hown hR2 hown2 hb
      by_cases c1 : 64 ≤ n
      · have em : mbit X n fill k = false := by simp [mbit, c1]
        rw [em] at hR1 hR3 hb1
        clear em hcs
        go_wp2
        go_roundw
        case rel => exact ⟨k + 1, by omega, by go_num, hR1, hR3, hb1⟩
        case measure => simp [intOf]; omega
      · by_cases c2 : n ≤ -64
        · have em : mbit X n fill k = fill := by simp [mbit, c1, c2]
          rw [em] at hR1 hR3 hb1
          clear em hcs
          go_wp2
          go_roundw
          case rel => exact ⟨k + 1, by omega, by go_num, hR1, hR3, hb1⟩
          case measure => simp [intOf]; omega
        · by_cases c3 : 0 ≤ n
          · obtain ⟨N, rfl⟩ := Int.eq_ofNat_of_zero_le c3
            by_cases c4 : (N : Int) ≤ (k : Int)
            · have em : mbit X (N : Int) fill k = X.testBit (k - N) := by simp [mbit, c1, c2]; omega
              rw [em] at hR1 hR3 hb1
              have hcell := hcs (k - N) (by omega)
              clear em hcs
              go_wp2
              go_roundw
              case rel => exact ⟨k + 1, by omega, by go_num, hR1, hR3, hb1⟩
              case measure => simp [intOf]; omega
            · have em : mbit X (N : Int) fill k = false := by simp [mbit, c1, c2]; omega
              rw [em] at hR1 hR3 hb1
              clear em hcs
              go_wp2
              go_roundw
              case rel => exact ⟨k + 1, by omega, by go_num, hR1, hR3, hb1⟩
              case measure => simp [intOf]; omega
          · obtain ⟨K, hK⟩ := Int.eq_ofNat_of_zero_le (show 0 ≤ -n by omega)
            obtain rfl : n = -(K : Int) := by omega
            clear hK
            by_cases c4 : (k : Int) + (K : Int) < 64
            · have em : mbit X (-(K : Int)) fill k = X.testBit (k + K) := by
                have e5 : (k : Int) - -(K : Int) < 64 := by omega
                unfold mbit
                rw [if_neg c1, if_neg c2, if_neg c3, if_pos e5]
                congr 1; omega
              rw [em] at hR1 hR3 hb1
              have hcell := hcs (k + K) (by omega)
              clear em hcs
              go_wp2
              go_roundw
              case rel => exact ⟨k + 1, by omega, by go_num, hR1, hR3, hb1⟩
              case measure => simp [intOf]; omega
            · have em : mbit X (-(K : Int)) fill k = fill := by
                have e5 : ¬ (k : Int) - -(K : Int) < 64 := by omega
                unfold mbit
                rw [if_neg c1, if_neg c2, if_neg c3, if_neg e5]
              rw [em] at hR1 hR3 hb1
              have k1 : (1 : Int) ≤ (K : Int) := by omega
              have k2 : (K : Int) ≤ 63 := by omega
              have k3 : (64 : Int) ≤ (k : Int) + (K : Int) := by omega
              clear em hcs c1 c2 c3 c4 hn1 hn2
              go_wp2
              go_roundw
              case rel => exact ⟨k + 1, by omega, by go_num, hR1, hR3, hb1⟩
              case measure => simp [intOf]; omega
    · have e64 : k = 64 := by omega
      subst e64
      have hcs : ∀ j, j < 64 → wr.cell? ⟨g, 0 + j, none⟩ = some (.bool ((ml X n fill 64).getD j false)) := fun j hj => by
        rw [Nat.zero_add, hown.cellAt j (by omega), map_bool_get _ _ (by rw [ml_length]; omega)]
      go_wp2_with (go_at_call 30; refine (from_any (ml X n fill 64) g 0 64 64 _ (ml_length _ _ _ _) (by decide) hcs).mono ?_; rintro e w2 ⟨rfl, rfl⟩)
      go_ret
      exact ⟨rfl, hb⟩

theorem move_any (X : Nat) (n : Int) (w : World) (hX : X < 18446744073709551616) (hn1 : -9223372036854775808 ≤ n) (hn2 : n ≤ 9223372036854775807) :
    Calls Try.prog 22 #[.int .u64 (X : Int), .int .i64 n] w fun e w' => e = .returned (.int .u64 ((mv X n false : Nat) : Int)) ∧ w' = w := by
  by_cases c1 : 64 ≤ n
  · rw [mv_big X n false c1]
    go_enter Try.func22, Try.ntmps22
    go_wp2
    go_ret
    exact ⟨rfl, rfl⟩
  · by_cases c2 : n ≤ -64
    · rw [mv_small X n false c2]
      go_enter Try.func22, Try.ntmps22
      go_wp2
      go_ret
      exact ⟨rfl, rfl⟩
    · by_cases c3 : 0 ≤ n
      · obtain ⟨N, rfl⟩ := Int.eq_ofNat_of_zero_le c3
        have e := left_u X N false (by omega)
        go_enter Try.func22, Try.ntmps22
        go_wp2
        go_ret
        exact ⟨rfl, rfl⟩
      · obtain ⟨K, hK⟩ := Int.eq_ofNat_of_zero_le (show 0 ≤ -n by omega)
        obtain rfl : n = -(K : Int) := by omega
        clear hK
        have e := right_u X K (by omega) (by omega) hX
        go_enter Try.func22, Try.ntmps22
        go_wp2
        go_ret
        exact ⟨ret_int (by first | rfl | simp [e]), rfl⟩
theorem shift_any (x : Int) (X : Nat) (n : Int) (w : World) (hX : X < 18446744073709551616) (h1 : -9223372036854775808 ≤ x) (h2 : x ≤ 9223372036854775807) (hn1 : -9223372036854775808 ≤ n) (hn2 : n ≤ 9223372036854775807)
    (hx : x = (if x < 0 then (X : Int) - 18446744073709551616 else (X : Int))) :
    Calls Try.prog 20 #[.int .i64 x, .int .i64 n] w fun e w' => ∃ s, e = .returned (.int .i64 s) ∧ IntKind.u64.wrap s = ((mv X n (decide (x < 0)) : Nat) : Int) ∧ w' = w := by
  have HX : Hid (x = (if x < 0 then (X : Int) - 18446744073709551616 else (X : Int))) := hx
  clear hx
  by_cases c1 : 64 ≤ n
  · go_enter Try.func20, Try.ntmps20
    go_wp2
    go_ret
    exact ⟨_, rfl, by rw [mv_big X n _ c1]; rfl, rfl⟩
  · by_cases c2 : n ≤ -64
    · go_enter Try.func20, Try.ntmps20
      go_wp2
      go_ret
      exact ⟨_, rfl, sign_s x n X c2 h1 h2, rfl⟩
    · by_cases c3 : 0 ≤ n
      · obtain ⟨N, rfl⟩ := Int.eq_ofNat_of_zero_le c3
        go_enter Try.func20, Try.ntmps20
        go_wp2
        go_ret
        exact ⟨_, rfl, left_s x X N _ (by omega) HX.out, rfl⟩
      · obtain ⟨K, hK⟩ := Int.eq_ofNat_of_zero_le (show 0 ≤ -n by omega)
        obtain rfl : n = -(K : Int) := by omega
        clear hK
        go_enter Try.func20, Try.ntmps20
        go_wp2
        go_ret
        exact ⟨_, rfl, by first | exact right_s x X K (by omega) (by omega) hX HX.out | (simp; exact right_s x X K (by omega) (by omega) hX HX.out), rfl⟩

theorem walk (a0 : Int) (a1 : Int) (w0 : (Lit.int .i64 a0).wf = true) (w1 : (Lit.int .i64 a1).wf = true) (w : World) :
    Calls Try.prog 6 #[.int .i64 a0, .int .i64 a1] w fun e w' => e = .returned (.bool true) ∧ Below w.heap.size w w' := by
  obtain ⟨b1, b2⟩ := bounds_i64 w0
  obtain ⟨b3, b4⟩ := bounds_i64 w1
  obtain ⟨X, hX, hu, hx⟩ := word_of a0 b1 b2
  have c1 := fun v => shift_any a0 X a1 v hX b1 b2 b3 b4 hx
  have c2 := fun v => rmove_any X a1 (decide (a0 < 0)) v hX b3 b4
  have c3 := fun v => rmove_any X a1 false v hX b3 b4
  have c4 := fun v => move_any X a1 v hX b3 b4
  generalize mv X a1 (decide (a0 < 0)) = Y at c1 c2
  generalize mv X a1 false = Z at c3 c4
  generalize hB : decide (a0 < 0) = B at c2
  have t1 : True := trivial
  clear hx w0 w1
  go_enter Try.func6, Try.ntmps6
  go_wp2_with (first
    | (go_at_call 20; refine (c1 _).mono ?_; rintro e w2 ⟨s, rfl, hs, hw⟩; have hw2 := hw.symm; clear hw; subst hw2)
    | (go_at_call 21; have _t := t1; clear _t t1; refine (c2 _).mono ?_; rintro e w3 ⟨rfl, hb1⟩)
    | (go_at_call 21; refine (c3 _).mono ?_; rintro e w5 ⟨rfl, hb3⟩)
    | (go_at_call 22; refine (c4 _).mono ?_; rintro e w2 ⟨rfl, hw⟩; have hw2 := hw.symm; clear hw; subst hw2)
    | (go_at_call 11; refine (awake _).mono ?_; rintro e w4 ⟨rfl, hw⟩; have hw2 := hw.symm; clear hw; subst hw2))
  all_goals go_ret
  all_goals exact ⟨rfl, hb1.trans (hb3.mono hb1.size)⟩

/-! ### THE ROW's STEP: WRITTEN OUT: LEAVE IT -/
set_option maxRecDepth 100000 in
theorem lifted (os : Os) (started : os.Started) (H : Type) (enc : TypeId × Value → H) :
    ReturnsInHanded {} Try.checked os 6 .any (Rows.bitsShiftsSpec.pre6 enc Try.prog Try.f6 Rows.bitsShiftsRow.domain false) (Rows.bitsShiftsSpec.post enc Try.prog Try.f6 false true false false) := by
  refine returnsInHanded_of_change (C := Try.checked) own started (by kernel_rfl) Try.func6
    (ChangeSpec.witness6 (enc := enc) (C := Try.checked) false ⟨#[], #[.int .i64 0, .int .i64 0], []⟩ 8 (by kernel_rfl) (by kernel_rfl) (by kernel_rfl) (by kernel_rfl)) ?_
  intro W base args ds gs before hval0 hW hcnd _
  have hval : ∀ (j : Nat) t v, Try.f6.params[j]? = some t → args[j]? = some v → Value.okWide Try.prog W .any base t v := hval0
  have hW' := hW
  obtain ⟨p, q, hA0, hV, rfl, hfz, hnd⟩ := hW
  have hA : DataW.TrodAll enc Try.prog W 0 (fun _ => true) true Try.f6.params.toList args.toList ds p := hA0
  rw [Try.params6] at hA hval
  obtain ⟨v0, vs0, d0, ds0, p0, q0, hargs, rfl, rfl, h0, r0⟩ := trodAll_cons hA
  obtain ⟨v1, vs1, d1, ds1, p1, q1, rfl, rfl, rfl, h1, r1⟩ := trodAll_cons r0
  obtain ⟨rfl, rfl, rfl⟩ := trodAll_nil r1
  obtain rfl : args = #[v0, v1] := by cases args; simp_all
  obtain ⟨rfl, rfl⟩ := trodVars_none hV
  obtain ⟨a0, rfl, rfl, rfl, w0⟩ := open_int Try.underlying3 (hval 0 3 v0 rfl rfl) h0
  obtain ⟨a1, rfl, rfl, rfl, w1⟩ := open_int Try.underlying3 (hval 1 3 v1 rfl rfl) h1
  clear hA0 hval0
  simp only [List.append_nil] at hW'
  refine (walk a0 a1 w0 w1 W).mono fun e W' ⟨he, hg⟩ => ?_
  subst he
  exact ⟨_, rfl, _, _, _, [], [], [], hW', (trodAll_cons_mk (shut_bool Try.underlying4 _) trodAll_mk0), (trodAll_cons_mk (shut_int Try.underlying3 w0) (trodAll_cons_mk (shut_int Try.underlying3 w1) trodAll_mk0)), rfl, hg.frame _, fun h => by cases h⟩

theorem over : Rows.bitsShiftsRow.holds Try.pinned (OpenSpec.ofChange Rows.bitsShiftsSpec) :=
  OpenClaim.holds_of_wide 6 Try.f6 rfl rfl rfl rfl rfl rfl rfl ⟨rfl, rfl, rfl, rfl, rfl⟩ rfl rfl rfl rfl rfl (by kernel_rfl) Try.func6 (by kernel_rfl)
    (of_decide_eq_true (by kernel_rfl)) (by unfold Func.isWrapper; first | (rw [if_pos (by decide +kernel)]; kernel_rfl) | (rw [if_neg (by decide +kernel)]; exact ⟨rfl, rfl⟩))
    (fun os started H enc _ => lifted os started H enc)

/-- ████ THE STATEMENT ████ -/
theorem proved : Rows.BitsShiftsSaid :=
  over
end Go.Proofs.Ytgboapmnimnojaa.bitsShifts
namespace Go.Proofs.Ytgboapmnimnojaa
/-- THE STATEMENT. -/
theorem bitsShifts_holds : Rows.BitsShiftsSaid := bitsShifts.proved
#print axioms bitsShifts_holds
end Go.Proofs.Ytgboapmnimnojaa
