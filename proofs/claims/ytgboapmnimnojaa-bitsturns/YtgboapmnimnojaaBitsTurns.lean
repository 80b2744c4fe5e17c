/- For every input the law BitsTurns returns true: 32 bits turned by any count come out as the document says, and turned on to the full circle they are as before. No condition. -/
import Derived.Test.YtgboapmnimnojaaRows
import Derived.WalkKit
import Derived.ProofKit
import Derived.OpenShut
import Derived.Test.YtgboapmnimnojaaRef
import Derived.Test.YtgboapmnimnojaaBitTurn
namespace Go.Proofs.Ytgboapmnimnojaa.bitsTurns
open Go.ChangeShapes Go.WideShapes Go.ChangeAt Go.RowKit
set_option linter.unusedVariables false      -- a walk need not use every 'w<i>' (that an integer argument fits its kind)

theorem own : ownKnob Try.prog.godebug = none := by kernel_rfl

open Base BitNum BitTurn Ref

theorem turn_any (X L : Nat) (n : Int) (w : World) (hX : X < 4294967296) (hL : n % 32 = (L : Int)) :
    Calls Try.prog 23 #[.int .u32 (X : Int), .int .i64 n] w fun e w' => e = .returned (.int .u32 ((tv X L : Nat) : Int)) ∧ w' = w := by
  have he : bits BinOp.and IntKind.i64 n 31 = (L : Int) := by rw [and31, hL]
  have hl : L < 32 := by omega
  have e := turn_is X L hX
  clear hL
  go_enter Try.func23, Try.ntmps23
  go_wp2
  go_ret
  exact ⟨ret_int (by first | rfl | exact e), rfl⟩

/-- The count cut to one circle: at or above nought, or below it. -/
def Cut (n : Int) (L : Nat) (r : Int) : Prop := L < 32 ∧ ((0 ≤ n ∧ n % 32 = r ∧ r = (L : Int)) ∨ (n < 0 ∧ n.tmod 32 = r ∧ (r = (L : Int) ∨ (r = (L : Int) - 32 ∧ 1 ≤ L))))

set_option maxHeartbeats 800000 in
theorem loop_any (X L : Nat) (w : World) (n r : Int) (hX : X < 4294967296) (h : Cut n L r) :
    Calls Try.prog 24 #[.int .u32 (X : Int), .int .i64 n] w fun e w' => e = .returned (.int .u32 ((tv X L : Nat) : Int)) ∧ Below w.heap.size w w' := by
  obtain ⟨hL, h⟩ := h
  obtain ⟨i0, hi, hz0, hz1, hz2⟩ := info_parts infoB
  have hX64 : X < 18446744073709551616 := by omega
  rcases h with ⟨hn, hr, hr2⟩ | ⟨hn, hr, hr2 | ⟨hr2, hr3⟩⟩
  all_goals
    subst hr2
    go_enter Try.func24, Try.ntmps24
    go_wp2_with (first
      | (go_at_call 29; refine (bits_any X _ hX64).mono ?_; rintro e w1 ⟨g2, cap, rfl, hcap, hg2, hown2, hb⟩)
      | (at_make; refine wpList_make_full _ rfl _ _ 48 rfl w1.heap.size 4 i0 (.bool false) 1 Try.underlying48 hi hz0 hz1 .i64 .i64 64 64 64 rfl rfl rfl rfl (by rw [hz2]; decide) (by decide) (Nat.le_refl _) ?_; intro w2 hown hgr))
    have hown0 : w2.ownsRow w1.heap.size 4 1 (.slice (some ⟨w1.heap.size, 0, none⟩) 64 64) 64 ((tl X L 0).map Value.bool) := by
      rw [tl_start, ← toList_madeCells_one]; exact hown
    have hlt := hown2.lt g2 rfl
    have hb2 : Below w.heap.size w w2 := hb.grown hgr hb.size (by simp)
    have hown3 := hown2.kept hgr (.inr (by simp [Value.ownBlock]))
    have hs := hb.size
    clear hown hgr hown2 hb
    generalize hgg : w1.heap.size = g at *
    go_loopw [8] (fun i wr => ∃ k : Nat, k ≤ 32 ∧ i = .int .i64 k ∧ wr.ownsRow g 4 1 (.slice (some ⟨g, 0, none⟩) 64 64) 64 ((tl X L k).map Value.bool) ∧
        wr.ownsRow w.heap.size 4 1 (.slice (some ⟨g2, 0, none⟩) 64 cap) 64 ((bl X 64).map Value.bool) ∧ Below w.heap.size w wr)
      (fun i _ => 32 - (intOf i).toNat)
    case atStart => exact ⟨0, Nat.zero_le _, rfl, hown0, hown3, hb2⟩
    case round =>
      clear hown0 hown3 hb2
      obtain ⟨k, hk, rfl, hown, hown2, hb⟩ := hrel
      by_cases hl : k < 32
      · have hf := hown.frozenAt ((k + L) % 32)
        have hc : wr.cell? ⟨g, (k + L) % 32, none⟩ = some (.bool ((tl X L k).getD ((k + L) % 32) false)) := by
          rw [hown.cellAt ((k + L) % 32) (by omega), map_bool_get _ _ (by rw [tl_length]; omega)]
        obtain ⟨hR1, hR2⟩ := hown.stored ((k + L) % 32) (.bool (X.testBit k))
        rw [← List.map_set, ← tl_step X L k hL hl] at hR1
        have hR3 := hown2.kept hR2 (.inr (by simp [Value.ownBlock]; omega))
        have hb1 : Below w.heap.size w (wr.setCell ⟨g, (k + L) % 32, none⟩ (.bool (X.testBit k))) := hb.setCell (by exact hs) _
        have hcell : wr.cell? ⟨g2, k, none⟩ = some (.bool (X.testBit k)) := by
          rw [hown2.cellAt k (by omega), map_bool_get _ _ (by rw [bl_length]; omega), bl_get _ _ _ (by omega)]
        clear hown hR2 hown2 hb
        go_wp2
        go_roundw
        case rel => exact ⟨k + 1, by omega, by go_num, hR1, hR3, hb1⟩
        case measure => simp [intOf]; omega
      · have e64 : k = 32 := by omega
        subst e64
        have hcs : ∀ j, j < 64 → wr.cell? ⟨g, 0 + j, none⟩ = some (.bool ((tl X L 32).getD j false)) := fun j hj => by
          rw [Nat.zero_add, hown.cellAt j (by omega), map_bool_get _ _ (by rw [tl_length]; omega)]
        have c1 := from_any (tl X L 32) g 0 64 64 wr (tl_length _ _ _) (by decide) hcs
        have htl := tv_lt X L hX
        rw [tl_end X L hX hL] at c1
        generalize hY : tv X L = Y at c1 htl
        have HY : Hid (tv X L = Y) := hY
        clear hcs hY
        go_wp2_with (go_at_call 30; refine c1.mono ?_; rintro e w2 ⟨rfl, rfl⟩)
        go_ret
        exact ⟨ret_int (by rw [HY.out]), hb⟩

theorem cut_of (n : Int) : ∃ L r, Cut n L r ∧ n % 32 = (L : Int) ∧ (32 - r) % 32 = ((32 - L) % 32 : Nat) ∧ -31 ≤ r ∧ r ≤ 31 ∧ (if 0 ≤ n then n % 32 else n.tmod 32) = r := by
  refine ⟨(n % 32).toNat, if 0 ≤ n then n % 32 else n.tmod 32, ?_⟩
  by_cases h : 0 ≤ n
  · rw [if_pos h]
    refine ⟨⟨by omega, .inl ⟨h, rfl, by omega⟩⟩, by omega, by omega, by omega, by omega, rfl⟩
  · have e : n.tmod 32 = -((-n) % 32) := by
      have : n = -(-n) := by omega
      rw [this, Int.neg_tmod, Int.tmod_eq_emod_of_nonneg (by omega)]; omega
    rw [if_neg h, e]
    refine ⟨⟨by omega, .inr ⟨by omega, by rw [e], by omega⟩⟩, by omega, by omega, by omega, by omega, rfl⟩

theorem walk (a0 : Int) (a1 : Int) (w0 : (Lit.int .u32 a0).wf = true) (w1 : (Lit.int .i64 a1).wf = true) (w : World) :
    Calls Try.prog 7 #[.int .u32 a0, .int .i64 a1] w fun e w' => e = .returned (.bool true) ∧ Below w.heap.size w w' := by
  obtain ⟨b1, b2⟩ := bounds_u32 w0
  obtain ⟨b3, b4⟩ := bounds_i64 w1
  obtain ⟨X, rfl⟩ := Int.eq_ofNat_of_zero_le b1
  have hX : X < 4294967296 := by omega
  obtain ⟨L, r, hcut, hL, hL2, r1, r2, hr⟩ := cut_of a1
  have c1 := fun v => turn_any X L a1 v hX hL
  have c2 := fun v => loop_any X L v a1 r hX hcut
  have c3 := fun v => turn_any (tv X L) ((32 - L) % 32) (32 - r) v (tv_lt X L hX) hL2
  rw [tv_back X L hX hcut.1] at c3
  generalize tv X L = Y at c1 c2 c3
  have t1 : True := trivial
  clear hL hL2 hcut w0 w1 hX b1 b2
  by_cases hn : 0 ≤ a1
  · rw [if_pos hn] at hr
    go_enter Try.func7, Try.ntmps7
    go_wp2_with (first
      | (go_at_call 23; have _t := t1; clear _t t1; refine (c1 _).mono ?_; rintro e w2 ⟨rfl, hw⟩; have hw2 := hw.symm; clear hw; subst hw2)
      | (go_at_call 24; refine (c2 _).mono ?_; rintro e w3 ⟨rfl, hb1⟩)
      | (go_at_call 23; refine (c3 _).mono ?_; rintro e w2 ⟨rfl, hw⟩; have hw2 := hw.symm; clear hw; subst hw2)
      | (go_at_call 11; refine (awake _).mono ?_; rintro e w4 ⟨rfl, hw⟩; have hw2 := hw.symm; clear hw; subst hw2))
    all_goals go_ret
    all_goals exact ⟨rfl, hb1⟩
  · rw [if_neg hn] at hr
    go_enter Try.func7, Try.ntmps7
    go_wp2_with (first
      | (go_at_call 23; have _t := t1; clear _t t1; refine (c1 _).mono ?_; rintro e w2 ⟨rfl, hw⟩; have hw2 := hw.symm; clear hw; subst hw2)
      | (go_at_call 24; refine (c2 _).mono ?_; rintro e w3 ⟨rfl, hb1⟩)
      | (go_at_call 23; refine (c3 _).mono ?_; rintro e w2 ⟨rfl, hw⟩; have hw2 := hw.symm; clear hw; subst hw2)
      | (go_at_call 11; refine (awake _).mono ?_; rintro e w4 ⟨rfl, hw⟩; have hw2 := hw.symm; clear hw; subst hw2))
    all_goals go_ret
    all_goals exact ⟨rfl, hb1⟩

/-! ### THE ROW's STEP: WRITTEN OUT: LEAVE IT -/
set_option maxRecDepth 100000 in
theorem lifted (os : Os) (started : os.Started) (H : Type) (enc : TypeId × Value → H) :
    ReturnsInHanded {} Try.checked os 7 .any (Rows.bitsTurnsSpec.pre6 enc Try.prog Try.f7 Rows.bitsTurnsRow.domain false) (Rows.bitsTurnsSpec.post enc Try.prog Try.f7 false true false false) := by
  refine returnsInHanded_of_change (C := Try.checked) own started (by kernel_rfl) Try.func7
    (ChangeSpec.witness6 (enc := enc) (C := Try.checked) false ⟨#[], #[.int .u32 0, .int .i64 0], []⟩ 8 (by kernel_rfl) (by kernel_rfl) (by kernel_rfl) (by kernel_rfl)) ?_
  intro W base args ds gs before hval0 hW hcnd _
  have hval : ∀ (j : Nat) t v, Try.f7.params[j]? = some t → args[j]? = some v → Value.okWide Try.prog W .any base t v := hval0
  have hW' := hW
  obtain ⟨p, q, hA0, hV, rfl, hfz, hnd⟩ := hW
  have hA : DataW.TrodAll enc Try.prog W 0 (fun _ => true) true Try.f7.params.toList args.toList ds p := hA0
  rw [Try.params7] at hA hval
  obtain ⟨v0, vs0, d0, ds0, p0, q0, hargs, rfl, rfl, h0, r0⟩ := trodAll_cons hA
  obtain ⟨v1, vs1, d1, ds1, p1, q1, rfl, rfl, rfl, h1, r1⟩ := trodAll_cons r0
  obtain ⟨rfl, rfl, rfl⟩ := trodAll_nil r1
  obtain rfl : args = #[v0, v1] := by cases args; simp_all
  obtain ⟨rfl, rfl⟩ := trodVars_none hV
  obtain ⟨a0, rfl, rfl, rfl, w0⟩ := open_int Try.underlying38 (hval 0 38 v0 rfl rfl) h0
  obtain ⟨a1, rfl, rfl, rfl, w1⟩ := open_int Try.underlying3 (hval 1 3 v1 rfl rfl) h1
  clear hA0 hval0
  simp only [List.append_nil] at hW'
  refine (walk a0 a1 w0 w1 W).mono fun e W' ⟨he, hg⟩ => ?_
  subst he
  exact ⟨_, rfl, _, _, _, [], [], [], hW', (trodAll_cons_mk (shut_bool Try.underlying4 _) trodAll_mk0), (trodAll_cons_mk (shut_int Try.underlying38 w0) (trodAll_cons_mk (shut_int Try.underlying3 w1) trodAll_mk0)), rfl, hg.frame _, fun h => by cases h⟩

theorem over : Rows.bitsTurnsRow.holds Try.pinned (OpenSpec.ofChange Rows.bitsTurnsSpec) :=
  OpenClaim.holds_of_wide 7 Try.f7 rfl rfl rfl rfl rfl rfl rfl ⟨rfl, rfl, rfl, rfl, rfl⟩ rfl rfl rfl rfl rfl (by kernel_rfl) Try.func7 (by kernel_rfl)
    (of_decide_eq_true (by kernel_rfl)) (by unfold Func.isWrapper; first | (rw [if_pos (by decide +kernel)]; kernel_rfl) | (rw [if_neg (by decide +kernel)]; exact ⟨rfl, rfl⟩))
    (fun os started H enc _ => lifted os started H enc)

/-- ████ THE STATEMENT ████ -/
theorem proved : Rows.BitsTurnsSaid :=
  over
end Go.Proofs.Ytgboapmnimnojaa.bitsTurns
namespace Go.Proofs.Ytgboapmnimnojaa
/-- THE STATEMENT. -/
theorem bitsTurns_holds : Rows.BitsTurnsSaid := bitsTurns.proved
#print axioms bitsTurns_holds
end Go.Proofs.Ytgboapmnimnojaa
