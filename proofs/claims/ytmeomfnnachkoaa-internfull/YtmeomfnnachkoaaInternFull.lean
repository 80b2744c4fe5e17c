/- InternFull: a table takes nodes up to its limit and none beyond, still finds what it has, and a zero or nil table behaves as said. No conditions. -/
import Derived.Test.YtmeomfnnachkoaaRows
import Derived.Test.YtmeomfnnachkoaaChecked
import Derived.Test.YtmeomfnnachkoaaAwI
import Derived.Test.YtmeomfnnachkoaaNilT
import Derived.Test.YtmeomfnnachkoaaOpI
import Derived.JoinedOf
import Derived.JoinedAt
namespace Go.Proofs.Ytmeomfnnachkoaa.internFull
open Go.ChangeShapes Go.WideShapes Go.ChangeAt Go.RowKit
open Go.Maps Mem NdNum TabL NumL DoL DoA PlayL NilT OpI

theorem own : ownKnob Try.prog.godebug = none := by kernel_rfl
set_option maxRecDepth 20000 in
set_option maxHeartbeats 2000000 in
theorem walk0 (i : Int) (n : Nat) (hn : n ≤ 20100) (hi : i = (n : Int)) (w : World) : Calls Try.prog 7 #[.int .i64 i] w fun e w' => e = .returned (.bool true) ∧ Below w.heap.size w w' := by
  have HN : Hid (i = (n : Int)) := hi
  have cNew := new_any w
  obtain ⟨W0, eW0⟩ : ∃ W0, (w.alloc (boxT (.slice none 0 0) (.map none))).alloc (.cells #[.slice none 0 0, .map none] 54) = W0 := ⟨_, rfl⟩
  obtain ⟨g, hg⟩ : ∃ g, w.heap.size = g := ⟨_, rfl⟩
  have HT : Hid (Tab W0 g g g (V 0) ∧ Tab W0 (g + 1) (g + 1) (g + 1) (V 0) ∧ Apart2 g g g (g + 1) (g + 1) W0.heap.size ∧ Below g w W0) := by
    rw [← eW0, ← hg]
    refine ⟨(tab_new w).below ((Below.refl _ _).alloc (Nat.le_refl _) _), ?_, by unfold Apart2; simp; omega, ((Below.refl _ _).alloc (Nat.le_refl _) _).alloc (by simp) _⟩
    have h2 := tab_new (w.alloc (boxT (.slice none 0 0) (.map none)))
    rw [show (w.alloc (boxT (.slice none 0 0) (.map none))).heap.size = w.heap.size + 1 by simp] at h2
    exact h2
  rw [hg]
  have h0 : ¬ i < 0 := by omega
  have h1 : ¬ (20100 : Int) < i := by omega
  clear hi
  go_enter Try.func7, Try.ntmps7
  go_wp2_with (go_at_call 19; refine cNew.mono ?_; rintro e w1 ⟨rfl, hw1⟩; have hw2 := hw1.symm; clear hw1; subst hw2)
  go_loopw [6] (fun vv wr => ∃ (k r1 m1 r2 m2 : Nat) (K : Int), vv = .int .i64 K ∧ 0 ≤ K ∧ K ≤ i ∧ Hid (K = (k : Int)) ∧ Hid (Tab wr g r1 m1 (V k)) ∧ Hid (Tab wr (g + 1) r2 m2 (V k)) ∧ Hid (Apart2 g r1 m1 r2 m2 wr.heap.size) ∧ Hid (Below g w wr)) (fun vv _ => i.toNat - (intOf vv).toNat)
  case atStart => exact ⟨0, g, g, g + 1, g + 1, 0, rfl, Int.le_refl _, by omega, rfl, HT.out.1, HT.out.2.1, HT.out.2.2.1, HT.out.2.2.2⟩
  case round =>
    obtain ⟨k, r1, m1, r2, m2, K, rfl, hK0, hK1, HK, H1, H2, HS, HB⟩ := hrel
    by_cases hlt : K < i
    · have eK := HK.out
      have wfk : Wf (3, (k : Int), 0) := ⟨rfl, wf_of (a := (k : Int)) (by omega) (by omega), rfl⟩
      have c1 := do_any H1.out (3, (k : Int), 0) wfk
      have c2 := fun (W : World) (r m : Nat) (h : Tab W (g + 1) r m (V k)) => do_any h (3, (k : Int), 0) wfk
      rw [doN_var] at c1 c2
      unfold node ans at c1 c2
      rw [← eK] at c1 c2
      simp only at c1 c2
      have hz := HS.out
      have t1 : True := trivial
      by_cases hf : k < 19998
      · rw [if_pos hf] at c1 c2
        simp only [Option.getD_some, Option.isSome_some] at c1 c2
        have hfi : K < 19998 := by omega
        clear eK hf
        go_wp2_with (first
          | (go_at_call 15; have _t := t1; clear _t t1; refine c1.mono ?_; rintro e w2 ⟨rfl, hw2⟩; obtain ⟨r3, m3, x1, x2, x3, x4⟩ := two_first hw2 H2.out HS.out (V_ne _ (by omega)))
          | (go_at_call 15; refine (c2 _ _ _ x2).mono ?_; rintro e w3 ⟨rfl, hw3⟩; obtain ⟨r4, m4, y1, y2, y3, y4⟩ := two_second x1 hw3 x3 (V_ne _ (by omega))))
        go_roundw
        case rel => exact ⟨k + 1, r3, m3, r4, m4, K + 1, by simp, by omega, by omega, by have := HK.out; unfold Hid; omega, y1, y2, y3, (HB.out.trans x4).trans y4⟩
        case measure => simp [intOf]; omega
      · rw [if_neg hf] at c1 c2
        simp only [Option.getD_none, Option.isSome_none] at c1 c2
        have hfi : ¬ K < 19998 := by omega
        clear eK hf
        go_wp2_with (first
          | (go_at_call 15; have _t := t1; clear _t t1; refine c1.mono ?_; rintro e w2 ⟨rfl, hw2⟩; obtain ⟨r3, m3, x1, x2, x3, x4⟩ := two_first hw2 H2.out HS.out (V_ne _ (by omega)))
          | (go_at_call 15; refine (c2 _ _ _ x2).mono ?_; rintro e w3 ⟨rfl, hw3⟩; obtain ⟨r4, m4, y1, y2, y3, y4⟩ := two_second x1 hw3 x3 (V_ne _ (by omega))))
        go_roundw
        case rel => exact ⟨k + 1, r3, m3, r4, m4, K + 1, by simp, by omega, by omega, by have := HK.out; unfold Hid; omega, y1, y2, y3, (HB.out.trans x4).trans y4⟩
        case measure => simp [intOf]; omega
    · have ek : i = K := by omega
      subst ek
      obtain rfl : k = n := by have := HK.out; have := HN.out; omega
      have c1 := do_any H1.out (3, 0, 0) ⟨rfl, rfl, rfl⟩
      rw [doN_again] at c1
      unfold node ans at c1
      simp only [Option.getD_some, Option.isSome_some] at c1
      have cLn := fun (W : World) (r m : Nat) (h : Tab W g r m (V (max k 1))) => len_any h
      rw [V_length] at cLn
      obtain ⟨Q, eQ⟩ : ∃ Q : Int, ((min (max k 1) 19998 : Nat) : Int) + 2 = Q := ⟨_, rfl⟩
      rw [eQ] at cLn
      have hQ : min (max i 1 + 2) 20000 = Q := by have := HK.out; omega
      have cA := fun (W : World) => AwI.awake_any W
      have hgs : g ≤ wr.heap.size := by have := HS.out; unfold Apart2 at this; omega
      have t1 : True := trivial
      have t2 : True := trivial
      clear eQ
      go_wp2_with (first
        | (go_at_call 15; have _t := t1; clear _t t1; refine c1.mono ?_; rintro e w2 ⟨rfl, r3, m3, x1, x2, x3, x4⟩)
        | (go_at_call 15; refine (nil_do _ (2, 0, 0)).mono ?_; rintro e w3 ⟨rfl, b3⟩)
        | (go_at_call 17; refine (nil_node _).mono ?_; rintro e w4 ⟨rfl, b4⟩)
        | (go_at_call 14; refine (nil_eval _).mono ?_; rintro e w5 ⟨rfl, hw5⟩; have hw6 := hw5.symm; clear hw5; subst hw6)
        | (go_at_call 11; refine (cA _).mono ?_; rintro e w6 ⟨rfl, b6⟩; have T6 := (((x1.below b3).below b4).below ((Below.refl _ w4).alloc (Nat.le_refl _) (.cells #[.int .i64 0, .int .i64 0, .int .i64 0] 33))).below b6)
        | (go_at_call_of 13 (some (⟨g, 0, none⟩ : Addr)); refine (cLn _ _ _ T6).mono ?_; rintro e w7 ⟨rfl, hw7⟩; have hw8 := hw7.symm; clear hw7; subst hw8)
        | (go_at_call 13; refine (nil_len _).mono ?_; rintro e w7 ⟨rfl, hw7⟩; have hw8 := hw7.symm; clear hw7; subst hw8)
        | (go_at_call 16; refine (nil_reach _).mono ?_; rintro e w7 ⟨rfl, hw7⟩; have hw8 := hw7.symm; clear hw7; subst hw8))
      go_ret
      have hs := HS.out
      unfold Apart2 at hs
      have z2 := x2.size
      have z3 := b3.size
      have z4 := b4.size
      have B2 : Below g wr w2 := x2.below (Nat.le_refl _) (by omega) (by omega) (by omega)
      have B4 : Below g w4 (w4.alloc (.cells #[.int .i64 0, .int .i64 0, .int .i64 0] 33)) := (Below.refl _ _).alloc (by omega) _
      exact ⟨rfl, ((((HB.out.trans B2).trans (b3.mono (by omega))).trans (b4.mono (by omega))).trans B4).trans (b6.mono (by simp; omega))⟩
set_option maxRecDepth 20000 in
set_option maxHeartbeats 2000000 in
theorem walk1 (i : Int) (hi : i < 0 ∨ 20100 < i) (w : World) : Calls Try.prog 7 #[.int .i64 i] w fun e w' => e = .returned (.bool true) ∧ Below w.heap.size w w' := by
  obtain ⟨n, en⟩ : ∃ n : Nat, n = 50 := ⟨_, rfl⟩
  have hn : n ≤ 20100 := by omega
  have cNew := new_any w
  obtain ⟨W0, eW0⟩ : ∃ W0, (w.alloc (boxT (.slice none 0 0) (.map none))).alloc (.cells #[.slice none 0 0, .map none] 54) = W0 := ⟨_, rfl⟩
  obtain ⟨g, hg⟩ : ∃ g, w.heap.size = g := ⟨_, rfl⟩
  have HT : Hid (Tab W0 g g g (V 0) ∧ Tab W0 (g + 1) (g + 1) (g + 1) (V 0) ∧ Apart2 g g g (g + 1) (g + 1) W0.heap.size ∧ Below g w W0) := by
    rw [← eW0, ← hg]
    refine ⟨(tab_new w).below ((Below.refl _ _).alloc (Nat.le_refl _) _), ?_, by unfold Apart2; simp; omega, ((Below.refl _ _).alloc (Nat.le_refl _) _).alloc (by simp) _⟩
    have h2 := tab_new (w.alloc (boxT (.slice none 0 0) (.map none)))
    rw [show (w.alloc (boxT (.slice none 0 0) (.map none))).heap.size = w.heap.size + 1 by simp] at h2
    exact h2
  rw [hg]
  have hor : i < 0 ∨ (0 ≤ i ∧ 20100 < i) := by omega
  clear hi
  rcases hor with h0 | ⟨h0, h1⟩
  · go_enter Try.func7, Try.ntmps7
    go_wp2_with (go_at_call 19; refine cNew.mono ?_; rintro e w1 ⟨rfl, hw1⟩; have hw2 := hw1.symm; clear hw1; subst hw2)
    obtain ⟨J, hJ⟩ : ∃ J : Int, J = 50 := ⟨_, rfl⟩
    rw [← hJ]
    have HN : Hid (J = (n : Int)) := by unfold Hid; omega
    have j0 : 0 ≤ J := by omega
    have j1 : ¬ (20100 : Int) < J := by omega
    clear hJ en
    go_loopw [6] (fun vv wr => ∃ (k r1 m1 r2 m2 : Nat) (K : Int), vv = .int .i64 K ∧ 0 ≤ K ∧ K ≤ J ∧ Hid (K = (k : Int)) ∧ Hid (Tab wr g r1 m1 (V k)) ∧ Hid (Tab wr (g + 1) r2 m2 (V k)) ∧ Hid (Apart2 g r1 m1 r2 m2 wr.heap.size) ∧ Hid (Below g w wr)) (fun vv _ => J.toNat - (intOf vv).toNat)
    case atStart => exact ⟨0, g, g, g + 1, g + 1, 0, rfl, Int.le_refl _, by omega, rfl, HT.out.1, HT.out.2.1, HT.out.2.2.1, HT.out.2.2.2⟩
    case round =>
      obtain ⟨k, r1, m1, r2, m2, K, rfl, hK0, hK1, HK, H1, H2, HS, HB⟩ := hrel
      by_cases hlt : K < J
      · have eK := HK.out
        have wfk : Wf (3, (k : Int), 0) := ⟨rfl, wf_of (a := (k : Int)) (by omega) (by omega), rfl⟩
        have c1 := do_any H1.out (3, (k : Int), 0) wfk
        have c2 := fun (W : World) (r m : Nat) (h : Tab W (g + 1) r m (V k)) => do_any h (3, (k : Int), 0) wfk
        rw [doN_var] at c1 c2
        unfold node ans at c1 c2
        rw [← eK] at c1 c2
        simp only at c1 c2
        have hz := HS.out
        have t1 : True := trivial
        by_cases hf : k < 19998
        · rw [if_pos hf] at c1 c2
          simp only [Option.getD_some, Option.isSome_some] at c1 c2
          have hfi : K < 19998 := by omega
          clear eK hf
          go_wp2_with (first
            | (go_at_call 15; have _t := t1; clear _t t1; refine c1.mono ?_; rintro e w2 ⟨rfl, hw2⟩; obtain ⟨r3, m3, x1, x2, x3, x4⟩ := two_first hw2 H2.out HS.out (V_ne _ (by omega)))
            | (go_at_call 15; refine (c2 _ _ _ x2).mono ?_; rintro e w3 ⟨rfl, hw3⟩; obtain ⟨r4, m4, y1, y2, y3, y4⟩ := two_second x1 hw3 x3 (V_ne _ (by omega))))
          go_roundw
          case rel => exact ⟨k + 1, r3, m3, r4, m4, K + 1, by simp, by omega, by omega, by have := HK.out; unfold Hid; omega, y1, y2, y3, (HB.out.trans x4).trans y4⟩
          case measure => simp [intOf]; omega
        · rw [if_neg hf] at c1 c2
          simp only [Option.getD_none, Option.isSome_none] at c1 c2
          have hfi : ¬ K < 19998 := by omega
          clear eK hf
          go_wp2_with (first
            | (go_at_call 15; have _t := t1; clear _t t1; refine c1.mono ?_; rintro e w2 ⟨rfl, hw2⟩; obtain ⟨r3, m3, x1, x2, x3, x4⟩ := two_first hw2 H2.out HS.out (V_ne _ (by omega)))
            | (go_at_call 15; refine (c2 _ _ _ x2).mono ?_; rintro e w3 ⟨rfl, hw3⟩; obtain ⟨r4, m4, y1, y2, y3, y4⟩ := two_second x1 hw3 x3 (V_ne _ (by omega))))
          go_roundw
          case rel => exact ⟨k + 1, r3, m3, r4, m4, K + 1, by simp, by omega, by omega, by have := HK.out; unfold Hid; omega, y1, y2, y3, (HB.out.trans x4).trans y4⟩
          case measure => simp [intOf]; omega
      · have ek : J = K := by omega
        subst ek
        obtain rfl : k = n := by have := HK.out; have := HN.out; omega
        have c1 := do_any H1.out (3, 0, 0) ⟨rfl, rfl, rfl⟩
        rw [doN_again] at c1
        unfold node ans at c1
        simp only [Option.getD_some, Option.isSome_some] at c1
        have cLn := fun (W : World) (r m : Nat) (h : Tab W g r m (V (max k 1))) => len_any h
        rw [V_length] at cLn
        obtain ⟨Q, eQ⟩ : ∃ Q : Int, ((min (max k 1) 19998 : Nat) : Int) + 2 = Q := ⟨_, rfl⟩
        rw [eQ] at cLn
        have hQ : min (max J 1 + 2) 20000 = Q := by have := HK.out; omega
        have cA := fun (W : World) => AwI.awake_any W
        have hgs : g ≤ wr.heap.size := by have := HS.out; unfold Apart2 at this; omega
        have t1 : True := trivial
        have t2 : True := trivial
        clear eQ
        go_wp2_with (first
          | (go_at_call 15; have _t := t1; clear _t t1; refine c1.mono ?_; rintro e w2 ⟨rfl, r3, m3, x1, x2, x3, x4⟩)
          | (go_at_call 15; refine (nil_do _ (2, 0, 0)).mono ?_; rintro e w3 ⟨rfl, b3⟩)
          | (go_at_call 17; refine (nil_node _).mono ?_; rintro e w4 ⟨rfl, b4⟩)
          | (go_at_call 14; refine (nil_eval _).mono ?_; rintro e w5 ⟨rfl, hw5⟩; have hw6 := hw5.symm; clear hw5; subst hw6)
          | (go_at_call 11; refine (cA _).mono ?_; rintro e w6 ⟨rfl, b6⟩; have T6 := (((x1.below b3).below b4).below ((Below.refl _ w4).alloc (Nat.le_refl _) (.cells #[.int .i64 0, .int .i64 0, .int .i64 0] 33))).below b6)
          | (go_at_call_of 13 (some (⟨g, 0, none⟩ : Addr)); refine (cLn _ _ _ T6).mono ?_; rintro e w7 ⟨rfl, hw7⟩; have hw8 := hw7.symm; clear hw7; subst hw8)
          | (go_at_call 13; refine (nil_len _).mono ?_; rintro e w7 ⟨rfl, hw7⟩; have hw8 := hw7.symm; clear hw7; subst hw8)
          | (go_at_call 16; refine (nil_reach _).mono ?_; rintro e w7 ⟨rfl, hw7⟩; have hw8 := hw7.symm; clear hw7; subst hw8))
        go_ret
        have hs := HS.out
        unfold Apart2 at hs
        have z2 := x2.size
        have z3 := b3.size
        have z4 := b4.size
        have B2 : Below g wr w2 := x2.below (Nat.le_refl _) (by omega) (by omega) (by omega)
        have B4 : Below g w4 (w4.alloc (.cells #[.int .i64 0, .int .i64 0, .int .i64 0] 33)) := (Below.refl _ _).alloc (by omega) _
        exact ⟨rfl, ((((HB.out.trans B2).trans (b3.mono (by omega))).trans (b4.mono (by omega))).trans B4).trans (b6.mono (by simp; omega))⟩
  · go_enter Try.func7, Try.ntmps7
    go_wp2_with (go_at_call 19; refine cNew.mono ?_; rintro e w1 ⟨rfl, hw1⟩; have hw2 := hw1.symm; clear hw1; subst hw2)
    obtain ⟨J, hJ⟩ : ∃ J : Int, J = 50 := ⟨_, rfl⟩
    rw [← hJ]
    have HN : Hid (J = (n : Int)) := by unfold Hid; omega
    have j0 : 0 ≤ J := by omega
    have j1 : ¬ (20100 : Int) < J := by omega
    clear hJ en
    go_loopw [6] (fun vv wr => ∃ (k r1 m1 r2 m2 : Nat) (K : Int), vv = .int .i64 K ∧ 0 ≤ K ∧ K ≤ J ∧ Hid (K = (k : Int)) ∧ Hid (Tab wr g r1 m1 (V k)) ∧ Hid (Tab wr (g + 1) r2 m2 (V k)) ∧ Hid (Apart2 g r1 m1 r2 m2 wr.heap.size) ∧ Hid (Below g w wr)) (fun vv _ => J.toNat - (intOf vv).toNat)
    case atStart => exact ⟨0, g, g, g + 1, g + 1, 0, rfl, Int.le_refl _, by omega, rfl, HT.out.1, HT.out.2.1, HT.out.2.2.1, HT.out.2.2.2⟩
    case round =>
      obtain ⟨k, r1, m1, r2, m2, K, rfl, hK0, hK1, HK, H1, H2, HS, HB⟩ := hrel
      by_cases hlt : K < J
      · have eK := HK.out
        have wfk : Wf (3, (k : Int), 0) := ⟨rfl, wf_of (a := (k : Int)) (by omega) (by omega), rfl⟩
        have c1 := do_any H1.out (3, (k : Int), 0) wfk
        have c2 := fun (W : World) (r m : Nat) (h : Tab W (g + 1) r m (V k)) => do_any h (3, (k : Int), 0) wfk
        rw [doN_var] at c1 c2
        unfold node ans at c1 c2
        rw [← eK] at c1 c2
        simp only at c1 c2
        have hz := HS.out
        have t1 : True := trivial
        by_cases hf : k < 19998
        · rw [if_pos hf] at c1 c2
          simp only [Option.getD_some, Option.isSome_some] at c1 c2
          have hfi : K < 19998 := by omega
          clear eK hf
          go_wp2_with (first
            | (go_at_call 15; have _t := t1; clear _t t1; refine c1.mono ?_; rintro e w2 ⟨rfl, hw2⟩; obtain ⟨r3, m3, x1, x2, x3, x4⟩ := two_first hw2 H2.out HS.out (V_ne _ (by omega)))
            | (go_at_call 15; refine (c2 _ _ _ x2).mono ?_; rintro e w3 ⟨rfl, hw3⟩; obtain ⟨r4, m4, y1, y2, y3, y4⟩ := two_second x1 hw3 x3 (V_ne _ (by omega))))
          go_roundw
          case rel => exact ⟨k + 1, r3, m3, r4, m4, K + 1, by simp, by omega, by omega, by have := HK.out; unfold Hid; omega, y1, y2, y3, (HB.out.trans x4).trans y4⟩
          case measure => simp [intOf]; omega
        · rw [if_neg hf] at c1 c2
          simp only [Option.getD_none, Option.isSome_none] at c1 c2
          have hfi : ¬ K < 19998 := by omega
          clear eK hf
          go_wp2_with (first
            | (go_at_call 15; have _t := t1; clear _t t1; refine c1.mono ?_; rintro e w2 ⟨rfl, hw2⟩; obtain ⟨r3, m3, x1, x2, x3, x4⟩ := two_first hw2 H2.out HS.out (V_ne _ (by omega)))
            | (go_at_call 15; refine (c2 _ _ _ x2).mono ?_; rintro e w3 ⟨rfl, hw3⟩; obtain ⟨r4, m4, y1, y2, y3, y4⟩ := two_second x1 hw3 x3 (V_ne _ (by omega))))
          go_roundw
          case rel => exact ⟨k + 1, r3, m3, r4, m4, K + 1, by simp, by omega, by omega, by have := HK.out; unfold Hid; omega, y1, y2, y3, (HB.out.trans x4).trans y4⟩
          case measure => simp [intOf]; omega
      · have ek : J = K := by omega
        subst ek
        obtain rfl : k = n := by have := HK.out; have := HN.out; omega
        have c1 := do_any H1.out (3, 0, 0) ⟨rfl, rfl, rfl⟩
        rw [doN_again] at c1
        unfold node ans at c1
        simp only [Option.getD_some, Option.isSome_some] at c1
        have cLn := fun (W : World) (r m : Nat) (h : Tab W g r m (V (max k 1))) => len_any h
        rw [V_length] at cLn
        obtain ⟨Q, eQ⟩ : ∃ Q : Int, ((min (max k 1) 19998 : Nat) : Int) + 2 = Q := ⟨_, rfl⟩
        rw [eQ] at cLn
        have hQ : min (max J 1 + 2) 20000 = Q := by have := HK.out; omega
        have cA := fun (W : World) => AwI.awake_any W
        have hgs : g ≤ wr.heap.size := by have := HS.out; unfold Apart2 at this; omega
        have t1 : True := trivial
        have t2 : True := trivial
        clear eQ
        go_wp2_with (first
          | (go_at_call 15; have _t := t1; clear _t t1; refine c1.mono ?_; rintro e w2 ⟨rfl, r3, m3, x1, x2, x3, x4⟩)
          | (go_at_call 15; refine (nil_do _ (2, 0, 0)).mono ?_; rintro e w3 ⟨rfl, b3⟩)
          | (go_at_call 17; refine (nil_node _).mono ?_; rintro e w4 ⟨rfl, b4⟩)
          | (go_at_call 14; refine (nil_eval _).mono ?_; rintro e w5 ⟨rfl, hw5⟩; have hw6 := hw5.symm; clear hw5; subst hw6)
          | (go_at_call 11; refine (cA _).mono ?_; rintro e w6 ⟨rfl, b6⟩; have T6 := (((x1.below b3).below b4).below ((Below.refl _ w4).alloc (Nat.le_refl _) (.cells #[.int .i64 0, .int .i64 0, .int .i64 0] 33))).below b6)
          | (go_at_call_of 13 (some (⟨g, 0, none⟩ : Addr)); refine (cLn _ _ _ T6).mono ?_; rintro e w7 ⟨rfl, hw7⟩; have hw8 := hw7.symm; clear hw7; subst hw8)
          | (go_at_call 13; refine (nil_len _).mono ?_; rintro e w7 ⟨rfl, hw7⟩; have hw8 := hw7.symm; clear hw7; subst hw8)
          | (go_at_call 16; refine (nil_reach _).mono ?_; rintro e w7 ⟨rfl, hw7⟩; have hw8 := hw7.symm; clear hw7; subst hw8))
        go_ret
        have hs := HS.out
        unfold Apart2 at hs
        have z2 := x2.size
        have z3 := b3.size
        have z4 := b4.size
        have B2 : Below g wr w2 := x2.below (Nat.le_refl _) (by omega) (by omega) (by omega)
        have B4 : Below g w4 (w4.alloc (.cells #[.int .i64 0, .int .i64 0, .int .i64 0] 33)) := (Below.refl _ _).alloc (by omega) _
        exact ⟨rfl, ((((HB.out.trans B2).trans (b3.mono (by omega))).trans (b4.mono (by omega))).trans B4).trans (b6.mono (by simp; omega))⟩
theorem walk (i : Int) (hi : (Lit.int .i64 i).wf = true) (w : World) : Calls Try.prog 7 #[.int .i64 i] w fun e w' => e = .returned (.bool true) ∧ Below w.heap.size w w' := by
  have _h := hi
  by_cases h : i < 0 ∨ 20100 < i
  · exact walk1 i h w
  · exact walk0 i i.toNat (by omega) (by omega) w
set_option maxRecDepth 100000 in
theorem lifted (os : Os) (started : os.Started) (H : Type) (enc : TypeId × Value → H) :
    ReturnsInHanded {} Try.checked os 7 .any (Rows.internFullSpec.pre6 enc Try.prog Try.f7 Rows.internFullRow.domain false) (Rows.internFullSpec.post enc Try.prog Try.f7 false true false false) := by
  refine returnsInHanded_of_change (C := Try.checked) own started (by kernel_rfl) Try.func7
    (ChangeSpec.witness6 (enc := enc) (C := Try.checked) false ⟨#[], #[.int .i64 0], []⟩ 8 (by kernel_rfl) (by kernel_rfl) (by kernel_rfl) (by kernel_rfl)) ?_
  intro W base args ds gs before hval0 hW hcnd _
  have hval : ∀ (j : Nat) t v, Try.f7.params[j]? = some t → args[j]? = some v → Value.okWide Try.prog W .any base t v := hval0
  have hW' := hW
  obtain ⟨p, q, hA0, hV, rfl, hfz, hnd⟩ := hW
  have hA : DataW.TrodAll enc Try.prog W 0 (fun _ => true) true Try.f7.params.toList args.toList ds p := hA0
  rw [Try.params7] at hA hval
  obtain ⟨v0, vs0, d0, ds0, p0, q0, hargs, rfl, rfl, h0, r0⟩ := trodAll_cons hA
  obtain ⟨rfl, rfl, rfl⟩ := trodAll_nil r0
  obtain rfl : args = #[v0] := by cases args; simp_all
  obtain ⟨rfl, rfl⟩ := trodVars_none hV
  have k0 := h0
  have lt0 : ∀ x ∈ p0, x.block < W.heap.size := by obtain ⟨m, hm⟩ := k0; exact DataW.trod_lt m _ _ _ hm
  obtain ⟨n0, rfl, _, _, wn0⟩ := open_int Try.underlying3 (hval 0 3 v0 rfl rfl) h0
  clear hA0 hval0
  refine (walk n0 wn0 W).mono fun e W' ⟨he, bel⟩ => ?_
  subst he
  exact ⟨_, rfl, _, _, _, [], _, [], hW', trodAll_mk1 (shut_bool Try.underlying4 _), (trodAll_cons_mk (Below.trod laidOut (by kernel_rfl) (of_decide_eq_true (by kernel_rfl)) k0 bel lt0) trodAll_mk0), rfl, bel.frame _, fun h => by cases h⟩
theorem over : Rows.internFullRow.holds Try.pinned (OpenSpec.ofChange Rows.internFullSpec) :=
  OpenClaim.holds_of_wide 7 Try.f7 rfl rfl rfl rfl rfl rfl rfl ⟨rfl, rfl, rfl, rfl, rfl⟩ rfl rfl rfl rfl rfl (by kernel_rfl) Try.func7 (by kernel_rfl)
    (of_decide_eq_true (by kernel_rfl)) (by unfold Func.isWrapper; first | (rw [if_pos (by decide +kernel)]; kernel_rfl) | (rw [if_neg (by decide +kernel)]; exact ⟨rfl, rfl⟩))
    (fun os started H enc _ => lifted os started H enc)
theorem proved : Rows.InternFullSaid := over
end Go.Proofs.Ytmeomfnnachkoaa.internFull
namespace Go.Proofs.Ytmeomfnnachkoaa
/-- THE STATEMENT. -/
theorem internFull_holds : Rows.InternFullSaid := internFull.proved
#print axioms internFull_holds
end Go.Proofs.Ytmeomfnnachkoaa
