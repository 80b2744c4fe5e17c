/- The document's answer for one operation. -/
import Derived.Test.YtmeomfnnachkoaaRefN
import Derived.Deep.CutRange
namespace Go.Proofs.Ytmeomfnnachkoaa.RefD
open Go.RowKit Go.Maps Mem NdNum TabL NumL DoL DoA PlayL RefN

theorem gone_after {w w1 w' : World} {b : Nat} {N : List Nd} {v : Value} (hb : Below w.heap.size w w1) (h : Gone b N w1 w' v) : Gone b N w w' v := by
  obtain ⟨b', c', e, hl, hg, hw⟩ := h
  refine ⟨b', c', e, hl, ⟨hg.os.trans hb.os, hg.tape.trans hb.tape, hg.output.trans hb.output, Nat.le_trans hb.size hg.size, fun k hk hne => ?_⟩, ?_⟩
  · rw [hg.block k (Nat.lt_of_lt_of_le hk hb.size) hne]; exact hb.block k hk
  · rcases hw with h | h
    · exact .inl h
    · exact .inr (Nat.le_trans hb.size h)
theorem kind_from2 {N : List Nd} (hi : InForm N) {i : Nat} (h2 : 2 ≤ i) (h : i < N.length + 2) : (nd N i).1 ≠ 1 ∧ (nd N i).1 ≠ 2 := by
  have hf := hi.fine i h2 h
  unfold Fine at hf
  omega
set_option maxRecDepth 20000 in
set_option maxHeartbeats 2000000 in
theorem refdo_any {w : World} {b c : Nat} {N : List Nd} (h : Lst w b c N) (op : Nd) (hw : Wf op) :
    Calls Try.prog 22 #[.slice (some ⟨b, 0, none⟩) (N.length + 2) c, node op] w fun e w' => ∃ v, e = .returned (.tuple #[v, .int .i64 ((doN N op).2.getD (-1))]) ∧ Gone b (doN N op).1 w w' v := by
  have hi := inForm_do h.1 hw
  obtain ⟨k, x, y⟩ := op
  obtain ⟨w1, w2, w3⟩ := hw
  simp only at w1 w2 w3
  obtain ⟨W0, eW0⟩ : ∃ W0, w.alloc (.cells #[.int .i64 k, .int .i64 x, .int .i64 y] 34) = W0 := ⟨_, rfl⟩
  have B0 : Below w.heap.size w W0 := by rw [← eW0]; exact (Below.refl _ w).alloc (Nat.le_refl _) _
  have k0 : W0.heap[w.heap.size]? = some (.cells #[.int .i64 k, .int .i64 x, .int .i64 y] 34) := by rw [← eW0]; exact heap_alloc_new w _
  have lt0 := heap_lt k0
  obtain ⟨d0, d1, d2⟩ := cells3 k0
  have h' := h.below B0
  have hlen := h.1.len
  obtain ⟨M, eM⟩ : ∃ M : Nat, N.length + 2 = M := ⟨_, rfl⟩
  have HM : Hid (N.length + 2 = M) := eM
  have hM : M ≤ 20000 := by omega
  have HB0 : Hid (Below w.heap.size w W0) := B0
  have HL : Hid (Lst W0 b c N) := h'
  have FIN : Hid (Gone b N w W0 (.slice (some ⟨b, 0, none⟩) M c)) := by unfold Hid; rw [← eM]; exact gone_same h B0
  have FIN2 : Hid (Gone b N w W0.drew (.slice (some ⟨b, 0, none⟩) M c)) := by unfold Hid; rw [← eM]; exact gone_same h B0.drew
  obtain ⟨P, eP⟩ : ∃ P, doN N (k, x, y) = P := ⟨_, rfl⟩
  rw [eP] at hi ⊢
  have HI : Hid (InForm P.1) := hi
  have HP : Hid (doN N (k, x, y) = P) := eP
  rw [eM]
  clear k0 B0 h eM hlen hi eP h'
  unfold node
  go_enter Try.func22, Try.ntmps22
  go_upto_region 1 with fail
  go_cut [6] from 9 to 18 (fun v6 wx => v6 = .bool (hasN N x) ∧ wx = W0)
  case first =>
    rcases (show x < 0 ∨ (0 ≤ x ∧ x < (M : Int)) ∨ (0 ≤ x ∧ ¬ x < (M : Int)) by omega) with q | ⟨q1, q2⟩ | ⟨q1, q2⟩
    · have e1 : hasN N x = false := by simp [hasN]; omega
      go_wp2
      go_meet
      exact ⟨by rw [e1], rfl⟩
    · have e1 : hasN N x = true := by rw [hasN_iff]; have := HM.out; omega
      go_wp2
      go_meet
      exact ⟨by rw [e1], rfl⟩
    · have e1 : hasN N x = false := by simp [hasN]; have := HM.out; omega
      go_wp2
      go_meet
      exact ⟨by rw [e1], rfl⟩
  case rest =>
  obtain ⟨rfl, hw0⟩ := hcut
  have hw1 := hw0.symm
  clear hw0
  subst hw1
  go_upto_region 2 with fail
  go_cut [7] from 19 to 28 (fun v6 wx => v6 = .bool (hasN N y) ∧ wx = W0)
  case first =>
    rcases (show y < 0 ∨ (0 ≤ y ∧ y < (M : Int)) ∨ (0 ≤ y ∧ ¬ y < (M : Int)) by omega) with q | ⟨q1, q2⟩ | ⟨q1, q2⟩
    · have e1 : hasN N y = false := by simp [hasN]; omega
      go_wp2
      go_meet
      exact ⟨by rw [e1], rfl⟩
    · have e1 : hasN N y = true := by rw [hasN_iff]; have := HM.out; omega
      go_wp2
      go_meet
      exact ⟨by rw [e1], rfl⟩
    · have e1 : hasN N y = false := by simp [hasN]; have := HM.out; omega
      go_wp2
      go_meet
      exact ⟨by rw [e1], rfl⟩
  case rest =>
  obtain ⟨rfl, hw0⟩ := hcut
  have hw1 := hw0.symm
  clear hw0
  subst hw1
  by_cases k1 : k = 1
  · subst k1
    obtain rfl : P = (N, some 0) := HP.out.symm.trans (by simp [doN])
    go_wp2
    go_ret2
    exact ⟨_, rfl, FIN.out⟩
  by_cases k2 : k = 2
  · subst k2
    obtain rfl : P = (N, some 1) := HP.out.symm.trans (by simp [doN])
    go_wp2
    go_ret2
    exact ⟨_, rfl, FIN.out⟩
  by_cases k3 : k = 3
  · subst k3
    by_cases hx : x < 0
    · obtain rfl : P = (N, none) := HP.out.symm.trans (by simp [doN, hx])
      go_wp2
      go_ret2
      exact ⟨_, rfl, FIN.out⟩
    · have eP : num N (3, x, 0) = P := Eq.symm <| HP.out.symm.trans (by simp [doN, hx])
      have cF := find_any HL.out (3, x, 0) ⟨rfl, w2, rfl⟩ (by show (3 : Int) ≤ _; omega) (by rw [eP]; exact HI.out)
      rw [HM.out, eP] at cF
      unfold node at cF
      have hx' : 0 ≤ x := by omega
      clear hx
      clear eP
      go_wp2_with (go_at_call 30; refine cF.mono ?_; rintro e w9 ⟨v9, rfl, hg⟩)
      go_ret2
      exact ⟨_, rfl, gone_after HB0.out hg⟩
  by_cases k4 : k = 4
  · subst k4
    by_cases hx : hasN N x = true
    · have hx1 := hasN_iff.1 hx
      have hMo := HM.out
      rw [hx]
      obtain ⟨i, ei⟩ : ∃ i : Nat, x = (i : Int) := ⟨x.toNat, by omega⟩
      subst ei
      have hiM : i < M := by omega
      have hiN : i < N.length + 2 := by omega
      by_cases hi2 : i < 2
      · obtain rfl : P = (N, some (1 - (i : Int))) := HP.out.symm.trans (by
          rcases (show i = 0 ∨ i = 1 by omega) with rfl | rfl
          · simp [doN, notN, hasN, nd_zero]; omega
          · simp [doN, notN, hasN, nd_one]; omega)
        clear hMo hx1
        go_wp2
        go_region
        go_wp2
        go_ret2
        exact ⟨_, rfl, FIN2.out⟩
      · obtain ⟨n1, n2⟩ := kind_from2 HL.out.1 (by omega) hiN
        obtain ⟨r0, r1, r2⟩ := row_at HL.out.2 rfl hiN
        obtain ⟨n, en⟩ : ∃ n, nd N i = n := ⟨_, rfl⟩
        rw [en] at r0 r1 r2 n1 n2
        by_cases n4 : n.1 = 4
        · obtain rfl : P = (N, some n.2.1) := HP.out.symm.trans (by simp [doN, notN, hx, en, n4])
          clear hMo hx1 n1 n2
          clear en
          go_wp2
          go_region
          go_wp2
          go_ret2
          exact ⟨_, rfl, FIN2.out⟩
        · have eP : num N (4, i, 0) = P := Eq.symm <| HP.out.symm.trans (by simp [doN, notN, hx, en, n4, n1, n2])
          have b4 : (n.1 == 4) = false := by simpa using n4
          have cF := find_any HL.out (4, i, 0) ⟨rfl, w2, rfl⟩ (by show (3 : Int) ≤ _; omega) (by rw [eP]; exact HI.out)
          rw [HM.out, eP] at cF
          unfold node at cF
          clear hMo hx1 n1 n2
          clear en
          clear eP
          go_wp2_with (go_at_call 30; refine cF.mono ?_; rintro e w9 ⟨v9, rfl, hg⟩)
          go_ret2
          exact ⟨_, rfl, gone_after HB0.out hg⟩
    · have hx0 : hasN N x = false := by simpa using hx
      obtain rfl : P = (N, none) := HP.out.symm.trans (by simp [doN, notN, hx0])
      rw [hx0]
      go_wp2
      go_ret2
      exact ⟨_, rfl, FIN.out⟩
  by_cases k5 : k = 5
  · subst k5
    have eD : doN N (5, x, y) = pairN N 5 x y 0 1 := by simp [doN]
    have HP2 : Hid (pairN N 5 x y 0 1 = P) := eD.symm.trans HP.out
    clear HP eD
    by_cases hx : hasN N x = false
    · obtain rfl : P = (N, none) := HP2.out.symm.trans (by simp [pairN, hx])
      rw [hx]
      go_wp2
      go_ret2
      exact ⟨_, rfl, FIN.out⟩
    simp only [Bool.not_eq_false] at hx
    by_cases hy : hasN N y = false
    · obtain rfl : P = (N, none) := HP2.out.symm.trans (by simp [pairN, hy])
      rw [hx]
      rw [hy]
      go_wp2
      go_ret2
      exact ⟨_, rfl, FIN.out⟩
    simp only [Bool.not_eq_false] at hy
    rw [hx, hy]
    have cN1 := refnot_any HL.out x y hx
    have cN2 := refnot_any HL.out y x hy
    rw [HM.out] at cN1 cN2
    have t1 : True := trivial
    by_cases c0 : x = 0
    · obtain rfl : P = (N, some 0) := HP2.out.symm.trans (by unfold pairN; rw [if_neg (by simp [hx, hy]), if_pos (by simp [c0])])
      have b0 : (x == 0) = true := by simpa using c0
      clear c0
      clear HP2
      go_wp2_with (first
      | (go_at_call 31; have _t := t1; clear _t t1; refine cN1.mono ?_; rintro e w8 ⟨rfl, hw8⟩; subst hw8)
      | (go_at_call 31; refine cN2.mono ?_; rintro e w8 ⟨rfl, hw8⟩; subst hw8))
      go_ret2
      exact ⟨_, rfl, FIN.out⟩
    have b0 : (x == 0) = false := by simpa using c0
    by_cases c1 : y = 0
    · obtain rfl : P = (N, some 0) := HP2.out.symm.trans (by unfold pairN; rw [if_neg (by simp [hx, hy]), if_pos (by simp [c1])])
      have b1 : (y == 0) = true := by simpa using c1
      clear c1
      clear HP2
      go_wp2_with (first
      | (go_at_call 31; have _t := t1; clear _t t1; refine cN1.mono ?_; rintro e w8 ⟨rfl, hw8⟩; subst hw8)
      | (go_at_call 31; refine cN2.mono ?_; rintro e w8 ⟨rfl, hw8⟩; subst hw8))
      go_ret2
      exact ⟨_, rfl, FIN.out⟩
    have b1 : (y == 0) = false := by simpa using c1
    by_cases c2 : isNotN N x y = true
    · obtain rfl : P = (N, some 0) := HP2.out.symm.trans (by unfold pairN; rw [if_neg (by simp [hx, hy]), if_pos (by simp [c2])])
      rw [c2] at cN1
      clear c2
      clear HP2
      go_wp2_with (first
      | (go_at_call 31; have _t := t1; clear _t t1; refine cN1.mono ?_; rintro e w8 ⟨rfl, hw8⟩; subst hw8)
      | (go_at_call 31; refine cN2.mono ?_; rintro e w8 ⟨rfl, hw8⟩; subst hw8))
      go_ret2
      exact ⟨_, rfl, FIN.out⟩
    rw [show isNotN N x y = false by simpa using c2] at cN1
    by_cases c3 : isNotN N y x = true
    · obtain rfl : P = (N, some 0) := HP2.out.symm.trans (by unfold pairN; rw [if_neg (by simp [hx, hy]), if_pos (by simp [c3])])
      rw [c3] at cN2
      clear c3
      clear HP2
      go_wp2_with (first
      | (go_at_call 31; have _t := t1; clear _t t1; refine cN1.mono ?_; rintro e w8 ⟨rfl, hw8⟩; subst hw8)
      | (go_at_call 31; refine cN2.mono ?_; rintro e w8 ⟨rfl, hw8⟩; subst hw8))
      go_ret2
      exact ⟨_, rfl, FIN.out⟩
    rw [show isNotN N y x = false by simpa using c3] at cN2
    by_cases c4 : x = 1
    · obtain rfl : P = (N, some y) := HP2.out.symm.trans (by unfold pairN; rw [if_neg (by simp [hx, hy]), if_neg (by simp only [not_or]; exact ⟨c0, c1, c2, c3⟩), if_pos (.inl c4)])
      have b4 : (x == 1) = true := by simpa using c4
      clear c0 c1 c2 c3 c4
      clear HP2
      go_wp2_with (first
      | (go_at_call 31; have _t := t1; clear _t t1; refine cN1.mono ?_; rintro e w8 ⟨rfl, hw8⟩; subst hw8)
      | (go_at_call 31; refine cN2.mono ?_; rintro e w8 ⟨rfl, hw8⟩; subst hw8))
      go_region
      go_wp2
      go_ret2
      exact ⟨_, rfl, FIN2.out⟩
    have b4 : (x == 1) = false := by simpa using c4
    by_cases c5 : x = y
    · obtain rfl : P = (N, some y) := HP2.out.symm.trans (by unfold pairN; rw [if_neg (by simp [hx, hy]), if_neg (by simp only [not_or]; exact ⟨c0, c1, c2, c3⟩), if_pos (.inr c5)])
      have b5 : (x == y) = true := by simpa using c5
      clear c0 c1 c2 c3 c4 c5
      clear HP2
      go_wp2_with (first
      | (go_at_call 31; have _t := t1; clear _t t1; refine cN1.mono ?_; rintro e w8 ⟨rfl, hw8⟩; subst hw8)
      | (go_at_call 31; refine cN2.mono ?_; rintro e w8 ⟨rfl, hw8⟩; subst hw8))
      go_region
      go_wp2
      go_ret2
      exact ⟨_, rfl, FIN2.out⟩
    have b5 : (x == y) = false := by simpa using c5
    by_cases c6 : y = 1
    · obtain rfl : P = (N, some x) := HP2.out.symm.trans (by unfold pairN; rw [if_neg (by simp [hx, hy]), if_neg (by simp only [not_or]; exact ⟨c0, c1, c2, c3⟩), if_neg (by simp only [not_or]; exact ⟨c4, c5⟩), if_pos c6])
      have b6 : (y == 1) = true := by simpa using c6
      clear c0 c1 c2 c3 c4 c5 c6
      clear HP2
      go_wp2_with (first
      | (go_at_call 31; have _t := t1; clear _t t1; refine cN1.mono ?_; rintro e w8 ⟨rfl, hw8⟩; subst hw8)
      | (go_at_call 31; refine cN2.mono ?_; rintro e w8 ⟨rfl, hw8⟩; subst hw8))
      go_region
      go_wp2
      go_ret2
      exact ⟨_, rfl, FIN2.out⟩
    have b6 : (y == 1) = false := by simpa using c6
    have eP : num N (5, min x y, max x y) = P := Eq.symm <| HP2.out.symm.trans (by unfold pairN; rw [if_neg (by simp [hx, hy]), if_neg (by simp only [not_or]; exact ⟨c0, c1, c2, c3⟩), if_neg (by simp only [not_or]; exact ⟨c4, c5⟩), if_neg c6])
    have cF := find_any HL.out (5, min x y, max x y) ⟨rfl, by show (Lit.int .i64 (min x y)).wf = true; rcases (show min x y = x ∨ min x y = y by omega) with e | e <;> rw [e] <;> assumption, by show (Lit.int .i64 (max x y)).wf = true; rcases (show max x y = x ∨ max x y = y by omega) with e | e <;> rw [e] <;> assumption⟩ (by show (3 : Int) ≤ _; omega) (by rw [eP]; exact HI.out)
    rw [HM.out, eP] at cF
    unfold node at cF
    simp only at cF
    clear HP2 c0 c1 c2 c3 c4 c5 c6
    clear eP
    go_wp2_with (first
      | (go_at_call 31; have _t := t1; clear _t t1; refine cN1.mono ?_; rintro e w8 ⟨rfl, hw8⟩; subst hw8)
      | (go_at_call 31; refine cN2.mono ?_; rintro e w8 ⟨rfl, hw8⟩; subst hw8)
      | (go_at_call 30; refine cF.mono ?_; rintro e w9 ⟨v9, rfl, hg⟩))
    go_ret2
    exact ⟨_, rfl, gone_after HB0.out hg⟩
  by_cases k6 : k = 6
  · subst k6
    have eD : doN N (6, x, y) = pairN N 6 x y 1 0 := by simp [doN]
    have HP2 : Hid (pairN N 6 x y 1 0 = P) := eD.symm.trans HP.out
    clear HP eD
    by_cases hx : hasN N x = false
    · obtain rfl : P = (N, none) := HP2.out.symm.trans (by simp [pairN, hx])
      rw [hx]
      go_wp2
      go_ret2
      exact ⟨_, rfl, FIN.out⟩
    simp only [Bool.not_eq_false] at hx
    by_cases hy : hasN N y = false
    · obtain rfl : P = (N, none) := HP2.out.symm.trans (by simp [pairN, hy])
      rw [hx]
      rw [hy]
      go_wp2
      go_ret2
      exact ⟨_, rfl, FIN.out⟩
    simp only [Bool.not_eq_false] at hy
    rw [hx, hy]
    have cN1 := refnot_any HL.out x y hx
    have cN2 := refnot_any HL.out y x hy
    rw [HM.out] at cN1 cN2
    have t1 : True := trivial
    by_cases c0 : x = 1
    · obtain rfl : P = (N, some 1) := HP2.out.symm.trans (by unfold pairN; rw [if_neg (by simp [hx, hy]), if_pos (by simp [c0])])
      have b0 : (x == 1) = true := by simpa using c0
      clear c0
      clear HP2
      go_wp2_with (first
      | (go_at_call 31; have _t := t1; clear _t t1; refine cN1.mono ?_; rintro e w8 ⟨rfl, hw8⟩; subst hw8)
      | (go_at_call 31; refine cN2.mono ?_; rintro e w8 ⟨rfl, hw8⟩; subst hw8))
      go_ret2
      exact ⟨_, rfl, FIN.out⟩
    have b0 : (x == 1) = false := by simpa using c0
    by_cases c1 : y = 1
    · obtain rfl : P = (N, some 1) := HP2.out.symm.trans (by unfold pairN; rw [if_neg (by simp [hx, hy]), if_pos (by simp [c1])])
      have b1 : (y == 1) = true := by simpa using c1
      clear c1
      clear HP2
      go_wp2_with (first
      | (go_at_call 31; have _t := t1; clear _t t1; refine cN1.mono ?_; rintro e w8 ⟨rfl, hw8⟩; subst hw8)
      | (go_at_call 31; refine cN2.mono ?_; rintro e w8 ⟨rfl, hw8⟩; subst hw8))
      go_ret2
      exact ⟨_, rfl, FIN.out⟩
    have b1 : (y == 1) = false := by simpa using c1
    by_cases c2 : isNotN N x y = true
    · obtain rfl : P = (N, some 1) := HP2.out.symm.trans (by unfold pairN; rw [if_neg (by simp [hx, hy]), if_pos (by simp [c2])])
      rw [c2] at cN1
      clear c2
      clear HP2
      go_wp2_with (first
      | (go_at_call 31; have _t := t1; clear _t t1; refine cN1.mono ?_; rintro e w8 ⟨rfl, hw8⟩; subst hw8)
      | (go_at_call 31; refine cN2.mono ?_; rintro e w8 ⟨rfl, hw8⟩; subst hw8))
      go_ret2
      exact ⟨_, rfl, FIN.out⟩
    rw [show isNotN N x y = false by simpa using c2] at cN1
    by_cases c3 : isNotN N y x = true
    · obtain rfl : P = (N, some 1) := HP2.out.symm.trans (by unfold pairN; rw [if_neg (by simp [hx, hy]), if_pos (by simp [c3])])
      rw [c3] at cN2
      clear c3
      clear HP2
      go_wp2_with (first
      | (go_at_call 31; have _t := t1; clear _t t1; refine cN1.mono ?_; rintro e w8 ⟨rfl, hw8⟩; subst hw8)
      | (go_at_call 31; refine cN2.mono ?_; rintro e w8 ⟨rfl, hw8⟩; subst hw8))
      go_ret2
      exact ⟨_, rfl, FIN.out⟩
    rw [show isNotN N y x = false by simpa using c3] at cN2
    by_cases c4 : x = 0
    · obtain rfl : P = (N, some y) := HP2.out.symm.trans (by unfold pairN; rw [if_neg (by simp [hx, hy]), if_neg (by simp only [not_or]; exact ⟨c0, c1, c2, c3⟩), if_pos (.inl c4)])
      have b4 : (x == 0) = true := by simpa using c4
      clear c0 c1 c2 c3 c4
      clear HP2
      go_wp2_with (first
      | (go_at_call 31; have _t := t1; clear _t t1; refine cN1.mono ?_; rintro e w8 ⟨rfl, hw8⟩; subst hw8)
      | (go_at_call 31; refine cN2.mono ?_; rintro e w8 ⟨rfl, hw8⟩; subst hw8))
      go_region
      go_wp2
      go_ret2
      exact ⟨_, rfl, FIN2.out⟩
    have b4 : (x == 0) = false := by simpa using c4
    by_cases c5 : x = y
    · obtain rfl : P = (N, some y) := HP2.out.symm.trans (by unfold pairN; rw [if_neg (by simp [hx, hy]), if_neg (by simp only [not_or]; exact ⟨c0, c1, c2, c3⟩), if_pos (.inr c5)])
      have b5 : (x == y) = true := by simpa using c5
      clear c0 c1 c2 c3 c4 c5
      clear HP2
      go_wp2_with (first
      | (go_at_call 31; have _t := t1; clear _t t1; refine cN1.mono ?_; rintro e w8 ⟨rfl, hw8⟩; subst hw8)
      | (go_at_call 31; refine cN2.mono ?_; rintro e w8 ⟨rfl, hw8⟩; subst hw8))
      go_region
      go_wp2
      go_ret2
      exact ⟨_, rfl, FIN2.out⟩
    have b5 : (x == y) = false := by simpa using c5
    by_cases c6 : y = 0
    · obtain rfl : P = (N, some x) := HP2.out.symm.trans (by unfold pairN; rw [if_neg (by simp [hx, hy]), if_neg (by simp only [not_or]; exact ⟨c0, c1, c2, c3⟩), if_neg (by simp only [not_or]; exact ⟨c4, c5⟩), if_pos c6])
      have b6 : (y == 0) = true := by simpa using c6
      clear c0 c1 c2 c3 c4 c5 c6
      clear HP2
      go_wp2_with (first
      | (go_at_call 31; have _t := t1; clear _t t1; refine cN1.mono ?_; rintro e w8 ⟨rfl, hw8⟩; subst hw8)
      | (go_at_call 31; refine cN2.mono ?_; rintro e w8 ⟨rfl, hw8⟩; subst hw8))
      go_region
      go_wp2
      go_ret2
      exact ⟨_, rfl, FIN2.out⟩
    have b6 : (y == 0) = false := by simpa using c6
    have eP : num N (6, min x y, max x y) = P := Eq.symm <| HP2.out.symm.trans (by unfold pairN; rw [if_neg (by simp [hx, hy]), if_neg (by simp only [not_or]; exact ⟨c0, c1, c2, c3⟩), if_neg (by simp only [not_or]; exact ⟨c4, c5⟩), if_neg c6])
    have cF := find_any HL.out (6, min x y, max x y) ⟨rfl, by show (Lit.int .i64 (min x y)).wf = true; rcases (show min x y = x ∨ min x y = y by omega) with e | e <;> rw [e] <;> assumption, by show (Lit.int .i64 (max x y)).wf = true; rcases (show max x y = x ∨ max x y = y by omega) with e | e <;> rw [e] <;> assumption⟩ (by show (3 : Int) ≤ _; omega) (by rw [eP]; exact HI.out)
    rw [HM.out, eP] at cF
    unfold node at cF
    simp only at cF
    clear HP2 c0 c1 c2 c3 c4 c5 c6
    clear eP
    go_wp2_with (first
      | (go_at_call 31; have _t := t1; clear _t t1; refine cN1.mono ?_; rintro e w8 ⟨rfl, hw8⟩; subst hw8)
      | (go_at_call 31; refine cN2.mono ?_; rintro e w8 ⟨rfl, hw8⟩; subst hw8)
      | (go_at_call 30; refine cF.mono ?_; rintro e w9 ⟨v9, rfl, hg⟩))
    go_ret2
    exact ⟨_, rfl, gone_after HB0.out hg⟩
  obtain rfl : P = (N, none) := HP.out.symm.trans (by simp [doN, k1, k2, k3, k4, k5, k6])
  have q1 : (k == 1) = false := by simpa using k1
  have q2 : (k == 2) = false := by simpa using k2
  have q3 : (k == 3) = false := by simpa using k3
  have q4 : (k == 4) = false := by simpa using k4
  have q5 : (k == 5) = false := by simpa using k5
  have q6 : (k == 6) = false := by simpa using k6
  clear k1 k2 k3 k4 k5 k6
  go_wp2
  go_ret2
  exact ⟨_, rfl, FIN.out⟩
end Go.Proofs.Ytmeomfnnachkoaa.RefD
