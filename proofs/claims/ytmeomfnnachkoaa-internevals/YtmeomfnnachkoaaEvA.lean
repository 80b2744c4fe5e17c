/- The truth of a node of a table. -/
import Derived.Test.YtmeomfnnachkoaaEvL
namespace Go.Proofs.Ytmeomfnnachkoaa.EvA
open Go.RowKit Go.Maps Mem NdNum TabL NumL DoL DoA PlayL MeanN EvL

theorem ev_take (V : List Bool) {N : List Nd} {i : Nat} (h : i < N.length + 2) : at0 (truths V ((full N).take (i + 1))) (i : Int) = ev V N (i : Int) := by
  obtain ⟨X, hX⟩ := truths_pre V ((full N).take (i + 1)) ((full N).drop (i + 1))
  rw [List.take_append_drop] at hX
  unfold ev
  rw [hX, at0_pre (by rw [truths_len, List.length_take, full_length]; omega)]
/-- The row of truths so far. -/
def row (V : List Bool) (N : List Nd) (k m : Nat) : List Bool := truths V ((full N).take k) ++ List.replicate m false
theorem row_len (V : List Bool) {N : List Nd} {k m : Nat} (h : k ≤ N.length + 2) : (row V N k m).length = k + m := by
  unfold row; rw [List.length_append, truths_len, List.length_take, full_length, List.length_replicate]; omega
theorem row_next (V : List Bool) {N : List Nd} (hi : InForm N) {k m : Nat} (h : k < N.length + 2) : ((row V N k (m + 1)).map Value.bool).set k (.bool (truthN V (row V N k (m + 1)) (nd N k))) = (row V N (k + 1) m).map Value.bool := by
  have e : (full N)[k]? = some (nd N k) := by
    unfold nd
    rw [List.getElem?_eq_getElem (by rw [full_length]; exact h)]
    rfl
  have hl : (truths V ((full N).take k)).length = k := by rw [truths_len, List.length_take, full_length]; omega
  have et : truthN V (row V N k (m + 1)) (nd N k) = truthN V (truths V ((full N).take k)) (nd N k) := by
    rcases Nat.eq_zero_or_pos k with rfl | hp
    · rw [nd_zero]; rfl
    · unfold row
      exact truthN_pre (by rw [hl]; exact ahead_of hi h) (by omega)
  rw [et, ← List.map_set]
  congr 1
  unfold row
  rw [List.take_add_one, e]
  show _ = truths V ((full N).take k ++ [nd N k]) ++ _
  rw [truths_snoc, List.replicate_succ, List.set_append_right _ _ (by omega), hl, Nat.sub_self]
  simp
theorem parts_in {N : List Nd} (hi : InForm N) {k : Nat} (h : k < N.length + 2) :
    ((nd N k).1 = 3 → 0 ≤ (nd N k).2.1) ∧ ((nd N k).1 = 4 → 0 ≤ (nd N k).2.1 ∧ (nd N k).2.1 < (k : Int)) ∧ ((nd N k).1 = 5 ∨ (nd N k).1 = 6 → (0 ≤ (nd N k).2.1 ∧ (nd N k).2.1 < (k : Int)) ∧ (0 ≤ (nd N k).2.2 ∧ (nd N k).2.2 < (k : Int))) := by
  rcases Nat.lt_or_ge k 2 with h2 | h2
  · rcases (show k = 0 ∨ k = 1 by omega) with rfl | rfl
    · rw [nd_zero]; simp
    · rw [nd_one]; simp
  · have hf := hi.fine k h2 h
    unfold Fine at hf
    omega
set_option maxRecDepth 20000 in
set_option maxHeartbeats 1000000 in
theorem eval_any {w : World} {g r m : Nat} {N : List Nd} (h : Tab w g r m N) (i : Int) (V : List Bool) (vo : Option Addr) (vc : Nat) (hV : Lies w vo vc (V.map Value.bool)) :
    Calls Try.prog 14 #[.pointer (some ⟨g, 0, none⟩), .int .i64 i, .slice vo V.length vc] w fun e w' => e = .returned (.tuple #[.bool (hasN N i && ev V N i), .bool (hasN N i)]) ∧ Below w.heap.size w w' := by
  obtain ⟨i0, hi0, hz0, hz1, hz2⟩ := info_parts infoB
  have cH := has_any h i
  by_cases ha : hasN N i = true
  · rw [ha] at cH ⊢
    have h1 := hasN_iff.1 ha
    obtain ⟨I, rfl⟩ : ∃ I : Nat, i = (I : Int) := ⟨i.toNat, by omega⟩
    have hI : I < N.length + 2 := by omega
    have hl := h.1.len
    have hI2 : I ≤ 20000 := by omega
    obtain ⟨y, ey⟩ : ∃ y, (true && ev V N (I : Int)) = y := ⟨_, rfl⟩
    rw [ey]
    have EY : Hid (at0 (truths V ((full N).take (I + 1))) (I : Int) = y) := by unfold Hid; rw [ev_take V hI, ← ey]; rfl
    have HT : Hid (Tab w g r m N) := h
    have HV : Hid (Lies w vo vc (V.map Value.bool)) := hV
    have HI : Hid (I < N.length + 2) := hI
    clear h1 ha h hV ey hI hl
    generalize hVL : V.length = VL at *
    go_enter Try.func14, Try.ntmps14
    go_wp2_with (first
      | (go_at_call 23; refine cH.mono ?_; rintro e w1 ⟨rfl, hw1⟩; have hw2 := hw1.symm; clear hw1; subst hw2)
      | (at_make; refine wpList_make_full _ rfl _ _ 37 rfl w.heap.size 4 i0 (.bool false) 1 Try.underlying37 hi0 hz0 hz1 .i64 .i64 ((I : Int) + 1) ((I : Int) + 1) (I + 1) rfl rfl (by simp) (by simp) (by rw [hz2]; omega) (by unfold maxLen; omega) (Nat.le_refl _) ?_; intro w2 hown2 hgr2))
    have hb2 : Below w.heap.size w w2 := (Below.refl _ w).grown hgr2 (Nat.le_refl _) (by simp)
    rw [Nat.mul_one] at hown2
    have e0 : (madeCells (Value.bool false).cells (I + 1)).toList = (row V N 0 (I + 1)).map Value.bool := by
      rw [show (madeCells (Value.bool false).cells (I + 1)).toList = List.replicate (I + 1) (.bool false) from toList_madeCells_one _ _]
      unfold row
      simp [truths_nil]
    rw [e0] at hown2
    clear hgr2 cH e0
    have hs2 := (hown2.lt _ rfl).2
    generalize hgg : w.heap.size = c at *
    go_loopw [19] (fun iv wr => ∃ k : Nat, k ≤ I + 1 ∧ iv = .int .i64 k ∧ Hid (wr.ownsRow c 4 1 (.slice (some ⟨c, 0, none⟩) (I + 1) (I + 1)) (I + 1) ((row V N k (I + 1 - k)).map Value.bool)) ∧ Hid (Below c w wr) ∧ Hid (c < wr.heap.size)) (fun iv _ => I + 1 - (intOf iv).toNat)
    case atStart => exact ⟨0, Nat.zero_le _, rfl, hown2, hb2, hs2⟩
    case round =>
      clear hown2 hb2 hs2
      obtain ⟨k, hk, rfl, HO, HB, HS⟩ := hrel
      by_cases hlt : k < I + 1
      · have hkN : k < N.length + 2 := by have := HI.out; omega
        have hbw : Below w.heap.size w wr := by rw [hgg]; exact HB.out
        have cN := node_any (HT.out.below hbw) (k : Int) (hasN_iff.2 (by omega))
        have en : ((k : Int)).toNat = k := by omega
        rw [en] at cN
        have hform := HT.out.1
        obtain ⟨p3, p4, p5⟩ := parts_in hform hkN
        obtain ⟨d, hd⟩ : ∃ d, I + 1 - k = d + 1 := ⟨I - k, by omega⟩
        rw [hd] at HO
        have hrl := row_len V (N := N) (k := k) (m := d + 1) (by omega)
        have cT := fun (W : World) (hb : Below wr.heap.size wr W) => truth_any (nd N k) (row V N k (d + 1)) V (some ⟨c, 0, none⟩) vo (I + 1) vc W (lies_of_owns (keep HO.out hb)) ((HV.out.below hbw (by omega)).below hb (Nat.le_refl _)) p3 (fun h => ⟨(p4 h).1, by rw [hrl]; have := (p4 h).2; omega⟩) (fun h => ⟨⟨(p5 h).1.1, by rw [hrl]; have := (p5 h).1.2; omega⟩, (p5 h).2.1, by rw [hrl]; have := (p5 h).2.2; omega⟩)
        rw [hrl, show k + (d + 1) = I + 1 by omega, hVL] at cT
        have EN : Hid (((row V N k (d + 1)).map Value.bool).set k (.bool (truthN V (row V N k (d + 1)) (nd N k))) = (row V N (k + 1) d).map Value.bool) := row_next V hform hkN
        have EL : Hid (((row V N k (d + 1)).map Value.bool).length = I + 1) := by unfold Hid; rw [List.length_map, hrl]; omega
        have ED : Hid (I + 1 - (k + 1) = d) := by unfold Hid; omega
        generalize (row V N k (d + 1)).map Value.bool = RV at *
        generalize truthN V (row V N k (d + 1)) (nd N k) = tv at *
        generalize nd N k = n at *
        unfold node at cN cT
        clear en p3 p4 p5 hform hrl hd hbw hkN
        go_wp2_with (first
          | (go_at_call 20; refine cN.mono ?_; rintro e w4 ⟨rfl, hw4⟩)
          | (go_at_call 24; refine (cT _ hw4).mono ?_; rintro e w5 ⟨rfl, hw5⟩; have ro := keep (keep HO.out hw4) hw5; obtain ⟨x0, hx0⟩ : ∃ x, w5.cell? ⟨c, k, none⟩ = some x := ⟨RV[k]'(by have := EL.out; omega), by rw [ro.cellAt k (by omega), List.getElem?_eq_getElem (by have := EL.out; omega)]⟩; have fz := ro.frozenAt))
        go_roundw
        case rel =>
          have ro2 := (ro.stored k (.bool tv)).1
          rw [EN.out] at ro2
          have s1 := hw4.size
          have s2 := hw5.size
          have s3 := HS.out
          have b5 := (HB.out.trans (hw4.mono (by omega))).trans (hw5.mono (by omega))
          refine ⟨k + 1, by omega, by simp, ?_, b5.setCell (by show c ≤ c; omega) _, ?_⟩
          · unfold Hid; rw [ED.out]; exact ro2
          · show c < _
            simp [World.setCell]
            omega
        case measure => simp [intOf]; omega
      · obtain rfl : k = I + 1 := by omega
        rw [Nat.sub_self] at HO
        have ho := HO.out
        have hl2 : (row V N (I + 1) 0).length = I + 1 := by rw [row_len V (by have := HI.out; omega)]
        obtain ⟨b9, off9, e9, c9⟩ := at_bool (lies_of_owns ho) (i := I) (by omega)
        simp only [Option.some.injEq, Addr.mk.injEq, and_true] at e9
        obtain ⟨rfl, rfl⟩ := e9
        rw [Nat.zero_add] at c9
        have e8 : row V N (I + 1) 0 = truths V ((full N).take (I + 1)) := by unfold row; simp
        rw [e8, EY.out] at c9
        clear ho hl2 e8
        go_wp2
        go_ret2
        subst hgg
        exact ⟨rfl, HB.out⟩
  · have h0 : hasN N i = false := by simpa using ha
    rw [h0] at cH ⊢
    clear ha h0 hV
    generalize V.length = VL at *
    go_enter Try.func14, Try.ntmps14
    go_wp2_with (go_at_call 23; refine cH.mono ?_; rintro e w1 ⟨rfl, hw1⟩; have hw2 := hw1.symm; clear hw1; subst hw2)
    go_ret2
    exact ⟨rfl, Below.refl _ _⟩
end Go.Proofs.Ytmeomfnnachkoaa.EvA
