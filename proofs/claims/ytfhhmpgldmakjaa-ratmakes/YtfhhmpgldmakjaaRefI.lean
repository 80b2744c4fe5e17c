/- The document's rational numbers: whole ones. -/
import Derived.Test.YtfhhmpgldmakjaaRefU
namespace Go.Proofs.Ytfhhmpgldmakjaa.RefI
open Go.RowKit Mem LimbNum Limb1 Limb2 RefL RefA BitMul BitDiv RGcd Words RatL RefR RefT RefU

theorem radd_nb (x y : Nat) (o1 o2 : Option Addr) (c1 c2 : Nat) (w : World) (h1 : Lies w o1 c1 (bools (nb x))) (h2 : Lies w o2 c2 (bools (nb y))) (hl1 : (nb x).length ≤ 1073741824) (hl2 : (nb y).length ≤ 1073741824) :
    Calls Try.prog 59 #[.slice o1 (nb x).length c1, .slice o2 (nb y).length c2] w fun e w' => ∃ ao cap, e = .returned (.slice ao (nb (x + y)).length cap) ∧ w'.ownsRow w.heap.size 4 1 (.slice ao (nb (x + y)).length cap) (nb (x + y)).length (bools (nb (x + y))) ∧ Below w.heap.size w w' :=
  radd_core (nb x) (nb y) (x + y) (by unfold Hid; rw [fromL_nb, fromL_nb]) o1 o2 c1 c2 w h1 h2 hl1 hl2
set_option maxRecDepth 20000 in
set_option maxHeartbeats 1000000 in
theorem rint_any (i : Int) (w : World) (h0 : -9223372036854775808 ≤ i) (h1 : i ≤ 9223372036854775807) :
    Calls Try.prog 18 #[.int .i64 i] w fun e w' => ∃ v, e = .returned v ∧ IsRef w' v (decide (i < 0)) i.natAbs 1 ∧ Below w.heap.size w w' := by
  have hb0 : Below w.heap.size w (w.alloc (.cells #[.bool false, .slice none 0 0, .slice none 0 0] 38)) := (Below.refl _ _).alloc (Nat.le_refl _) _
  have cW1 := fun (W : World) => rword_any 1 W (by omega)
  have e1 : (((1 : Nat) : Int)) = 1 := rfl
  rw [e1] at cW1
  have l1 : (nb 1).length ≤ 64 := nb_lt 64 1 (by omega)
  have t1 : True := trivial
  have t2 : True := trivial
  by_cases hi : i < 0
  · have cW2 := fun (W : World) => rword_any ((-(i + 1)).toNat) W (by omega)
    have l2 : (nb ((-(i + 1)).toNat)).length ≤ 64 := nb_lt 64 _ (by omega)
    have e2 : (((-(i + 1)).toNat : Nat) : Int) = -(i + 1) := by omega
    rw [e2] at cW2
    have e3 : (-(i + 1)).toNat + 1 = i.natAbs := by omega
    have cA := fun (W : World) (o o' : Option Addr) (c c' : Nat) (h : Lies W o c (bools (nb ((-(i + 1)).toNat)))) (h' : Lies W o' c' (bools (nb 1))) => radd_nb ((-(i + 1)).toNat) 1 o o' c c' W h h' (by omega) (by omega)
    rw [e3] at cA
    rw [decide_eq_true hi]
    generalize (-(i + 1)).toNat = U at *
    clear e1 e2 e3 l1 l2
    generalize i.natAbs = n at *
    go_enter Try.func18, Try.ntmps18
    go_wp2_with (first
      | (go_at_call 60; have _t := t1; clear _t t1; refine (cW2 _).mono ?_; rintro e w1 ⟨o5, c5, rfl, hown5, hb1⟩)
      | (go_at_call 60; have _t := t2; clear _t t2; refine (cW1 _).mono ?_; rintro e w2 ⟨o6, c6, rfl, hown6, hb2⟩)
      | (go_at_call 59; refine (cA _ _ _ _ _ (lies_of_owns (keep hown5 hb2)) (lies_of_owns hown6)).mono ?_; rintro e w3 ⟨o7, c7, rfl, hown7, hb3⟩)
      | (go_at_call 60; refine (cW1 _).mono ?_; rintro e w4 ⟨o8, c8, rfl, hown8, hb4⟩; have k1 := box_kept (box3_new w _ _ _) (bt (bt (bt hb1 hb2) hb3) hb4) (by simp); obtain ⟨d0, d1, d2⟩ := box3_cells k1; have ff := box3F k1))
    have k2 := box3_set k1 (.bool true) (.slice o7 (nb n).length c7) (.slice o8 (nb 1).length c8)
    have hB := box3_below (bt (bt (bt (bt hb0 hb1) hb2) hb3) hb4) (Nat.le_refl _) (.bool true) (.slice o7 (nb n).length c7) (.slice o8 (nb 1).length c8)
    have hW := set3_off w4 w.heap.size (.bool true) (.slice o7 (nb n).length c7) (.slice o8 (nb 1).length c8)
    have q1 := own_off (owns_base (keep hown7 hb4) (Nat.zero_le _)) k1 (by decide) hW
    have q2 := own_off (owns_base hown8 (Nat.zero_le _)) k1 (by decide) hW
    generalize World.setCell _ _ _ = W' at *
    obtain ⟨y0, y1, y2⟩ := box3_cells k2
    refine bodyPost_ret (v := .agg #[.bool true, .slice o7 (nb n).length c7, .slice o8 (nb 1).length c8]) ?_ rfl ?_
    · simp [results, go_sem, y0, y1, y2]
    · exact ⟨_, rfl, ⟨_, _, _, _, rfl, q1, q2⟩, hB⟩
  · have cW2 := fun (W : World) => rword_any i.natAbs W (by omega)
    have e2 : ((i.natAbs : Nat) : Int) = i := by omega
    rw [e2] at cW2
    rw [decide_eq_false hi]
    clear e1 e2 l1
    generalize i.natAbs = n at *
    go_enter Try.func18, Try.ntmps18
    go_wp2_with (first
      | (go_at_call 60; have _t := t1; clear _t t1; refine (cW2 _).mono ?_; rintro e w1 ⟨o7, c7, rfl, hown7, hb1⟩)
      | (go_at_call 60; refine (cW1 _).mono ?_; rintro e w4 ⟨o8, c8, rfl, hown8, hb4⟩; have k1 := box_kept (box3_new w _ _ _) (bt hb1 hb4) (by simp); obtain ⟨d0, d1, d2⟩ := box3_cells k1; have ff := box3F k1))
    have k2 := box3_set k1 (.bool false) (.slice o7 (nb n).length c7) (.slice o8 (nb 1).length c8)
    have hB := box3_below (bt (bt hb0 hb1) hb4) (Nat.le_refl _) (.bool false) (.slice o7 (nb n).length c7) (.slice o8 (nb 1).length c8)
    have hW := set3_off w4 w.heap.size (.bool false) (.slice o7 (nb n).length c7) (.slice o8 (nb 1).length c8)
    have q1 := own_off (owns_base (keep hown7 hb4) (Nat.zero_le _)) k1 (by decide) hW
    have q2 := own_off (owns_base hown8 (Nat.zero_le _)) k1 (by decide) hW
    generalize World.setCell _ _ _ = W' at *
    obtain ⟨y0, y1, y2⟩ := box3_cells k2
    refine bodyPost_ret (v := .agg #[.bool false, .slice o7 (nb n).length c7, .slice o8 (nb 1).length c8]) ?_ rfl ?_
    · simp [results, go_sem, y0, y1, y2]
    · exact ⟨_, rfl, ⟨_, _, _, _, rfl, q1, q2⟩, hB⟩
end Go.Proofs.Ytfhhmpgldmakjaa.RefI
