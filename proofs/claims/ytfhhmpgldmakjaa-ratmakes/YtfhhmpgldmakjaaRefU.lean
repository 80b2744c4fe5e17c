/- The document's rational numbers: products and whole ones. -/
import Derived.Test.YtfhhmpgldmakjaaRefT
namespace Go.Proofs.Ytfhhmpgldmakjaa.RefU
open Go.RowKit Mem LimbNum Limb1 Limb2 RefL RefA BitMul BitDiv RGcd Words RatL RefR RefT

theorem mul_bits (x y k l : Nat) (hx : (nb x).length ≤ k) (hy : (nb y).length ≤ l) : (nb (x * y)).length ≤ k + l := by
  apply nb_lt
  have h1 := fromL_lt (nb x)
  have h2 := fromL_lt (nb y)
  rw [fromL_nb] at h1 h2
  rw [Nat.pow_add]
  exact Nat.mul_lt_mul'' (Nat.lt_of_lt_of_le h1 (Nat.pow_le_pow_right (by omega) hx)) (Nat.lt_of_lt_of_le h2 (Nat.pow_le_pow_right (by omega) hy))
theorem rmul_nb (x y : Nat) (o1 o2 : Option Addr) (c1 c2 : Nat) (w : World) (h1 : Lies w o1 c1 (bools (nb x))) (h2 : Lies w o2 c2 (bools (nb y))) (hl1 : (nb x).length ≤ 100000) (hl2 : (nb y).length ≤ 100000) :
    Calls Try.prog 61 #[.slice o1 (nb x).length c1, .slice o2 (nb y).length c2] w fun e w' => ∃ ao cap, e = .returned (.slice ao (nb (x * y)).length cap) ∧ w'.ownsRow w.heap.size 4 1 (.slice ao (nb (x * y)).length cap) (nb (x * y)).length (bools (nb (x * y))) ∧ Below w.heap.size w w' :=
  rmul_core (nb x) (nb y) (x * y) (by unfold Hid; rw [fromL_nb, fromL_nb]) o1 o2 c1 c2 w h1 h2 (by omega) hl2
set_option maxRecDepth 20000 in
set_option maxHeartbeats 2000000 in
theorem rmul_any (v1 v2 : Value) (b1 b2 : Bool) (n1 d1 n2 d2 : Nat) (w : World) (h1 : IsRef w v1 b1 n1 d1) (h2 : IsRef w v2 b2 n2 d2) (hd1 : d1 ≠ 0) (hd2 : d2 ≠ 0)
    (a1 : (nb n1).length ≤ 100000) (a2 : (nb d1).length ≤ 100000) (a3 : (nb n2).length ≤ 100000) (a4 : (nb d2).length ≤ 100000) :
    Calls Try.prog 19 #[v1, v2] w fun e w' => ∃ v', e = .returned v' ∧ IsRef w' v' ((b1 != b2) && decide (n1 * n2 / Nat.gcd (n1 * n2) (d1 * d2) ≠ 0)) (n1 * n2 / Nat.gcd (n1 * n2) (d1 * d2)) (d1 * d2 / Nat.gcd (n1 * n2) (d1 * d2)) ∧ Below w.heap.size w w' := by
  have cL1 := fun (W : World) (hb : Below w.heap.size w W) => rlow_any v1 b1 n1 d1 W (h1.below hb) hd1
  have cL2 := fun (W : World) (hb : Below w.heap.size w W) => rlow_any v2 b2 n2 d2 W (h2.below hb) hd2
  obtain ⟨o1, c1, o2, c2, rfl, r1, r2⟩ := h1
  obtain ⟨o3, c3, o4, c4, rfl, r3, r4⟩ := h2
  have cM1 := fun (W : World) (hb : Below w.heap.size w W) => rmul_nb n1 n2 o1 o3 c1 c3 W (lies_of_owns (keep r1 hb)) (lies_of_owns (keep r3 hb)) a1 a3
  have cM2 := fun (W : World) (o o' : Option Addr) (c c' : Nat) (h : Lies W o c (bools (nb d1))) (h' : Lies W o' c' (bools (nb d2))) => rmul_nb d1 d2 o o' c c' W h h' a2 a4
  have m1 := mul_bits n1 n2 _ _ a1 a3
  have m2 := mul_bits d1 d2 _ _ a2 a4
  have hdd : d1 * d2 ≠ 0 := fun h => by rcases Nat.mul_eq_zero.1 h with h | h <;> contradiction
  have cO := fun (W : World) (o o' : Option Addr) (c c' : Nat) (h : W.ownsRow 0 4 1 (.slice o (nb (n1 * n2)).length c) (nb (n1 * n2)).length (bools (nb (n1 * n2)))) (h' : W.ownsRow 0 4 1 (.slice o' (nb (d1 * d2)).length c') (nb (d1 * d2)).length (bools (nb (d1 * d2)))) => rof_any (b1 != b2) (n1 * n2) (d1 * d2) o o' c c' W h h' (by omega) (by omega) hdd
  have eb : (b1 != b2) = !(b1 == b2) := rfl
  rw [eb] at cO
  rw [eb]
  generalize ((!(b1 == b2)) && decide (n1 * n2 / Nat.gcd (n1 * n2) (d1 * d2) ≠ 0)) = b3 at *
  generalize n1 * n2 / Nat.gcd (n1 * n2) (d1 * d2) = n at *
  generalize d1 * d2 / Nat.gcd (n1 * n2) (d1 * d2) = d at *
  clear m1 m2 hdd r1 r2 r3 r4 a1 a2 a3 a4 hd1 hd2 eb
  generalize n1 * n2 = N at *
  generalize d1 * d2 = D at *
  obtain ⟨W0, eW0⟩ : ∃ W0 : World, ((w.alloc (box3 (.bool b1) (.slice o1 (nb n1).length c1) (.slice o2 (nb d1).length c2))).alloc (box3 (.bool b2) (.slice o3 (nb n2).length c3) (.slice o4 (nb d2).length c4))).alloc (box3 (.bool false) (.slice none 0 0) (.slice none 0 0)) = W0 := ⟨_, rfl⟩
  have hb0 : Below w.heap.size w W0 := by rw [← eW0]; exact (((Below.refl _ _).alloc (Nat.le_refl _) _).alloc (by simp) _).alloc (by simp; omega) _
  have z1 : (w.alloc (box3 (.bool b1) (.slice o1 (nb n1).length c1) (.slice o2 (nb d1).length c2))).heap.size = w.heap.size + 1 := by simp
  have z2 : ((w.alloc (box3 (.bool b1) (.slice o1 (nb n1).length c1) (.slice o2 (nb d1).length c2))).alloc (box3 (.bool b2) (.slice o3 (nb n2).length c3) (.slice o4 (nb d2).length c4))).heap.size = w.heap.size + 1 + 1 := by simp
  have hk0 : W0.heap[w.heap.size]? = some (box3 (.bool b1) (.slice o1 (nb n1).length c1) (.slice o2 (nb d1).length c2)) := by rw [← eW0, heap_alloc_old _ _ (by omega), heap_alloc_old _ _ (by omega), heap_alloc_new]
  have hk1 : W0.heap[w.heap.size + 1]? = some (box3 (.bool b2) (.slice o3 (nb n2).length c3) (.slice o4 (nb d2).length c4)) := by rw [← eW0, heap_alloc_old _ _ (by omega), ← z1, heap_alloc_new]
  have hk2 : W0.heap[w.heap.size + 1 + 1]? = some (box3 (.bool false) (.slice none 0 0) (.slice none 0 0)) := by rw [← eW0, ← z2, heap_alloc_new]
  have hlt : w.heap.size + 1 + 1 < W0.heap.size := by rw [← eW0]; simp
  have s6 : W0.cell? ⟨w.heap.size, 0, none⟩ = some (.bool b1) ∧ W0.cell? ⟨w.heap.size, 1, none⟩ = some (.slice o1 (nb n1).length c1) ∧ W0.cell? ⟨w.heap.size, 2, none⟩ = some (.slice o2 (nb d1).length c2) ∧ W0.cell? ⟨w.heap.size + 1, 0, none⟩ = some (.bool b2) ∧ W0.cell? ⟨w.heap.size + 1, 1, none⟩ = some (.slice o3 (nb n2).length c3) ∧ W0.cell? ⟨w.heap.size + 1, 2, none⟩ = some (.slice o4 (nb d2).length c4) := by
    obtain ⟨x1, x2, x3⟩ := box3_cells hk0
    obtain ⟨x4, x5, x6⟩ := box3_cells hk1
    exact ⟨x1, x2, x3, x4, x5, x6⟩
  have ne1 : w.heap.size ≠ w.heap.size + 1 + 1 := by omega
  have ne2 : w.heap.size + 1 ≠ w.heap.size + 1 + 1 := by omega
  have EW : Hid (((w.alloc (box3 (.bool b1) (.slice o1 (nb n1).length c1) (.slice o2 (nb d1).length c2))).alloc (box3 (.bool b2) (.slice o3 (nb n2).length c3) (.slice o4 (nb d2).length c4))).alloc (box3 (.bool false) (.slice none 0 0) (.slice none 0 0)) = W0) := eW0
  clear eW0 z1 z2
  go_enter Try.func19, Try.ntmps19
  go_wp2
  have eW1 := EW.out
  simp only [box3] at eW1
  rw [eW1]
  clear eW1
  go_region_held3 (fun w' => w'.cell? ⟨w.heap.size, 0, none⟩ = some (.bool b1) ∧ w'.cell? ⟨w.heap.size, 1, none⟩ = some (.slice o1 (nb n1).length c1) ∧ w'.cell? ⟨w.heap.size, 2, none⟩ = some (.slice o2 (nb d1).length c2) ∧ w'.cell? ⟨w.heap.size + 1, 0, none⟩ = some (.bool b2) ∧ w'.cell? ⟨w.heap.size + 1, 1, none⟩ = some (.slice o3 (nb n2).length c3) ∧ w'.cell? ⟨w.heap.size + 1, 2, none⟩ = some (.slice o4 (nb d2).length c4))
    (first | exact s6 | exact six_kept (by assumption) (by assumption) | exact six_set ne1 ne2 (by assumption)) (first
    | (go_at_call_of 61 (Value.slice o1 (nb n1).length c1); refine (cM1 _ ?_).mono ?_; exact below_drewN hb0 _; rintro e w5 ⟨o5, c5, rfl, hown5, hb5⟩; have H5 := bt (below_drewN hb0 _) hb5)
    | (go_at_call_of 62 (Value.slice o2 (nb d1).length c2); refine (cL1 _ ?_).mono ?_; exact H5; rintro e w6 ⟨o6, c6, rfl, hown6, hb6⟩; have H6 := bt H5 hb6)
    | (go_at_call_of 62 (Value.slice o4 (nb d2).length c4); refine (cL2 _ ?_).mono ?_; exact H6; rintro e w7 ⟨o7, c7, rfl, hown7, hb7⟩; have H7 := bt H6 hb7)
    | (go_at_call_of 61 (Value.slice o7 (nb d2).length c7); refine (cM2 _ _ _ _ _ ?_ ?_).mono ?_; exact lies_of_owns (keep hown6 hb7); exact lies_of_owns hown7; rintro e w8 ⟨o8, c8, rfl, hown8, hb8⟩; have H8 := bt H7 hb8)
    | (go_at_call 15; refine (cO _ _ _ _ _ ?_ ?_).mono ?_; exact owns_base (keep (keep (keep hown5 hb6) hb7) hb8) (Nat.zero_le _); exact owns_base hown8 (Nat.zero_le _); rintro e w9 ⟨v9, rfl, hR, hb9⟩; have H9 := bt H8 hb9; obtain ⟨o9, c9, o10, c10, rfl, q9, q10⟩ := hR; have k1 := box_kept (w := World.drew _) hk2 (bt (bt (bt (bt hb5 hb6) hb7) hb8) hb9) hlt; obtain ⟨d0, d1, d2⟩ := box3_cells k1; have ff := box3F k1))
  all_goals go_wp2
  all_goals
    have k2 := box3_set k1 (.bool b3) (.slice o9 (nb n).length c9) (.slice o10 (nb d).length c10)
    have hB := box3_below H9 (show w.heap.size ≤ w.heap.size + 1 + 1 by omega) (.bool b3) (.slice o9 (nb n).length c9) (.slice o10 (nb d).length c10)
    have hW := set3_off w9 (w.heap.size + 1 + 1) (.bool b3) (.slice o9 (nb n).length c9) (.slice o10 (nb d).length c10)
    have q1 := own_off q9 k1 (by decide) hW
    have q2 := own_off q10 k1 (by decide) hW
    generalize World.setCell _ _ _ = W' at *
    obtain ⟨y0, y1, y2⟩ := box3_cells k2
    refine bodyPost_ret (v := .agg #[.bool b3, .slice o9 (nb n).length c9, .slice o10 (nb d).length c10]) ?_ rfl ?_
    · simp [results, go_sem, y0, y1, y2]
    · exact ⟨_, rfl, ⟨_, _, _, _, rfl, q1, q2⟩, hB⟩
end Go.Proofs.Ytfhhmpgldmakjaa.RefU
