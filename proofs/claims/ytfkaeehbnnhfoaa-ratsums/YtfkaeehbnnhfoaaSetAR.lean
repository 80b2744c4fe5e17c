/- The document's rational numbers: the sum, the order; Sums of fractions in lowest terms: only what the numbers below the bar have in common can be taken out of the sum; Rational numbers, the program's: which of two sizes is greater; order; Rational numbers, the program's: order, the lesser and the greater one; Rational numbers, the program's: the greatest whole number below; RatDivs: quotients and . -/
import Derived.Test.YtfkaeehbnnhfoaaSetAP
import Derived.Test.YtfkaeehbnnhfoaaSetAQ
import Derived.Test.YtfkaeehbnnhfoaaSetAO
import Derived.Test.YtfkaeehbnnhfoaaSetAC
/- The document's rational numbers: the sum, the order. -/
namespace Go.Proofs.Ytfkaeehbnnhfoaa.RefZ
open Go.RowKit Mem LimbNum Limb1 Limb2 RefL RefA RefC RefS BitMul BitDiv RGcd Words RatL RatN RefR RefT RefU RefI InvL DivL MulL MulW QNum RefX RefY Mk5

theorem sum_bits (x y k : Nat) (hx : (nb x).length ≤ k) (hy : (nb y).length ≤ k) : (nb (x + y)).length ≤ k + 1 := by
  apply nb_lt
  have h1 := fromL_lt (nb x)
  have h2 := fromL_lt (nb y)
  rw [fromL_nb] at h1 h2
  have e1 : x < 2 ^ k := Nat.lt_of_lt_of_le h1 (Nat.pow_le_pow_right (by omega) hx)
  have e2 : y < 2 ^ k := Nat.lt_of_lt_of_le h2 (Nat.pow_le_pow_right (by omega) hy)
  rw [Nat.pow_succ]; omega
theorem sumV_le (a b : Bool) (x y : Nat) : sumV a b x y ≤ x + y := by unfold sumV; split <;> (try split) <;> omega
theorem sumV_bits (a b : Bool) (x y k : Nat) (hx : (nb x).length ≤ k) (hy : (nb y).length ≤ k) : (nb (sumV a b x y)).length ≤ k + 1 := Nat.le_trans (nb_mono _ _ (sumV_le a b x y)) (sum_bits x y k hx hy)
/-- The sum in lowest terms: its sign, what is above the bar, what is below. -/
def addN (b1 : Bool) (n1 d1 : Nat) (b2 : Bool) (n2 d2 : Nat) : Nat := sumV b1 b2 (n1 * d2) (n2 * d1) / Nat.gcd (sumV b1 b2 (n1 * d2) (n2 * d1)) (d1 * d2)
def addD (b1 : Bool) (n1 d1 : Nat) (b2 : Bool) (n2 d2 : Nat) : Nat := d1 * d2 / Nat.gcd (sumV b1 b2 (n1 * d2) (n2 * d1)) (d1 * d2)
def addB (b1 : Bool) (n1 d1 : Nat) (b2 : Bool) (n2 d2 : Nat) : Bool := sumB b1 b2 (n1 * d2) (n2 * d1) && decide (sumV b1 b2 (n1 * d2) (n2 * d1) / Nat.gcd (sumV b1 b2 (n1 * d2) (n2 * d1)) (d1 * d2) ≠ 0)
set_option maxRecDepth 20000 in
set_option maxHeartbeats 2000000 in
theorem radd_core (v1 v2 : Value) (b1 b2 : Bool) (n1 d1 n2 d2 X Y Z D : Nat) (sB rb : Bool) (rn rd : Nat) (w : World) (h1 : IsRef w v1 b1 n1 d1) (h2 : IsRef w v2 b2 n2 d2) (hd1 : d1 ≠ 0) (hd2 : d2 ≠ 0)
    (a1 : (nb n1).length ≤ 100000) (a2 : (nb d1).length ≤ 100000) (a3 : (nb n2).length ≤ 100000) (a4 : (nb d2).length ≤ 100000) (eX : n1 * d2 = X) (eY : n2 * d1 = Y) (eD : d1 * d2 = D) (eS : sumB b1 b2 X Y = sB) (eZ : sumV b1 b2 X Y = Z)
    (e1 : (sB && decide (Z / Nat.gcd Z D ≠ 0)) = rb) (e2 : Z / Nat.gcd Z D = rn) (e3 : D / Nat.gcd Z D = rd) :
    Calls Try.prog 20 #[v1, v2] w fun e w' => ∃ v', e = .returned v' ∧ IsRef w' v' rb rn rd ∧ Below w.heap.size w w' := by
  have cL1 := fun (W : World) (hb : Below w.heap.size w W) => rlow_any v1 b1 n1 d1 W (h1.below hb) hd1
  have cL2 := fun (W : World) (hb : Below w.heap.size w W) => rlow_any v2 b2 n2 d2 W (h2.below hb) hd2
  obtain ⟨o1, c1, o2, c2, rfl, r1, r2⟩ := h1
  obtain ⟨o3, c3, o4, c4, rfl, r3, r4⟩ := h2
  have cM1 := fun (W : World) (o' : Option Addr) (c' : Nat) (hb : Below w.heap.size w W) (h' : Lies W o' c' (bools (nb d2))) => rmul_nb n1 d2 o1 o' c1 c' W (lies_of_owns (keep r1 hb)) h' a1 a4
  have cM2 := fun (W : World) (o' : Option Addr) (c' : Nat) (hb : Below w.heap.size w W) (h' : Lies W o' c' (bools (nb d1))) => rmul_nb n2 d1 o3 o' c3 c' W (lies_of_owns (keep r3 hb)) h' a3 a2
  have cM3 := fun (W : World) (o o' : Option Addr) (c c' : Nat) (h : Lies W o c (bools (nb d1))) (h' : Lies W o' c' (bools (nb d2))) => rmul_nb d1 d2 o o' c c' W h h' a2 a4
  have bX := mul_bits n1 d2 _ _ a1 a4
  have bY := mul_bits n2 d1 _ _ a3 a2
  have bD := mul_bits d1 d2 _ _ a2 a4
  have hD : d1 * d2 ≠ 0 := fun h => by rcases Nat.mul_eq_zero.1 h with h | h <;> contradiction
  rw [eX] at cM1 bX
  rw [eY] at cM2 bY
  rw [eD] at cM3 bD hD
  have bZ := sumV_bits b1 b2 X Y _ bX bY
  rw [eZ] at bZ
  have cS := fun (W : World) (o o' : Option Addr) (c c' : Nat) (h : Lies W o c (bools (nb X))) (h' : Lies W o' c' (bools (nb Y))) => rsum_any b1 b2 X Y o o' c c' W h h' (by omega) (by omega)
  rw [eS, eZ] at cS
  have cO := fun (W : World) (o o' : Option Addr) (c c' : Nat) (h : W.ownsRow 0 4 1 (.slice o (nb Z).length c) (nb Z).length (bools (nb Z))) (h' : W.ownsRow 0 4 1 (.slice o' (nb D).length c') (nb D).length (bools (nb D))) => rof_any sB Z D o o' c c' W h h' (by omega) (by omega) hD
  rw [e1, e2, e3] at cO
  clear bX bY bD bZ hD r1 r2 r3 r4 a1 a2 a3 a4 hd1 hd2 eX eY eD eS eZ e1 e2 e3
  obtain ⟨W0, eW0, hb0, hk0, hk1, hk2⟩ := three_new w (.cells #[.bool b1, .slice o1 (nb n1).length c1, .slice o2 (nb d1).length c2] 31) (.cells #[.bool b2, .slice o3 (nb n2).length c3, .slice o4 (nb d2).length c4] 31) (.cells #[.bool false, .slice none 0 0, .slice none 0 0] 31)
  have s0 : W0.drew.cell? ⟨w.heap.size, 0, none⟩ = some (.bool b1) ∧ W0.drew.cell? ⟨w.heap.size, 1, none⟩ = some (.slice o1 (nb n1).length c1) ∧ W0.drew.cell? ⟨w.heap.size, 2, none⟩ = some (.slice o2 (nb d1).length c2) ∧ W0.drew.cell? ⟨w.heap.size + 1, 0, none⟩ = some (.bool b2) ∧ W0.drew.cell? ⟨w.heap.size + 1, 1, none⟩ = some (.slice o3 (nb n2).length c3) ∧ W0.drew.cell? ⟨w.heap.size + 1, 2, none⟩ = some (.slice o4 (nb d2).length c4) := by
    obtain ⟨x1, x2, x3⟩ := box3_cells hk0
    obtain ⟨x4, x5, x6⟩ := box3_cells hk1
    exact ⟨x1, x2, x3, x4, x5, x6⟩
  have HK2 : Hid (W0.heap[w.heap.size + 1 + 1]? = some (.cells #[.bool false, .slice none 0 0, .slice none 0 0] 31)) := hk2
  have hb0d := hb0.drew
  have D0 : Below W0.heap.size W0 W0.drew := (Below.refl _ _).drew
  have ne1 : w.heap.size ≠ w.heap.size + 1 + 1 := by omega
  have ne2 : w.heap.size + 1 ≠ w.heap.size + 1 + 1 := by omega
  have EW : Hid (_ = W0) := eW0
  clear eW0 hk0 hk1 hk2
  have T1 : True := trivial
  have T2 : True := trivial
  go_enter Try.func20, Try.ntmps20
  go_wp2
  rw [EW.out]
  go_region_held3 (fun w' => w'.cell? ⟨w.heap.size, 0, none⟩ = some (.bool b1) ∧ w'.cell? ⟨w.heap.size, 1, none⟩ = some (.slice o1 (nb n1).length c1) ∧ w'.cell? ⟨w.heap.size, 2, none⟩ = some (.slice o2 (nb d1).length c2) ∧ w'.cell? ⟨w.heap.size + 1, 0, none⟩ = some (.bool b2) ∧ w'.cell? ⟨w.heap.size + 1, 1, none⟩ = some (.slice o3 (nb n2).length c3) ∧ w'.cell? ⟨w.heap.size + 1, 2, none⟩ = some (.slice o4 (nb d2).length c4))
    (first | with_reducible exact s0 | with_reducible exact s1 | with_reducible exact s2 | with_reducible exact s3 | with_reducible exact s4 | with_reducible exact s5) (first
    | (go_at_call_of 61 (Value.slice o4 (nb d2).length c4); refine (cL2 _ hb0d).mono ?_; rintro e w1 ⟨o5, c5, rfl, hown5, hb1⟩; have H1 := bt hb0d hb1; have s1 := six_kept s0 hb1)
    | (go_at_call_of 60 (Value.slice o5 (nb d2).length c5); refine (cM1 _ _ _ H1 (lies_of_owns hown5)).mono ?_; rintro e w2 ⟨o6, c6, rfl, hown6, hb2⟩; have H2 := bt H1 hb2; have s2 := six_kept s1 hb2)
    | (go_at_call_of 61 (Value.slice o2 (nb d1).length c2); refine (cL1 _ H2).mono ?_; rintro e w3 ⟨o7, c7, rfl, hown7, hb3⟩; have H3 := bt H2 hb3; have s3 := six_kept s2 hb3)
    | (go_at_call_of 60 (Value.slice o7 (nb d1).length c7); refine (cM2 _ _ _ H3 (lies_of_owns hown7)).mono ?_; rintro e w4 ⟨o8, c8, rfl, hown8, hb4⟩; have H4 := bt H3 hb4; have s4 := six_kept s3 hb4)
    | (go_at_call 59; refine (cS _ _ _ _ _ (lies_of_owns (keep (keep hown6 hb3) hb4)) (lies_of_owns hown8)).mono ?_; rintro e w5 ⟨o9, c9, rfl, hown9, hb5⟩; have H5 := bt H4 hb5; have s5 := six_kept s4 hb5; have A5 : Hid (Below W0.heap.size W0 w5) := bt D0 (bt hb1 (bt hb2 (bt hb3 (bt hb4 hb5))))))
  have s6 : w5.drew.cell? ⟨w.heap.size, 0, none⟩ = some (.bool b1) ∧ w5.drew.cell? ⟨w.heap.size, 1, none⟩ = some (.slice o1 (nb n1).length c1) ∧ w5.drew.cell? ⟨w.heap.size, 2, none⟩ = some (.slice o2 (nb d1).length c2) ∧ w5.drew.cell? ⟨w.heap.size + 1, 0, none⟩ = some (.bool b2) ∧ w5.drew.cell? ⟨w.heap.size + 1, 1, none⟩ = some (.slice o3 (nb n2).length c3) ∧ w5.drew.cell? ⟨w.heap.size + 1, 2, none⟩ = some (.slice o4 (nb d2).length c4) := s5
  have H6 := H5.drew
  have D6 : Below w5.heap.size w5 w5.drew := (Below.refl _ _).drew
  clear s0 s1 s2 s3 s4 s5 hb0d hb1 hb2 hb3 hb4 hb5 H1 H2 H3 H4 H5
  go_wp2
  go_region_held3 (fun w' => w'.cell? ⟨w.heap.size, 0, none⟩ = some (.bool b1) ∧ w'.cell? ⟨w.heap.size, 1, none⟩ = some (.slice o1 (nb n1).length c1) ∧ w'.cell? ⟨w.heap.size, 2, none⟩ = some (.slice o2 (nb d1).length c2) ∧ w'.cell? ⟨w.heap.size + 1, 0, none⟩ = some (.bool b2) ∧ w'.cell? ⟨w.heap.size + 1, 1, none⟩ = some (.slice o3 (nb n2).length c3) ∧ w'.cell? ⟨w.heap.size + 1, 2, none⟩ = some (.slice o4 (nb d2).length c4))
    (first | with_reducible exact s6 | with_reducible exact s7 | with_reducible exact s8 | with_reducible exact s9 | with_reducible exact s10 | with_reducible exact s11) (first
    | (go_at_call_of 61 (Value.slice o2 (nb d1).length c2); refine (cL1 _ H6).mono ?_; rintro e w7 ⟨o12, c12, rfl, hown12, hb7⟩; have H7 := bt H6 hb7; have s7 := six_kept s6 hb7)
    | (go_at_call_of 61 (Value.slice o4 (nb d2).length c4); refine (cL2 _ H7).mono ?_; rintro e w8 ⟨o13, c13, rfl, hown13, hb8⟩; have H8 := bt H7 hb8; have s8 := six_kept s7 hb8)
    | (go_at_call 60; refine (cM3 _ _ _ _ _ (lies_of_owns (keep hown12 hb8)) (lies_of_owns hown13)).mono ?_; rintro e w9 ⟨o14, c14, rfl, hown14, hb9⟩; have H9 := bt H8 hb9; have s9 := six_kept s8 hb9)
    | (go_at_call 46; refine (cO _ _ _ _ _ (owns_base (keep (keep (keep (keep hown9 D6) hb7) hb8) hb9) (Nat.zero_le _)) (owns_base hown14 (Nat.zero_le _))).mono ?_; rintro e w10 ⟨v10, rfl, hR, hb10⟩; have H10 := bt H9 hb10; have s10 := six_kept s9 hb10; obtain ⟨o15, c15, o16, c16, rfl, q15, q16⟩ := hR; have k1 := box_kept HK2.out (bt A5.out (bt D6 (bt hb7 (bt hb8 (bt hb9 hb10))))) (in_heap HK2.out); obtain ⟨d0, d1, d2⟩ := box3_cells k1; have ff := box3F k1; have s11 := six_set (x := .bool rb) (y := .slice o15 (nb rn).length c15) (z := .slice o16 (nb rd).length c16) ne1 ne2 s10; have HK : Hid (w10.heap[w.heap.size + 1 + 1]? = some (.cells #[.bool false, .slice none 0 0, .slice none 0 0] 31)) := k1; clear k1))
  all_goals go_wp2
  have k2 := box3_set HK.out (.bool rb) (.slice o15 (nb rn).length c15) (.slice o16 (nb rd).length c16)
  have hB := box3_below H10 (show w.heap.size ≤ w.heap.size + 1 + 1 by omega) (.bool rb) (.slice o15 (nb rn).length c15) (.slice o16 (nb rd).length c16)
  have hW := set3_off w10 (w.heap.size + 1 + 1) (.bool rb) (.slice o15 (nb rn).length c15) (.slice o16 (nb rd).length c16)
  have q1 := own_off q15 HK.out (by decide) hW
  have q2 := own_off q16 HK.out (by decide) hW
  generalize World.setCell _ _ _ = W' at *
  obtain ⟨y0, y1, y2⟩ := box3_cells k2
  refine bodyPost_ret (v := .agg #[.bool rb, .slice o15 (nb rn).length c15, .slice o16 (nb rd).length c16]) ?_ rfl ?_
  · simp [results, go_sem, y0, y1, y2]
  · exact ⟨_, rfl, ⟨_, _, _, _, rfl, q1, q2⟩, hB⟩
theorem radd_any (v1 v2 : Value) (b1 b2 : Bool) (n1 d1 n2 d2 : Nat) (w : World) (h1 : IsRef w v1 b1 n1 d1) (h2 : IsRef w v2 b2 n2 d2) (hd1 : d1 ≠ 0) (hd2 : d2 ≠ 0)
    (a1 : (nb n1).length ≤ 100000) (a2 : (nb d1).length ≤ 100000) (a3 : (nb n2).length ≤ 100000) (a4 : (nb d2).length ≤ 100000) :
    Calls Try.prog 20 #[v1, v2] w fun e w' => ∃ v', e = .returned v' ∧ IsRef w' v' (addB b1 n1 d1 b2 n2 d2) (addN b1 n1 d1 b2 n2 d2) (addD b1 n1 d1 b2 n2 d2) ∧ Below w.heap.size w w' :=
  radd_core v1 v2 b1 b2 n1 d1 n2 d2 _ _ _ _ _ _ _ _ w h1 h2 hd1 hd2 a1 a2 a3 a4 rfl rfl rfl rfl rfl rfl rfl rfl
/-- The sign of a sum. -/
theorem sgn_add (b1 b2 : Bool) (n1 d1 n2 d2 : Nat) (hd1 : d1 ≠ 0) (hd2 : d2 ≠ 0) : sgn (addB b1 n1 d1 b2 n2 d2) (addN b1 n1 d1 b2 n2 d2) = cmpI (sv b1 (n1 * d2) + sv b2 (n2 * d1)) 0 := by
  have hD : d1 * d2 ≠ 0 := fun h => by rcases Nat.mul_eq_zero.1 h with h | h <;> contradiction
  have hg : Nat.gcd (sumV b1 b2 (n1 * d2) (n2 * d1)) (d1 * d2) ≠ 0 := fun h => hD (Nat.eq_zero_of_gcd_eq_zero_right h)
  unfold addB addN
  rw [sgn_flag, sgn_quot _ _ _ hg (Nat.gcd_dvd_left _ _), sgn_sv, sum_sv]
set_option maxRecDepth 20000 in
set_option maxHeartbeats 1000000 in
theorem rcmp_core (v1 v2 : Value) (b1 b2 b3 : Bool) (n1 d1 n2 d2 : Nat) (C : Int) (w : World) (h1 : IsRef w v1 b1 n1 d1) (h2 : IsRef w v2 b2 n2 d2)
    (cN : ∀ W : World, IsRef W v2 b2 n2 d2 → Calls Try.prog 22 #[v2] W fun e w' => ∃ v', e = .returned v' ∧ IsRef w' v' b3 n2 d2 ∧ Below W.heap.size W w')
    (cA : ∀ (W : World) (v : Value), IsRef W v1 b1 n1 d1 → IsRef W v b3 n2 d2 → Calls Try.prog 20 #[v1, v] W fun e w' => ∃ v', e = .returned v' ∧ (∃ b n d, IsRef w' v' b n d ∧ (n = 0 → b = false) ∧ (nb n).length ≤ 1000000 ∧ sgn b n = C) ∧ Below W.heap.size W w') :
    Calls Try.prog 34 #[v1, v2] w fun e w' => e = .returned (.int .i64 C) ∧ Below w.heap.size w w' := by
  obtain ⟨o1, c1, o2, c2, rfl, r1, r2⟩ := h1
  obtain ⟨o3, c3, o4, c4, rfl, r3, r4⟩ := h2
  obtain ⟨W0, eW0, hb0, hk0, hk1⟩ := two_new w (.cells #[.bool b1, .slice o1 (nb n1).length c1, .slice o2 (nb d1).length c2] 31) (.cells #[.bool b2, .slice o3 (nb n2).length c3, .slice o4 (nb d2).length c4] 31)
  have s0 : W0.drew.cell? ⟨w.heap.size, 0, none⟩ = some (.bool b1) ∧ W0.drew.cell? ⟨w.heap.size, 1, none⟩ = some (.slice o1 (nb n1).length c1) ∧ W0.drew.cell? ⟨w.heap.size, 2, none⟩ = some (.slice o2 (nb d1).length c2) ∧ W0.drew.cell? ⟨w.heap.size + 1, 0, none⟩ = some (.bool b2) ∧ W0.drew.cell? ⟨w.heap.size + 1, 1, none⟩ = some (.slice o3 (nb n2).length c3) ∧ W0.drew.cell? ⟨w.heap.size + 1, 2, none⟩ = some (.slice o4 (nb d2).length c4) := by
    obtain ⟨x1, x2, x3⟩ := box3_cells hk0
    obtain ⟨x4, x5, x6⟩ := box3_cells hk1
    exact ⟨x1, x2, x3, x4, x5, x6⟩
  have hb0d := hb0.drew
  have I1 : Hid (IsRef W0.drew (.agg #[.bool b1, .slice o1 (nb n1).length c1, .slice o2 (nb d1).length c2]) b1 n1 d1) := ⟨_, _, _, _, rfl, keep r1 hb0d, keep r2 hb0d⟩
  have I2 : Hid (IsRef W0.drew (.agg #[.bool b2, .slice o3 (nb n2).length c3, .slice o4 (nb d2).length c4]) b2 n2 d2) := ⟨_, _, _, _, rfl, keep r3 hb0d, keep r4 hb0d⟩
  have EW : Hid (_ = W0) := eW0
  clear eW0 hk0 hk1 r1 r2 r3 r4
  go_enter Try.func34, Try.ntmps34
  go_wp2
  rw [EW.out]
  go_region_held3 (fun w' => w'.cell? ⟨w.heap.size, 0, none⟩ = some (.bool b1) ∧ w'.cell? ⟨w.heap.size, 1, none⟩ = some (.slice o1 (nb n1).length c1) ∧ w'.cell? ⟨w.heap.size, 2, none⟩ = some (.slice o2 (nb d1).length c2) ∧ w'.cell? ⟨w.heap.size + 1, 0, none⟩ = some (.bool b2) ∧ w'.cell? ⟨w.heap.size + 1, 1, none⟩ = some (.slice o3 (nb n2).length c3) ∧ w'.cell? ⟨w.heap.size + 1, 2, none⟩ = some (.slice o4 (nb d2).length c4))
    (first | with_reducible exact s0 | with_reducible exact s1 | with_reducible exact s2 | with_reducible exact s3) (first
    | (go_at_call 22; refine (cN _ I2.out).mono ?_; rintro e w1 ⟨v1, rfl, hR1, hb1⟩; have H1 := bt hb0d hb1; have s1 := six_kept s0 hb1)
    | (go_at_call 20; refine (cA _ _ (I1.out.below hb1) hR1).mono ?_; rintro e w2 ⟨v2, rfl, ⟨b5, n5, d5, hR2, hz5, hl5, hs5⟩, hb2⟩; have H2 := bt H1 hb2; have s2 := six_kept s1 hb2)
    | (go_at_call 28; refine (rsign_any _ b5 n5 d5 _ hR2 hz5 hl5).mono ?_; rintro e w3 ⟨rfl, hb3⟩; have H3 := bt H2 hb3; have s3 := six_kept s2 hb3; rw [hs5]))
  all_goals go_wp2
  go_ret
  exact ⟨rfl, H3⟩
theorem rcmp_q (v1 v2 : Value) (b1 b2 : Bool) (n1 d1 n2 d2 : Nat) (w : World) (h1 : IsRef w v1 b1 n1 d1) (h2 : IsRef w v2 b2 n2 d2) (hd1 : d1 ≠ 0) (hd2 : d2 ≠ 0)
    (a1 : (nb n1).length ≤ 100000) (a2 : (nb d1).length ≤ 100000) (a3 : (nb n2).length ≤ 100000) (a4 : (nb d2).length ≤ 100000) :
    Calls Try.prog 34 #[v1, v2] w fun e w' => e = .returned (.int .i64 (cmpQ b1 n1 d1 b2 n2 d2)) ∧ Below w.heap.size w w' := by
  refine rcmp_core v1 v2 b1 b2 (!b2 && decide (n2 ≠ 0)) n1 d1 n2 d2 _ w h1 h2 (fun W h => rneg_any v2 b2 n2 d2 W h hd2) ?_
  intro W v h h'
  refine (radd_any v1 v b1 _ n1 d1 n2 d2 W h h' hd1 hd2 a1 a2 a3 a4).mono ?_
  rintro e w' ⟨v', rfl, hR, hb⟩
  refine ⟨v', rfl, ⟨_, _, _, hR, ?_, ?_, ?_⟩, hb⟩
  · intro e; unfold addB; unfold addN at e; rw [e]; simp
  · have bX := mul_bits n1 d2 _ _ a1 a4
    have bY := mul_bits n2 d1 _ _ a3 a2
    exact bits_div _ _ _ (Nat.le_trans (sumV_bits b1 _ _ _ _ bX bY) (by omega))
  · have e : sv b1 (n1 * d2) + sv (!b2 && decide (n2 ≠ 0)) (n2 * d1) = sv b1 (n1 * d2) - sv b2 (n2 * d1) := by
      rw [sv_mul (!b2 && decide (n2 ≠ 0)), sv_not, sv_mul b2 n2, Int.neg_mul]
      rfl
    rw [sgn_add _ _ _ _ _ _ hd1 hd2, e, cmpI_sub]
    rfl
end Go.Proofs.Ytfkaeehbnnhfoaa.RefZ

/- Sums of fractions in lowest terms: only what the numbers below the bar have in common can be taken out of the sum. -/
namespace Go.Proofs.Ytfkaeehbnnhfoaa.AddN
open Mem LimbNum QNum RefZ

theorem sumV_dvd {a b : Bool} {x y c : Nat} (h1 : c ∣ sumV a b x y) (h2 : c ∣ y) : c ∣ x := by
  unfold sumV at h1
  split at h1
  · exact (Nat.dvd_add_left h2).1 h1
  · split at h1
    · rename_i h; have := Nat.dvd_add h1 h2; rwa [Nat.sub_add_cancel h] at this
    · rename_i h
      have h3 : y = (y - x) + x := by omega
      rw [h3] at h2
      exact (Nat.dvd_add_right h1).1 h2
theorem sumV_dvd2 {a b : Bool} {x y c : Nat} (h1 : c ∣ sumV a b x y) (h2 : c ∣ x) : c ∣ y := by
  unfold sumV at h1
  split at h1
  · exact (Nat.dvd_add_right h2).1 h1
  · split at h1
    · rename_i h
      have h3 : x = (x - y) + y := by omega
      rw [h3] at h2
      exact (Nat.dvd_add_right h1).1 h2
    · rename_i h; have := Nat.dvd_add h1 h2; rwa [Nat.sub_add_cancel (by omega)] at this
theorem sumV_mul (a b : Bool) (x y g : Nat) (hg : 0 < g) : sumV a b (g * x) (g * y) = g * sumV a b x y := by
  unfold sumV
  split
  · rw [Nat.mul_add]
  · by_cases h : y ≤ x
    · rw [if_pos h, if_pos (Nat.mul_le_mul_left g h), Nat.mul_sub]
    · rw [if_neg h, if_neg (fun e => h (Nat.le_of_mul_le_mul_left e hg)), Nat.mul_sub]
theorem sumB_mul (a b : Bool) (x y g : Nat) (hg : 0 < g) : sumB a b (g * x) (g * y) = sumB a b x y := by
  unfold sumB
  split
  · rfl
  · by_cases h : y ≤ x
    · rw [if_pos h, if_pos (Nat.mul_le_mul_left g h)]
    · rw [if_neg h, if_neg (fun e => h (Nat.le_of_mul_le_mul_left e hg))]
theorem co_of {a b : Nat} (h : ∀ c, c ∣ a → c ∣ b → c = 1) : Nat.Coprime a b := h _ (Nat.gcd_dvd_left _ _) (Nat.gcd_dvd_right _ _)
/-- The sum, by the small divisor. -/
theorem sum_low {n1 d1 n2 d2 : Nat} (b1 b2 : Bool) (h1 : Nat.gcd n1 d1 = 1) (h2 : Nat.gcd n2 d2 = 1) (p1 : 1 ≤ d1) (p2 : 1 ≤ d2) :
    addN b1 n1 d1 b2 n2 d2 = sumV b1 b2 (n1 * (d2 / Nat.gcd d1 d2)) (n2 * (d1 / Nat.gcd d1 d2)) / Nat.gcd (sumV b1 b2 (n1 * (d2 / Nat.gcd d1 d2)) (n2 * (d1 / Nat.gcd d1 d2))) (Nat.gcd d1 d2) ∧
    addD b1 n1 d1 b2 n2 d2 = d1 / Nat.gcd d1 d2 * (d2 / Nat.gcd (sumV b1 b2 (n1 * (d2 / Nat.gcd d1 d2)) (n2 * (d1 / Nat.gcd d1 d2))) (Nat.gcd d1 d2)) ∧
    sumB b1 b2 (n1 * d2) (n2 * d1) = sumB b1 b2 (n1 * (d2 / Nat.gcd d1 d2)) (n2 * (d1 / Nat.gcd d1 d2)) ∧
    1 ≤ addD b1 n1 d1 b2 n2 d2 ∧ Nat.gcd (addN b1 n1 d1 b2 n2 d2) (addD b1 n1 d1 b2 n2 d2) = 1 := by
  have g0 : 0 < Nat.gcd d1 d2 := Nat.gcd_pos_of_pos_right _ p2
  have e1 : d1 = Nat.gcd d1 d2 * (d1 / Nat.gcd d1 d2) := (Nat.mul_div_cancel' (Nat.gcd_dvd_left _ _)).symm
  have e2 : d2 = Nat.gcd d1 d2 * (d2 / Nat.gcd d1 d2) := (Nat.mul_div_cancel' (Nat.gcd_dvd_right _ _)).symm
  have cR : Nat.Coprime (d1 / Nat.gcd d1 d2) (d2 / Nat.gcd d1 d2) := Nat.coprime_div_gcd_div_gcd g0
  have c1 : Nat.Coprime n1 (d1 / Nat.gcd d1 d2) := Nat.Coprime.coprime_dvd_right (Nat.div_dvd_of_dvd (Nat.gcd_dvd_left _ _)) h1
  have c2 : Nat.Coprime n2 (d2 / Nat.gcd d1 d2) := Nat.Coprime.coprime_dvd_right (Nat.div_dvd_of_dvd (Nat.gcd_dvd_right _ _)) h2
  generalize hg : Nat.gcd d1 d2 = g at *
  generalize hr : d1 / g = r at *
  generalize hs : d2 / g = s at *
  -- num is coprime to r and to s
  generalize hx : n1 * s = x at *
  generalize hy : n2 * r = y at *
  have q1 : Nat.Coprime (sumV b1 b2 x y) r := co_of fun c ha hb => by
    have h3 : c ∣ y := by rw [← hy]; exact Nat.dvd_mul_left_of_dvd hb n2
    have h4 : c ∣ x := sumV_dvd ha h3
    rw [← hx] at h4
    have h5 : Nat.Coprime c (n1 * s) := Nat.Coprime.mul_right (Nat.Coprime.symm (Nat.Coprime.coprime_dvd_right hb c1)) (Nat.Coprime.coprime_dvd_left hb cR)
    exact Nat.Coprime.eq_one_of_dvd h5 h4
  have q2 : Nat.Coprime (sumV b1 b2 x y) s := co_of fun c ha hb => by
    have h3 : c ∣ x := by rw [← hx]; exact Nat.dvd_mul_left_of_dvd hb n1
    have h4 : c ∣ y := sumV_dvd2 ha h3
    rw [← hy] at h4
    have h5 : Nat.Coprime c (n2 * r) := Nat.Coprime.mul_right (Nat.Coprime.symm (Nat.Coprime.coprime_dvd_right hb c2)) (Nat.Coprime.symm (Nat.Coprime.coprime_dvd_right hb cR))
    exact Nat.Coprime.eq_one_of_dvd h5 h4
  have f1 : n1 * d2 = g * x := by rw [e2, ← hx]; grind
  have f2 : n2 * d1 = g * y := by rw [e1, ← hy]; grind
  have f3 : d1 * d2 = g * (r * d2) := by rw [e1]; grind
  have f4 : Nat.gcd (sumV b1 b2 x y) (r * d2) = Nat.gcd (sumV b1 b2 x y) g := by
    rw [e2, show r * (g * s) = (r * s) * g by grind]
    exact Nat.Coprime.gcd_mul_left_cancel_right g (Nat.Coprime.symm (Nat.Coprime.mul_right q1 q2))
  have hH : Nat.gcd (sumV b1 b2 x y) g ∣ d2 := Nat.dvd_trans (Nat.gcd_dvd_right _ _) ⟨s, e2⟩
  have hp : 0 < Nat.gcd (sumV b1 b2 x y) g := Nat.gcd_pos_of_pos_right _ g0
  have f5 : addN b1 n1 d1 b2 n2 d2 = sumV b1 b2 x y / Nat.gcd (sumV b1 b2 x y) g := by
    unfold addN
    rw [f1, f2, f3, sumV_mul _ _ _ _ _ g0, Nat.gcd_mul_left, f4, Nat.mul_div_mul_left _ _ g0]
  have f6 : addD b1 n1 d1 b2 n2 d2 = r * (d2 / Nat.gcd (sumV b1 b2 x y) g) := by
    unfold addD
    rw [f1, f2, f3, sumV_mul _ _ _ _ _ g0, Nat.gcd_mul_left, f4, Nat.mul_div_mul_left _ _ g0, Nat.mul_div_assoc _ hH]
  have hD : 0 < d1 * d2 := Nat.mul_pos p1 p2
  have hG : 0 < Nat.gcd (sumV b1 b2 (n1 * d2) (n2 * d1)) (d1 * d2) := Nat.gcd_pos_of_pos_right _ hD
  refine ⟨f5, f6, ?_, ?_, ?_⟩
  · rw [f1, f2, sumB_mul _ _ _ _ _ g0]
  · unfold addD
    exact (Nat.one_le_div_iff hG).2 (Nat.le_of_dvd hD (Nat.gcd_dvd_right _ _))
  · unfold addN addD
    exact Nat.coprime_div_gcd_div_gcd hG
end Go.Proofs.Ytfkaeehbnnhfoaa.AddN

/- Rational numbers, the program's: which of two sizes is greater; order. -/
namespace Go.Proofs.Ytfkaeehbnnhfoaa.CmpL
open Go.RowKit Mem LimbNum Limb1 Limb2 NatL GcdA RatL RatM RatN RatF RatO MulN MulW MulL QNum

/-- Two words each, the higher first. -/
theorem words_cmp (X Y : Nat) : (X / 18446744073709551616 < Y / 18446744073709551616 ∧ cmpV X Y = -1) ∨ (X / 18446744073709551616 = Y / 18446744073709551616 ∧ X % 18446744073709551616 < Y % 18446744073709551616 ∧ cmpV X Y = -1) ∨
    (X / 18446744073709551616 = Y / 18446744073709551616 ∧ X % 18446744073709551616 = Y % 18446744073709551616 ∧ cmpV X Y = 0) ∨ (X / 18446744073709551616 = Y / 18446744073709551616 ∧ Y % 18446744073709551616 < X % 18446744073709551616 ∧ cmpV X Y = 1) ∨ (Y / 18446744073709551616 < X / 18446744073709551616 ∧ cmpV X Y = 1) := by
  have e1 := Nat.div_add_mod X 18446744073709551616
  have e2 := Nat.div_add_mod Y 18446744073709551616
  have l1 := Nat.mod_lt X (show 18446744073709551616 > 0 by decide)
  have l2 := Nat.mod_lt Y (show 18446744073709551616 > 0 by decide)
  generalize X / 18446744073709551616 = a at *
  generalize Y / 18446744073709551616 = b at *
  generalize X % 18446744073709551616 = c at *
  generalize Y % 18446744073709551616 = d at *
  have hX : ∀ k : Int, (X < Y ∧ k = -1) ∨ (X = Y ∧ k = 0) ∨ (Y < X ∧ k = 1) → cmpV X Y = k := by
    rintro k (⟨h, rfl⟩ | ⟨h, rfl⟩ | ⟨h, rfl⟩)
    · simp [cmpV, h]
    · simp [cmpV, h]
    · unfold cmpV; rw [if_neg (by omega), if_neg (by omega)]
  rcases Nat.lt_trichotomy a b with h | h | h
  · exact .inl ⟨h, hX _ (.inl ⟨by omega, rfl⟩)⟩
  · subst h
    rcases Nat.lt_trichotomy c d with h2 | h2 | h2
    · exact .inr (.inl ⟨rfl, h2, hX _ (.inl ⟨by omega, rfl⟩)⟩)
    · exact .inr (.inr (.inl ⟨rfl, h2, hX _ (.inr (.inl ⟨by omega, rfl⟩))⟩))
    · exact .inr (.inr (.inr (.inl ⟨rfl, h2, hX _ (.inr (.inr ⟨by omega, rfl⟩))⟩)))
  · exact .inr (.inr (.inr (.inr ⟨h, hX _ (.inr (.inr ⟨by omega, rfl⟩))⟩)))
set_option maxRecDepth 20000 in
set_option maxHeartbeats 2000000 in
theorem sizes_words (b1 b2 : Bool) (n1 d1 n2 d2 : Nat) (w : World) (q1 : n1 < 18446744073709551616) (q2 : d1 < 18446744073709551616) (q3 : n2 < 18446744073709551616) (q4 : d2 < 18446744073709551616) (p1 : 1 ≤ d1) (p2 : 1 ≤ d2) :
    Calls Try.prog 52 #[.agg #[.bool b1, .int .u64 (n1 : Int), .int .u64 ((d1 : Int) - 1), .pointer none], .agg #[.bool b2, .int .u64 (n2 : Int), .int .u64 ((d2 : Int) - 1), .pointer none]] w fun e w' => e = .returned (.int .i64 (cmpV (n1 * d2) (n2 * d1))) ∧ Below w.heap.size w w' := by
  have cD1 := fun (W : World) => den_any b1 (n1 : Int) (d1 : Int) none W (by omega) (by omega)
  have cD2 := fun (W : World) => den_any b2 (n2 : Int) (d2 : Int) none W (by omega) (by omega)
  have cM1 := fun (W : World) => Try.bits_Mul64 n1 d2 q1 q4 W
  have cM2 := fun (W : World) => Try.bits_Mul64 n2 d1 q3 q2 W
  have hC := words_cmp (n1 * d2) (n2 * d1)
  obtain ⟨XH, eXH⟩ : ∃ x : Int, ((n1 * d2 / 18446744073709551616 : Nat) : Int) = x := ⟨_, rfl⟩
  obtain ⟨XL, eXL⟩ : ∃ x : Int, ((n1 * d2 % 18446744073709551616 : Nat) : Int) = x := ⟨_, rfl⟩
  obtain ⟨YH, eYH⟩ : ∃ x : Int, ((n2 * d1 / 18446744073709551616 : Nat) : Int) = x := ⟨_, rfl⟩
  obtain ⟨YL, eYL⟩ : ∃ x : Int, ((n2 * d1 % 18446744073709551616 : Nat) : Int) = x := ⟨_, rfl⟩
  rw [eXH, eXL] at cM1
  rw [eYH, eYL] at cM2
  have HC : Hid ((XH < YH ∧ cmpV (n1 * d2) (n2 * d1) = -1) ∨ (XH = YH ∧ XL < YL ∧ cmpV (n1 * d2) (n2 * d1) = -1) ∨ (XH = YH ∧ XL = YL ∧ cmpV (n1 * d2) (n2 * d1) = 0) ∨ (XH = YH ∧ YL < XL ∧ cmpV (n1 * d2) (n2 * d1) = 1) ∨ (YH < XH ∧ cmpV (n1 * d2) (n2 * d1) = 1)) := by
    rw [← eXH, ← eXL, ← eYH, ← eYL]
    unfold Hid
    rcases hC with ⟨h, h2⟩ | ⟨h, h1, h2⟩ | ⟨h, h1, h2⟩ | ⟨h, h1, h2⟩ | ⟨h, h2⟩
    · exact .inl ⟨by exact_mod_cast h, h2⟩
    · exact .inr (.inl ⟨by rw [h], by exact_mod_cast h1, h2⟩)
    · exact .inr (.inr (.inl ⟨by rw [h], by rw [h1], h2⟩))
    · exact .inr (.inr (.inr (.inl ⟨by rw [h], by exact_mod_cast h1, h2⟩)))
    · exact .inr (.inr (.inr (.inr ⟨by exact_mod_cast h, h2⟩)))
  clear hC eXH eXL eYH eYL q1 q2 q3 q4 p1 p2
  generalize cmpV (n1 * d2) (n2 * d1) = C at *
  generalize (n1 : Int) = N1 at *
  generalize (n2 : Int) = N2 at *
  generalize (d1 : Int) = D1 at *
  generalize (d2 : Int) = D2 at *
  obtain ⟨W0, eW0, hb0, hk0, hk1⟩ := two_new w (.cells #[.bool b1, .int .u64 N1, .int .u64 (D1 - 1), .pointer none] 28) (.cells #[.bool b2, .int .u64 N2, .int .u64 (D2 - 1), .pointer none] 28)
  have s0 : W0.drew.cell? ⟨w.heap.size, 0, none⟩ = some (.bool b1) ∧ W0.drew.cell? ⟨w.heap.size, 1, none⟩ = some (.int .u64 N1) ∧ W0.drew.cell? ⟨w.heap.size, 2, none⟩ = some (.int .u64 (D1 - 1)) ∧ W0.drew.cell? ⟨w.heap.size, 3, none⟩ = some (.pointer none) ∧ W0.drew.cell? ⟨w.heap.size + 1, 0, none⟩ = some (.bool b2) ∧ W0.drew.cell? ⟨w.heap.size + 1, 1, none⟩ = some (.int .u64 N2) ∧ W0.drew.cell? ⟨w.heap.size + 1, 2, none⟩ = some (.int .u64 (D2 - 1)) ∧ W0.drew.cell? ⟨w.heap.size + 1, 3, none⟩ = some (.pointer none) := by
    obtain ⟨a0, a1, a2, a3⟩ := box0 hk0
    obtain ⟨c0, c1, c2, c3⟩ := box0 hk1
    exact ⟨a0, a1, a2, a3, c0, c1, c2, c3⟩
  obtain ⟨u0, u1, u2, u3, u4, u5, u6, u7⟩ : W0.cell? ⟨w.heap.size, 0, none⟩ = some (.bool b1) ∧ W0.cell? ⟨w.heap.size, 1, none⟩ = some (.int .u64 N1) ∧ W0.cell? ⟨w.heap.size, 2, none⟩ = some (.int .u64 (D1 - 1)) ∧ W0.cell? ⟨w.heap.size, 3, none⟩ = some (.pointer none) ∧ W0.cell? ⟨w.heap.size + 1, 0, none⟩ = some (.bool b2) ∧ W0.cell? ⟨w.heap.size + 1, 1, none⟩ = some (.int .u64 N2) ∧ W0.cell? ⟨w.heap.size + 1, 2, none⟩ = some (.int .u64 (D2 - 1)) ∧ W0.cell? ⟨w.heap.size + 1, 3, none⟩ = some (.pointer none) := id s0
  have hb0d := hb0.drew
  have EW : Hid (_ = W0) := eW0
  clear eW0 hk0 hk1
  go_enter Try.func52, Try.ntmps52
  go_upto_region 1 with fail
  rw [EW.out]
  go_wp2
  go_region_held3 (fun w' => w'.cell? ⟨w.heap.size, 0, none⟩ = some (.bool b1) ∧ w'.cell? ⟨w.heap.size, 1, none⟩ = some (.int .u64 N1) ∧ w'.cell? ⟨w.heap.size, 2, none⟩ = some (.int .u64 (D1 - 1)) ∧ w'.cell? ⟨w.heap.size, 3, none⟩ = some (.pointer none) ∧ w'.cell? ⟨w.heap.size + 1, 0, none⟩ = some (.bool b2) ∧ w'.cell? ⟨w.heap.size + 1, 1, none⟩ = some (.int .u64 N2) ∧ w'.cell? ⟨w.heap.size + 1, 2, none⟩ = some (.int .u64 (D2 - 1)) ∧ w'.cell? ⟨w.heap.size + 1, 3, none⟩ = some (.pointer none)) (first | with_reducible exact s0 | with_reducible exact s1) (first
    | (go_at_call 66; refine (cD2 _).mono ?_; rintro e w1 ⟨rfl, hb1⟩; have s1 := eight_kept hb1 s0)
    | (go_at_call 77; refine (cM1 _).mono ?_; rintro e w2 ⟨rfl, hw⟩; have hw2 := hw.symm; clear hw; subst hw2))
  have H1 := (bt hb0d hb1).drew
  have s2 : w1.drew.cell? ⟨w.heap.size, 0, none⟩ = some (.bool b1) ∧ w1.drew.cell? ⟨w.heap.size, 1, none⟩ = some (.int .u64 N1) ∧ w1.drew.cell? ⟨w.heap.size, 2, none⟩ = some (.int .u64 (D1 - 1)) ∧ w1.drew.cell? ⟨w.heap.size, 3, none⟩ = some (.pointer none) ∧ w1.drew.cell? ⟨w.heap.size + 1, 0, none⟩ = some (.bool b2) ∧ w1.drew.cell? ⟨w.heap.size + 1, 1, none⟩ = some (.int .u64 N2) ∧ w1.drew.cell? ⟨w.heap.size + 1, 2, none⟩ = some (.int .u64 (D2 - 1)) ∧ w1.drew.cell? ⟨w.heap.size + 1, 3, none⟩ = some (.pointer none) := s1
  clear s0 s1 hb0d hb1 cM1 cD2
  clear u0 u1 u2 u3 u4 u5 u6 u7
  all_goals go_wp2
  go_region_held3 (fun w' => w'.cell? ⟨w.heap.size, 0, none⟩ = some (.bool b1) ∧ w'.cell? ⟨w.heap.size, 1, none⟩ = some (.int .u64 N1) ∧ w'.cell? ⟨w.heap.size, 2, none⟩ = some (.int .u64 (D1 - 1)) ∧ w'.cell? ⟨w.heap.size, 3, none⟩ = some (.pointer none) ∧ w'.cell? ⟨w.heap.size + 1, 0, none⟩ = some (.bool b2) ∧ w'.cell? ⟨w.heap.size + 1, 1, none⟩ = some (.int .u64 N2) ∧ w'.cell? ⟨w.heap.size + 1, 2, none⟩ = some (.int .u64 (D2 - 1)) ∧ w'.cell? ⟨w.heap.size + 1, 3, none⟩ = some (.pointer none)) (first | with_reducible exact s2 | with_reducible exact s3) (first
    | (go_at_call 66; refine (cD1 _).mono ?_; rintro e w3 ⟨rfl, hb3⟩; have s3 := eight_kept hb3 s2)
    | (go_at_call 77; refine (cM2 _).mono ?_; rintro e w4 ⟨rfl, hw⟩; have hw2 := hw.symm; clear hw; subst hw2))
  have H3 := bt H1 hb3
  clear s2 s3 H1 hb3 cM2 cD1
  rcases HC.out with ⟨h, rfl⟩ | ⟨rfl, h1, rfl⟩ | ⟨rfl, rfl, rfl⟩ | ⟨rfl, h1, rfl⟩ | ⟨h, rfl⟩
  · clear HC
    all_goals go_wp2
    go_ret
    exact ⟨rfl, H3⟩
  · clear HC
    all_goals go_wp2
    go_ret
    exact ⟨rfl, H3⟩
  · clear HC
    all_goals go_wp2
    go_ret
    exact ⟨rfl, H3⟩
  · clear HC
    have h2 : ¬ XL < YL := by omega
    have h3 : (XL == YL) = false := by rw [beq_eq_false_iff_ne]; omega
    all_goals go_wp2
    go_ret
    exact ⟨rfl, H3⟩
  · clear HC
    have h2 : ¬ XH < YH := by omega
    have h3 : (XH == YH) = false := by rw [beq_eq_false_iff_ne]; omega
    all_goals go_wp2
    go_ret
    exact ⟨rfl, H3⟩
set_option maxRecDepth 20000 in
set_option maxHeartbeats 2000000 in
theorem sizes_lists (b1 b2 : Bool) (n1 d1 n2 d2 : Nat) (A1 L1 A2 L2 : Int) (p1 p2 : Option Addr) (w : World) (h1 : IsRat w (.agg #[.bool b1, .int .u64 A1, .int .u64 L1, .pointer p1]) b1 n1 d1) (h2 : IsRat w (.agg #[.bool b2, .int .u64 A2, .int .u64 L2, .pointer p2]) b2 n2 d2) (hp : p1 ≠ none ∨ p1 = none ∧ p2 ≠ none)
    (l1 : (nl n1).length ≤ 1000000) (l2 : (nl d1).length ≤ 1000000) (l3 : (nl n2).length ≤ 1000000) (l4 : (nl d2).length ≤ 1000000) :
    Calls Try.prog 52 #[.agg #[.bool b1, .int .u64 A1, .int .u64 L1, .pointer p1], .agg #[.bool b2, .int .u64 A2, .int .u64 L2, .pointer p2]] w fun e w' => e = .returned (.int .i64 (cmpV (n1 * d2) (n2 * d1))) ∧ Below w.heap.size w w' := by
  have cSp1 := fun (W : World) (hb : Below w.heap.size w W) => spread_any _ b1 n1 d1 W (h1.below hb)
  have cSp2 := fun (W : World) (hb : Below w.heap.size w W) => spread_any _ b2 n2 d2 W (h2.below hb)
  have cM1 := fun (W : World) (o o' : Option Addr) (c c' : Nat) (h : Lies W o c (ints .u32 (nl n1))) (h' : Lies W o' c' (ints .u32 (nl d2))) => mul_nl n1 d2 o o' c c' W h h' (by omega) (by omega)
  have cM2 := fun (W : World) (o o' : Option Addr) (c c' : Nat) (h : Lies W o c (ints .u32 (nl n2))) (h' : Lies W o' c' (ints .u32 (nl d1))) => mul_nl n2 d1 o o' c c' W h h' (by omega) (by omega)
  have cC := fun (W : World) (o o' : Option Addr) (c c' : Nat) (h : Lies W o c (ints .u32 (nl (n1 * d2)))) (h' : Lies W o' c' (ints .u32 (nl (n2 * d1)))) => cmp_any (nl (n1 * d2)) (nl (n2 * d1)) o o' c c' W h h' (small_nl _) (small_nl _)
  simp only [val_nl] at cC
  generalize cmpV (n1 * d2) (n2 * d1) = C at *
  generalize n1 * d2 = X at *
  generalize n2 * d1 = Y at *
  clear h1 h2 l1 l2 l3 l4
  obtain ⟨W0, eW0, hb0, hk0, hk1⟩ := two_new w (.cells #[.bool b1, .int .u64 A1, .int .u64 L1, .pointer p1] 28) (.cells #[.bool b2, .int .u64 A2, .int .u64 L2, .pointer p2] 28)
  have EW : Hid (_ = W0) := eW0
  have HK1 : Hid (W0.heap[w.heap.size + 1]? = some (.cells #[.bool b2, .int .u64 A2, .int .u64 L2, .pointer p2] 28)) := hk1
  obtain ⟨a0, a1, a2, a3⟩ := box0 hk0
  obtain ⟨c0, c1, c2, c3⟩ := box0 hk1
  clear eW0 hk0 hk1
  have T1 : True := trivial
  have T2 : True := trivial
  rcases hp with hp | ⟨rfl, hp⟩
  · obtain ⟨q, rfl⟩ : ∃ q, p1 = some q := by cases p1 with | none => exact absurd rfl hp | some q => exact ⟨q, rfl⟩
    clear hp
    go_enter Try.func52, Try.ntmps52
    go_upto_region 1 with fail
    rw [EW.out]
    go_wp2_with (first
      | (go_at_call 47; have _t := T1; clear _t T1; refine (cSp1 _ hb0).mono ?_; rintro e w1 ⟨o1, k1, o2, k2, rfl, y1, y2, hb1⟩; have H1 := bt hb0 hb1; have kw := box_kept HK1.out hb1 (in_heap HK1.out); obtain ⟨x0, x1, x2, x3⟩ := box0 kw; clear kw)
      | (go_at_call 47; refine (cSp2 _ H1).mono ?_; rintro e w2 ⟨o3, k3, o4, k4, rfl, y3, y4, hb2⟩; have H2 := bt H1 hb2)
      | (go_at_call 57; have _t := T2; clear _t T2; refine (cM1 _ _ _ _ _ (y1.below hb2 (Nat.le_refl _)) y4).mono ?_; rintro e w3 ⟨o5, k5, rfl, y5, hb3⟩; have H3 := bt H2 hb3)
      | (go_at_call 57; refine (cM2 _ _ _ _ _ (y3.below hb3 (Nat.le_refl _)) ((y2.below hb2 (Nat.le_refl _)).below hb3 (Nat.le_refl _))).mono ?_; rintro e w4 ⟨o6, k6, rfl, y6, hb4⟩; have H4 := bt H3 hb4)
      | (go_at_call 76; refine (cC _ _ _ _ _ (y5.below hb4 (Nat.le_refl _)) y6).mono ?_; rintro e w5 ⟨rfl, hb5⟩; have H5 := bt H4 hb5))
    go_ret
    exact ⟨rfl, H5⟩
  · obtain ⟨q, rfl⟩ : ∃ q, p2 = some q := by cases p2 with | none => exact absurd rfl hp | some q => exact ⟨q, rfl⟩
    clear hp
    go_enter Try.func52, Try.ntmps52
    go_upto_region 1 with fail
    rw [EW.out]
    go_wp2_with (first
      | (go_at_call 47; have _t := T1; clear _t T1; refine (cSp1 _ hb0).mono ?_; rintro e w1 ⟨o1, k1, o2, k2, rfl, y1, y2, hb1⟩; have H1 := bt hb0 hb1; have kw := box_kept HK1.out hb1 (in_heap HK1.out); obtain ⟨x0, x1, x2, x3⟩ := box0 kw; clear kw)
      | (go_at_call 47; refine (cSp2 _ H1).mono ?_; rintro e w2 ⟨o3, k3, o4, k4, rfl, y3, y4, hb2⟩; have H2 := bt H1 hb2)
      | (go_at_call 57; have _t := T2; clear _t T2; refine (cM1 _ _ _ _ _ (y1.below hb2 (Nat.le_refl _)) y4).mono ?_; rintro e w3 ⟨o5, k5, rfl, y5, hb3⟩; have H3 := bt H2 hb3)
      | (go_at_call 57; refine (cM2 _ _ _ _ _ (y3.below hb3 (Nat.le_refl _)) ((y2.below hb2 (Nat.le_refl _)).below hb3 (Nat.le_refl _))).mono ?_; rintro e w4 ⟨o6, k6, rfl, y6, hb4⟩; have H4 := bt H3 hb4)
      | (go_at_call 76; refine (cC _ _ _ _ _ (y5.below hb4 (Nat.le_refl _)) y6).mono ?_; rintro e w5 ⟨rfl, hb5⟩; have H5 := bt H4 hb5))
    go_ret
    exact ⟨rfl, H5⟩
theorem sizes_any (v1 v2 : Value) (b1 b2 : Bool) (n1 d1 n2 d2 : Nat) (w : World) (h1 : IsRat w v1 b1 n1 d1) (h2 : IsRat w v2 b2 n2 d2) (l1 : (nl n1).length ≤ 1000000) (l2 : (nl d1).length ≤ 1000000) (l3 : (nl n2).length ≤ 1000000) (l4 : (nl d2).length ≤ 1000000) :
    Calls Try.prog 52 #[v1, v2] w fun e w' => e = .returned (.int .i64 (cmpV (n1 * d2) (n2 * d1))) ∧ Below w.heap.size w w' := by
  have h1' := h1
  have h2' := h2
  obtain ⟨lo1, ⟨q1, q2, rfl⟩ | ⟨_, g, _, _, _, _, rfl, _⟩⟩ := h1
  · obtain ⟨lo2, ⟨q3, q4, rfl⟩ | ⟨_, g, _, _, _, _, rfl, _⟩⟩ := h2
    · exact sizes_words b1 b2 n1 d1 n2 d2 w q1 q2 q3 q4 lo1.pos lo2.pos
    · exact sizes_lists b1 b2 n1 d1 n2 d2 _ _ _ _ _ _ w h1' h2' (.inr ⟨rfl, by simp⟩) l1 l2 l3 l4
  · obtain ⟨A2, L2, p2, rfl⟩ := h2'.shape
    exact sizes_lists b1 b2 n1 d1 n2 d2 _ _ _ _ _ _ w h1' h2' (.inl (by simp)) l1 l2 l3 l4
end Go.Proofs.Ytfkaeehbnnhfoaa.CmpL

/- Rational numbers, the program's: order, the lesser and the greater one. -/
namespace Go.Proofs.Ytfkaeehbnnhfoaa.CmqL
open Go.RowKit Mem LimbNum Limb1 Limb2 NatL GcdA RatL RatM RatN RatF RatO MulN MulW MulL InvL QNum CmpL

set_option maxRecDepth 20000 in
set_option maxHeartbeats 2000000 in
theorem cmp_q (v1 v2 : Value) (b1 b2 : Bool) (n1 d1 n2 d2 : Nat) (w : World) (h1 : IsRat w v1 b1 n1 d1) (h2 : IsRat w v2 b2 n2 d2) (l1 : (nl n1).length ≤ 1000000) (l2 : (nl d1).length ≤ 1000000) (l3 : (nl n2).length ≤ 1000000) (l4 : (nl d2).length ≤ 1000000) :
    Calls Try.prog 17 #[v1, v2] w fun e w' => e = .returned (.int .i64 (cmpQ b1 n1 d1 b2 n2 d2)) ∧ Below w.heap.size w w' := by
  rw [cmp_cases b1 b2 n1 d1 n2 d2 h1.1.sg h2.1.sg h1.1.pos h2.1.pos]
  have cS1 := fun (W : World) (hb : Below w.heap.size w W) => sign_any v1 b1 n1 d1 W (h1.below hb)
  have cS2 := fun (W : World) (hb : Below w.heap.size w W) => sign_any v2 b2 n2 d2 W (h2.below hb)
  have cZ1 := fun (W : World) (hb : Below w.heap.size w W) => sizes_any v1 v2 b1 b2 n1 d1 n2 d2 W (h1.below hb) (h2.below hb) l1 l2 l3 l4
  have cZ2 := fun (W : World) (hb : Below w.heap.size w W) => sizes_any v2 v1 b2 b1 n2 d2 n1 d1 W (h2.below hb) (h1.below hb) l3 l4 l1 l2
  obtain ⟨A1, L1, p1, rfl⟩ := h1.shape
  obtain ⟨A2, L2, p2, rfl⟩ := h2.shape
  clear h1 h2 l1 l2 l3 l4
  generalize cmpV (n1 * d2) (n2 * d1) = C1 at *
  generalize cmpV (n2 * d1) (n1 * d2) = C2 at *
  generalize sgn b1 n1 = S1 at *
  generalize sgn b2 n2 = S2 at *
  obtain ⟨W0, eW0, hb0, hk0, hk1⟩ := two_new w (.cells #[.bool b1, .int .u64 A1, .int .u64 L1, .pointer p1] 28) (.cells #[.bool b2, .int .u64 A2, .int .u64 L2, .pointer p2] 28)
  have s0 : W0.drew.cell? ⟨w.heap.size, 0, none⟩ = some (.bool b1) ∧ W0.drew.cell? ⟨w.heap.size, 1, none⟩ = some (.int .u64 A1) ∧ W0.drew.cell? ⟨w.heap.size, 2, none⟩ = some (.int .u64 L1) ∧ W0.drew.cell? ⟨w.heap.size, 3, none⟩ = some (.pointer p1) ∧ W0.drew.cell? ⟨w.heap.size + 1, 0, none⟩ = some (.bool b2) ∧ W0.drew.cell? ⟨w.heap.size + 1, 1, none⟩ = some (.int .u64 A2) ∧ W0.drew.cell? ⟨w.heap.size + 1, 2, none⟩ = some (.int .u64 L2) ∧ W0.drew.cell? ⟨w.heap.size + 1, 3, none⟩ = some (.pointer p2) := by
    obtain ⟨a0, a1, a2, a3⟩ := box0 hk0
    obtain ⟨c0, c1, c2, c3⟩ := box0 hk1
    exact ⟨a0, a1, a2, a3, c0, c1, c2, c3⟩
  have hb0d := hb0.drew
  have EW : Hid (_ = W0) := eW0
  clear eW0 hk0 hk1
  have T1 : True := trivial
  obtain ⟨R, eR⟩ : ∃ R, (if S1 < S2 then -1 else if S2 < S1 then 1 else if S1 < 0 then C2 else C1) = R := ⟨_, rfl⟩
  rw [eR]
  have ER : Hid ((if S1 < S2 then -1 else if S2 < S1 then 1 else if S1 < 0 then C2 else C1) = R) := eR
  clear eR
  go_enter Try.func17, Try.ntmps17
  go_wp2
  rw [EW.out]
  go_region_held3 (fun w' => w'.cell? ⟨w.heap.size, 0, none⟩ = some (.bool b1) ∧ w'.cell? ⟨w.heap.size, 1, none⟩ = some (.int .u64 A1) ∧ w'.cell? ⟨w.heap.size, 2, none⟩ = some (.int .u64 L1) ∧ w'.cell? ⟨w.heap.size, 3, none⟩ = some (.pointer p1) ∧ w'.cell? ⟨w.heap.size + 1, 0, none⟩ = some (.bool b2) ∧ w'.cell? ⟨w.heap.size + 1, 1, none⟩ = some (.int .u64 A2) ∧ w'.cell? ⟨w.heap.size + 1, 2, none⟩ = some (.int .u64 L2) ∧ w'.cell? ⟨w.heap.size + 1, 3, none⟩ = some (.pointer p2)) (first | with_reducible exact s0 | with_reducible exact s1 | with_reducible exact s2) (first
    | (go_at_call 27; have _t := T1; clear _t T1; refine (cS1 _ hb0d).mono ?_; rintro e w1 ⟨rfl, hb1⟩; have H1 := bt hb0d hb1; have s1 := eight_kept hb1 s0)
    | (go_at_call 27; refine (cS2 _ H1).mono ?_; rintro e w2 ⟨rfl, hb2⟩; have H2 := bt H1 hb2; have s2 := eight_kept hb2 s1))
  obtain ⟨u0, u1, u2, u3, u4, u5, u6, u7⟩ := s2
  clear s0 s1 hb0d hb1 hb2 H1 cS1 cS2
  by_cases h1 : S1 < S2
  · have e : -1 = R := by rw [← ER.out, if_pos h1]
    clear ER
    subst e
    all_goals go_wp2
    go_ret
    exact ⟨rfl, H2⟩
  · by_cases h2 : S2 < S1
    · have e : 1 = R := by rw [← ER.out, if_neg h1, if_pos h2]
      clear ER
      subst e
      all_goals go_wp2
      go_ret
      exact ⟨rfl, H2⟩
    · by_cases h3 : S1 < 0
      · have e : C2 = R := by rw [← ER.out, if_neg h1, if_neg h2, if_pos h3]
        clear ER
        subst e
        all_goals go_wp2_with (go_at_call 52; refine (cZ2 _ H2).mono ?_; rintro e w3 ⟨rfl, hb3⟩)
        go_ret
        exact ⟨rfl, bt H2 hb3⟩
      · have e : C1 = R := by rw [← ER.out, if_neg h1, if_neg h2, if_neg h3]
        clear ER
        subst e
        all_goals go_wp2_with (go_at_call 52; refine (cZ1 _ H2).mono ?_; rintro e w3 ⟨rfl, hb3⟩)
        go_ret
        exact ⟨rfl, bt H2 hb3⟩
set_option maxRecDepth 20000 in
set_option maxHeartbeats 2000000 in
theorem min_any (v1 v2 : Value) (b1 b2 : Bool) (n1 d1 n2 d2 : Nat) (w : World) (h1 : IsRat w v1 b1 n1 d1) (h2 : IsRat w v2 b2 n2 d2) (l1 : (nl n1).length ≤ 1000000) (l2 : (nl d1).length ≤ 1000000) (l3 : (nl n2).length ≤ 1000000) (l4 : (nl d2).length ≤ 1000000) :
    Calls Try.prog 35 #[v1, v2] w fun e w' => ∃ v, e = .returned v ∧ IsRat w' v (if 0 < cmpQ b1 n1 d1 b2 n2 d2 then b2 else b1) (if 0 < cmpQ b1 n1 d1 b2 n2 d2 then n2 else n1) (if 0 < cmpQ b1 n1 d1 b2 n2 d2 then d2 else d1) ∧ Below w.heap.size w w' := by
  have cC := fun (W : World) (hb : Below w.heap.size w W) => cmp_q v1 v2 b1 b2 n1 d1 n2 d2 W (h1.below hb) (h2.below hb) l1 l2 l3 l4
  obtain ⟨A1, L1, p1, rfl⟩ := h1.shape
  obtain ⟨A2, L2, p2, rfl⟩ := h2.shape
  obtain ⟨W0, eW0, hb0, hk0, hk1, hk2⟩ := three_new w (.cells #[.bool b1, .int .u64 A1, .int .u64 L1, .pointer p1] 28) (.cells #[.bool b2, .int .u64 A2, .int .u64 L2, .pointer p2] 28) (.cells #[.bool false, .int .u64 0, .int .u64 0, .pointer none] 28)
  have I1 : Hid (IsRat W0 (.agg #[.bool b1, .int .u64 A1, .int .u64 L1, .pointer p1]) b1 n1 d1) := h1.below hb0
  have I2 : Hid (IsRat W0 (.agg #[.bool b2, .int .u64 A2, .int .u64 L2, .pointer p2]) b2 n2 d2) := h2.below hb0
  have HK0 : Hid (W0.heap[w.heap.size]? = some (.cells #[.bool b1, .int .u64 A1, .int .u64 L1, .pointer p1] 28)) := hk0
  have HK1 : Hid (W0.heap[w.heap.size + 1]? = some (.cells #[.bool b2, .int .u64 A2, .int .u64 L2, .pointer p2] 28)) := hk1
  have HK2 : Hid (W0.heap[w.heap.size + 1 + 1]? = some (.cells #[.bool false, .int .u64 0, .int .u64 0, .pointer none] 28)) := hk2
  obtain ⟨a0, a1, a2, a3⟩ := box0 hk0
  obtain ⟨c0, c1, c2, c3⟩ := box0 hk1
  have EW : Hid (_ = W0) := eW0
  clear eW0 hk0 hk1 hk2 h1 h2 l1 l2 l3 l4
  generalize cmpQ b1 n1 d1 b2 n2 d2 = C at *
  by_cases hC : 0 < C
  · rw [if_pos hC, if_pos hC, if_pos hC]
    go_enter Try.func35, Try.ntmps35
    go_upto_region 1 with fail
    rw [EW.out]
    go_wp2_with (go_at_call 17; refine (cC _ hb0).mono ?_; rintro e w1 ⟨rfl, hb1⟩; have kw := box_kept HK1.out hb1 (in_heap HK1.out); have kr := box_kept HK2.out hb1 (in_heap HK2.out); obtain ⟨x0, x1, x2, x3⟩ := box0 kw; obtain ⟨y0, y1, y2, y3⟩ := box0 kr; have ff := boxF kr; have HKR : Hid (w1.heap[w.heap.size + 1 + 1]? = some (.cells #[.bool false, .int .u64 0, .int .u64 0, .pointer none] 28)) := kr; clear kw kr)
    have k2 := box_set HKR.out (.bool b2) (.int .u64 A2) (.int .u64 L2) (.pointer p2)
    have hB := box_below (bt hb0 hb1) (show w.heap.size ≤ w.heap.size + 1 + 1 by omega) (.bool b2) (.int .u64 A2) (.int .u64 L2) (.pointer p2)
    have hR := (I2.out.below hb1).set4 HKR.out (.bool b2) (.int .u64 A2) (.int .u64 L2) (.pointer p2)
    generalize World.setCell _ _ _ = W' at *
    obtain ⟨g0, g1, g2, g3⟩ := box0 k2
    refine bodyPost_ret (v := .agg #[.bool b2, .int .u64 A2, .int .u64 L2, .pointer p2]) ?_ rfl ?_
    · simp [results, go_sem, g0, g1, g2, g3]
    · exact ⟨_, rfl, hR, hB⟩
  · rw [if_neg hC, if_neg hC, if_neg hC]
    go_enter Try.func35, Try.ntmps35
    go_upto_region 1 with fail
    rw [EW.out]
    go_wp2_with (go_at_call 17; refine (cC _ hb0).mono ?_; rintro e w1 ⟨rfl, hb1⟩; have kw := box_kept HK0.out hb1 (in_heap HK0.out); have kr := box_kept HK2.out hb1 (in_heap HK2.out); obtain ⟨x0, x1, x2, x3⟩ := box0 kw; obtain ⟨y0, y1, y2, y3⟩ := box0 kr; have ff := boxF kr; have HKR : Hid (w1.heap[w.heap.size + 1 + 1]? = some (.cells #[.bool false, .int .u64 0, .int .u64 0, .pointer none] 28)) := kr; clear kw kr)
    have k2 := box_set HKR.out (.bool b1) (.int .u64 A1) (.int .u64 L1) (.pointer p1)
    have hB := box_below (bt hb0 hb1) (show w.heap.size ≤ w.heap.size + 1 + 1 by omega) (.bool b1) (.int .u64 A1) (.int .u64 L1) (.pointer p1)
    have hR := (I1.out.below hb1).set4 HKR.out (.bool b1) (.int .u64 A1) (.int .u64 L1) (.pointer p1)
    generalize World.setCell _ _ _ = W' at *
    obtain ⟨g0, g1, g2, g3⟩ := box0 k2
    refine bodyPost_ret (v := .agg #[.bool b1, .int .u64 A1, .int .u64 L1, .pointer p1]) ?_ rfl ?_
    · simp [results, go_sem, g0, g1, g2, g3]
    · exact ⟨_, rfl, hR, hB⟩
set_option maxRecDepth 20000 in
set_option maxHeartbeats 2000000 in
theorem max_any (v1 v2 : Value) (b1 b2 : Bool) (n1 d1 n2 d2 : Nat) (w : World) (h1 : IsRat w v1 b1 n1 d1) (h2 : IsRat w v2 b2 n2 d2) (l1 : (nl n1).length ≤ 1000000) (l2 : (nl d1).length ≤ 1000000) (l3 : (nl n2).length ≤ 1000000) (l4 : (nl d2).length ≤ 1000000) :
    Calls Try.prog 36 #[v1, v2] w fun e w' => ∃ v, e = .returned v ∧ IsRat w' v (if cmpQ b1 n1 d1 b2 n2 d2 < 0 then b2 else b1) (if cmpQ b1 n1 d1 b2 n2 d2 < 0 then n2 else n1) (if cmpQ b1 n1 d1 b2 n2 d2 < 0 then d2 else d1) ∧ Below w.heap.size w w' := by
  have cC := fun (W : World) (hb : Below w.heap.size w W) => cmp_q v1 v2 b1 b2 n1 d1 n2 d2 W (h1.below hb) (h2.below hb) l1 l2 l3 l4
  obtain ⟨A1, L1, p1, rfl⟩ := h1.shape
  obtain ⟨A2, L2, p2, rfl⟩ := h2.shape
  obtain ⟨W0, eW0, hb0, hk0, hk1, hk2⟩ := three_new w (.cells #[.bool b1, .int .u64 A1, .int .u64 L1, .pointer p1] 28) (.cells #[.bool b2, .int .u64 A2, .int .u64 L2, .pointer p2] 28) (.cells #[.bool false, .int .u64 0, .int .u64 0, .pointer none] 28)
  have I1 : Hid (IsRat W0 (.agg #[.bool b1, .int .u64 A1, .int .u64 L1, .pointer p1]) b1 n1 d1) := h1.below hb0
  have I2 : Hid (IsRat W0 (.agg #[.bool b2, .int .u64 A2, .int .u64 L2, .pointer p2]) b2 n2 d2) := h2.below hb0
  have HK0 : Hid (W0.heap[w.heap.size]? = some (.cells #[.bool b1, .int .u64 A1, .int .u64 L1, .pointer p1] 28)) := hk0
  have HK1 : Hid (W0.heap[w.heap.size + 1]? = some (.cells #[.bool b2, .int .u64 A2, .int .u64 L2, .pointer p2] 28)) := hk1
  have HK2 : Hid (W0.heap[w.heap.size + 1 + 1]? = some (.cells #[.bool false, .int .u64 0, .int .u64 0, .pointer none] 28)) := hk2
  obtain ⟨a0, a1, a2, a3⟩ := box0 hk0
  obtain ⟨c0, c1, c2, c3⟩ := box0 hk1
  have EW : Hid (_ = W0) := eW0
  clear eW0 hk0 hk1 hk2 h1 h2 l1 l2 l3 l4
  generalize cmpQ b1 n1 d1 b2 n2 d2 = C at *
  by_cases hC : C < 0
  · rw [if_pos hC, if_pos hC, if_pos hC]
    go_enter Try.func36, Try.ntmps36
    go_upto_region 1 with fail
    rw [EW.out]
    go_wp2_with (go_at_call 17; refine (cC _ hb0).mono ?_; rintro e w1 ⟨rfl, hb1⟩; have kw := box_kept HK1.out hb1 (in_heap HK1.out); have kr := box_kept HK2.out hb1 (in_heap HK2.out); obtain ⟨x0, x1, x2, x3⟩ := box0 kw; obtain ⟨y0, y1, y2, y3⟩ := box0 kr; have ff := boxF kr; have HKR : Hid (w1.heap[w.heap.size + 1 + 1]? = some (.cells #[.bool false, .int .u64 0, .int .u64 0, .pointer none] 28)) := kr; clear kw kr)
    have k2 := box_set HKR.out (.bool b2) (.int .u64 A2) (.int .u64 L2) (.pointer p2)
    have hB := box_below (bt hb0 hb1) (show w.heap.size ≤ w.heap.size + 1 + 1 by omega) (.bool b2) (.int .u64 A2) (.int .u64 L2) (.pointer p2)
    have hR := (I2.out.below hb1).set4 HKR.out (.bool b2) (.int .u64 A2) (.int .u64 L2) (.pointer p2)
    generalize World.setCell _ _ _ = W' at *
    obtain ⟨g0, g1, g2, g3⟩ := box0 k2
    refine bodyPost_ret (v := .agg #[.bool b2, .int .u64 A2, .int .u64 L2, .pointer p2]) ?_ rfl ?_
    · simp [results, go_sem, g0, g1, g2, g3]
    · exact ⟨_, rfl, hR, hB⟩
  · rw [if_neg hC, if_neg hC, if_neg hC]
    go_enter Try.func36, Try.ntmps36
    go_upto_region 1 with fail
    rw [EW.out]
    go_wp2_with (go_at_call 17; refine (cC _ hb0).mono ?_; rintro e w1 ⟨rfl, hb1⟩; have kw := box_kept HK0.out hb1 (in_heap HK0.out); have kr := box_kept HK2.out hb1 (in_heap HK2.out); obtain ⟨x0, x1, x2, x3⟩ := box0 kw; obtain ⟨y0, y1, y2, y3⟩ := box0 kr; have ff := boxF kr; have HKR : Hid (w1.heap[w.heap.size + 1 + 1]? = some (.cells #[.bool false, .int .u64 0, .int .u64 0, .pointer none] 28)) := kr; clear kw kr)
    have k2 := box_set HKR.out (.bool b1) (.int .u64 A1) (.int .u64 L1) (.pointer p1)
    have hB := box_below (bt hb0 hb1) (show w.heap.size ≤ w.heap.size + 1 + 1 by omega) (.bool b1) (.int .u64 A1) (.int .u64 L1) (.pointer p1)
    have hR := (I1.out.below hb1).set4 HKR.out (.bool b1) (.int .u64 A1) (.int .u64 L1) (.pointer p1)
    generalize World.setCell _ _ _ = W' at *
    obtain ⟨g0, g1, g2, g3⟩ := box0 k2
    refine bodyPost_ret (v := .agg #[.bool b1, .int .u64 A1, .int .u64 L1, .pointer p1]) ?_ rfl ?_
    · simp [results, go_sem, g0, g1, g2, g3]
    · exact ⟨_, rfl, hR, hB⟩
end Go.Proofs.Ytfkaeehbnnhfoaa.CmqL

/- Rational numbers, the program's: the greatest whole number below. -/
namespace Go.Proofs.Ytfkaeehbnnhfoaa.FloL
open Go.RowKit Mem LimbNum Limb1 Limb2 Limb4 DivOne NatL GcdA DivAll Words AddL RatL RatM RatN RatF RatO RatW MulN MulW MulL InvL QNum CmpL CmqL

/-- The size of the greatest whole number that is at most n / d. -/
def floN (b : Bool) (n d : Nat) : Nat := if b = true ∧ n % d ≠ 0 then n / d + 1 else n / d
theorem flo_one (b : Bool) (n : Nat) : floN b n 1 = n := by unfold floN; rw [Nat.mod_one]; simp
theorem mod_low {n d : Nat} (h : Nat.gcd n d = 1) (hd : d ≠ 1) : n % d ≠ 0 := fun e => by
  have : d ∣ n := Nat.dvd_of_mod_eq_zero e
  have h2 := Nat.gcd_eq_right this
  omega
theorem flo_neg {n d : Nat} (h : Nat.gcd n d = 1) (hd : d ≠ 1) : floN true n d = n / d + 1 := by unfold floN; rw [if_pos ⟨rfl, mod_low h hd⟩]
theorem flo_pos (n d : Nat) : floN false n d = n / d := by unfold floN; simp
theorem add_nl (x y : Nat) (o1 o2 : Option Addr) (c1 c2 : Nat) (w : World) (h1 : Lies w o1 c1 (ints .u32 (nl x))) (h2 : Lies w o2 c2 (ints .u32 (nl y))) (l1 : (nl x).length ≤ 35184372088832) (l2 : (nl y).length ≤ 35184372088832) :
    Calls Try.prog 69 #[.slice o1 (nl x).length c1, .slice o2 (nl y).length c2] w fun e w' => ∃ o c, e = .returned (.slice o (nl (x + y)).length c) ∧ Lies w' o c (ints .u32 (nl (x + y))) ∧ Below w.heap.size w w' := by
  have := add_any (nl x) (nl y) o1 o2 c1 c2 w h1 h2 (small_nl _) (small_nl _) l1 l2
  rw [val_nl, val_nl] at this
  refine this.mono ?_
  rintro e w' ⟨o, c, rfl, ho, hb⟩
  exact ⟨o, c, rfl, lies_of_owns ho, hb⟩
theorem div_nl (x y : Nat) (o1 o2 : Option Addr) (c1 c2 : Nat) (w : World) (h1 : Lies w o1 c1 (ints .u32 (nl x))) (h2 : Lies w o2 c2 (ints .u32 (nl y))) (h0 : y ≠ 0) (l1 : (nl x).length ≤ 35184372088832) (l2 : (nl y).length ≤ 35184372088832) :
    Calls Try.prog 68 #[.slice o1 (nl x).length c1, .slice o2 (nl y).length c2] w fun e w' => ∃ o c o' c', e = .returned (.tuple #[.slice o (nl (x / y)).length c, .slice o' (nl (x % y)).length c', .bool true]) ∧ Lies w' o c (ints .u32 (nl (x / y))) ∧ Lies w' o' c' (ints .u32 (nl (x % y))) ∧ Below w.heap.size w w' := by
  have := divmod_any (nl x) (nl y) o1 o2 c1 c2 w h1 h2 (small_nl _) (small_nl _) (by rw [val_nl]; exact h0) (by omega) l2
  rw [val_nl, val_nl] at this
  refine this.mono ?_
  rintro e w' ⟨o, c, o', c', rfl, ho, ho', hb⟩
  exact ⟨o, c, o', c', rfl, lies_of_owns ho, lies_of_owns ho', hb⟩
theorem _root_.Go.Proofs.Ytfkaeehbnnhfoaa.FloL.drewL {w w' : World} {o : Option Addr} {c : Nat} {xs : List Value} (h : Lies w o c xs) (hb : Below w.drew.heap.size w.drew w') : Lies w' o c xs :=
  (h.below (B := w.heap.size) (Below.refl _ _).drew (Nat.le_refl _)).below hb (Nat.le_refl _)
set_option maxRecDepth 20000 in
set_option maxHeartbeats 2000000 in
theorem floor_any (v : Value) (b : Bool) (n d : Nat) (w : World) (h : IsRat w v b n d) (l1 : (nl n).length ≤ 1000000) (l2 : (nl d).length ≤ 1000000) :
    Calls Try.prog 38 #[v] w fun e w' => ∃ v', e = .returned v' ∧ IsRat w' v' (b && decide (floN b n d ≠ 0)) (floN b n d) 1 ∧ Below w.heap.size w w' := by
  have hp := h.1.pos
  have cWh := fun (W : World) (hb : Below w.heap.size w W) => whole_any v b n d W (h.below hb) (by omega)
  have cSp := fun (W : World) (hb : Below w.heap.size w W) => spread_any v b n d W (h.below hb)
  have cDv := fun (W : World) (o o' : Option Addr) (c c' : Nat) (h : Lies W o c (ints .u32 (nl n))) (h' : Lies W o' c' (ints .u32 (nl d))) => div_nl n d o o' c c' W h h' (by omega) (by omega) (by omega)
  have lq : (nl (n / d)).length ≤ 1000000 := Nat.le_trans (nl_mono _ _ (Nat.div_le_self _ _)) l1
  have n1 : nl 1 = [1] := nl_one 1 (by decide) (by decide)
  have cA := fun (W : World) (o o' : Option Addr) (c c' : Nat) (h : Lies W o c (ints .u32 (nl (n / d)))) (h' : Lies W o' c' (ints .u32 (nl 1))) => add_nl (n / d) 1 o o' c c' W h h' (by omega) (by rw [n1]; decide)
  have cW : ∀ W : World, Calls Try.prog 70 #[.int .u64 1] W fun e w' => ∃ ao cap, e = .returned (.slice ao (nl 1).length cap) ∧ w'.ownsRow W.heap.size 68 1 (.slice ao (nl 1).length cap) (nl 1).length (ints .u32 (nl 1)) ∧ Below W.heap.size W w' := fun W => word_any 1 W (by omega)
  have cF0 := fun (Q : Nat) (W : World) (o o' : Option Addr) (c c' : Nat) (h : Lies W o c (ints .u32 (nl Q))) (h' : Lies W o' c' (ints .u32 (nl 1))) => fit_any b Q 1 o o' c c' W h h' (Nat.le_refl _) (Nat.gcd_one_right _)
  have hlow := h.1
  obtain ⟨A1, L1, p1, rfl⟩ := h.shape
  obtain ⟨W0, eW0, hb0, hk0, hk1⟩ := two_new w (.cells #[.bool b, .int .u64 A1, .int .u64 L1, .pointer p1] 28) (.cells #[.bool false, .int .u64 0, .int .u64 0, .pointer none] 28)
  have I1 : Hid (IsRat W0 (.agg #[.bool b, .int .u64 A1, .int .u64 L1, .pointer p1]) b n d) := h.below hb0
  have HK0 : Hid (W0.heap[w.heap.size]? = some (.cells #[.bool b, .int .u64 A1, .int .u64 L1, .pointer p1] 28)) := hk0
  have HK1 : Hid (W0.heap[w.heap.size + 1]? = some (.cells #[.bool false, .int .u64 0, .int .u64 0, .pointer none] 28)) := hk1
  obtain ⟨a0, a1, a2, a3⟩ := box0 hk0
  have ne1 : w.heap.size ≠ w.heap.size + 1 := by omega
  have D9 : ∀ W : World, Below W.heap.size W W.drew := fun W => (Below.refl _ _).drew
  have EW : Hid (_ = W0) := eW0
  clear eW0 hk0 hk1 h
  by_cases h1 : d = 1
  · subst h1
    rw [flo_one, show (b && decide (n ≠ 0)) = b by by_cases hn : n = 0 <;> simp [hn, hlow.sg]]
    clear cA cW cF0 cSp cDv l1 l2 lq n1 hp hlow
    simp only [decide_true] at cWh
    go_enter Try.func38, Try.ntmps38
    go_upto_region 1 with fail
    rw [EW.out]
    go_wp2_with (go_at_call 37; refine (cWh _ hb0).mono ?_; rintro e w1 ⟨rfl, hb1⟩; have kw := box_kept HK0.out hb1 (in_heap HK0.out); have kr := box_kept HK1.out hb1 (in_heap HK1.out); obtain ⟨x0, x1, x2, x3⟩ := box0 kw; obtain ⟨y0, y1, y2, y3⟩ := box0 kr; have ff := boxF kr; have HKR : Hid (w1.heap[w.heap.size + 1]? = some (.cells #[.bool false, .int .u64 0, .int .u64 0, .pointer none] 28)) := kr; clear kw kr)
    have k2 := box_set HKR.out (.bool b) (.int .u64 A1) (.int .u64 L1) (.pointer p1)
    have hB := box_below (bt hb0 hb1) (Nat.le_succ _) (.bool b) (.int .u64 A1) (.int .u64 L1) (.pointer p1)
    have hR := (I1.out.below hb1).set4 HKR.out (.bool b) (.int .u64 A1) (.int .u64 L1) (.pointer p1)
    generalize World.setCell _ _ _ = W' at *
    obtain ⟨g0, g1, g2, g3⟩ := box0 k2
    refine bodyPost_ret (v := .agg #[.bool b, .int .u64 A1, .int .u64 L1, .pointer p1]) ?_ rfl ?_
    · simp [results, go_sem, g0, g1, g2, g3]
    · exact ⟨_, rfl, hR, hB⟩
  have cWh1 : ∀ W : World, Below w.heap.size w W → Calls Try.prog 37 #[.agg #[.bool b, .int .u64 A1, .int .u64 L1, .pointer p1]] W fun e w' => e = .returned (.bool false) ∧ Below W.heap.size W w' := fun W hb => by
    have := cWh W hb
    rw [decide_eq_false h1] at this
    exact this
  clear cWh
  cases b
  · rw [flo_pos]
    obtain ⟨Q, eQ⟩ : ∃ Q, n / d = Q := ⟨_, rfl⟩
    rw [eQ] at cDv ⊢
    have cF := cF0 Q
    obtain ⟨rb, erb⟩ : ∃ x, (false && decide (Q ≠ 0)) = x := ⟨_, rfl⟩
    rw [erb]
    have cF : ∀ (W : World) (o o' : Option Addr) (c c' : Nat), Lies W o c (ints .u32 (nl Q)) → Lies W o' c' (ints .u32 (nl 1)) → Calls Try.prog 58 #[.bool false, .slice o (nl Q).length c, .slice o' (nl 1).length c'] W fun e w' => ∃ v, e = .returned v ∧ IsRat w' v rb Q 1 ∧ Below W.heap.size W w' := by rw [← erb]; exact cF0 Q
    clear cF0 erb eQ cA l1 l2 lq n1 hp hlow h1 I1
    go_enter Try.func38, Try.ntmps38
    go_upto_region 1 with fail
    rw [EW.out]
    go_upto_region 7 with (first
      | (go_at_call 37; refine (cWh1 _ hb0).mono ?_; rintro e w1 ⟨rfl, hb1⟩; have H1 := bt hb0 hb1; have kw := box_kept HK0.out hb1 (in_heap HK0.out); obtain ⟨x0, x1, x2, x3⟩ := box0 kw; clear kw)
      | (go_at_call 47; refine (cSp _ H1).mono ?_; rintro e w2 ⟨o1, c1, o2, c2, rfl, y1, y2, hb2⟩; have H2 := bt H1 hb2)
      | (go_at_call 68; refine (cDv _ _ _ _ _ y1 y2).mono ?_; rintro e w3 ⟨o3, c3, o4, c4, rfl, y3, y4, hb3⟩; have HD := bt H2 hb3; have HW : Hid (Below W0.heap.size W0 w3) := bt hb1 (bt hb2 hb3); have kw := box_kept HK0.out HW.out (in_heap HK0.out); obtain ⟨z0, z1, z2, z3⟩ := box0 kw; clear kw))
    have YQ : Hid (Lies w3 o3 c3 (ints .u32 (nl Q))) := y3
    have x0 := z0
    have x1 := z1
    have x2 := z2
    have x3 := z3
    clear z0 z1 z2 z3 y1 y2 y3 y4 H1 H2 hb1 hb2 hb3 hb0 a0 a1 a2 a3
    have HD1 := HD.drew
    have s7 : w3.drew.cell? ⟨w.heap.size, 0, none⟩ = some (.bool false) ∧ w3.drew.cell? ⟨w.heap.size, 1, none⟩ = some (.int .u64 A1) ∧ w3.drew.cell? ⟨w.heap.size, 2, none⟩ = some (.int .u64 L1) ∧ w3.drew.cell? ⟨w.heap.size, 3, none⟩ = some (.pointer p1) := ⟨x0, x1, x2, x3⟩
    clear x0 x1 x2 x3
    go_region_held3 (fun w' => w'.cell? ⟨w.heap.size, 0, none⟩ = some (.bool false) ∧ w'.cell? ⟨w.heap.size, 1, none⟩ = some (.int .u64 A1) ∧ w'.cell? ⟨w.heap.size, 2, none⟩ = some (.int .u64 L1) ∧ w'.cell? ⟨w.heap.size, 3, none⟩ = some (.pointer p1)) (first | with_reducible exact s7 | with_reducible exact s8 | with_reducible exact s9 | with_reducible exact s10) (first
      | (go_at_call 70; refine (cW _).mono ?_; rintro e w8 ⟨o8, c8, rfl, hown8, hb8⟩; have H8 := bt HD1 hb8; have s8 := five_same hb8 s7)
      | (go_at_call 58; refine (cF _ _ _ _ _ (drewL YQ.out hb8) (lies_of_owns hown8)).mono ?_; rintro e w9 ⟨v9, rfl, hR9, hb9⟩; have H9 := bt H8 hb9; have s9 := five_same hb9 s8; obtain ⟨VA, VL, vp, rfl⟩ := hR9.shape; have k9 := box_kept HK1.out (bt HW.out (bt (D9 _) (bt hb8 hb9))) (in_heap HK1.out); obtain ⟨d0, d1, d2, d3⟩ := box0 k9; have ff := boxF k9; have s10 := four_off ((set4_off w9 (w.heap.size + 1) (.bool rb) (.int .u64 VA) (.int .u64 VL) (.pointer vp)).1 _ ne1) s9; have HK9 : Hid (w9.heap[w.heap.size + 1]? = some (.cells #[.bool false, .int .u64 0, .int .u64 0, .pointer none] 28)) := k9; clear k9))
    all_goals go_wp2
    have k2 := box_set HK9.out (.bool rb) (.int .u64 VA) (.int .u64 VL) (.pointer vp)
    have hB := box_below H9 (Nat.le_succ _) (.bool rb) (.int .u64 VA) (.int .u64 VL) (.pointer vp)
    have hR := hR9.set4 HK9.out (.bool rb) (.int .u64 VA) (.int .u64 VL) (.pointer vp)
    generalize World.setCell _ _ _ = W' at *
    obtain ⟨g0, g1, g2, g3⟩ := box0 k2
    refine bodyPost_ret (v := .agg #[.bool rb, .int .u64 VA, .int .u64 VL, .pointer vp]) ?_ rfl ?_
    · simp [results, go_sem, g0, g1, g2, g3]
    · exact ⟨_, rfl, hR, hB⟩
  · rw [flo_neg hlow.one h1]
    obtain ⟨Q, eQ⟩ : ∃ Q, n / d + 1 = Q := ⟨_, rfl⟩
    rw [eQ] at cA ⊢
    obtain ⟨q, eq⟩ : ∃ q, n / d = q := ⟨_, rfl⟩
    rw [eq] at cA cDv
    obtain ⟨rb, erb⟩ : ∃ x, (true && decide (Q ≠ 0)) = x := ⟨_, rfl⟩
    rw [erb]
    have cF : ∀ (W : World) (o o' : Option Addr) (c c' : Nat), Lies W o c (ints .u32 (nl Q)) → Lies W o' c' (ints .u32 (nl 1)) → Calls Try.prog 58 #[.bool true, .slice o (nl Q).length c, .slice o' (nl 1).length c'] W fun e w' => ∃ v, e = .returned v ∧ IsRat w' v rb Q 1 ∧ Below W.heap.size W w' := by rw [← erb]; exact cF0 Q
    clear cF0 erb eQ eq l1 l2 lq n1 hp hlow h1 I1
    go_enter Try.func38, Try.ntmps38
    go_upto_region 1 with fail
    rw [EW.out]
    go_upto_region 7 with (first
      | (go_at_call 37; refine (cWh1 _ hb0).mono ?_; rintro e w1 ⟨rfl, hb1⟩; have H1 := bt hb0 hb1; have kw := box_kept HK0.out hb1 (in_heap HK0.out); obtain ⟨x0, x1, x2, x3⟩ := box0 kw; clear kw)
      | (go_at_call 47; refine (cSp _ H1).mono ?_; rintro e w2 ⟨o1, c1, o2, c2, rfl, y1, y2, hb2⟩; have H2 := bt H1 hb2)
      | (go_at_call 68; refine (cDv _ _ _ _ _ y1 y2).mono ?_; rintro e w3 ⟨o3, c3, o4, c4, rfl, y3, y4, hb3⟩; have H3 := bt H2 hb3; have kw := box_kept HK0.out (bt hb1 (bt hb2 hb3)) (in_heap HK0.out); obtain ⟨z0, z1, z2, z3⟩ := box0 kw; clear kw)
      | (go_at_call 70; refine (cW _).mono ?_; rintro e w4 ⟨o5, c5, rfl, hown5, hb4⟩)
      | (go_at_call 69; refine (cA _ _ _ _ _ (y3.below hb4 (Nat.le_refl _)) (lies_of_owns hown5)).mono ?_; rintro e w5 ⟨o6, c6, rfl, y6, hb5⟩; have HD := bt H3 (bt hb4 hb5); have HW : Hid (Below W0.heap.size W0 w5) := bt hb1 (bt hb2 (bt hb3 (bt hb4 hb5))); have kw := box_kept HK0.out HW.out (in_heap HK0.out); obtain ⟨t0, t1, t2, t3⟩ := box0 kw; clear kw))
    have YQ : Hid (Lies w5 o6 c6 (ints .u32 (nl Q))) := y6
    have x0 := t0
    have x1 := t1
    have x2 := t2
    have x3 := t3
    clear t0 t1 t2 t3 z0 z1 z2 z3 y1 y2 y3 y4 y6 H1 H2 H3 hb1 hb2 hb3 hb4 hb5 hb0 a0 a1 a2 a3
    have HD1 := HD.drew
    have s7 : w5.drew.cell? ⟨w.heap.size, 0, none⟩ = some (.bool true) ∧ w5.drew.cell? ⟨w.heap.size, 1, none⟩ = some (.int .u64 A1) ∧ w5.drew.cell? ⟨w.heap.size, 2, none⟩ = some (.int .u64 L1) ∧ w5.drew.cell? ⟨w.heap.size, 3, none⟩ = some (.pointer p1) := ⟨x0, x1, x2, x3⟩
    clear x0 x1 x2 x3
    go_region_held3 (fun w' => w'.cell? ⟨w.heap.size, 0, none⟩ = some (.bool true) ∧ w'.cell? ⟨w.heap.size, 1, none⟩ = some (.int .u64 A1) ∧ w'.cell? ⟨w.heap.size, 2, none⟩ = some (.int .u64 L1) ∧ w'.cell? ⟨w.heap.size, 3, none⟩ = some (.pointer p1)) (first | with_reducible exact s7 | with_reducible exact s8 | with_reducible exact s9 | with_reducible exact s10) (first
      | (go_at_call 70; refine (cW _).mono ?_; rintro e w8 ⟨o8, c8, rfl, hown8, hb8⟩; have H8 := bt HD1 hb8; have s8 := five_same hb8 s7)
      | (go_at_call 58; refine (cF _ _ _ _ _ (drewL YQ.out hb8) (lies_of_owns hown8)).mono ?_; rintro e w9 ⟨v9, rfl, hR9, hb9⟩; have H9 := bt H8 hb9; have s9 := five_same hb9 s8; obtain ⟨VA, VL, vp, rfl⟩ := hR9.shape; have k9 := box_kept HK1.out (bt HW.out (bt (D9 _) (bt hb8 hb9))) (in_heap HK1.out); obtain ⟨d0, d1, d2, d3⟩ := box0 k9; have ff := boxF k9; have s10 := four_off ((set4_off w9 (w.heap.size + 1) (.bool rb) (.int .u64 VA) (.int .u64 VL) (.pointer vp)).1 _ ne1) s9; have HK9 : Hid (w9.heap[w.heap.size + 1]? = some (.cells #[.bool false, .int .u64 0, .int .u64 0, .pointer none] 28)) := k9; clear k9))
    all_goals go_wp2
    have k2 := box_set HK9.out (.bool rb) (.int .u64 VA) (.int .u64 VL) (.pointer vp)
    have hB := box_below H9 (Nat.le_succ _) (.bool rb) (.int .u64 VA) (.int .u64 VL) (.pointer vp)
    have hR := hR9.set4 HK9.out (.bool rb) (.int .u64 VA) (.int .u64 VL) (.pointer vp)
    generalize World.setCell _ _ _ = W' at *
    obtain ⟨g0, g1, g2, g3⟩ := box0 k2
    refine bodyPost_ret (v := .agg #[.bool rb, .int .u64 VA, .int .u64 VL, .pointer vp]) ?_ rfl ?_
    · simp [results, go_sem, g0, g1, g2, g3]
    · exact ⟨_, rfl, hR, hB⟩
end Go.Proofs.Ytfkaeehbnnhfoaa.FloL

/- RatDivs: quotients and inverses are exact, and dividing by 0 is refused: the walk. -/
namespace Go.Proofs.Ytfkaeehbnnhfoaa.DvW
open Go.RowKit Mem LimbNum Limb1 RatL RatM RatN RatF RefR RefT RefU RefI Law5 Aw5 Mk5 Bo5 BoN BoZ MulW MulL InvL DivL

/-- Both, whatever came in. -/
theorem both_any (b : Bool) (A B : List Nat) (ao bo : Option Addr) (cap1 cap2 : Nat) (w : World) (hl : Lies w ao cap1 (ints .u32 A)) (hl2 : Lies w bo cap2 (ints .u32 B)) (hA : Small A) (hB : Small B) :
    Calls Try.prog 9 #[.agg #[.bool b, .slice ao A.length cap1, .slice bo B.length cap2]] w fun e w' => ∃ v q b2 n d, e = .returned (.tuple #[v, q]) ∧ IsRat w' v b2 n d ∧ IsRef w' q b2 n d ∧ ((nb n).length ≤ 256 ∧ (nb d).length ≤ 256) ∧ Below w.heap.size w w' := by
  have sA := small_take8 A hA
  have sB := small_take8 B hB
  have lA : (A.take 8).length ≤ 8 := by simp; omega
  have lB : (B.take 8).length ≤ 8 := by simp; omega
  have bP := bits8 _ sA lA
  have bQ := bits8 _ sB lB
  by_cases h : val (B.take 8) = 0
  · refine (both_z b A B [1] rfl ao bo cap1 cap2 w hl hl2 hA hB h).mono ?_
    rintro e w' ⟨v, q, rfl, h1, h2, hb⟩
    exact ⟨v, q, _, _, _, rfl, h1, h2, ⟨bits_div _ _ _ bP, bits_div _ _ _ (bits8 [1] (by intro x hx; simp at hx; omega) (by decide))⟩, hb⟩
  · refine (both_nz b A B ao bo cap1 cap2 w hl hl2 hA hB h).mono ?_
    rintro e w' ⟨v, q, rfl, h1, h2, hb⟩
    exact ⟨v, q, _, _, _, rfl, h1, h2, ⟨bits_div _ _ _ bP, bits_div _ _ _ bQ⟩, hb⟩
theorem nl_few {n : Nat} (h : (nb n).length ≤ 256) : (nl n).length ≤ 35184372088832 := by
  have h1 := fromL_lt (nb n)
  rw [fromL_nb] at h1
  have h2 : n < 4294967296 ^ 8 := Nat.lt_of_lt_of_le h1 (Nat.pow_le_pow_right (by omega) h)
  have := nl_lt 8 n h2
  omega
/-- One block more. -/
theorem one_new (w : World) (o : Obj) : ∃ W, w.alloc o = W ∧ Below w.heap.size w W ∧ W.heap[w.heap.size]? = some o := ⟨_, rfl, (Below.refl _ _).alloc (Nat.le_refl _) _, heap_alloc_new _ _⟩
/-- Two blocks more. -/
theorem two_new (w : World) (o o' : Obj) : ∃ W, (w.alloc o).alloc o' = W ∧ Below w.heap.size w W ∧ W.heap[w.heap.size]? = some o ∧ W.heap[w.heap.size + 1]? = some o' := by
  refine ⟨_, rfl, ((Below.refl _ _).alloc (Nat.le_refl _) _).alloc (by simp) _, ?_, ?_⟩
  · rw [heap_alloc_old _ _ (by simp)]; exact heap_alloc_new _ _
  · have z1 : (w.alloc o).heap.size = w.heap.size + 1 := by simp
    rw [← z1]; exact heap_alloc_new _ _
/-- A number of the program's that lies in the block g. -/
structure RL (W : World) (g : Nat) (b : Bool) (n d : Nat) (A L : Int) (p : Option Addr) : Prop where
  box : W.heap[g]? = some (.cells #[.bool b, .int .u64 A, .int .u64 L, .pointer p] 28)
  is : IsRat W (.agg #[.bool b, .int .u64 A, .int .u64 L, .pointer p]) b n d
theorem RL.kept {W W' : World} {g : Nat} {b : Bool} {n d : Nat} {A L : Int} {p : Option Addr} (h : RL W g b n d A L p) (hb : Below W.heap.size W W') : RL W' g b n d A L p :=
  ⟨box_kept h.box hb (in_heap h.box), h.is.below hb⟩
theorem RL.cells {W : World} {g : Nat} {b : Bool} {n d : Nat} {A L : Int} {p : Option Addr} (h : RL W g b n d A L p) : W.cell? ⟨g, 0, none⟩ = some (.bool b) ∧ W.cell? ⟨g, 1, none⟩ = some (.int .u64 A) ∧ W.cell? ⟨g, 2, none⟩ = some (.int .u64 L) ∧ W.cell? ⟨g, 3, none⟩ = some (.pointer p) := box0 h.box
/-- A number of the reference's that lies in the block g. -/
structure QL (W : World) (g : Nat) (b : Bool) (n d : Nat) (o1 : Option Addr) (c1 : Nat) (o2 : Option Addr) (c2 : Nat) : Prop where
  box : W.heap[g]? = some (.cells #[.bool b, .slice o1 (nb n).length c1, .slice o2 (nb d).length c2] 31)
  is : IsRef W (.agg #[.bool b, .slice o1 (nb n).length c1, .slice o2 (nb d).length c2]) b n d
theorem QL.kept {W W' : World} {g : Nat} {b : Bool} {n d : Nat} {o1 : Option Addr} {c1 : Nat} {o2 : Option Addr} {c2 : Nat} (h : QL W g b n d o1 c1 o2 c2) (hb : Below W.heap.size W W') : QL W' g b n d o1 c1 o2 c2 :=
  ⟨box_kept h.box hb (in_heap h.box), h.is.below hb⟩
theorem QL.cells {W : World} {g : Nat} {b : Bool} {n d : Nat} {o1 : Option Addr} {c1 : Nat} {o2 : Option Addr} {c2 : Nat} (h : QL W g b n d o1 c1 o2 c2) : W.cell? ⟨g, 0, none⟩ = some (.bool b) ∧ W.cell? ⟨g, 1, none⟩ = some (.slice o1 (nb n).length c1) ∧ W.cell? ⟨g, 2, none⟩ = some (.slice o2 (nb d).length c2) := box3_cells h.box
set_option maxRecDepth 20000 in
set_option maxHeartbeats 2000000 in
theorem law (b1 b2 : Bool) (SA1 SB1 SA2 SB2 : Value) (w : World)
    (cB1 : ∀ W, Below w.heap.size w W → Calls Try.prog 9 #[.agg #[.bool b1, SA1, SB1]] W fun e w' => ∃ v q b2 n d, e = .returned (.tuple #[v, q]) ∧ IsRat w' v b2 n d ∧ IsRef w' q b2 n d ∧ ((nb n).length ≤ 256 ∧ (nb d).length ≤ 256) ∧ Below W.heap.size W w')
    (cB2 : ∀ W, Below w.heap.size w W → Calls Try.prog 9 #[.agg #[.bool b2, SA2, SB2]] W fun e w' => ∃ v q b2 n d, e = .returned (.tuple #[v, q]) ∧ IsRat w' v b2 n d ∧ IsRef w' q b2 n d ∧ ((nb n).length ≤ 256 ∧ (nb d).length ≤ 256) ∧ Below W.heap.size W w') :
    Calls Try.prog 5 #[.agg #[.bool b1, SA1, SB1], .agg #[.bool b2, SA2, SB2]] w fun e w' => e = .returned (.bool true) ∧ Below w.heap.size w w' := by
  obtain ⟨W0, eW0⟩ : ∃ W0 : World, (w.alloc (.cells #[.bool b1, SA1, SB1] 24)).alloc (.cells #[.bool b2, SA2, SB2] 24) = W0 := ⟨_, rfl⟩
  have hb0 : Below w.heap.size w W0 := by rw [← eW0]; exact ((Below.refl _ _).alloc (Nat.le_refl _) _).alloc (by simp) _
  have z1 : (w.alloc (.cells #[.bool b1, SA1, SB1] 24)).heap.size = w.heap.size + 1 := by simp
  have k0 : W0.heap[w.heap.size]? = some (.cells #[.bool b1, SA1, SB1] 24) := by rw [← eW0, heap_alloc_old _ _ (by omega)]; exact heap_alloc_new _ _
  have k1 : W0.heap[w.heap.size + 1]? = some (.cells #[.bool b2, SA2, SB2] 24) := by rw [← eW0, ← z1]; exact heap_alloc_new _ _
  have c3 : ∀ {W : World} {g : Nat} {a b c : Value} {t : TypeId}, W.heap[g]? = some (.cells #[a, b, c] t) → W.cell? ⟨g, 0, none⟩ = some a ∧ W.cell? ⟨g, 1, none⟩ = some b ∧ W.cell? ⟨g, 2, none⟩ = some c := fun {W g a b c t} h => by
    refine ⟨?_, ?_, ?_⟩ <;> simp [World.cell?, h]
  obtain ⟨a0, a1, a2⟩ := c3 k0
  have HK1 : Hid (W0.heap[w.heap.size + 1]? = some (.cells #[.bool b2, SA2, SB2] 24)) := k1
  have HC3 : Hid (∀ {W : World} {g : Nat} {a b c : Value} {t : TypeId}, W.heap[g]? = some (.cells #[a, b, c] t) → W.cell? ⟨g, 0, none⟩ = some a ∧ W.cell? ⟨g, 1, none⟩ = some b ∧ W.cell? ⟨g, 2, none⟩ = some c) := c3
  have EW : Hid ((w.alloc (.cells #[.bool b1, SA1, SB1] 24)).alloc (.cells #[.bool b2, SA2, SB2] 24) = W0) := eW0
  have cB1' := cB1 W0 hb0
  clear eW0 z1 k0 k1 c3 cB1
  go_enter Try.func5, Try.ntmps5
  go_upto_region 1 with fail
  rw [EW.out]
  go_upto_region 2 with (go_at_call 9; refine cB1'.mono ?_; rintro e w1 ⟨v1, q1, x1, n1, d1, rfl, R1, Q1, lim1, hb1⟩; obtain ⟨VA1, VL1, vp1, rfl⟩ := R1.shape; obtain ⟨o1, m1, o2, m2, rfl, O1, O2⟩ := Q1)
  obtain ⟨W1, eW1, B1, kx, kp⟩ := two_new w1 (.cells #[.bool x1, .int .u64 VA1, .int .u64 VL1, .pointer vp1] 28) (.cells #[.bool x1, .slice o1 (nb n1).length m1, .slice o2 (nb d1).length m2] 31)
  rw [eW1]
  have X1 : Hid (RL W1 w1.heap.size x1 n1 d1 VA1 VL1 vp1) := ⟨kx, R1.below B1⟩
  have P1 : Hid (QL W1 (w1.heap.size + 1) x1 n1 d1 o1 m1 o2 m2) := ⟨kp, ⟨_, _, _, _, rfl, keep O1 B1, keep O2 B1⟩⟩
  have C1 : Hid (Below w.heap.size w W1) := bt (bt hb0 hb1) B1
  obtain ⟨y0, y1, y2⟩ := HC3.out (box_kept HK1.out (bt hb1 B1) (in_heap HK1.out))
  have cB2' := cB2 W1 C1.out
  generalize w1.heap.size = gx at *
  clear eW1 kx kp B1 R1 O1 O2 cB1' cB2 a0 a1 a2 HC3 EW hb1 hb0 HK1
  go_upto_region 3 with (go_at_call 9; refine cB2'.mono ?_; rintro e w2 ⟨v2, q2, x2, n2, d2, rfl, R2, Q2, lim2, hb2⟩; obtain ⟨VA2, VL2, vp2, rfl⟩ := R2.shape; obtain ⟨o3, m3, o4, m4, rfl, O3, O4⟩ := Q2)
  obtain ⟨W2, eW2, B2, ky, kq⟩ := two_new w2 (.cells #[.bool x2, .int .u64 VA2, .int .u64 VL2, .pointer vp2] 28) (.cells #[.bool x2, .slice o3 (nb n2).length m3, .slice o4 (nb d2).length m4] 31)
  rw [eW2]
  have X2 : Hid (RL W2 gx x1 n1 d1 VA1 VL1 vp1) := X1.out.kept (bt hb2 B2)
  have P2 : Hid (QL W2 (gx + 1) x1 n1 d1 o1 m1 o2 m2) := P1.out.kept (bt hb2 B2)
  have Y2 : Hid (RL W2 w2.heap.size x2 n2 d2 VA2 VL2 vp2) := ⟨ky, R2.below B2⟩
  have Z2 : Hid (QL W2 (w2.heap.size + 1) x2 n2 d2 o3 m3 o4 m4) := ⟨kq, ⟨_, _, _, _, rfl, keep O3 B2, keep O4 B2⟩⟩
  have C2 : Hid (Below w.heap.size w W2) := bt (bt C1.out hb2) B2
  generalize w2.heap.size = gy at *
  clear eW2 ky kq B2 R2 O3 O4 cB2' y0 y1 y2 hb2 X1 P1 C1
  have L1 : Hid ((nb n1).length ≤ 256 ∧ (nb d1).length ≤ 256) := lim1
  have L2 : Hid ((nb n2).length ≤ 256 ∧ (nb d2).length ≤ 256) := lim2
  clear lim1 lim2
  obtain ⟨N1, eN1⟩ : ∃ x, Hid ((nb n1).length = x) := ⟨_, rfl⟩
  obtain ⟨D1, eD1⟩ : ∃ x, Hid ((nb d1).length = x) := ⟨_, rfl⟩
  obtain ⟨N2, eN2⟩ : ∃ x, Hid ((nb n2).length = x) := ⟨_, rfl⟩
  obtain ⟨D2, eD2⟩ : ∃ x, Hid ((nb d2).length = x) := ⟨_, rfl⟩
  obtain ⟨u0, u1, u2, u3⟩ := Y2.out.cells
  by_cases hn : n2 = 0
  · subst hn
    have hx : x2 = false := Y2.out.is.1.sg rfl
    subst hx
    go_upto_region 4 with (go_at_call 31; refine (inv_no _ _ _ _ Y2.out.is).mono ?_; rintro e w3 ⟨rfl, hb3⟩)
    obtain ⟨W3, eW3, B3, ki⟩ := one_new w3 (.cells #[.bool false, .int .u64 0, .int .u64 0, .pointer none] 28)
    rw [eW3]
    have X3 : Hid (RL W3 gx x1 n1 d1 VA1 VL1 vp1) := X2.out.kept (bt hb3 B3)
    have Y3 : Hid (RL W3 gy false 0 d2 VA2 VL2 vp2) := Y2.out.kept (bt hb3 B3)
    have Z3 : Hid (QL W3 (gy + 1) false 0 d2 o3 m3 o4 m4) := Z2.out.kept (bt hb3 B3)
    have I3 : Hid (RL W3 w3.heap.size false 0 1 0 0 none) := ⟨ki, zero_rat _⟩
    have C3 : Hid (Below w.heap.size w W3) := bt (bt C2.out hb3) B3
    generalize w3.heap.size = gi at *
    clear eW3 ki B3 hb3 X2 P2 Y2 Z2 C2 u0 u1 u2 u3
    obtain ⟨u0, u1, u2, u3⟩ := Y3.out.cells
    obtain ⟨t0, t1, t2, t3⟩ := X3.out.cells
    go_upto_region 5 with (go_at_call 32; refine (div_no _ _ _ _ _ _ _ _ X3.out.is Y3.out.is).mono ?_; rintro e w4 ⟨rfl, hb4⟩)
    obtain ⟨W4, eW4, B4, kd⟩ := one_new w4 (.cells #[.bool false, .int .u64 0, .int .u64 0, .pointer none] 28)
    rw [eW4]
    have Z4 : Hid (QL W4 (gy + 1) false 0 d2 o3 m3 o4 m4) := Z3.out.kept (bt hb4 B4)
    have I4 : Hid (RL W4 gi false 0 1 0 0 none) := I3.out.kept (bt hb4 B4)
    have J4 : Hid (RL W4 w4.heap.size false 0 1 0 0 none) := ⟨kd, zero_rat _⟩
    have C4 : Hid (Below w.heap.size w W4) := bt (bt C3.out hb4) B4
    generalize w4.heap.size = gd at *
    clear eW4 kd B4 hb4 X3 Y3 Z3 I3 C3 u0 u1 u2 u3 t0 t1 t2 t3
    obtain ⟨u0, u1, u2⟩ := Z4.out.cells
    have cS := rsign_any _ false 0 d2 W4 Z4.out.is (fun _ => rfl) (by rw [nb_zero]; simp)
    rw [sgn_zero rfl] at cS
    go_wp2_with (first
      | (go_at_call 28; refine cS.mono ?_; rintro e w5 ⟨rfl, hb5⟩)
      | (go_at_call 12; refine (awake5 _).mono ?_; rintro e w6 ⟨rfl, hb6⟩; have I6 : Hid (RL w6 gi false 0 1 0 0 none) := I4.out.kept (bt hb5 hb6); have J6 : Hid (RL w6 gd false 0 1 0 0 none) := J4.out.kept (bt hb5 hb6); obtain ⟨i0, i1, i2, i3⟩ := I6.out.cells; have T1 : True := trivial)
      | (go_at_call 27; have _t := T1; clear _t T1; refine (sign_any _ false 0 1 _ (I6.out.is)).mono ?_; rintro e w7 ⟨rfl, hb7⟩; have J7 : Hid (RL w7 gd false 0 1 0 0 none) := J6.out.kept hb7; obtain ⟨j0, j1, j2, j3⟩ := J7.out.cells; rw [sgn_zero rfl])
      | (go_at_call 27; refine (sign_any _ false 0 1 _ (J7.out.is)).mono ?_; rintro e w8 ⟨rfl, hb8⟩; rw [sgn_zero rfl]))
    go_ret
    exact ⟨rfl, bt (bt (bt (bt C4.out hb5) hb6) hb7) hb8⟩
  · have hnz : Hid (n2 ≠ 0) := hn
    have hd2 : Hid (d2 ≠ 0) := by have := Y2.out.is.1.pos; unfold Hid; omega
    go_upto_region 4 with (go_at_call 31; refine (inv_yes _ _ _ _ _ Y2.out.is hnz.out).mono ?_; rintro e w3 ⟨v3, rfl, R3, hb3⟩; obtain ⟨IA, IL, ip, rfl⟩ := R3.shape)
    obtain ⟨W3, eW3, B3, ki⟩ := one_new w3 (.cells #[.bool x2, .int .u64 IA, .int .u64 IL, .pointer ip] 28)
    rw [eW3]
    have X3 : Hid (RL W3 gx x1 n1 d1 VA1 VL1 vp1) := X2.out.kept (bt hb3 B3)
    have P3 : Hid (QL W3 (gx + 1) x1 n1 d1 o1 m1 o2 m2) := P2.out.kept (bt hb3 B3)
    have Y3 : Hid (RL W3 gy x2 n2 d2 VA2 VL2 vp2) := Y2.out.kept (bt hb3 B3)
    have Z3 : Hid (QL W3 (gy + 1) x2 n2 d2 o3 m3 o4 m4) := Z2.out.kept (bt hb3 B3)
    have I3 : Hid (RL W3 w3.heap.size x2 d2 n2 IA IL ip) := ⟨ki, R3.below B3⟩
    have C3 : Hid (Below w.heap.size w W3) := bt (bt C2.out hb3) B3
    generalize w3.heap.size = gi at *
    clear eW3 ki B3 hb3 R3 X2 P2 Y2 Z2 C2 u0 u1 u2 u3
    obtain ⟨u0, u1, u2, u3⟩ := Y3.out.cells
    obtain ⟨t0, t1, t2, t3⟩ := X3.out.cells
    have cDv := div_yes _ _ _ _ _ _ _ _ W3 X3.out.is Y3.out.is hnz.out (nl_few L1.out.1) (nl_few L1.out.2) (nl_few L2.out.1) (nl_few L2.out.2)
    have cMl := fun (W : World) (v v' : Value) (h : IsRef W v x1 n1 d1) (h' : IsRef W v' x2 d2 n2) => rmul_any v v' x1 x2 n1 d1 d2 n2 W h h' (by have := X3.out.is.1.pos; omega) hnz.out (by have := L1.out.1; omega) (by have := L1.out.2; omega) (by have := L2.out.2; omega) (by have := L2.out.1; omega)
    have bN : (nb (n1 * d2 / Nat.gcd (n1 * d2) (d1 * n2))).length ≤ 1000000 := bits_div _ _ _ (Nat.le_trans (mul_bits n1 d2 256 256 L1.out.1 L2.out.2) (by decide))
    have bD : (nb (d1 * n2 / Nat.gcd (n1 * d2) (d1 * n2))).length ≤ 1000000 := bits_div _ _ _ (Nat.le_trans (mul_bits d1 n2 256 256 L1.out.2 L2.out.1) (by decide))
    generalize ((x1 != x2) && decide (n1 * d2 / Nat.gcd (n1 * d2) (d1 * n2) ≠ 0)) = bd at *
    generalize n1 * d2 / Nat.gcd (n1 * d2) (d1 * n2) = N at *
    generalize d1 * n2 / Nat.gcd (n1 * d2) (d1 * n2) = D at *
    have LN : Hid ((nb N).length ≤ 1000000 ∧ (nb D).length ≤ 1000000) := ⟨bN, bD⟩
    clear bN bD
    go_upto_region 5 with (go_at_call 32; refine cDv.mono ?_; rintro e w4 ⟨v4, rfl, R4, hb4⟩; obtain ⟨DA, DL, dp, rfl⟩ := R4.shape)
    obtain ⟨W4, eW4, B4, kd⟩ := one_new w4 (.cells #[.bool bd, .int .u64 DA, .int .u64 DL, .pointer dp] 28)
    rw [eW4]
    have P4 : Hid (QL W4 (gx + 1) x1 n1 d1 o1 m1 o2 m2) := P3.out.kept (bt hb4 B4)
    have Z4 : Hid (QL W4 (gy + 1) x2 n2 d2 o3 m3 o4 m4) := Z3.out.kept (bt hb4 B4)
    have I4 : Hid (RL W4 gi x2 d2 n2 IA IL ip) := I3.out.kept (bt hb4 B4)
    have J4 : Hid (RL W4 w4.heap.size bd N D DA DL dp) := ⟨kd, R4.below B4⟩
    have C4 : Hid (Below w.heap.size w W4) := bt (bt C3.out hb4) B4
    generalize w4.heap.size = gd at *
    clear eW4 kd B4 hb4 R4 cDv X3 P3 Y3 Z3 I3 C3 u0 u1 u2 u3 t0 t1 t2 t3
    obtain ⟨u0, u1, u2⟩ := Z4.out.cells
    have cS := rsign_any _ x2 n2 d2 W4 Z4.out.is (fun h => absurd h hnz.out) (by have := L2.out.1; omega)
    have sz := sgn_ne (b := x2) hnz.out
    generalize sgn x2 n2 = SG at *
    go_upto_region 7 with (go_at_call 28; refine cS.mono ?_; rintro e w5 ⟨rfl, hb5⟩)
    have P5 : Hid (QL w5 (gx + 1) x1 n1 d1 o1 m1 o2 m2) := P4.out.kept hb5
    have Z5 : Hid (QL w5 (gy + 1) x2 n2 d2 o3 m3 o4 m4) := Z4.out.kept hb5
    have I5 : Hid (RL w5 gi x2 d2 n2 IA IL ip) := I4.out.kept hb5
    have J5 : Hid (RL w5 gd bd N D DA DL dp) := J4.out.kept hb5
    have C5 : Hid (Below w.heap.size w w5.drew) := (bt C4.out hb5).drew
    have D5 : Below w5.heap.size w5 w5.drew := (Below.refl _ _).drew
    have P6 : Hid (QL w5.drew (gx + 1) x1 n1 d1 o1 m1 o2 m2) := P5.out.kept D5
    have Z6 : Hid (QL w5.drew (gy + 1) x2 n2 d2 o3 m3 o4 m4) := Z5.out.kept D5
    have I6 : Hid (RL w5.drew gi x2 d2 n2 IA IL ip) := I5.out.kept D5
    have J6 : Hid (RL w5.drew gd bd N D DA DL dp) := J5.out.kept D5
    clear P4 Z4 I4 J4 C4 P5 Z5 I5 J5 u0 u1 u2 cS hb5 D5
    have SS : w5.drew.cell? ⟨gi, 0, none⟩ = some (.bool x2) ∧ w5.drew.cell? ⟨gi, 1, none⟩ = some (.int .u64 IA) ∧ w5.drew.cell? ⟨gi, 2, none⟩ = some (.int .u64 IL) ∧ w5.drew.cell? ⟨gi, 3, none⟩ = some (.pointer ip) ∧ w5.drew.cell? ⟨gd, 0, none⟩ = some (.bool bd) ∧ w5.drew.cell? ⟨gd, 1, none⟩ = some (.int .u64 DA) ∧ w5.drew.cell? ⟨gd, 2, none⟩ = some (.int .u64 DL) ∧ w5.drew.cell? ⟨gd, 3, none⟩ = some (.pointer dp) ∧ w5.drew.cell? ⟨gy + 1, 0, none⟩ = some (.bool x2) ∧ w5.drew.cell? ⟨gy + 1, 1, none⟩ = some (.slice o3 N2 m3) ∧ w5.drew.cell? ⟨gy + 1, 2, none⟩ = some (.slice o4 D2 m4) ∧ w5.drew.cell? ⟨gx + 1, 0, none⟩ = some (.bool x1) ∧ w5.drew.cell? ⟨gx + 1, 1, none⟩ = some (.slice o1 N1 m1) ∧ w5.drew.cell? ⟨gx + 1, 2, none⟩ = some (.slice o2 D1 m2) := by
      rw [← eN1.out, ← eD1.out, ← eN2.out, ← eD2.out]
      obtain ⟨q1, q2, q3, q4⟩ := I6.out.cells
      obtain ⟨q5, q6, q7, q8⟩ := J6.out.cells
      obtain ⟨q9, q10, q11⟩ := Z6.out.cells
      obtain ⟨q12, q13, q14⟩ := P6.out.cells
      exact ⟨q1, q2, q3, q4, q5, q6, q7, q8, q9, q10, q11, q12, q13, q14⟩
    have IP6 : IsRef w5.drew (.agg #[.bool x1, .slice o1 N1 m1, .slice o2 D1 m2]) x1 n1 d1 := by rw [← eN1.out, ← eD1.out]; exact P6.out.is
    have IZ6 : IsRef w5.drew (.agg #[.bool x2, .slice o3 N2 m3, .slice o4 D2 m4]) x2 n2 d2 := by rw [← eN2.out, ← eD2.out]; exact Z6.out.is
    have II6 := I6.out.is
    have IJ6 := J6.out.is
    have HP : Hid (IsRef w5.drew (.agg #[.bool x1, .slice o1 N1 m1, .slice o2 D1 m2]) x1 n1 d1 ∧ IsRef w5.drew (.agg #[.bool x2, .slice o3 N2 m3, .slice o4 D2 m4]) x2 n2 d2 ∧ IsRat w5.drew (.agg #[.bool x2, .int .u64 IA, .int .u64 IL, .pointer ip]) x2 d2 n2 ∧ IsRat w5.drew (.agg #[.bool bd, .int .u64 DA, .int .u64 DL, .pointer dp]) bd N D) := ⟨IP6, IZ6, II6, IJ6⟩
    have s0 := SS
    clear SS P6 Z6 I6 J6 eN1 eD1 eN2 eD2 sz IP6 IZ6 II6 IJ6
    have T1 : True := trivial
    have T2 : True := trivial
    go_region_held3 (fun w' => w'.cell? ⟨gi, 0, none⟩ = some (.bool x2) ∧ w'.cell? ⟨gi, 1, none⟩ = some (.int .u64 IA) ∧ w'.cell? ⟨gi, 2, none⟩ = some (.int .u64 IL) ∧ w'.cell? ⟨gi, 3, none⟩ = some (.pointer ip) ∧ w'.cell? ⟨gd, 0, none⟩ = some (.bool bd) ∧ w'.cell? ⟨gd, 1, none⟩ = some (.int .u64 DA) ∧ w'.cell? ⟨gd, 2, none⟩ = some (.int .u64 DL) ∧ w'.cell? ⟨gd, 3, none⟩ = some (.pointer dp) ∧ w'.cell? ⟨gy + 1, 0, none⟩ = some (.bool x2) ∧ w'.cell? ⟨gy + 1, 1, none⟩ = some (.slice o3 N2 m3) ∧ w'.cell? ⟨gy + 1, 2, none⟩ = some (.slice o4 D2 m4) ∧ w'.cell? ⟨gx + 1, 0, none⟩ = some (.bool x1) ∧ w'.cell? ⟨gx + 1, 1, none⟩ = some (.slice o1 N1 m1) ∧ w'.cell? ⟨gx + 1, 2, none⟩ = some (.slice o2 D1 m2))
      (first | with_reducible exact s0 | with_reducible exact s1 | with_reducible exact s2 | with_reducible exact s3 | with_reducible exact s4 | with_reducible exact s5 | with_reducible exact s6) (first
      | (go_at_call 12; refine (awake5 _).mono ?_; rintro e w6 ⟨rfl, hb6⟩; have s1 : w6.cell? ⟨gi, 0, none⟩ = some (.bool x2) ∧ w6.cell? ⟨gi, 1, none⟩ = some (.int .u64 IA) ∧ w6.cell? ⟨gi, 2, none⟩ = some (.int .u64 IL) ∧ w6.cell? ⟨gi, 3, none⟩ = some (.pointer ip) ∧ w6.cell? ⟨gd, 0, none⟩ = some (.bool bd) ∧ w6.cell? ⟨gd, 1, none⟩ = some (.int .u64 DA) ∧ w6.cell? ⟨gd, 2, none⟩ = some (.int .u64 DL) ∧ w6.cell? ⟨gd, 3, none⟩ = some (.pointer dp) ∧ w6.cell? ⟨gy + 1, 0, none⟩ = some (.bool x2) ∧ w6.cell? ⟨gy + 1, 1, none⟩ = some (.slice o3 N2 m3) ∧ w6.cell? ⟨gy + 1, 2, none⟩ = some (.slice o4 D2 m4) ∧ w6.cell? ⟨gx + 1, 0, none⟩ = some (.bool x1) ∧ w6.cell? ⟨gx + 1, 1, none⟩ = some (.slice o1 N1 m1) ∧ w6.cell? ⟨gx + 1, 2, none⟩ = some (.slice o2 D1 m2) := by { have kc : ∀ {p : Addr} {v : Value}, w5.drew.cell? p = some v → w6.cell? p = some v := fun {p v} h => by { rw [hb6.cell (World.block_lt_of_cell? w5.drew p h)]; exact h }; exact ⟨kc s0.1, kc s0.2.1, kc s0.2.2.1, kc s0.2.2.2.1, kc s0.2.2.2.2.1, kc s0.2.2.2.2.2.1, kc s0.2.2.2.2.2.2.1, kc s0.2.2.2.2.2.2.2.1, kc s0.2.2.2.2.2.2.2.2.1, kc s0.2.2.2.2.2.2.2.2.2.1, kc s0.2.2.2.2.2.2.2.2.2.2.1, kc s0.2.2.2.2.2.2.2.2.2.2.2.1, kc s0.2.2.2.2.2.2.2.2.2.2.2.2.1, kc s0.2.2.2.2.2.2.2.2.2.2.2.2.2⟩ })
      | (go_at_call 33; have _t := T1; clear _t T1; refine (rinv_any _ x2 n2 d2 _ (HP.out.2.1.below hb6) hd2.out).mono ?_; rintro e w7 ⟨v7, rfl, Q7, hb7⟩; have H7 := bt hb6 hb7; have s2 : w7.cell? ⟨gi, 0, none⟩ = some (.bool x2) ∧ w7.cell? ⟨gi, 1, none⟩ = some (.int .u64 IA) ∧ w7.cell? ⟨gi, 2, none⟩ = some (.int .u64 IL) ∧ w7.cell? ⟨gi, 3, none⟩ = some (.pointer ip) ∧ w7.cell? ⟨gd, 0, none⟩ = some (.bool bd) ∧ w7.cell? ⟨gd, 1, none⟩ = some (.int .u64 DA) ∧ w7.cell? ⟨gd, 2, none⟩ = some (.int .u64 DL) ∧ w7.cell? ⟨gd, 3, none⟩ = some (.pointer dp) ∧ w7.cell? ⟨gy + 1, 0, none⟩ = some (.bool x2) ∧ w7.cell? ⟨gy + 1, 1, none⟩ = some (.slice o3 N2 m3) ∧ w7.cell? ⟨gy + 1, 2, none⟩ = some (.slice o4 D2 m4) ∧ w7.cell? ⟨gx + 1, 0, none⟩ = some (.bool x1) ∧ w7.cell? ⟨gx + 1, 1, none⟩ = some (.slice o1 N1 m1) ∧ w7.cell? ⟨gx + 1, 2, none⟩ = some (.slice o2 D1 m2) := by { have kc : ∀ {p : Addr} {v : Value}, w6.cell? p = some v → w7.cell? p = some v := fun {p v} h => by { rw [hb7.cell (World.block_lt_of_cell? w6 p h)]; exact h }; exact ⟨kc s1.1, kc s1.2.1, kc s1.2.2.1, kc s1.2.2.2.1, kc s1.2.2.2.2.1, kc s1.2.2.2.2.2.1, kc s1.2.2.2.2.2.2.1, kc s1.2.2.2.2.2.2.2.1, kc s1.2.2.2.2.2.2.2.2.1, kc s1.2.2.2.2.2.2.2.2.2.1, kc s1.2.2.2.2.2.2.2.2.2.2.1, kc s1.2.2.2.2.2.2.2.2.2.2.2.1, kc s1.2.2.2.2.2.2.2.2.2.2.2.2.1, kc s1.2.2.2.2.2.2.2.2.2.2.2.2.2⟩ })
      | (go_at_call 18; have _t := T2; clear _t T2; refine (is_yes _ _ x2 d2 n2 _ (HP.out.2.2.1.below H7) Q7 (by have := L2.out.2; omega) (by have := L2.out.1; omega)).mono ?_; rintro e w8 ⟨rfl, hb8⟩; have H8 := bt H7 hb8; have s3 : w8.cell? ⟨gi, 0, none⟩ = some (.bool x2) ∧ w8.cell? ⟨gi, 1, none⟩ = some (.int .u64 IA) ∧ w8.cell? ⟨gi, 2, none⟩ = some (.int .u64 IL) ∧ w8.cell? ⟨gi, 3, none⟩ = some (.pointer ip) ∧ w8.cell? ⟨gd, 0, none⟩ = some (.bool bd) ∧ w8.cell? ⟨gd, 1, none⟩ = some (.int .u64 DA) ∧ w8.cell? ⟨gd, 2, none⟩ = some (.int .u64 DL) ∧ w8.cell? ⟨gd, 3, none⟩ = some (.pointer dp) ∧ w8.cell? ⟨gy + 1, 0, none⟩ = some (.bool x2) ∧ w8.cell? ⟨gy + 1, 1, none⟩ = some (.slice o3 N2 m3) ∧ w8.cell? ⟨gy + 1, 2, none⟩ = some (.slice o4 D2 m4) ∧ w8.cell? ⟨gx + 1, 0, none⟩ = some (.bool x1) ∧ w8.cell? ⟨gx + 1, 1, none⟩ = some (.slice o1 N1 m1) ∧ w8.cell? ⟨gx + 1, 2, none⟩ = some (.slice o2 D1 m2) := by { have kc : ∀ {p : Addr} {v : Value}, w7.cell? p = some v → w8.cell? p = some v := fun {p v} h => by { rw [hb8.cell (World.block_lt_of_cell? w7 p h)]; exact h }; exact ⟨kc s2.1, kc s2.2.1, kc s2.2.2.1, kc s2.2.2.2.1, kc s2.2.2.2.2.1, kc s2.2.2.2.2.2.1, kc s2.2.2.2.2.2.2.1, kc s2.2.2.2.2.2.2.2.1, kc s2.2.2.2.2.2.2.2.2.1, kc s2.2.2.2.2.2.2.2.2.2.1, kc s2.2.2.2.2.2.2.2.2.2.2.1, kc s2.2.2.2.2.2.2.2.2.2.2.2.1, kc s2.2.2.2.2.2.2.2.2.2.2.2.2.1, kc s2.2.2.2.2.2.2.2.2.2.2.2.2.2⟩ })
      | (go_at_call 33; refine (rinv_any _ x2 n2 d2 _ (HP.out.2.1.below H8) hd2.out).mono ?_; rintro e w9 ⟨v9, rfl, Q9, hb9⟩; have H9 := bt H8 hb9; have s4 : w9.cell? ⟨gi, 0, none⟩ = some (.bool x2) ∧ w9.cell? ⟨gi, 1, none⟩ = some (.int .u64 IA) ∧ w9.cell? ⟨gi, 2, none⟩ = some (.int .u64 IL) ∧ w9.cell? ⟨gi, 3, none⟩ = some (.pointer ip) ∧ w9.cell? ⟨gd, 0, none⟩ = some (.bool bd) ∧ w9.cell? ⟨gd, 1, none⟩ = some (.int .u64 DA) ∧ w9.cell? ⟨gd, 2, none⟩ = some (.int .u64 DL) ∧ w9.cell? ⟨gd, 3, none⟩ = some (.pointer dp) ∧ w9.cell? ⟨gy + 1, 0, none⟩ = some (.bool x2) ∧ w9.cell? ⟨gy + 1, 1, none⟩ = some (.slice o3 N2 m3) ∧ w9.cell? ⟨gy + 1, 2, none⟩ = some (.slice o4 D2 m4) ∧ w9.cell? ⟨gx + 1, 0, none⟩ = some (.bool x1) ∧ w9.cell? ⟨gx + 1, 1, none⟩ = some (.slice o1 N1 m1) ∧ w9.cell? ⟨gx + 1, 2, none⟩ = some (.slice o2 D1 m2) := by { have kc : ∀ {p : Addr} {v : Value}, w8.cell? p = some v → w9.cell? p = some v := fun {p v} h => by { rw [hb9.cell (World.block_lt_of_cell? w8 p h)]; exact h }; exact ⟨kc s3.1, kc s3.2.1, kc s3.2.2.1, kc s3.2.2.2.1, kc s3.2.2.2.2.1, kc s3.2.2.2.2.2.1, kc s3.2.2.2.2.2.2.1, kc s3.2.2.2.2.2.2.2.1, kc s3.2.2.2.2.2.2.2.2.1, kc s3.2.2.2.2.2.2.2.2.2.1, kc s3.2.2.2.2.2.2.2.2.2.2.1, kc s3.2.2.2.2.2.2.2.2.2.2.2.1, kc s3.2.2.2.2.2.2.2.2.2.2.2.2.1, kc s3.2.2.2.2.2.2.2.2.2.2.2.2.2⟩ })
      | (go_at_call 24; refine (cMl _ _ _ (HP.out.1.below H9) Q9).mono ?_; rintro e w10 ⟨v10, rfl, Q10, hb10⟩; have H10 := bt H9 hb10; have s5 : w10.cell? ⟨gi, 0, none⟩ = some (.bool x2) ∧ w10.cell? ⟨gi, 1, none⟩ = some (.int .u64 IA) ∧ w10.cell? ⟨gi, 2, none⟩ = some (.int .u64 IL) ∧ w10.cell? ⟨gi, 3, none⟩ = some (.pointer ip) ∧ w10.cell? ⟨gd, 0, none⟩ = some (.bool bd) ∧ w10.cell? ⟨gd, 1, none⟩ = some (.int .u64 DA) ∧ w10.cell? ⟨gd, 2, none⟩ = some (.int .u64 DL) ∧ w10.cell? ⟨gd, 3, none⟩ = some (.pointer dp) ∧ w10.cell? ⟨gy + 1, 0, none⟩ = some (.bool x2) ∧ w10.cell? ⟨gy + 1, 1, none⟩ = some (.slice o3 N2 m3) ∧ w10.cell? ⟨gy + 1, 2, none⟩ = some (.slice o4 D2 m4) ∧ w10.cell? ⟨gx + 1, 0, none⟩ = some (.bool x1) ∧ w10.cell? ⟨gx + 1, 1, none⟩ = some (.slice o1 N1 m1) ∧ w10.cell? ⟨gx + 1, 2, none⟩ = some (.slice o2 D1 m2) := by { have kc : ∀ {p : Addr} {v : Value}, w9.cell? p = some v → w10.cell? p = some v := fun {p v} h => by { rw [hb10.cell (World.block_lt_of_cell? w9 p h)]; exact h }; exact ⟨kc s4.1, kc s4.2.1, kc s4.2.2.1, kc s4.2.2.2.1, kc s4.2.2.2.2.1, kc s4.2.2.2.2.2.1, kc s4.2.2.2.2.2.2.1, kc s4.2.2.2.2.2.2.2.1, kc s4.2.2.2.2.2.2.2.2.1, kc s4.2.2.2.2.2.2.2.2.2.1, kc s4.2.2.2.2.2.2.2.2.2.2.1, kc s4.2.2.2.2.2.2.2.2.2.2.2.1, kc s4.2.2.2.2.2.2.2.2.2.2.2.2.1, kc s4.2.2.2.2.2.2.2.2.2.2.2.2.2⟩ })
      | (go_at_call 18; refine (is_yes _ _ bd N D _ (HP.out.2.2.2.below H10) Q10 LN.out.1 LN.out.2).mono ?_; rintro e w11 ⟨rfl, hb11⟩; have H11 := bt H10 hb11; have s6 : w11.cell? ⟨gi, 0, none⟩ = some (.bool x2) ∧ w11.cell? ⟨gi, 1, none⟩ = some (.int .u64 IA) ∧ w11.cell? ⟨gi, 2, none⟩ = some (.int .u64 IL) ∧ w11.cell? ⟨gi, 3, none⟩ = some (.pointer ip) ∧ w11.cell? ⟨gd, 0, none⟩ = some (.bool bd) ∧ w11.cell? ⟨gd, 1, none⟩ = some (.int .u64 DA) ∧ w11.cell? ⟨gd, 2, none⟩ = some (.int .u64 DL) ∧ w11.cell? ⟨gd, 3, none⟩ = some (.pointer dp) ∧ w11.cell? ⟨gy + 1, 0, none⟩ = some (.bool x2) ∧ w11.cell? ⟨gy + 1, 1, none⟩ = some (.slice o3 N2 m3) ∧ w11.cell? ⟨gy + 1, 2, none⟩ = some (.slice o4 D2 m4) ∧ w11.cell? ⟨gx + 1, 0, none⟩ = some (.bool x1) ∧ w11.cell? ⟨gx + 1, 1, none⟩ = some (.slice o1 N1 m1) ∧ w11.cell? ⟨gx + 1, 2, none⟩ = some (.slice o2 D1 m2) := by { have kc : ∀ {p : Addr} {v : Value}, w10.cell? p = some v → w11.cell? p = some v := fun {p v} h => by { rw [hb11.cell (World.block_lt_of_cell? w10 p h)]; exact h }; exact ⟨kc s5.1, kc s5.2.1, kc s5.2.2.1, kc s5.2.2.2.1, kc s5.2.2.2.2.1, kc s5.2.2.2.2.2.1, kc s5.2.2.2.2.2.2.1, kc s5.2.2.2.2.2.2.2.1, kc s5.2.2.2.2.2.2.2.2.1, kc s5.2.2.2.2.2.2.2.2.2.1, kc s5.2.2.2.2.2.2.2.2.2.2.1, kc s5.2.2.2.2.2.2.2.2.2.2.2.1, kc s5.2.2.2.2.2.2.2.2.2.2.2.2.1, kc s5.2.2.2.2.2.2.2.2.2.2.2.2.2⟩ }))
    all_goals go_wp2
    all_goals go_ret
    all_goals exact ⟨rfl, bt C5.out H11⟩
end Go.Proofs.Ytfkaeehbnnhfoaa.DvW

/- The document's rational numbers: the greatest whole number below. -/
namespace Go.Proofs.Ytfkaeehbnnhfoaa.RFlo
open Go.RowKit Mem LimbNum Limb1 Limb2 RefL RefA RefC RefS BitMul BitDiv RGcd Words RatL RatN RefR RefT RefU RefI InvL DivL MulL MulW QNum RefX RefY RefZ FloL Mk5

theorem QL.new {w : World} {b : Bool} {n d : Nat} {o1 : Option Addr} {c1 : Nat} {o2 : Option Addr} {c2 : Nat} (h : IsRef w (.agg #[.bool b, .slice o1 (nb n).length c1, .slice o2 (nb d).length c2]) b n d) :
    QL (w.alloc (.cells #[.bool b, .slice o1 (nb n).length c1, .slice o2 (nb d).length c2] 31)) w.heap.size b n d o1 c1 o2 c2 :=
  ⟨heap_alloc_new _ _, h.below ((Below.refl _ _).alloc (Nat.le_refl _) _)⟩
theorem QL.set {w : World} {g : Nat} {x y z : Value} {b : Bool} {n d : Nat} {o1 : Option Addr} {c1 : Nat} {o2 : Option Addr} {c2 : Nat} (h : IsRef w (.agg #[.bool b, .slice o1 (nb n).length c1, .slice o2 (nb d).length c2]) b n d) (hk : w.heap[g]? = some (.cells #[x, y, z] 31)) :
    QL (((w.setCell ⟨g, 0, none⟩ (.bool b)).setCell ⟨g, 1, none⟩ (.slice o1 (nb n).length c1)).setCell ⟨g, 2, none⟩ (.slice o2 (nb d).length c2)) g b n d o1 c1 o2 c2 :=
  ⟨box3_set hk _ _ _, h.off hk (set3_off _ _ _ _ _)⟩
theorem rdiv_nb (x y : Nat) (o1 o2 : Option Addr) (c1 c2 : Nat) (w : World) (hy : y ≠ 0) (h1 : Lies w o1 c1 (bools (nb x))) (h2 : Lies w o2 c2 (bools (nb y))) (hl : (nb x).length ≤ 1000000) :
    Calls Try.prog 71 #[.slice o1 (nb x).length c1, .slice o2 (nb y).length c2] w fun e w' => ∃ o1 c1 o2 c2, e = .returned (.tuple #[.slice o1 (nb (x / y)).length c1, .slice o2 (nb (x % y)).length c2]) ∧
      w'.ownsRow w.heap.size 4 1 (.slice o1 (nb (x / y)).length c1) (nb (x / y)).length (bools (nb (x / y))) ∧ w'.ownsRow w.heap.size 4 1 (.slice o2 (nb (x % y)).length c2) (nb (x % y)).length (bools (nb (x % y))) ∧ Below w.heap.size w w' :=
  rdiv_core (nb x) y (x / y) (x % y) (by unfold Hid; rw [fromL_nb]) (by unfold Hid; rw [fromL_nb]) (by omega) o1 o2 c1 c2 w h1 h2 hl
theorem flo_add (q : Nat) : addB (true && decide (q ≠ 0)) q 1 true 1 1 = true ∧ addN (true && decide (q ≠ 0)) q 1 true 1 1 = q + 1 ∧ addD (true && decide (q ≠ 0)) q 1 true 1 1 = 1 := by
  have e : sumV (true && decide (q ≠ 0)) true (q * 1) (1 * 1) = q + 1 ∧ sumB (true && decide (q ≠ 0)) true (q * 1) (1 * 1) = true := by
    unfold sumV sumB
    by_cases h : q = 0
    · subst h; simp
    · simp [h]
  unfold addB addN addD
  rw [e.1, e.2]
  simp
theorem flo_same {b : Bool} {n d : Nat} (h : ¬ (b = true ∧ n % d ≠ 0)) : floN b n d = n / d := if_neg h
theorem flo_more {n d : Nat} (h : n % d ≠ 0) : floN true n d = n / d + 1 := if_pos ⟨rfl, h⟩
set_option maxRecDepth 20000 in
set_option maxHeartbeats 2000000 in
theorem rfloor_any (v : Value) (b : Bool) (n d : Nat) (w : World) (h : IsRef w v b n d) (hd : d ≠ 0) (a1 : (nb n).length ≤ 100000) :
    Calls Try.prog 39 #[v] w fun e w' => ∃ v', e = .returned v' ∧ IsRef w' v' (b && decide (floN b n d ≠ 0)) (floN b n d) 1 ∧ Below w.heap.size w w' := by
  have cL := fun (W : World) (hb : Below w.heap.size w W) => rlow_any v b n d W (h.below hb) hd
  obtain ⟨o1, c1, o2, c2, rfl, r1, r2⟩ := h
  have cD := fun (W : World) (o' : Option Addr) (c' : Nat) (hb : Below w.heap.size w W) (h' : Lies W o' c' (bools (nb d))) => rdiv_nb n d o1 o' c1 c' W hd (lies_of_owns (keep r1 hb)) h' (by omega)
  have bq : (nb (n / d)).length ≤ 100000 := bits_div _ _ _ a1
  have b1 : (nb 1).length ≤ 100000 := Nat.le_trans (nb_lt 1 1 (by decide)) (by decide)
  have cW : ∀ W : World, Calls Try.prog 64 #[.int .u64 1] W fun e w' => ∃ ao cap, e = .returned (.slice ao (nb 1).length cap) ∧ w'.ownsRow W.heap.size 4 1 (.slice ao (nb 1).length cap) (nb 1).length (bools (nb 1)) ∧ Below W.heap.size W w' := fun W => rword_any 1 W (by omega)
  have cO := fun (W : World) (o o' : Option Addr) (c c' : Nat) (h : W.ownsRow 0 4 1 (.slice o (nb (n / d)).length c) (nb (n / d)).length (bools (nb (n / d)))) (h' : W.ownsRow 0 4 1 (.slice o' (nb 1).length c') (nb 1).length (bools (nb 1))) => rof_any b (n / d) 1 o o' c c' W h h' (by omega) (by omega) (by omega)
  simp only [Nat.gcd_one_right, Nat.div_one] at cO
  have cI := fun (W : World) => rint_any (-1) W (by omega) (by omega)
  have cA := fun (W : World) (v v' : Value) (h : IsRef W v (true && decide (n / d ≠ 0)) (n / d) 1) (h' : IsRef W v' true 1 1) => radd_any v v' _ true (n / d) 1 1 1 W h h' (by omega) (by omega) bq b1 b1 b1
  rw [(flo_add (n / d)).1, (flo_add (n / d)).2.1, (flo_add (n / d)).2.2] at cA
  have HR : Hid (b = true ∧ n % d ≠ 0 → 0 < (nb (n % d)).length) := fun h => by rw [nb_pos h.2]; simp
  have HZ : Hid (n % d = 0 → (nb (n % d)).length = 0) := fun h => by rw [h, nb_zero]; rfl
  obtain ⟨q, eq⟩ : ∃ q, n / d = q := ⟨_, rfl⟩
  obtain ⟨r, er⟩ : ∃ r, n % d = r := ⟨_, rfl⟩
  obtain ⟨fb, efb⟩ : ∃ x, (b && decide (q ≠ 0)) = x := ⟨_, rfl⟩
  have HE : Hid (n / d = q ∧ n % d = r ∧ (b && decide (q ≠ 0)) = fb) := ⟨eq, er, efb⟩
  simp only [eq, er] at cD
  simp only [eq, efb] at cO
  simp only [eq] at cA
  rw [er] at HR HZ
  clear eq er efb bq b1 a1
  obtain ⟨W0, eW0, hb0, hk0, hk1⟩ := two_new w (.cells #[.bool b, .slice o1 (nb n).length c1, .slice o2 (nb d).length c2] 31) (.cells #[.bool false, .slice none 0 0, .slice none 0 0] 31)
  have s0 : W0.drew.cell? ⟨w.heap.size, 0, none⟩ = some (.bool b) ∧ W0.drew.cell? ⟨w.heap.size, 1, none⟩ = some (.slice o1 (nb n).length c1) ∧ W0.drew.cell? ⟨w.heap.size, 2, none⟩ = some (.slice o2 (nb d).length c2) := box3_cells hk0
  have hb0d := hb0.drew
  have D0 : Below W0.heap.size W0 W0.drew := (Below.refl _ _).drew
  have HK1 : Hid (W0.heap[w.heap.size + 1]? = some (.cells #[.bool false, .slice none 0 0, .slice none 0 0] 31)) := hk1
  have EW : Hid (_ = W0) := eW0
  have zW : w.heap.size + 1 < W0.heap.size := heap_lt hk1
  clear eW0 hk0 hk1 r1 r2 hd
  obtain ⟨F, eF⟩ : ∃ F, floN b n d = F := ⟨_, rfl⟩
  rw [eF]
  obtain ⟨SB, eSB⟩ : ∃ x, (b && decide (F ≠ 0)) = x := ⟨_, rfl⟩
  rw [eSB]
  have HSB : Hid ((b && decide (F ≠ 0)) = SB) := eSB
  clear eSB
  have HF : Hid (floN b n d = F) := eF
  clear eF
  go_enter Try.func39, Try.ntmps39
  go_wp2
  rw [EW.out]
  go_region_held3 (fun w' => w'.cell? ⟨w.heap.size, 0, none⟩ = some (.bool b) ∧ w'.cell? ⟨w.heap.size, 1, none⟩ = some (.slice o1 (nb n).length c1) ∧ w'.cell? ⟨w.heap.size, 2, none⟩ = some (.slice o2 (nb d).length c2)) (first | with_reducible exact s0 | with_reducible exact s1 | with_reducible exact s2) (first
    | (go_at_call 61; refine (cL _ hb0d).mono ?_; rintro e w1 ⟨o5, c5, rfl, hown5, hb1⟩; have H1 := bt hb0d hb1; have s1 := three_kept s0 hb1)
    | (go_at_call 71; refine (cD _ _ _ H1 (lies_of_owns hown5)).mono ?_; rintro e w2 ⟨o6, c6, o7, c7, rfl, hown6, hown7, hb2⟩; have H2 := bt H1 hb2; have s2 := three_kept s1 hb2))
  have A2 : Hid (Below W0.heap.size W0 w2) := bt D0 (bt hb1 hb2)
  have z2 : w.heap.size + 1 < w2.heap.size := by have := A2.out.size; omega
  all_goals go_wp2
  have f2 := s2
  have s2d : w2.drew.cell? ⟨w.heap.size, 0, none⟩ = some (.bool b) ∧ w2.drew.cell? ⟨w.heap.size, 1, none⟩ = some (.slice o1 (nb n).length c1) ∧ w2.drew.cell? ⟨w.heap.size, 2, none⟩ = some (.slice o2 (nb d).length c2) := s2
  have s2z : (w2.alloc (.cells #[.bool false, .slice none 0 0, .slice none 0 0] 31)).drew.cell? ⟨w.heap.size, 0, none⟩ = some (.bool b) ∧ (w2.alloc (.cells #[.bool false, .slice none 0 0, .slice none 0 0] 31)).drew.cell? ⟨w.heap.size, 1, none⟩ = some (.slice o1 (nb n).length c1) ∧ (w2.alloc (.cells #[.bool false, .slice none 0 0, .slice none 0 0] 31)).drew.cell? ⟨w.heap.size, 2, none⟩ = some (.slice o2 (nb d).length c2) := three_alloc s2 _
  have D2 : Below w2.heap.size w2 w2.drew := (Below.refl _ _).drew
  have Dz : Below w2.heap.size w2 (w2.alloc (.cells #[.bool false, .slice none 0 0, .slice none 0 0] 31)).drew := ((Below.refl _ _).alloc (Nat.le_refl _) _).drew
  have kz : (w2.alloc (.cells #[.bool false, .slice none 0 0, .slice none 0 0] 31)).drew.heap[w2.heap.size]? = some (.cells #[.bool false, .slice none 0 0, .slice none 0 0] 31) := heap_alloc_new _ _
  have ltz : w2.heap.size < (w2.alloc (.cells #[.bool false, .slice none 0 0, .slice none 0 0] 31)).drew.heap.size := alloc_lt _ _
  have n2 : w.heap.size ≠ w2.heap.size := by omega
  have RQ : Hid (w2.ownsRow 0 4 1 (.slice o6 (nb q).length c6) (nb q).length (bools (nb q))) := owns_base hown6 (Nat.zero_le _)
  have RQd := keep RQ.out D2
  have RQz := keep RQ.out Dz
  clear s0 s1 s2 hb1 hb2 H1 hown5 hown6 hown7 hb0d D0
  go_cut [5] from 14 to 19 (fun v5 wx => ∃ (gr : Nat) (oa : Option Addr) (ca : Nat) (ob : Option Addr) (cb : Nat), v5 = .pointer (some ⟨gr, 0, none⟩) ∧ Hid (QL wx gr fb q 1 oa ca ob cb) ∧ Hid (Below w2.heap.size w2 wx) ∧ Hid (w2.heap.size ≤ gr))
  case first =>
    go_region_held3 (fun w' => w'.cell? ⟨w.heap.size, 0, none⟩ = some (.bool b) ∧ w'.cell? ⟨w.heap.size, 1, none⟩ = some (.slice o1 (nb n).length c1) ∧ w'.cell? ⟨w.heap.size, 2, none⟩ = some (.slice o2 (nb d).length c2))
      (first | with_reducible exact s2d | with_reducible exact s2z | with_reducible exact s3 | with_reducible exact three_alloc s3 _ | with_reducible exact s4 | with_reducible exact three_alloc s4 _ | with_reducible exact three_set n2 s4 | with_reducible exact three_set n3 s4) (first
      | (go_at_call 64; refine (cW _).mono ?_; rintro e w3 ⟨o8, c8, rfl, hown8, hb3⟩; (first | with_reducible have s3 := three_kept s2d hb3 | with_reducible have s3 := three_kept s2z hb3); (first | with_reducible have H3 := bt D2 hb3 | with_reducible have H3 := bt Dz hb3); (first | with_reducible have kr3 := box_kept kz hb3 ltz | skip); have RQ3 := keep RQ.out H3; have n3 : w.heap.size ≠ w3.heap.size := by have := H3.size; omega)
      | (go_at_call 46; refine (cO _ _ _ _ _ ?_ ?_).mono ?_; (first | with_reducible exact RQ3 | with_reducible exact RQ3.alloc _); (first | with_reducible exact owns_base hown8 (Nat.zero_le _) | with_reducible exact (owns_base hown8 (Nat.zero_le _)).alloc _); rintro e w4 ⟨v4, rfl, hR, hb4⟩; obtain ⟨oa, ca, ob, cb, rfl, qa, qb⟩ := hR; (first | with_reducible have s4 := three_kept s3 hb4 | with_reducible have s4 := three_kept (three_alloc s3 _) hb4); (first | with_reducible have H4 := bt H3 hb4 | with_reducible have H4 := bt (H3.alloc H3.size _) hb4); (first | with_reducible have kr4 := box_kept (heap_alloc_new w3 _) hb4 (alloc_lt _ _) | with_reducible have kr4 := box_kept kr3 hb4 (heap_lt kr3) | skip); (first | (obtain ⟨d0, d1, d2⟩ := box3_cells kr4; have ff := box3F kr4) | skip)))
    all_goals go_wp2
    all_goals go_meet
    all_goals first
      | exact ⟨_, oa, ca, ob, cb, rfl, QL.new ⟨_, _, _, _, rfl, qa, qb⟩, H4.alloc H4.size _, H4.size⟩
      | exact ⟨_, oa, ca, ob, cb, rfl, QL.set ⟨_, _, _, _, rfl, qa, qb⟩ kr4, box3_below H4 H3.size _ _ _, H3.size⟩
      | exact ⟨_, oa, ca, ob, cb, rfl, QL.set ⟨_, _, _, _, rfl, qa, qb⟩ kr4, box3_below H4 (Nat.le_refl _) _ _ _, Nat.le_refl _⟩
  case rest =>
    obtain ⟨gr, oa, ca, ob, cb, rfl, HQ, HB, HG⟩ := hcut
    have C5 : Hid (Below W0.heap.size W0 wc) := bt A2.out HB.out
    obtain ⟨x0, x1, x2⟩ := three_kept f2 HB.out
    obtain ⟨y0, y1, y2⟩ := HQ.out.cells
    have HBw : Hid (Below w.heap.size w wc) := bt hb0 C5.out
    have ne : gr ≠ w.heap.size + 1 := by have := HG.out; omega
    have kr := box_kept HK1.out C5.out (heap_lt HK1.out)
    obtain ⟨d0, d1, d2⟩ := box3_cells kr
    have ff := box3F kr
    have HKR0 : Hid (wc.heap[w.heap.size + 1]? = some (.cells #[.bool false, .slice none 0 0, .slice none 0 0] 31)) := kr
    clear kr f2 s2d s2z D2 Dz kz ltz n2 RQ RQd RQz cL cD cW cO HB HG zW z2 H2 A2 EW hb0 HK1 C5
    obtain ⟨L, eL⟩ : ∃ L, (nb r).length = L := ⟨_, rfl⟩
    rw [eL] at HR HZ
    rw [eL]
    clear eL
    by_cases hc : b = true ∧ r ≠ 0
    · have hp := HR.out hc
      obtain ⟨rfl, hr⟩ := hc
      have eF : F = q + 1 := by rw [← HF.out, flo_more (by rw [HE.out.2.1]; exact hr), HE.out.1]
      have eb : SB = true := by rw [← HSB.out]; simp; omega
      rw [HE.out.2.2] at cA
      clear HR HZ HF HE hr HSB
      subst eF
      subst eb
      have HBWd : Hid (Below w.heap.size w wc.drew) := HBw.out.drew
      have Dw : Below wc.heap.size wc wc.drew := (Below.refl _ _).drew
      have s6 : wc.drew.cell? ⟨gr, 0, none⟩ = some (.bool fb) ∧ wc.drew.cell? ⟨gr, 1, none⟩ = some (.slice oa (nb q).length ca) ∧ wc.drew.cell? ⟨gr, 2, none⟩ = some (.slice ob (nb 1).length cb) := ⟨y0, y1, y2⟩
      have IQ0 : Hid (IsRef wc.drew (.agg #[.bool fb, .slice oa (nb q).length ca, .slice ob (nb 1).length cb]) fb q 1) := HQ.out.is.below Dw
      have HKd : Hid (wc.drew.heap[w.heap.size + 1]? = some (.cells #[.bool false, .slice none 0 0, .slice none 0 0] 31)) := HKR0.out
      have cI1 : ∀ W : World, Calls Try.prog 30 #[.int .i64 (-1)] W fun e w' => ∃ v, e = .returned v ∧ IsRef w' v true 1 1 ∧ Below W.heap.size W w' := cI
      clear cI
      go_wp2
      go_region_held3 (fun w' => w'.cell? ⟨gr, 0, none⟩ = some (.bool fb) ∧ w'.cell? ⟨gr, 1, none⟩ = some (.slice oa (nb q).length ca) ∧ w'.cell? ⟨gr, 2, none⟩ = some (.slice ob (nb 1).length cb))
        (first | with_reducible exact s6 | with_reducible exact s7 | with_reducible exact s8 | with_reducible exact s9) (first
        | (go_at_call 30; refine (cI1 _).mono ?_; rintro e w7 ⟨v7, rfl, Q7, hb7⟩; have H7 := bt HBWd.out hb7; have s7 := three_kept s6 hb7)
        | (go_at_call 20; refine (cA _ _ _ (IQ0.out.below hb7) Q7).mono ?_; rintro e w8 ⟨v8, rfl, Q8, hb8⟩; have H8 := bt H7 hb8; have s8 := three_kept s7 hb8; obtain ⟨oc, cc, od, cd, rfl, qc, qd⟩ := Q8; have k8 := box_kept HKd.out (bt hb7 hb8) (heap_lt HKd.out); obtain ⟨e0, e1, e2⟩ := box3_cells k8; have fg := box3F k8; have s9 := three_set (x := .bool true) (y := .slice oc (nb (q + 1)).length cc) (z := .slice od (nb 1).length cd) ne s8; have HKR : Hid (w8.heap[w.heap.size + 1]? = some (.cells #[.bool false, .slice none 0 0, .slice none 0 0] 31)) := k8; clear k8))
      all_goals go_wp2
      have HBW : Hid (Below w.heap.size w w8) := H8
      have IQ : Hid (IsRef w8 (.agg #[.bool true, .slice oc (nb (q + 1)).length cc, .slice od (nb 1).length cd]) true (q + 1) 1) := ⟨_, _, _, _, rfl, qc, qd⟩
      have k2 := box3_set HKR.out (.bool true) (.slice oc (nb (q + 1)).length cc) (.slice od (nb 1).length cd)
      have hB := box3_below HBW.out (Nat.le_succ _) (.bool true) (.slice oc (nb (q + 1)).length cc) (.slice od (nb 1).length cd)
      have hW := set3_off w8 (w.heap.size + 1) (.bool true) (.slice oc (nb (q + 1)).length cc) (.slice od (nb 1).length cd)
      have hQ := IsRef.off IQ.out HKR.out hW
      generalize World.setCell _ _ _ = W' at *
      obtain ⟨y0, y1, y2⟩ := box3_cells k2
      refine bodyPost_ret (v := .agg #[.bool true, .slice oc (nb (q + 1)).length cc, .slice od (nb 1).length cd]) ?_ rfl ?_
      · simp [results, go_sem, y0, y1, y2]
      · exact ⟨_, rfl, hQ, hB⟩
    · have eF : F = q := by rw [← HF.out, flo_same (fun h => hc ⟨h.1, by rw [← HE.out.2.1]; exact h.2⟩), HE.out.1]
      subst eF
      have eb : SB = fb := by rw [← HSB.out, HE.out.2.2]
      clear HSB
      subst eb
      have HKR := HKR0
      have HBW := HBw
      have IQ : Hid (IsRef wc (.agg #[.bool SB, .slice oa (nb F).length ca, .slice ob (nb 1).length cb]) SB F 1) := HQ.out.is
      have hcase : b = false ∨ b = true ∧ L = 0 := by
        cases b
        · exact .inl rfl
        · exact .inr ⟨rfl, HZ.out (by by_cases h : r = 0; exact h; exact absurd ⟨rfl, h⟩ hc)⟩
      clear cA cI HR HZ HF HE hc
      rcases hcase with rfl | ⟨rfl, rfl⟩
      · go_wp2
        have k2 := box3_set HKR.out (.bool SB) (.slice oa (nb F).length ca) (.slice ob (nb 1).length cb)
        have hB := box3_below HBW.out (Nat.le_succ _) (.bool SB) (.slice oa (nb F).length ca) (.slice ob (nb 1).length cb)
        have hW := set3_off wc (w.heap.size + 1) (.bool SB) (.slice oa (nb F).length ca) (.slice ob (nb 1).length cb)
        have hQ := IsRef.off IQ.out HKR.out hW
        generalize World.setCell _ _ _ = W' at *
        obtain ⟨y0, y1, y2⟩ := box3_cells k2
        refine bodyPost_ret (v := .agg #[.bool SB, .slice oa (nb F).length ca, .slice ob (nb 1).length cb]) ?_ rfl ?_
        · simp [results, go_sem, y0, y1, y2]
        · exact ⟨_, rfl, hQ, hB⟩
      · go_wp2
        have k2 := box3_set HKR.out (.bool SB) (.slice oa (nb F).length ca) (.slice ob (nb 1).length cb)
        have hB := box3_below HBW.out (Nat.le_succ _) (.bool SB) (.slice oa (nb F).length ca) (.slice ob (nb 1).length cb)
        have hW := set3_off wc (w.heap.size + 1) (.bool SB) (.slice oa (nb F).length ca) (.slice ob (nb 1).length cb)
        have hQ := IsRef.off IQ.out HKR.out hW
        generalize World.setCell _ _ _ = W' at *
        obtain ⟨y0, y1, y2⟩ := box3_cells k2
        refine bodyPost_ret (v := .agg #[.bool SB, .slice oa (nb F).length ca, .slice ob (nb 1).length cb]) ?_ rfl ?_
        · simp [results, go_sem, y0, y1, y2]
        · exact ⟨_, rfl, hQ, hB⟩
end Go.Proofs.Ytfkaeehbnnhfoaa.RFlo

/- RatOrder: order, lesser and greater one, whole numbers and floors are right: the walk. -/
namespace Go.Proofs.Ytfkaeehbnnhfoaa.OrW
open Go.RowKit Mem LimbNum Limb1 RatL RatM RatN RatF RatW RefR RefT RefU RefI Law5 Aw5 Mk5 Bo5 BoN BoZ MulW MulL InvL DivL QNum CmpL CmqL RefX RefY RefZ FloL RFlo

theorem nl_few6 {n : Nat} (h : (nb n).length ≤ 256) : (nl n).length ≤ 1000000 := by
  have h1 := fromL_lt (nb n)
  rw [fromL_nb] at h1
  have h2 : n < 4294967296 ^ 8 := Nat.lt_of_lt_of_le h1 (Nat.pow_le_pow_right (by omega) h)
  have := nl_lt 8 n h2
  omega
theorem cell_al {w : World} {a : Addr} {v : Value} {o : Obj} (h : w.cell? a = some v) : (w.alloc o).cell? a = some v := by
  rw [World.cell?_alloc_lt _ _ _ (World.block_lt_of_cell? w a h)]; exact h
theorem _root_.Go.Proofs.Ytfkaeehbnnhfoaa.QNum.RL.off3 {W : World} {g g' : Nat} {b : Bool} {n d : Nat} {A L : Int} {p : Option Addr} {p' : Bool} {a1 a2 : Option Addr} {l1 k1 l2 k2 : Nat} (h : RL W g b n d A L p) (hk : W.heap[g']? = some (.cells #[.bool p', .slice a1 l1 k1, .slice a2 l2 k2] 31)) (hne : g ≠ g') (x y z : Value) :
    RL (((W.setCell ⟨g', 0, none⟩ x).setCell ⟨g', 1, none⟩ y).setCell ⟨g', 2, none⟩ z) g b n d A L p :=
  ⟨(set3_off W g' x y z g hne).trans h.box, rat_off3 h.is hk (set3_off W g' x y z) (set3_size _ _ _ _ _)⟩
theorem _root_.Go.Proofs.Ytfkaeehbnnhfoaa.QNum.QL.off3 {W : World} {g g' : Nat} {b : Bool} {n d : Nat} {o1 : Option Addr} {c1 : Nat} {o2 : Option Addr} {c2 : Nat} {a b' c : Value} (h : QL W g b n d o1 c1 o2 c2) (hk : W.heap[g']? = some (.cells #[a, b', c] 31)) (hne : g ≠ g') (x y z : Value) :
    QL (((W.setCell ⟨g', 0, none⟩ x).setCell ⟨g', 1, none⟩ y).setCell ⟨g', 2, none⟩ z) g b n d o1 c1 o2 c2 :=
  ⟨(set3_off W g' x y z g hne).trans h.box, IsRef.off h.is hk (set3_off W g' x y z)⟩
theorem cmp_zero {b1 b2 : Bool} {n1 d1 n2 d2 : Nat} (h1 : Low b1 n1 d1) (h2 : Low b2 n2 d2) (h : cmpQ b1 n1 d1 b2 n2 d2 = 0) : b1 = b2 ∧ n1 = n2 ∧ d1 = d2 := by
  have p1 := h1.pos
  have p2 := h2.pos
  have z1 : n1 * d2 = 0 ↔ n1 = 0 := by rw [Nat.mul_eq_zero]; omega
  have z2 : n2 * d1 = 0 ↔ n2 = 0 := by rw [Nat.mul_eq_zero]; omega
  have e : sv b1 (n1 * d2) = sv b2 (n2 * d1) := by
    unfold cmpQ cmpI at h
    split at h
    · omega
    · split at h
      · assumption
      · omega
  have key : b1 = b2 ∧ n1 * d2 = n2 * d1 := by
    unfold sv at e
    have s1 := h1.sg
    have s2 := h2.sg
    generalize n1 * d2 = X at *
    generalize n2 * d1 = Y at *
    cases b1 <;> cases b2 <;> simp at e s1 s2 ⊢
    · omega
    · have : Y = 0 := by omega
      exact absurd (z2.1 this) s2
    · have : X = 0 := by omega
      exact absurd (z1.1 this) s1
    · omega
  exact ⟨key.1, uniq n1 d1 n2 d2 h1.one h2.one p1 key.2⟩
theorem flo_bits (b : Bool) (n d k : Nat) (h : (nb n).length ≤ k) : (nb (floN b n d)).length ≤ k + 1 := by
  have : floN b n d ≤ n + 0 + 1 := by
    have := Nat.div_le_self n d
    unfold floN; split <;> omega
  refine Nat.le_trans (nb_mono _ _ this) ?_
  by_cases hk : k = 0
  · subst hk
    have : n = 0 := by
      by_cases e : n = 0
      · exact e
      · have := nb_pos e
        rw [this] at h; simp at h
    subst this
    exact nb_lt 1 1 (by decide)
  · exact sum_bits n 1 k h (Nat.le_trans (nb_lt 1 1 (by decide)) (by omega))
set_option maxRecDepth 20000 in
set_option maxHeartbeats 2000000 in
theorem law (b1 b2 : Bool) (SA1 SB1 SA2 SB2 : Value) (w : World)
    (cB1 : ∀ W, Below w.heap.size w W → Calls Try.prog 9 #[.agg #[.bool b1, SA1, SB1]] W fun e w' => ∃ v q b2 n d, e = .returned (.tuple #[v, q]) ∧ IsRat w' v b2 n d ∧ IsRef w' q b2 n d ∧ ((nb n).length ≤ 256 ∧ (nb d).length ≤ 256) ∧ Below W.heap.size W w')
    (cB2 : ∀ W, Below w.heap.size w W → Calls Try.prog 9 #[.agg #[.bool b2, SA2, SB2]] W fun e w' => ∃ v q b2 n d, e = .returned (.tuple #[v, q]) ∧ IsRat w' v b2 n d ∧ IsRef w' q b2 n d ∧ ((nb n).length ≤ 256 ∧ (nb d).length ≤ 256) ∧ Below W.heap.size W w') :
    Calls Try.prog 6 #[.agg #[.bool b1, SA1, SB1], .agg #[.bool b2, SA2, SB2]] w fun e w' => e = .returned (.bool true) ∧ Below w.heap.size w w' := by
  obtain ⟨W0, eW0⟩ : ∃ W0 : World, (w.alloc (.cells #[.bool b1, SA1, SB1] 24)).alloc (.cells #[.bool b2, SA2, SB2] 24) = W0 := ⟨_, rfl⟩
  have hb0 : Below w.heap.size w W0 := by rw [← eW0]; exact ((Below.refl _ _).alloc (Nat.le_refl _) _).alloc (by simp) _
  have z1 : (w.alloc (.cells #[.bool b1, SA1, SB1] 24)).heap.size = w.heap.size + 1 := by simp
  have k0 : W0.heap[w.heap.size]? = some (.cells #[.bool b1, SA1, SB1] 24) := by rw [← eW0, heap_alloc_old _ _ (by omega)]; exact heap_alloc_new _ _
  have k1 : W0.heap[w.heap.size + 1]? = some (.cells #[.bool b2, SA2, SB2] 24) := by rw [← eW0, ← z1]; exact heap_alloc_new _ _
  have c3 : ∀ {W : World} {g : Nat} {a b c : Value} {t : TypeId}, W.heap[g]? = some (.cells #[a, b, c] t) → W.cell? ⟨g, 0, none⟩ = some a ∧ W.cell? ⟨g, 1, none⟩ = some b ∧ W.cell? ⟨g, 2, none⟩ = some c := fun {W g a b c t} h => by
    refine ⟨?_, ?_, ?_⟩ <;> simp [World.cell?, h]
  obtain ⟨a0, a1, a2⟩ := c3 k0
  have HK1 : Hid (W0.heap[w.heap.size + 1]? = some (.cells #[.bool b2, SA2, SB2] 24)) := k1
  have HC3 : Hid (∀ {W : World} {g : Nat} {a b c : Value} {t : TypeId}, W.heap[g]? = some (.cells #[a, b, c] t) → W.cell? ⟨g, 0, none⟩ = some a ∧ W.cell? ⟨g, 1, none⟩ = some b ∧ W.cell? ⟨g, 2, none⟩ = some c) := c3
  have EW : Hid ((w.alloc (.cells #[.bool b1, SA1, SB1] 24)).alloc (.cells #[.bool b2, SA2, SB2] 24) = W0) := eW0
  have cB1' := cB1 W0 hb0
  clear eW0 z1 k0 k1 c3 cB1
  go_enter Try.func6, Try.ntmps6
  go_upto_region 1 with fail
  rw [EW.out]
  go_upto_region 2 with (go_at_call 9; refine cB1'.mono ?_; rintro e w1 ⟨v1, q1, x1, n1, d1, rfl, R1, Q1, lim1, hb1⟩; obtain ⟨VA1, VL1, vp1, rfl⟩ := R1.shape; obtain ⟨o1, m1, o2, m2, rfl, O1, O2⟩ := Q1)
  obtain ⟨W1, eW1, B1, kx, kp⟩ := two_new w1 (.cells #[.bool x1, .int .u64 VA1, .int .u64 VL1, .pointer vp1] 28) (.cells #[.bool x1, .slice o1 (nb n1).length m1, .slice o2 (nb d1).length m2] 31)
  rw [eW1]
  have X1 : Hid (RL W1 w1.heap.size x1 n1 d1 VA1 VL1 vp1) := ⟨kx, R1.below B1⟩
  have P1 : Hid (QL W1 (w1.heap.size + 1) x1 n1 d1 o1 m1 o2 m2) := ⟨kp, ⟨_, _, _, _, rfl, keep O1 B1, keep O2 B1⟩⟩
  have C1 : Hid (Below w.heap.size w W1) := bt (bt hb0 hb1) B1
  obtain ⟨y0, y1, y2⟩ := HC3.out (box_kept HK1.out (bt hb1 B1) (in_heap HK1.out))
  have cB2' := cB2 W1 C1.out
  generalize w1.heap.size = gx at *
  clear eW1 kx kp B1 R1 O1 O2 cB1' cB2 a0 a1 a2 HC3 EW hb1 hb0 HK1
  go_upto_region 3 with (go_at_call 9; refine cB2'.mono ?_; rintro e w2 ⟨v2, q2, x2, n2, d2, rfl, R2, Q2, lim2, hb2⟩; obtain ⟨VA2, VL2, vp2, rfl⟩ := R2.shape; obtain ⟨o3, m3, o4, m4, rfl, O3, O4⟩ := Q2)
  obtain ⟨W2, eW2, B2, ky, kq⟩ := two_new w2 (.cells #[.bool x2, .int .u64 VA2, .int .u64 VL2, .pointer vp2] 28) (.cells #[.bool x2, .slice o3 (nb n2).length m3, .slice o4 (nb d2).length m4] 31)
  rw [eW2]
  have X2 : Hid (RL W2 gx x1 n1 d1 VA1 VL1 vp1) := X1.out.kept (bt hb2 B2)
  have P2 : Hid (QL W2 (gx + 1) x1 n1 d1 o1 m1 o2 m2) := P1.out.kept (bt hb2 B2)
  have Y2 : Hid (RL W2 w2.heap.size x2 n2 d2 VA2 VL2 vp2) := ⟨ky, R2.below B2⟩
  have Z2 : Hid (QL W2 (w2.heap.size + 1) x2 n2 d2 o3 m3 o4 m4) := ⟨kq, ⟨_, _, _, _, rfl, keep O3 B2, keep O4 B2⟩⟩
  have C2 : Hid (Below w.heap.size w W2) := bt (bt C1.out hb2) B2
  generalize w2.heap.size = gy at *
  clear eW2 ky kq B2 R2 O3 O4 cB2' y0 y1 y2 hb2 X1 P1 C1
  have L1 : Hid ((nb n1).length ≤ 256 ∧ (nb d1).length ≤ 256) := lim1
  have L2 : Hid ((nb n2).length ≤ 256 ∧ (nb d2).length ≤ 256) := lim2
  clear lim1 lim2
  obtain ⟨N1, eN1⟩ : ∃ x, Hid ((nb n1).length = x) := ⟨_, rfl⟩
  obtain ⟨D1, eD1⟩ : ∃ x, Hid ((nb d1).length = x) := ⟨_, rfl⟩
  obtain ⟨N2, eN2⟩ : ∃ x, Hid ((nb n2).length = x) := ⟨_, rfl⟩
  obtain ⟨D2, eD2⟩ : ∃ x, Hid ((nb d2).length = x) := ⟨_, rfl⟩
  have l1 := nl_few6 L1.out.1
  have l2 := nl_few6 L1.out.2
  have l3 := nl_few6 L2.out.1
  have l4 := nl_few6 L2.out.2
  have lo1 := X2.out.is.1
  have lo2 := Y2.out.is.1
  have cRc := rcmp_q _ _ x1 x2 n1 d1 n2 d2 W2 P2.out.is Z2.out.is (by have := lo1.pos; omega) (by have := lo2.pos; omega) (by have := L1.out.1; omega) (by have := L1.out.2; omega) (by have := L2.out.1; omega) (by have := L2.out.2; omega)
  have cC := fun (W : World) (h : IsRat W (.agg #[.bool x1, .int .u64 VA1, .int .u64 VL1, .pointer vp1]) x1 n1 d1) (h' : IsRat W (.agg #[.bool x2, .int .u64 VA2, .int .u64 VL2, .pointer vp2]) x2 n2 d2) => cmp_q _ _ x1 x2 n1 d1 n2 d2 W h h' l1 l2 l3 l4
  have cMin0 := fun (W : World) (h : IsRat W (.agg #[.bool x1, .int .u64 VA1, .int .u64 VL1, .pointer vp1]) x1 n1 d1) (h' : IsRat W (.agg #[.bool x2, .int .u64 VA2, .int .u64 VL2, .pointer vp2]) x2 n2 d2) => min_any _ _ x1 x2 n1 d1 n2 d2 W h h' l1 l2 l3 l4
  have cMax0 := fun (W : World) (h : IsRat W (.agg #[.bool x1, .int .u64 VA1, .int .u64 VL1, .pointer vp1]) x1 n1 d1) (h' : IsRat W (.agg #[.bool x2, .int .u64 VA2, .int .u64 VL2, .pointer vp2]) x2 n2 d2) => max_any _ _ x1 x2 n1 d1 n2 d2 W h h' l1 l2 l3 l4
  have cWh := fun (W : World) (h : IsRat W (.agg #[.bool x1, .int .u64 VA1, .int .u64 VL1, .pointer vp1]) x1 n1 d1) => whole_any _ x1 n1 d1 W h (by omega)
  have cFl := fun (W : World) (h : IsRat W (.agg #[.bool x1, .int .u64 VA1, .int .u64 VL1, .pointer vp1]) x1 n1 d1) => floor_any _ x1 n1 d1 W h l1 l2
  have cRf0 := fun (W : World) (h : IsRef W (.agg #[.bool x1, .slice o1 (nb n1).length m1, .slice o2 (nb d1).length m2]) x1 n1 d1) => rfloor_any _ x1 n1 d1 W h (by have := lo1.pos; omega) (by have := L1.out.1; omega)
  rw [eN1.out, eD1.out] at cRf0
  have hEq : ¬ 0 < cmpQ x1 n1 d1 x2 n2 d2 → ¬ cmpQ x1 n1 d1 x2 n2 d2 < 0 → x1 = x2 ∧ n1 = n2 ∧ d1 = d2 := fun h h' => cmp_zero lo1 lo2 (by omega)
  have bfl : (nb (floN x1 n1 d1)).length ≤ 1000000 := Nat.le_trans (flo_bits x1 n1 d1 256 L1.out.1) (by decide)
  have bOne : (nb 1).length ≤ 1000000 := Nat.le_trans (nb_lt 1 1 (by decide)) (by decide)
  have hWB : ((D1 : Int) == 1) = decide (d1 = 1) := by rw [← eD1.out, Bool.eq_iff_iff]; simp only [beq_iff_eq, decide_eq_true_iff]; rw [← nb_one_iff d1]; omega
  generalize decide (d1 = 1) = WB at *
  obtain ⟨fn, efn⟩ : ∃ x, floN x1 n1 d1 = x := ⟨_, rfl⟩
  simp only [efn] at cFl cRf0 bfl
  obtain ⟨fb, efb⟩ : ∃ x, (x1 && decide (fn ≠ 0)) = x := ⟨_, rfl⟩
  simp only [efb] at cFl cRf0
  have cRf := cRf0
  generalize cmpQ x1 n1 d1 x2 n2 d2 = C at *
  have HEQ : Hid (¬ 0 < C → ¬ C < 0 → x1 = x2 ∧ n1 = n2 ∧ d1 = d2) := hEq
  clear hEq cRf0 efn efb l1 l2 l3 l4 lo1 lo2
  obtain ⟨u0, u1, u2⟩ := P2.out.cells
  obtain ⟨t0, t1, t2⟩ := Z2.out.cells
  go_upto_region 4 with (go_at_call 34; refine cRc.mono ?_; rintro e w3 ⟨rfl, hb3⟩)
  have X3 : Hid (RL w3 gx x1 n1 d1 VA1 VL1 vp1) := X2.out.kept hb3
  have P3 : Hid (QL w3 (gx + 1) x1 n1 d1 o1 m1 o2 m2) := P2.out.kept hb3
  have Y3 : Hid (RL w3 gy x2 n2 d2 VA2 VL2 vp2) := Y2.out.kept hb3
  have Z3 : Hid (QL w3 (gy + 1) x2 n2 d2 o3 m3 o4 m4) := Z2.out.kept hb3
  have C3 : Hid (Below w.heap.size w w3) := bt C2.out hb3
  clear X2 P2 Y2 Z2 C2 u0 u1 u2 t0 t1 t2 hb3 cRc
  obtain ⟨u0, u1, u2⟩ := P3.out.cells
  obtain ⟨t0, t1, t2⟩ := Z3.out.cells
  have za0 : ∀ o : Obj, (w3.alloc o).cell? ⟨gx + 1, 0, none⟩ = some (.bool x1) := fun o => cell_al u0
  have zb0 : ∀ o o' : Obj, ((w3.alloc o).alloc o').cell? ⟨gx + 1, 0, none⟩ = some (.bool x1) := fun o o' => cell_al (za0 o)
  have za1 : ∀ o : Obj, (w3.alloc o).cell? ⟨gx + 1, 1, none⟩ = some (.slice o1 (nb n1).length m1) := fun o => cell_al u1
  have zb1 : ∀ o o' : Obj, ((w3.alloc o).alloc o').cell? ⟨gx + 1, 1, none⟩ = some (.slice o1 (nb n1).length m1) := fun o o' => cell_al (za1 o)
  have za2 : ∀ o : Obj, (w3.alloc o).cell? ⟨gx + 1, 2, none⟩ = some (.slice o2 (nb d1).length m2) := fun o => cell_al u2
  have zb2 : ∀ o o' : Obj, ((w3.alloc o).alloc o').cell? ⟨gx + 1, 2, none⟩ = some (.slice o2 (nb d1).length m2) := fun o o' => cell_al (za2 o)
  have za3 : ∀ o : Obj, (w3.alloc o).cell? ⟨gy + 1, 0, none⟩ = some (.bool x2) := fun o => cell_al t0
  have zb3 : ∀ o o' : Obj, ((w3.alloc o).alloc o').cell? ⟨gy + 1, 0, none⟩ = some (.bool x2) := fun o o' => cell_al (za3 o)
  have za4 : ∀ o : Obj, (w3.alloc o).cell? ⟨gy + 1, 1, none⟩ = some (.slice o3 (nb n2).length m3) := fun o => cell_al t1
  have zb4 : ∀ o o' : Obj, ((w3.alloc o).alloc o').cell? ⟨gy + 1, 1, none⟩ = some (.slice o3 (nb n2).length m3) := fun o o' => cell_al (za4 o)
  have za5 : ∀ o : Obj, (w3.alloc o).cell? ⟨gy + 1, 2, none⟩ = some (.slice o4 (nb d2).length m4) := fun o => cell_al t2
  have zb5 : ∀ o o' : Obj, ((w3.alloc o).alloc o').cell? ⟨gy + 1, 2, none⟩ = some (.slice o4 (nb d2).length m4) := fun o o' => cell_al (za5 o)
  go_cut [10, 11] from 25 to 27 (fun v10 v11 wx => ∃ (g1 g2 : Nat), v10 = .pointer (some ⟨g1, 0, none⟩) ∧ v11 = .pointer (some ⟨g2, 0, none⟩) ∧ Hid (QL wx g1 x1 n1 d1 o1 m1 o2 m2) ∧ Hid (QL wx g2 x2 n2 d2 o3 m3 o4 m4) ∧ Hid (Below w3.heap.size w3 wx) ∧ Hid (g1 ≠ g2 ∧ w3.heap.size ≤ g1 ∧ w3.heap.size ≤ g2))
  case first =>
    go_region
    all_goals go_wp2
    all_goals go_meet
    all_goals first
      | (obtain ⟨_, rfl, bA, ka, kb⟩ := two_new w3 (.cells #[.bool x1, .slice o1 (nb n1).length m1, .slice o2 (nb d1).length m2] 31) (.cells #[.bool x2, .slice o3 (nb n2).length m3, .slice o4 (nb d2).length m4] 31); exact ⟨_, _, rfl, rfl, QL.kept ⟨ka, P3.out.is.below bA⟩ (Below.refl _ _).drew, QL.kept ⟨kb, Z3.out.is.below bA⟩ (Below.refl _ _).drew, bA.drew, ⟨by omega, by omega, by omega⟩⟩)
      | (obtain ⟨_, rfl, bA, ka, kb⟩ := two_new w3 (.cells #[.bool x2, .slice o3 (nb n2).length m3, .slice o4 (nb d2).length m4] 31) (.cells #[.bool x1, .slice o1 (nb n1).length m1, .slice o2 (nb d1).length m2] 31); exact ⟨_, _, rfl, rfl, QL.kept ⟨kb, P3.out.is.below bA⟩ (Below.refl _ _).drew, QL.kept ⟨ka, Z3.out.is.below bA⟩ (Below.refl _ _).drew, bA.drew, ⟨by omega, by omega, by omega⟩⟩)
  case rest =>
    obtain ⟨g1, g2, rfl, rfl, L4, H4, HB, HN⟩ := hcut
    have X4 : Hid (RL wc gx x1 n1 d1 VA1 VL1 vp1) := X3.out.kept HB.out
    have P4 : Hid (QL wc (gx + 1) x1 n1 d1 o1 m1 o2 m2) := P3.out.kept HB.out
    have Y4 : Hid (RL wc gy x2 n2 d2 VA2 VL2 vp2) := Y3.out.kept HB.out
    have Z4 : Hid (QL wc (gy + 1) x2 n2 d2 o3 m3 o4 m4) := Z3.out.kept HB.out
    have C4 : Hid (Below w.heap.size w wc) := bt C3.out HB.out
    have N4 : Hid (g1 ≠ g2 ∧ gx ≠ g1 ∧ gx ≠ g2 ∧ gx + 1 ≠ g1 ∧ gx + 1 ≠ g2 ∧ gy ≠ g1 ∧ gy ≠ g2 ∧ gy + 1 ≠ g1 ∧ gy + 1 ≠ g2 ∧ w.heap.size ≤ g1 ∧ w.heap.size ≤ g2) := by
      have e1 := in_heap P3.out.box
      have e2 := in_heap Z3.out.box
      have e3 := HN.out
      have e4 := C3.out.size
      exact ⟨by omega, by omega, by omega, by omega, by omega, by omega, by omega, by omega, by omega, by omega, by omega⟩
    clear X3 P3 Y3 Z3 C3 HB HN u0 u1 u2 t0 t1 t2 za0 za1 za2 za3 za4 za5 zb0 zb1 zb2 zb3 zb4 zb5
    by_cases hC : 0 < C
    · have cMin : ∀ (W : World), IsRat W (.agg #[.bool x1, .int .u64 VA1, .int .u64 VL1, .pointer vp1]) x1 n1 d1 → IsRat W (.agg #[.bool x2, .int .u64 VA2, .int .u64 VL2, .pointer vp2]) x2 n2 d2 → Calls Try.prog 35 #[.agg #[.bool x1, .int .u64 VA1, .int .u64 VL1, .pointer vp1], .agg #[.bool x2, .int .u64 VA2, .int .u64 VL2, .pointer vp2]] W fun e w' => ∃ v, e = .returned v ∧ IsRat w' v x2 n2 d2 ∧ Below W.heap.size W w' := fun W h h' => by
        have := cMin0 W h h'
        rw [if_pos hC, if_pos hC, if_pos hC] at this
        exact this
      have cMax : ∀ (W : World), IsRat W (.agg #[.bool x1, .int .u64 VA1, .int .u64 VL1, .pointer vp1]) x1 n1 d1 → IsRat W (.agg #[.bool x2, .int .u64 VA2, .int .u64 VL2, .pointer vp2]) x2 n2 d2 → Calls Try.prog 36 #[.agg #[.bool x1, .int .u64 VA1, .int .u64 VL1, .pointer vp1], .agg #[.bool x2, .int .u64 VA2, .int .u64 VL2, .pointer vp2]] W fun e w' => ∃ v, e = .returned v ∧ IsRat w' v x1 n1 d1 ∧ Below W.heap.size W w' := fun W h h' => by
        have := cMax0 W h h'
        rw [if_neg (by omega), if_neg (by omega), if_neg (by omega)] at this
        exact this
      clear cMin0 cMax0 HEQ
      obtain ⟨u0, u1, u2⟩ := P4.out.cells
      obtain ⟨t0, t1, t2⟩ := Z4.out.cells
      obtain ⟨r0, r1, r2⟩ := L4.out.cells
      obtain ⟨k0, k1, k2⟩ := H4.out.cells
      have f1 := box3F L4.out.box
      have f2 := box3F H4.out.box
      have e1 : gx + 1 ≠ g1 := N4.out.2.2.2.1
      have e2 : gx + 1 ≠ g2 := N4.out.2.2.2.2.1
      have e3 : gy + 1 ≠ g1 := N4.out.2.2.2.2.2.2.2.1
      have e4 : gy + 1 ≠ g2 := N4.out.2.2.2.2.2.2.2.2.1
      have e5 : g1 ≠ g2 := N4.out.1
      have e6 : g1 ≠ gx + 1 := fun h => e1 h.symm
      have e7 : g2 ≠ gx + 1 := fun h => e2 h.symm
      have e8 : g1 ≠ gy + 1 := fun h => e3 h.symm
      have e9 : g2 ≠ gy + 1 := fun h => e4 h.symm
      have e10 : g2 ≠ g1 := fun h => e5 h.symm
      go_wp2
      go_region
      have X5 := (X4.out.off3 L4.out.box N4.out.2.1 (.bool x2) (.slice o3 (nb n2).length m3) (.slice o4 (nb d2).length m4))
      have P5 := (P4.out.off3 L4.out.box N4.out.2.2.2.1 (.bool x2) (.slice o3 (nb n2).length m3) (.slice o4 (nb d2).length m4))
      have Y5 := (Y4.out.off3 L4.out.box N4.out.2.2.2.2.2.1 (.bool x2) (.slice o3 (nb n2).length m3) (.slice o4 (nb d2).length m4))
      have Q5 := QL.set Z4.out.is L4.out.box
      have H5 := (H4.out.off3 L4.out.box e10 (.bool x2) (.slice o3 (nb n2).length m3) (.slice o4 (nb d2).length m4))
      have B5 := box3_below C4.out N4.out.2.2.2.2.2.2.2.2.2.1 (.bool x2) (.slice o3 (nb n2).length m3) (.slice o4 (nb d2).length m4)
      have X6 := (X5.off3 H5.box N4.out.2.2.1 (.bool x1) (.slice o1 (nb n1).length m1) (.slice o2 (nb d1).length m2))
      have P6 := (P5.off3 H5.box N4.out.2.2.2.2.1 (.bool x1) (.slice o1 (nb n1).length m1) (.slice o2 (nb d1).length m2))
      have Y6 := (Y5.off3 H5.box N4.out.2.2.2.2.2.2.1 (.bool x1) (.slice o1 (nb n1).length m1) (.slice o2 (nb d1).length m2))
      have L6 := (Q5.off3 H5.box e5 (.bool x1) (.slice o1 (nb n1).length m1) (.slice o2 (nb d1).length m2))
      have H6 := QL.set P5.is H5.box
      have B6 := box3_below B5 N4.out.2.2.2.2.2.2.2.2.2.2 (.bool x1) (.slice o1 (nb n1).length m1) (.slice o2 (nb d1).length m2)
      clear X5 P5 Y5 Q5 H5 B5
      generalize World.setCell _ _ _ = w5 at *
      have Dd : Below w5.heap.size w5 w5.drew := (Below.refl _ _).drew
      have XX : Hid (RL w5.drew gx x1 n1 d1 VA1 VL1 vp1) := X6.kept Dd
      have YY : Hid (RL w5.drew gy x2 n2 d2 VA2 VL2 vp2) := Y6.kept Dd
      have PP : Hid (QL w5.drew (gx + 1) x1 n1 d1 o1 m1 o2 m2) := P6.kept Dd
      have LL : Hid (QL w5.drew g1 x2 n2 d2 o3 m3 o4 m4) := L6.kept Dd
      have HH : Hid (QL w5.drew g2 x1 n1 d1 o1 m1 o2 m2) := H6.kept Dd
      have CC : Hid (Below w.heap.size w w5.drew) := B6.drew
      clear X4 Y4 P4 Z4 L4 H4 C4 N4 X6 P6 Y6 L6 H6 B6 Dd u0 u1 u2 t0 t1 t2 r0 r1 r2 k0 k1 k2 f1 f2 e1 e2 e3 e4 e5 e6 e7 e8 e9 e10
      generalize World.drew _ = wr at *
      have SS : wr.drew.cell? ⟨gx, 0, none⟩ = some (.bool x1) ∧ wr.drew.cell? ⟨gx, 1, none⟩ = some (.int .u64 VA1) ∧ wr.drew.cell? ⟨gx, 2, none⟩ = some (.int .u64 VL1) ∧ wr.drew.cell? ⟨gx, 3, none⟩ = some (.pointer vp1) ∧ wr.drew.cell? ⟨gy, 0, none⟩ = some (.bool x2) ∧ wr.drew.cell? ⟨gy, 1, none⟩ = some (.int .u64 VA2) ∧ wr.drew.cell? ⟨gy, 2, none⟩ = some (.int .u64 VL2) ∧ wr.drew.cell? ⟨gy, 3, none⟩ = some (.pointer vp2) ∧ wr.drew.cell? ⟨gx + 1, 0, none⟩ = some (.bool x1) ∧ wr.drew.cell? ⟨gx + 1, 1, none⟩ = some (.slice o1 N1 m1) ∧ wr.drew.cell? ⟨gx + 1, 2, none⟩ = some (.slice o2 D1 m2) ∧ wr.drew.cell? ⟨g1, 0, none⟩ = some (.bool x2) ∧ wr.drew.cell? ⟨g1, 1, none⟩ = some (.slice o3 N2 m3) ∧ wr.drew.cell? ⟨g1, 2, none⟩ = some (.slice o4 D2 m4) ∧ wr.drew.cell? ⟨g2, 0, none⟩ = some (.bool x1) ∧ wr.drew.cell? ⟨g2, 1, none⟩ = some (.slice o1 N1 m1) ∧ wr.drew.cell? ⟨g2, 2, none⟩ = some (.slice o2 D1 m2) := by
        rw [← eN1.out, ← eD1.out, ← eN2.out, ← eD2.out]
        obtain ⟨q1, q2, q3, q4⟩ := XX.out.cells
        obtain ⟨q5, q6, q7, q8⟩ := YY.out.cells
        obtain ⟨q9, q10, q11⟩ := PP.out.cells
        obtain ⟨q12, q13, q14⟩ := LL.out.cells
        obtain ⟨q15, q16, q17⟩ := HH.out.cells
        exact ⟨q1, q2, q3, q4, q5, q6, q7, q8, q9, q10, q11, q12, q13, q14, q15, q16, q17⟩
      have Dw : Below wr.heap.size wr wr.drew := (Below.refl _ _).drew
      have HP : Hid (IsRat wr.drew (.agg #[.bool x1, .int .u64 VA1, .int .u64 VL1, .pointer vp1]) x1 n1 d1 ∧ IsRat wr.drew (.agg #[.bool x2, .int .u64 VA2, .int .u64 VL2, .pointer vp2]) x2 n2 d2 ∧ IsRef wr.drew (.agg #[.bool x1, .slice o1 N1 m1, .slice o2 D1 m2]) x1 n1 d1 ∧ IsRef wr.drew (.agg #[.bool x2, .slice o3 N2 m3, .slice o4 D2 m4]) x2 n2 d2 ∧ IsRef wr.drew (.agg #[.bool x1, .slice o1 N1 m1, .slice o2 D1 m2]) x1 n1 d1) := by
        rw [← eN1.out, ← eD1.out, ← eN2.out, ← eD2.out]
        exact ⟨XX.out.is.below Dw, YY.out.is.below Dw, PP.out.is.below Dw, LL.out.is.below Dw, HH.out.is.below Dw⟩
      have LIM : Hid ((nb n2).length ≤ 1000000 ∧ (nb d2).length ≤ 1000000 ∧ (nb n1).length ≤ 1000000 ∧ (nb d1).length ≤ 1000000 ∧ (nb fn).length ≤ 1000000 ∧ (nb 1).length ≤ 1000000) := by
        obtain ⟨z1, z2⟩ := L1.out
        obtain ⟨z3, z4⟩ := L2.out
        exact ⟨by omega, by omega, by omega, by omega, bfl, bOne⟩
      have HC := CC.out.drew
      have s0 := SS
      clear SS XX YY PP LL HH CC bfl bOne eN1 eD1 eN2 eD2 L1 L2 Dw
      have T1 : True := trivial
      have T2 : True := trivial
      go_wp2
      go_region_held3 (fun w' => w'.cell? ⟨gx, 0, none⟩ = some (.bool x1) ∧ w'.cell? ⟨gx, 1, none⟩ = some (.int .u64 VA1) ∧ w'.cell? ⟨gx, 2, none⟩ = some (.int .u64 VL1) ∧ w'.cell? ⟨gx, 3, none⟩ = some (.pointer vp1) ∧ w'.cell? ⟨gy, 0, none⟩ = some (.bool x2) ∧ w'.cell? ⟨gy, 1, none⟩ = some (.int .u64 VA2) ∧ w'.cell? ⟨gy, 2, none⟩ = some (.int .u64 VL2) ∧ w'.cell? ⟨gy, 3, none⟩ = some (.pointer vp2) ∧ w'.cell? ⟨gx + 1, 0, none⟩ = some (.bool x1) ∧ w'.cell? ⟨gx + 1, 1, none⟩ = some (.slice o1 N1 m1) ∧ w'.cell? ⟨gx + 1, 2, none⟩ = some (.slice o2 D1 m2) ∧ w'.cell? ⟨g1, 0, none⟩ = some (.bool x2) ∧ w'.cell? ⟨g1, 1, none⟩ = some (.slice o3 N2 m3) ∧ w'.cell? ⟨g1, 2, none⟩ = some (.slice o4 D2 m4) ∧ w'.cell? ⟨g2, 0, none⟩ = some (.bool x1) ∧ w'.cell? ⟨g2, 1, none⟩ = some (.slice o1 N1 m1) ∧ w'.cell? ⟨g2, 2, none⟩ = some (.slice o2 D1 m2)) (first | with_reducible exact s0 | with_reducible exact s1 | with_reducible exact s2 | with_reducible exact s3 | with_reducible exact s4 | with_reducible exact s5 | with_reducible exact s6 | with_reducible exact s7 | with_reducible exact s8 | with_reducible exact s9 | with_reducible exact s10) (first
        | (go_at_call 12; refine (awake5 _).mono ?_; rintro e w6 ⟨rfl, hb6⟩; have s1 : w6.cell? ⟨gx, 0, none⟩ = some (.bool x1) ∧ w6.cell? ⟨gx, 1, none⟩ = some (.int .u64 VA1) ∧ w6.cell? ⟨gx, 2, none⟩ = some (.int .u64 VL1) ∧ w6.cell? ⟨gx, 3, none⟩ = some (.pointer vp1) ∧ w6.cell? ⟨gy, 0, none⟩ = some (.bool x2) ∧ w6.cell? ⟨gy, 1, none⟩ = some (.int .u64 VA2) ∧ w6.cell? ⟨gy, 2, none⟩ = some (.int .u64 VL2) ∧ w6.cell? ⟨gy, 3, none⟩ = some (.pointer vp2) ∧ w6.cell? ⟨gx + 1, 0, none⟩ = some (.bool x1) ∧ w6.cell? ⟨gx + 1, 1, none⟩ = some (.slice o1 N1 m1) ∧ w6.cell? ⟨gx + 1, 2, none⟩ = some (.slice o2 D1 m2) ∧ w6.cell? ⟨g1, 0, none⟩ = some (.bool x2) ∧ w6.cell? ⟨g1, 1, none⟩ = some (.slice o3 N2 m3) ∧ w6.cell? ⟨g1, 2, none⟩ = some (.slice o4 D2 m4) ∧ w6.cell? ⟨g2, 0, none⟩ = some (.bool x1) ∧ w6.cell? ⟨g2, 1, none⟩ = some (.slice o1 N1 m1) ∧ w6.cell? ⟨g2, 2, none⟩ = some (.slice o2 D1 m2) := by { have kc : ∀ {p : Addr} {v : Value}, wr.drew.cell? p = some v → w6.cell? p = some v := fun {p v} h => by { rw [hb6.cell (World.block_lt_of_cell? wr.drew p h)]; exact h }; exact ⟨kc s0.1, kc s0.2.1, kc s0.2.2.1, kc s0.2.2.2.1, kc s0.2.2.2.2.1, kc s0.2.2.2.2.2.1, kc s0.2.2.2.2.2.2.1, kc s0.2.2.2.2.2.2.2.1, kc s0.2.2.2.2.2.2.2.2.1, kc s0.2.2.2.2.2.2.2.2.2.1, kc s0.2.2.2.2.2.2.2.2.2.2.1, kc s0.2.2.2.2.2.2.2.2.2.2.2.1, kc s0.2.2.2.2.2.2.2.2.2.2.2.2.1, kc s0.2.2.2.2.2.2.2.2.2.2.2.2.2.1, kc s0.2.2.2.2.2.2.2.2.2.2.2.2.2.2.1, kc s0.2.2.2.2.2.2.2.2.2.2.2.2.2.2.2.1, kc s0.2.2.2.2.2.2.2.2.2.2.2.2.2.2.2.2⟩ })
        | (go_at_call 17; refine (cC _ (HP.out.1.below hb6) (HP.out.2.1.below hb6)).mono ?_; rintro e w7 ⟨rfl, hb7⟩; have H7 := bt hb6 hb7; have s2 : w7.cell? ⟨gx, 0, none⟩ = some (.bool x1) ∧ w7.cell? ⟨gx, 1, none⟩ = some (.int .u64 VA1) ∧ w7.cell? ⟨gx, 2, none⟩ = some (.int .u64 VL1) ∧ w7.cell? ⟨gx, 3, none⟩ = some (.pointer vp1) ∧ w7.cell? ⟨gy, 0, none⟩ = some (.bool x2) ∧ w7.cell? ⟨gy, 1, none⟩ = some (.int .u64 VA2) ∧ w7.cell? ⟨gy, 2, none⟩ = some (.int .u64 VL2) ∧ w7.cell? ⟨gy, 3, none⟩ = some (.pointer vp2) ∧ w7.cell? ⟨gx + 1, 0, none⟩ = some (.bool x1) ∧ w7.cell? ⟨gx + 1, 1, none⟩ = some (.slice o1 N1 m1) ∧ w7.cell? ⟨gx + 1, 2, none⟩ = some (.slice o2 D1 m2) ∧ w7.cell? ⟨g1, 0, none⟩ = some (.bool x2) ∧ w7.cell? ⟨g1, 1, none⟩ = some (.slice o3 N2 m3) ∧ w7.cell? ⟨g1, 2, none⟩ = some (.slice o4 D2 m4) ∧ w7.cell? ⟨g2, 0, none⟩ = some (.bool x1) ∧ w7.cell? ⟨g2, 1, none⟩ = some (.slice o1 N1 m1) ∧ w7.cell? ⟨g2, 2, none⟩ = some (.slice o2 D1 m2) := by { have kc : ∀ {p : Addr} {v : Value}, w6.cell? p = some v → w7.cell? p = some v := fun {p v} h => by { rw [hb7.cell (World.block_lt_of_cell? w6 p h)]; exact h }; exact ⟨kc s1.1, kc s1.2.1, kc s1.2.2.1, kc s1.2.2.2.1, kc s1.2.2.2.2.1, kc s1.2.2.2.2.2.1, kc s1.2.2.2.2.2.2.1, kc s1.2.2.2.2.2.2.2.1, kc s1.2.2.2.2.2.2.2.2.1, kc s1.2.2.2.2.2.2.2.2.2.1, kc s1.2.2.2.2.2.2.2.2.2.2.1, kc s1.2.2.2.2.2.2.2.2.2.2.2.1, kc s1.2.2.2.2.2.2.2.2.2.2.2.2.1, kc s1.2.2.2.2.2.2.2.2.2.2.2.2.2.1, kc s1.2.2.2.2.2.2.2.2.2.2.2.2.2.2.1, kc s1.2.2.2.2.2.2.2.2.2.2.2.2.2.2.2.1, kc s1.2.2.2.2.2.2.2.2.2.2.2.2.2.2.2.2⟩ })
        | (go_at_call 35; refine (cMin _ (HP.out.1.below H7) (HP.out.2.1.below H7)).mono ?_; rintro e w8 ⟨v8, rfl, R8, hb8⟩; have H8 := bt H7 hb8; have s3 : w8.cell? ⟨gx, 0, none⟩ = some (.bool x1) ∧ w8.cell? ⟨gx, 1, none⟩ = some (.int .u64 VA1) ∧ w8.cell? ⟨gx, 2, none⟩ = some (.int .u64 VL1) ∧ w8.cell? ⟨gx, 3, none⟩ = some (.pointer vp1) ∧ w8.cell? ⟨gy, 0, none⟩ = some (.bool x2) ∧ w8.cell? ⟨gy, 1, none⟩ = some (.int .u64 VA2) ∧ w8.cell? ⟨gy, 2, none⟩ = some (.int .u64 VL2) ∧ w8.cell? ⟨gy, 3, none⟩ = some (.pointer vp2) ∧ w8.cell? ⟨gx + 1, 0, none⟩ = some (.bool x1) ∧ w8.cell? ⟨gx + 1, 1, none⟩ = some (.slice o1 N1 m1) ∧ w8.cell? ⟨gx + 1, 2, none⟩ = some (.slice o2 D1 m2) ∧ w8.cell? ⟨g1, 0, none⟩ = some (.bool x2) ∧ w8.cell? ⟨g1, 1, none⟩ = some (.slice o3 N2 m3) ∧ w8.cell? ⟨g1, 2, none⟩ = some (.slice o4 D2 m4) ∧ w8.cell? ⟨g2, 0, none⟩ = some (.bool x1) ∧ w8.cell? ⟨g2, 1, none⟩ = some (.slice o1 N1 m1) ∧ w8.cell? ⟨g2, 2, none⟩ = some (.slice o2 D1 m2) := by { have kc : ∀ {p : Addr} {v : Value}, w7.cell? p = some v → w8.cell? p = some v := fun {p v} h => by { rw [hb8.cell (World.block_lt_of_cell? w7 p h)]; exact h }; exact ⟨kc s2.1, kc s2.2.1, kc s2.2.2.1, kc s2.2.2.2.1, kc s2.2.2.2.2.1, kc s2.2.2.2.2.2.1, kc s2.2.2.2.2.2.2.1, kc s2.2.2.2.2.2.2.2.1, kc s2.2.2.2.2.2.2.2.2.1, kc s2.2.2.2.2.2.2.2.2.2.1, kc s2.2.2.2.2.2.2.2.2.2.2.1, kc s2.2.2.2.2.2.2.2.2.2.2.2.1, kc s2.2.2.2.2.2.2.2.2.2.2.2.2.1, kc s2.2.2.2.2.2.2.2.2.2.2.2.2.2.1, kc s2.2.2.2.2.2.2.2.2.2.2.2.2.2.2.1, kc s2.2.2.2.2.2.2.2.2.2.2.2.2.2.2.2.1, kc s2.2.2.2.2.2.2.2.2.2.2.2.2.2.2.2.2⟩ })
        | (go_at_call 18; have _t := T1; clear _t T1; refine (is_yes _ _ x2 n2 d2 _ R8 (HP.out.2.2.2.1.below H8) LIM.out.1 LIM.out.2.1).mono ?_; rintro e w9 ⟨rfl, hb9⟩; have H9 := bt H8 hb9; have s4 : w9.cell? ⟨gx, 0, none⟩ = some (.bool x1) ∧ w9.cell? ⟨gx, 1, none⟩ = some (.int .u64 VA1) ∧ w9.cell? ⟨gx, 2, none⟩ = some (.int .u64 VL1) ∧ w9.cell? ⟨gx, 3, none⟩ = some (.pointer vp1) ∧ w9.cell? ⟨gy, 0, none⟩ = some (.bool x2) ∧ w9.cell? ⟨gy, 1, none⟩ = some (.int .u64 VA2) ∧ w9.cell? ⟨gy, 2, none⟩ = some (.int .u64 VL2) ∧ w9.cell? ⟨gy, 3, none⟩ = some (.pointer vp2) ∧ w9.cell? ⟨gx + 1, 0, none⟩ = some (.bool x1) ∧ w9.cell? ⟨gx + 1, 1, none⟩ = some (.slice o1 N1 m1) ∧ w9.cell? ⟨gx + 1, 2, none⟩ = some (.slice o2 D1 m2) ∧ w9.cell? ⟨g1, 0, none⟩ = some (.bool x2) ∧ w9.cell? ⟨g1, 1, none⟩ = some (.slice o3 N2 m3) ∧ w9.cell? ⟨g1, 2, none⟩ = some (.slice o4 D2 m4) ∧ w9.cell? ⟨g2, 0, none⟩ = some (.bool x1) ∧ w9.cell? ⟨g2, 1, none⟩ = some (.slice o1 N1 m1) ∧ w9.cell? ⟨g2, 2, none⟩ = some (.slice o2 D1 m2) := by { have kc : ∀ {p : Addr} {v : Value}, w8.cell? p = some v → w9.cell? p = some v := fun {p v} h => by { rw [hb9.cell (World.block_lt_of_cell? w8 p h)]; exact h }; exact ⟨kc s3.1, kc s3.2.1, kc s3.2.2.1, kc s3.2.2.2.1, kc s3.2.2.2.2.1, kc s3.2.2.2.2.2.1, kc s3.2.2.2.2.2.2.1, kc s3.2.2.2.2.2.2.2.1, kc s3.2.2.2.2.2.2.2.2.1, kc s3.2.2.2.2.2.2.2.2.2.1, kc s3.2.2.2.2.2.2.2.2.2.2.1, kc s3.2.2.2.2.2.2.2.2.2.2.2.1, kc s3.2.2.2.2.2.2.2.2.2.2.2.2.1, kc s3.2.2.2.2.2.2.2.2.2.2.2.2.2.1, kc s3.2.2.2.2.2.2.2.2.2.2.2.2.2.2.1, kc s3.2.2.2.2.2.2.2.2.2.2.2.2.2.2.2.1, kc s3.2.2.2.2.2.2.2.2.2.2.2.2.2.2.2.2⟩ })
        | (go_at_call 36; refine (cMax _ (HP.out.1.below H9) (HP.out.2.1.below H9)).mono ?_; rintro e w10 ⟨v10, rfl, R10, hb10⟩; have H10 := bt H9 hb10; have s5 : w10.cell? ⟨gx, 0, none⟩ = some (.bool x1) ∧ w10.cell? ⟨gx, 1, none⟩ = some (.int .u64 VA1) ∧ w10.cell? ⟨gx, 2, none⟩ = some (.int .u64 VL1) ∧ w10.cell? ⟨gx, 3, none⟩ = some (.pointer vp1) ∧ w10.cell? ⟨gy, 0, none⟩ = some (.bool x2) ∧ w10.cell? ⟨gy, 1, none⟩ = some (.int .u64 VA2) ∧ w10.cell? ⟨gy, 2, none⟩ = some (.int .u64 VL2) ∧ w10.cell? ⟨gy, 3, none⟩ = some (.pointer vp2) ∧ w10.cell? ⟨gx + 1, 0, none⟩ = some (.bool x1) ∧ w10.cell? ⟨gx + 1, 1, none⟩ = some (.slice o1 N1 m1) ∧ w10.cell? ⟨gx + 1, 2, none⟩ = some (.slice o2 D1 m2) ∧ w10.cell? ⟨g1, 0, none⟩ = some (.bool x2) ∧ w10.cell? ⟨g1, 1, none⟩ = some (.slice o3 N2 m3) ∧ w10.cell? ⟨g1, 2, none⟩ = some (.slice o4 D2 m4) ∧ w10.cell? ⟨g2, 0, none⟩ = some (.bool x1) ∧ w10.cell? ⟨g2, 1, none⟩ = some (.slice o1 N1 m1) ∧ w10.cell? ⟨g2, 2, none⟩ = some (.slice o2 D1 m2) := by { have kc : ∀ {p : Addr} {v : Value}, w9.cell? p = some v → w10.cell? p = some v := fun {p v} h => by { rw [hb10.cell (World.block_lt_of_cell? w9 p h)]; exact h }; exact ⟨kc s4.1, kc s4.2.1, kc s4.2.2.1, kc s4.2.2.2.1, kc s4.2.2.2.2.1, kc s4.2.2.2.2.2.1, kc s4.2.2.2.2.2.2.1, kc s4.2.2.2.2.2.2.2.1, kc s4.2.2.2.2.2.2.2.2.1, kc s4.2.2.2.2.2.2.2.2.2.1, kc s4.2.2.2.2.2.2.2.2.2.2.1, kc s4.2.2.2.2.2.2.2.2.2.2.2.1, kc s4.2.2.2.2.2.2.2.2.2.2.2.2.1, kc s4.2.2.2.2.2.2.2.2.2.2.2.2.2.1, kc s4.2.2.2.2.2.2.2.2.2.2.2.2.2.2.1, kc s4.2.2.2.2.2.2.2.2.2.2.2.2.2.2.2.1, kc s4.2.2.2.2.2.2.2.2.2.2.2.2.2.2.2.2⟩ })
        | (go_at_call 18; have _t := T2; clear _t T2; refine (is_yes _ _ x1 n1 d1 _ R10 (HP.out.2.2.2.2.below H10) LIM.out.2.2.1 LIM.out.2.2.2.1).mono ?_; rintro e w11 ⟨rfl, hb11⟩; have H11 := bt H10 hb11; have s6 : w11.cell? ⟨gx, 0, none⟩ = some (.bool x1) ∧ w11.cell? ⟨gx, 1, none⟩ = some (.int .u64 VA1) ∧ w11.cell? ⟨gx, 2, none⟩ = some (.int .u64 VL1) ∧ w11.cell? ⟨gx, 3, none⟩ = some (.pointer vp1) ∧ w11.cell? ⟨gy, 0, none⟩ = some (.bool x2) ∧ w11.cell? ⟨gy, 1, none⟩ = some (.int .u64 VA2) ∧ w11.cell? ⟨gy, 2, none⟩ = some (.int .u64 VL2) ∧ w11.cell? ⟨gy, 3, none⟩ = some (.pointer vp2) ∧ w11.cell? ⟨gx + 1, 0, none⟩ = some (.bool x1) ∧ w11.cell? ⟨gx + 1, 1, none⟩ = some (.slice o1 N1 m1) ∧ w11.cell? ⟨gx + 1, 2, none⟩ = some (.slice o2 D1 m2) ∧ w11.cell? ⟨g1, 0, none⟩ = some (.bool x2) ∧ w11.cell? ⟨g1, 1, none⟩ = some (.slice o3 N2 m3) ∧ w11.cell? ⟨g1, 2, none⟩ = some (.slice o4 D2 m4) ∧ w11.cell? ⟨g2, 0, none⟩ = some (.bool x1) ∧ w11.cell? ⟨g2, 1, none⟩ = some (.slice o1 N1 m1) ∧ w11.cell? ⟨g2, 2, none⟩ = some (.slice o2 D1 m2) := by { have kc : ∀ {p : Addr} {v : Value}, w10.cell? p = some v → w11.cell? p = some v := fun {p v} h => by { rw [hb11.cell (World.block_lt_of_cell? w10 p h)]; exact h }; exact ⟨kc s5.1, kc s5.2.1, kc s5.2.2.1, kc s5.2.2.2.1, kc s5.2.2.2.2.1, kc s5.2.2.2.2.2.1, kc s5.2.2.2.2.2.2.1, kc s5.2.2.2.2.2.2.2.1, kc s5.2.2.2.2.2.2.2.2.1, kc s5.2.2.2.2.2.2.2.2.2.1, kc s5.2.2.2.2.2.2.2.2.2.2.1, kc s5.2.2.2.2.2.2.2.2.2.2.2.1, kc s5.2.2.2.2.2.2.2.2.2.2.2.2.1, kc s5.2.2.2.2.2.2.2.2.2.2.2.2.2.1, kc s5.2.2.2.2.2.2.2.2.2.2.2.2.2.2.1, kc s5.2.2.2.2.2.2.2.2.2.2.2.2.2.2.2.1, kc s5.2.2.2.2.2.2.2.2.2.2.2.2.2.2.2.2⟩ })
        | (go_at_call 37; refine (cWh _ (HP.out.1.below H11)).mono ?_; rintro e w12 ⟨rfl, hb12⟩; have H12 := bt H11 hb12; have s7 : w12.cell? ⟨gx, 0, none⟩ = some (.bool x1) ∧ w12.cell? ⟨gx, 1, none⟩ = some (.int .u64 VA1) ∧ w12.cell? ⟨gx, 2, none⟩ = some (.int .u64 VL1) ∧ w12.cell? ⟨gx, 3, none⟩ = some (.pointer vp1) ∧ w12.cell? ⟨gy, 0, none⟩ = some (.bool x2) ∧ w12.cell? ⟨gy, 1, none⟩ = some (.int .u64 VA2) ∧ w12.cell? ⟨gy, 2, none⟩ = some (.int .u64 VL2) ∧ w12.cell? ⟨gy, 3, none⟩ = some (.pointer vp2) ∧ w12.cell? ⟨gx + 1, 0, none⟩ = some (.bool x1) ∧ w12.cell? ⟨gx + 1, 1, none⟩ = some (.slice o1 N1 m1) ∧ w12.cell? ⟨gx + 1, 2, none⟩ = some (.slice o2 D1 m2) ∧ w12.cell? ⟨g1, 0, none⟩ = some (.bool x2) ∧ w12.cell? ⟨g1, 1, none⟩ = some (.slice o3 N2 m3) ∧ w12.cell? ⟨g1, 2, none⟩ = some (.slice o4 D2 m4) ∧ w12.cell? ⟨g2, 0, none⟩ = some (.bool x1) ∧ w12.cell? ⟨g2, 1, none⟩ = some (.slice o1 N1 m1) ∧ w12.cell? ⟨g2, 2, none⟩ = some (.slice o2 D1 m2) := by { have kc : ∀ {p : Addr} {v : Value}, w11.cell? p = some v → w12.cell? p = some v := fun {p v} h => by { rw [hb12.cell (World.block_lt_of_cell? w11 p h)]; exact h }; exact ⟨kc s6.1, kc s6.2.1, kc s6.2.2.1, kc s6.2.2.2.1, kc s6.2.2.2.2.1, kc s6.2.2.2.2.2.1, kc s6.2.2.2.2.2.2.1, kc s6.2.2.2.2.2.2.2.1, kc s6.2.2.2.2.2.2.2.2.1, kc s6.2.2.2.2.2.2.2.2.2.1, kc s6.2.2.2.2.2.2.2.2.2.2.1, kc s6.2.2.2.2.2.2.2.2.2.2.2.1, kc s6.2.2.2.2.2.2.2.2.2.2.2.2.1, kc s6.2.2.2.2.2.2.2.2.2.2.2.2.2.1, kc s6.2.2.2.2.2.2.2.2.2.2.2.2.2.2.1, kc s6.2.2.2.2.2.2.2.2.2.2.2.2.2.2.2.1, kc s6.2.2.2.2.2.2.2.2.2.2.2.2.2.2.2.2⟩ })
        | (go_at_call 38; refine (cFl _ (HP.out.1.below H12)).mono ?_; rintro e w13 ⟨v13, rfl, R13, hb13⟩; have H13 := bt H12 hb13; have s8 : w13.cell? ⟨gx, 0, none⟩ = some (.bool x1) ∧ w13.cell? ⟨gx, 1, none⟩ = some (.int .u64 VA1) ∧ w13.cell? ⟨gx, 2, none⟩ = some (.int .u64 VL1) ∧ w13.cell? ⟨gx, 3, none⟩ = some (.pointer vp1) ∧ w13.cell? ⟨gy, 0, none⟩ = some (.bool x2) ∧ w13.cell? ⟨gy, 1, none⟩ = some (.int .u64 VA2) ∧ w13.cell? ⟨gy, 2, none⟩ = some (.int .u64 VL2) ∧ w13.cell? ⟨gy, 3, none⟩ = some (.pointer vp2) ∧ w13.cell? ⟨gx + 1, 0, none⟩ = some (.bool x1) ∧ w13.cell? ⟨gx + 1, 1, none⟩ = some (.slice o1 N1 m1) ∧ w13.cell? ⟨gx + 1, 2, none⟩ = some (.slice o2 D1 m2) ∧ w13.cell? ⟨g1, 0, none⟩ = some (.bool x2) ∧ w13.cell? ⟨g1, 1, none⟩ = some (.slice o3 N2 m3) ∧ w13.cell? ⟨g1, 2, none⟩ = some (.slice o4 D2 m4) ∧ w13.cell? ⟨g2, 0, none⟩ = some (.bool x1) ∧ w13.cell? ⟨g2, 1, none⟩ = some (.slice o1 N1 m1) ∧ w13.cell? ⟨g2, 2, none⟩ = some (.slice o2 D1 m2) := by { have kc : ∀ {p : Addr} {v : Value}, w12.cell? p = some v → w13.cell? p = some v := fun {p v} h => by { rw [hb13.cell (World.block_lt_of_cell? w12 p h)]; exact h }; exact ⟨kc s7.1, kc s7.2.1, kc s7.2.2.1, kc s7.2.2.2.1, kc s7.2.2.2.2.1, kc s7.2.2.2.2.2.1, kc s7.2.2.2.2.2.2.1, kc s7.2.2.2.2.2.2.2.1, kc s7.2.2.2.2.2.2.2.2.1, kc s7.2.2.2.2.2.2.2.2.2.1, kc s7.2.2.2.2.2.2.2.2.2.2.1, kc s7.2.2.2.2.2.2.2.2.2.2.2.1, kc s7.2.2.2.2.2.2.2.2.2.2.2.2.1, kc s7.2.2.2.2.2.2.2.2.2.2.2.2.2.1, kc s7.2.2.2.2.2.2.2.2.2.2.2.2.2.2.1, kc s7.2.2.2.2.2.2.2.2.2.2.2.2.2.2.2.1, kc s7.2.2.2.2.2.2.2.2.2.2.2.2.2.2.2.2⟩ })
        | (go_at_call 39; refine (cRf _ (HP.out.2.2.1.below H13)).mono ?_; rintro e w14 ⟨v14, rfl, Q14, hb14⟩; have H14 := bt H13 hb14; have s9 : w14.cell? ⟨gx, 0, none⟩ = some (.bool x1) ∧ w14.cell? ⟨gx, 1, none⟩ = some (.int .u64 VA1) ∧ w14.cell? ⟨gx, 2, none⟩ = some (.int .u64 VL1) ∧ w14.cell? ⟨gx, 3, none⟩ = some (.pointer vp1) ∧ w14.cell? ⟨gy, 0, none⟩ = some (.bool x2) ∧ w14.cell? ⟨gy, 1, none⟩ = some (.int .u64 VA2) ∧ w14.cell? ⟨gy, 2, none⟩ = some (.int .u64 VL2) ∧ w14.cell? ⟨gy, 3, none⟩ = some (.pointer vp2) ∧ w14.cell? ⟨gx + 1, 0, none⟩ = some (.bool x1) ∧ w14.cell? ⟨gx + 1, 1, none⟩ = some (.slice o1 N1 m1) ∧ w14.cell? ⟨gx + 1, 2, none⟩ = some (.slice o2 D1 m2) ∧ w14.cell? ⟨g1, 0, none⟩ = some (.bool x2) ∧ w14.cell? ⟨g1, 1, none⟩ = some (.slice o3 N2 m3) ∧ w14.cell? ⟨g1, 2, none⟩ = some (.slice o4 D2 m4) ∧ w14.cell? ⟨g2, 0, none⟩ = some (.bool x1) ∧ w14.cell? ⟨g2, 1, none⟩ = some (.slice o1 N1 m1) ∧ w14.cell? ⟨g2, 2, none⟩ = some (.slice o2 D1 m2) := by { have kc : ∀ {p : Addr} {v : Value}, w13.cell? p = some v → w14.cell? p = some v := fun {p v} h => by { rw [hb14.cell (World.block_lt_of_cell? w13 p h)]; exact h }; exact ⟨kc s8.1, kc s8.2.1, kc s8.2.2.1, kc s8.2.2.2.1, kc s8.2.2.2.2.1, kc s8.2.2.2.2.2.1, kc s8.2.2.2.2.2.2.1, kc s8.2.2.2.2.2.2.2.1, kc s8.2.2.2.2.2.2.2.2.1, kc s8.2.2.2.2.2.2.2.2.2.1, kc s8.2.2.2.2.2.2.2.2.2.2.1, kc s8.2.2.2.2.2.2.2.2.2.2.2.1, kc s8.2.2.2.2.2.2.2.2.2.2.2.2.1, kc s8.2.2.2.2.2.2.2.2.2.2.2.2.2.1, kc s8.2.2.2.2.2.2.2.2.2.2.2.2.2.2.1, kc s8.2.2.2.2.2.2.2.2.2.2.2.2.2.2.2.1, kc s8.2.2.2.2.2.2.2.2.2.2.2.2.2.2.2.2⟩ })
        | (go_at_call 18; refine (is_yes _ _ fb fn 1 _ (R13.below hb14) Q14 LIM.out.2.2.2.2.1 LIM.out.2.2.2.2.2).mono ?_; rintro e w15 ⟨rfl, hb15⟩; have H15 := bt H14 hb15; have s10 : w15.cell? ⟨gx, 0, none⟩ = some (.bool x1) ∧ w15.cell? ⟨gx, 1, none⟩ = some (.int .u64 VA1) ∧ w15.cell? ⟨gx, 2, none⟩ = some (.int .u64 VL1) ∧ w15.cell? ⟨gx, 3, none⟩ = some (.pointer vp1) ∧ w15.cell? ⟨gy, 0, none⟩ = some (.bool x2) ∧ w15.cell? ⟨gy, 1, none⟩ = some (.int .u64 VA2) ∧ w15.cell? ⟨gy, 2, none⟩ = some (.int .u64 VL2) ∧ w15.cell? ⟨gy, 3, none⟩ = some (.pointer vp2) ∧ w15.cell? ⟨gx + 1, 0, none⟩ = some (.bool x1) ∧ w15.cell? ⟨gx + 1, 1, none⟩ = some (.slice o1 N1 m1) ∧ w15.cell? ⟨gx + 1, 2, none⟩ = some (.slice o2 D1 m2) ∧ w15.cell? ⟨g1, 0, none⟩ = some (.bool x2) ∧ w15.cell? ⟨g1, 1, none⟩ = some (.slice o3 N2 m3) ∧ w15.cell? ⟨g1, 2, none⟩ = some (.slice o4 D2 m4) ∧ w15.cell? ⟨g2, 0, none⟩ = some (.bool x1) ∧ w15.cell? ⟨g2, 1, none⟩ = some (.slice o1 N1 m1) ∧ w15.cell? ⟨g2, 2, none⟩ = some (.slice o2 D1 m2) := by { have kc : ∀ {p : Addr} {v : Value}, w14.cell? p = some v → w15.cell? p = some v := fun {p v} h => by { rw [hb15.cell (World.block_lt_of_cell? w14 p h)]; exact h }; exact ⟨kc s9.1, kc s9.2.1, kc s9.2.2.1, kc s9.2.2.2.1, kc s9.2.2.2.2.1, kc s9.2.2.2.2.2.1, kc s9.2.2.2.2.2.2.1, kc s9.2.2.2.2.2.2.2.1, kc s9.2.2.2.2.2.2.2.2.1, kc s9.2.2.2.2.2.2.2.2.2.1, kc s9.2.2.2.2.2.2.2.2.2.2.1, kc s9.2.2.2.2.2.2.2.2.2.2.2.1, kc s9.2.2.2.2.2.2.2.2.2.2.2.2.1, kc s9.2.2.2.2.2.2.2.2.2.2.2.2.2.1, kc s9.2.2.2.2.2.2.2.2.2.2.2.2.2.2.1, kc s9.2.2.2.2.2.2.2.2.2.2.2.2.2.2.2.1, kc s9.2.2.2.2.2.2.2.2.2.2.2.2.2.2.2.2⟩ }))
      all_goals go_wp2
      all_goals go_ret
      all_goals exact ⟨rfl, bt HC H15⟩
    · have cMin : ∀ (W : World), IsRat W (.agg #[.bool x1, .int .u64 VA1, .int .u64 VL1, .pointer vp1]) x1 n1 d1 → IsRat W (.agg #[.bool x2, .int .u64 VA2, .int .u64 VL2, .pointer vp2]) x2 n2 d2 → Calls Try.prog 35 #[.agg #[.bool x1, .int .u64 VA1, .int .u64 VL1, .pointer vp1], .agg #[.bool x2, .int .u64 VA2, .int .u64 VL2, .pointer vp2]] W fun e w' => ∃ v, e = .returned v ∧ IsRat w' v x1 n1 d1 ∧ Below W.heap.size W w' := fun W h h' => by
        have := cMin0 W h h'
        rw [if_neg hC, if_neg hC, if_neg hC] at this
        exact this
      have cMax : ∀ (W : World), IsRat W (.agg #[.bool x1, .int .u64 VA1, .int .u64 VL1, .pointer vp1]) x1 n1 d1 → IsRat W (.agg #[.bool x2, .int .u64 VA2, .int .u64 VL2, .pointer vp2]) x2 n2 d2 → Calls Try.prog 36 #[.agg #[.bool x1, .int .u64 VA1, .int .u64 VL1, .pointer vp1], .agg #[.bool x2, .int .u64 VA2, .int .u64 VL2, .pointer vp2]] W fun e w' => ∃ v, e = .returned v ∧ IsRat w' v x2 n2 d2 ∧ Below W.heap.size W w' := fun W h h' => by
        have := cMax0 W h h'
        by_cases h2 : C < 0
        · rw [if_pos h2, if_pos h2, if_pos h2] at this
          exact this
        · rw [if_neg h2, if_neg h2, if_neg h2] at this
          obtain ⟨q1, q2, q3⟩ := HEQ.out (by omega) (by omega)
          refine this.mono ?_
          rintro e w' ⟨v, rfl, R, hb⟩
          rw [q1, q2, q3] at R
          exact ⟨v, rfl, R, hb⟩
      clear cMin0 cMax0 HEQ
      have XX := X4
      have YY := Y4
      have PP := P4
      have LL := L4
      have HH := H4
      have CC := C4
      clear X4 Y4 P4 Z4 L4 H4 C4 N4
      have SS : wc.drew.cell? ⟨gx, 0, none⟩ = some (.bool x1) ∧ wc.drew.cell? ⟨gx, 1, none⟩ = some (.int .u64 VA1) ∧ wc.drew.cell? ⟨gx, 2, none⟩ = some (.int .u64 VL1) ∧ wc.drew.cell? ⟨gx, 3, none⟩ = some (.pointer vp1) ∧ wc.drew.cell? ⟨gy, 0, none⟩ = some (.bool x2) ∧ wc.drew.cell? ⟨gy, 1, none⟩ = some (.int .u64 VA2) ∧ wc.drew.cell? ⟨gy, 2, none⟩ = some (.int .u64 VL2) ∧ wc.drew.cell? ⟨gy, 3, none⟩ = some (.pointer vp2) ∧ wc.drew.cell? ⟨gx + 1, 0, none⟩ = some (.bool x1) ∧ wc.drew.cell? ⟨gx + 1, 1, none⟩ = some (.slice o1 N1 m1) ∧ wc.drew.cell? ⟨gx + 1, 2, none⟩ = some (.slice o2 D1 m2) ∧ wc.drew.cell? ⟨g1, 0, none⟩ = some (.bool x1) ∧ wc.drew.cell? ⟨g1, 1, none⟩ = some (.slice o1 N1 m1) ∧ wc.drew.cell? ⟨g1, 2, none⟩ = some (.slice o2 D1 m2) ∧ wc.drew.cell? ⟨g2, 0, none⟩ = some (.bool x2) ∧ wc.drew.cell? ⟨g2, 1, none⟩ = some (.slice o3 N2 m3) ∧ wc.drew.cell? ⟨g2, 2, none⟩ = some (.slice o4 D2 m4) := by
        rw [← eN1.out, ← eD1.out, ← eN2.out, ← eD2.out]
        obtain ⟨q1, q2, q3, q4⟩ := XX.out.cells
        obtain ⟨q5, q6, q7, q8⟩ := YY.out.cells
        obtain ⟨q9, q10, q11⟩ := PP.out.cells
        obtain ⟨q12, q13, q14⟩ := LL.out.cells
        obtain ⟨q15, q16, q17⟩ := HH.out.cells
        exact ⟨q1, q2, q3, q4, q5, q6, q7, q8, q9, q10, q11, q12, q13, q14, q15, q16, q17⟩
      have Dw : Below wc.heap.size wc wc.drew := (Below.refl _ _).drew
      have HP : Hid (IsRat wc.drew (.agg #[.bool x1, .int .u64 VA1, .int .u64 VL1, .pointer vp1]) x1 n1 d1 ∧ IsRat wc.drew (.agg #[.bool x2, .int .u64 VA2, .int .u64 VL2, .pointer vp2]) x2 n2 d2 ∧ IsRef wc.drew (.agg #[.bool x1, .slice o1 N1 m1, .slice o2 D1 m2]) x1 n1 d1 ∧ IsRef wc.drew (.agg #[.bool x1, .slice o1 N1 m1, .slice o2 D1 m2]) x1 n1 d1 ∧ IsRef wc.drew (.agg #[.bool x2, .slice o3 N2 m3, .slice o4 D2 m4]) x2 n2 d2) := by
        rw [← eN1.out, ← eD1.out, ← eN2.out, ← eD2.out]
        exact ⟨XX.out.is.below Dw, YY.out.is.below Dw, PP.out.is.below Dw, LL.out.is.below Dw, HH.out.is.below Dw⟩
      have LIM : Hid ((nb n1).length ≤ 1000000 ∧ (nb d1).length ≤ 1000000 ∧ (nb n2).length ≤ 1000000 ∧ (nb d2).length ≤ 1000000 ∧ (nb fn).length ≤ 1000000 ∧ (nb 1).length ≤ 1000000) := by
        obtain ⟨z1, z2⟩ := L1.out
        obtain ⟨z3, z4⟩ := L2.out
        exact ⟨by omega, by omega, by omega, by omega, bfl, bOne⟩
      have HC := CC.out.drew
      have s0 := SS
      clear SS XX YY PP LL HH CC bfl bOne eN1 eD1 eN2 eD2 L1 L2 Dw
      have T1 : True := trivial
      have T2 : True := trivial
      go_wp2
      go_region_held3 (fun w' => w'.cell? ⟨gx, 0, none⟩ = some (.bool x1) ∧ w'.cell? ⟨gx, 1, none⟩ = some (.int .u64 VA1) ∧ w'.cell? ⟨gx, 2, none⟩ = some (.int .u64 VL1) ∧ w'.cell? ⟨gx, 3, none⟩ = some (.pointer vp1) ∧ w'.cell? ⟨gy, 0, none⟩ = some (.bool x2) ∧ w'.cell? ⟨gy, 1, none⟩ = some (.int .u64 VA2) ∧ w'.cell? ⟨gy, 2, none⟩ = some (.int .u64 VL2) ∧ w'.cell? ⟨gy, 3, none⟩ = some (.pointer vp2) ∧ w'.cell? ⟨gx + 1, 0, none⟩ = some (.bool x1) ∧ w'.cell? ⟨gx + 1, 1, none⟩ = some (.slice o1 N1 m1) ∧ w'.cell? ⟨gx + 1, 2, none⟩ = some (.slice o2 D1 m2) ∧ w'.cell? ⟨g1, 0, none⟩ = some (.bool x1) ∧ w'.cell? ⟨g1, 1, none⟩ = some (.slice o1 N1 m1) ∧ w'.cell? ⟨g1, 2, none⟩ = some (.slice o2 D1 m2) ∧ w'.cell? ⟨g2, 0, none⟩ = some (.bool x2) ∧ w'.cell? ⟨g2, 1, none⟩ = some (.slice o3 N2 m3) ∧ w'.cell? ⟨g2, 2, none⟩ = some (.slice o4 D2 m4)) (first | with_reducible exact s0 | with_reducible exact s1 | with_reducible exact s2 | with_reducible exact s3 | with_reducible exact s4 | with_reducible exact s5 | with_reducible exact s6 | with_reducible exact s7 | with_reducible exact s8 | with_reducible exact s9 | with_reducible exact s10) (first
        | (go_at_call 12; refine (awake5 _).mono ?_; rintro e w6 ⟨rfl, hb6⟩; have s1 : w6.cell? ⟨gx, 0, none⟩ = some (.bool x1) ∧ w6.cell? ⟨gx, 1, none⟩ = some (.int .u64 VA1) ∧ w6.cell? ⟨gx, 2, none⟩ = some (.int .u64 VL1) ∧ w6.cell? ⟨gx, 3, none⟩ = some (.pointer vp1) ∧ w6.cell? ⟨gy, 0, none⟩ = some (.bool x2) ∧ w6.cell? ⟨gy, 1, none⟩ = some (.int .u64 VA2) ∧ w6.cell? ⟨gy, 2, none⟩ = some (.int .u64 VL2) ∧ w6.cell? ⟨gy, 3, none⟩ = some (.pointer vp2) ∧ w6.cell? ⟨gx + 1, 0, none⟩ = some (.bool x1) ∧ w6.cell? ⟨gx + 1, 1, none⟩ = some (.slice o1 N1 m1) ∧ w6.cell? ⟨gx + 1, 2, none⟩ = some (.slice o2 D1 m2) ∧ w6.cell? ⟨g1, 0, none⟩ = some (.bool x1) ∧ w6.cell? ⟨g1, 1, none⟩ = some (.slice o1 N1 m1) ∧ w6.cell? ⟨g1, 2, none⟩ = some (.slice o2 D1 m2) ∧ w6.cell? ⟨g2, 0, none⟩ = some (.bool x2) ∧ w6.cell? ⟨g2, 1, none⟩ = some (.slice o3 N2 m3) ∧ w6.cell? ⟨g2, 2, none⟩ = some (.slice o4 D2 m4) := by { have kc : ∀ {p : Addr} {v : Value}, wc.drew.cell? p = some v → w6.cell? p = some v := fun {p v} h => by { rw [hb6.cell (World.block_lt_of_cell? wc.drew p h)]; exact h }; exact ⟨kc s0.1, kc s0.2.1, kc s0.2.2.1, kc s0.2.2.2.1, kc s0.2.2.2.2.1, kc s0.2.2.2.2.2.1, kc s0.2.2.2.2.2.2.1, kc s0.2.2.2.2.2.2.2.1, kc s0.2.2.2.2.2.2.2.2.1, kc s0.2.2.2.2.2.2.2.2.2.1, kc s0.2.2.2.2.2.2.2.2.2.2.1, kc s0.2.2.2.2.2.2.2.2.2.2.2.1, kc s0.2.2.2.2.2.2.2.2.2.2.2.2.1, kc s0.2.2.2.2.2.2.2.2.2.2.2.2.2.1, kc s0.2.2.2.2.2.2.2.2.2.2.2.2.2.2.1, kc s0.2.2.2.2.2.2.2.2.2.2.2.2.2.2.2.1, kc s0.2.2.2.2.2.2.2.2.2.2.2.2.2.2.2.2⟩ })
        | (go_at_call 17; refine (cC _ (HP.out.1.below hb6) (HP.out.2.1.below hb6)).mono ?_; rintro e w7 ⟨rfl, hb7⟩; have H7 := bt hb6 hb7; have s2 : w7.cell? ⟨gx, 0, none⟩ = some (.bool x1) ∧ w7.cell? ⟨gx, 1, none⟩ = some (.int .u64 VA1) ∧ w7.cell? ⟨gx, 2, none⟩ = some (.int .u64 VL1) ∧ w7.cell? ⟨gx, 3, none⟩ = some (.pointer vp1) ∧ w7.cell? ⟨gy, 0, none⟩ = some (.bool x2) ∧ w7.cell? ⟨gy, 1, none⟩ = some (.int .u64 VA2) ∧ w7.cell? ⟨gy, 2, none⟩ = some (.int .u64 VL2) ∧ w7.cell? ⟨gy, 3, none⟩ = some (.pointer vp2) ∧ w7.cell? ⟨gx + 1, 0, none⟩ = some (.bool x1) ∧ w7.cell? ⟨gx + 1, 1, none⟩ = some (.slice o1 N1 m1) ∧ w7.cell? ⟨gx + 1, 2, none⟩ = some (.slice o2 D1 m2) ∧ w7.cell? ⟨g1, 0, none⟩ = some (.bool x1) ∧ w7.cell? ⟨g1, 1, none⟩ = some (.slice o1 N1 m1) ∧ w7.cell? ⟨g1, 2, none⟩ = some (.slice o2 D1 m2) ∧ w7.cell? ⟨g2, 0, none⟩ = some (.bool x2) ∧ w7.cell? ⟨g2, 1, none⟩ = some (.slice o3 N2 m3) ∧ w7.cell? ⟨g2, 2, none⟩ = some (.slice o4 D2 m4) := by { have kc : ∀ {p : Addr} {v : Value}, w6.cell? p = some v → w7.cell? p = some v := fun {p v} h => by { rw [hb7.cell (World.block_lt_of_cell? w6 p h)]; exact h }; exact ⟨kc s1.1, kc s1.2.1, kc s1.2.2.1, kc s1.2.2.2.1, kc s1.2.2.2.2.1, kc s1.2.2.2.2.2.1, kc s1.2.2.2.2.2.2.1, kc s1.2.2.2.2.2.2.2.1, kc s1.2.2.2.2.2.2.2.2.1, kc s1.2.2.2.2.2.2.2.2.2.1, kc s1.2.2.2.2.2.2.2.2.2.2.1, kc s1.2.2.2.2.2.2.2.2.2.2.2.1, kc s1.2.2.2.2.2.2.2.2.2.2.2.2.1, kc s1.2.2.2.2.2.2.2.2.2.2.2.2.2.1, kc s1.2.2.2.2.2.2.2.2.2.2.2.2.2.2.1, kc s1.2.2.2.2.2.2.2.2.2.2.2.2.2.2.2.1, kc s1.2.2.2.2.2.2.2.2.2.2.2.2.2.2.2.2⟩ })
        | (go_at_call 35; refine (cMin _ (HP.out.1.below H7) (HP.out.2.1.below H7)).mono ?_; rintro e w8 ⟨v8, rfl, R8, hb8⟩; have H8 := bt H7 hb8; have s3 : w8.cell? ⟨gx, 0, none⟩ = some (.bool x1) ∧ w8.cell? ⟨gx, 1, none⟩ = some (.int .u64 VA1) ∧ w8.cell? ⟨gx, 2, none⟩ = some (.int .u64 VL1) ∧ w8.cell? ⟨gx, 3, none⟩ = some (.pointer vp1) ∧ w8.cell? ⟨gy, 0, none⟩ = some (.bool x2) ∧ w8.cell? ⟨gy, 1, none⟩ = some (.int .u64 VA2) ∧ w8.cell? ⟨gy, 2, none⟩ = some (.int .u64 VL2) ∧ w8.cell? ⟨gy, 3, none⟩ = some (.pointer vp2) ∧ w8.cell? ⟨gx + 1, 0, none⟩ = some (.bool x1) ∧ w8.cell? ⟨gx + 1, 1, none⟩ = some (.slice o1 N1 m1) ∧ w8.cell? ⟨gx + 1, 2, none⟩ = some (.slice o2 D1 m2) ∧ w8.cell? ⟨g1, 0, none⟩ = some (.bool x1) ∧ w8.cell? ⟨g1, 1, none⟩ = some (.slice o1 N1 m1) ∧ w8.cell? ⟨g1, 2, none⟩ = some (.slice o2 D1 m2) ∧ w8.cell? ⟨g2, 0, none⟩ = some (.bool x2) ∧ w8.cell? ⟨g2, 1, none⟩ = some (.slice o3 N2 m3) ∧ w8.cell? ⟨g2, 2, none⟩ = some (.slice o4 D2 m4) := by { have kc : ∀ {p : Addr} {v : Value}, w7.cell? p = some v → w8.cell? p = some v := fun {p v} h => by { rw [hb8.cell (World.block_lt_of_cell? w7 p h)]; exact h }; exact ⟨kc s2.1, kc s2.2.1, kc s2.2.2.1, kc s2.2.2.2.1, kc s2.2.2.2.2.1, kc s2.2.2.2.2.2.1, kc s2.2.2.2.2.2.2.1, kc s2.2.2.2.2.2.2.2.1, kc s2.2.2.2.2.2.2.2.2.1, kc s2.2.2.2.2.2.2.2.2.2.1, kc s2.2.2.2.2.2.2.2.2.2.2.1, kc s2.2.2.2.2.2.2.2.2.2.2.2.1, kc s2.2.2.2.2.2.2.2.2.2.2.2.2.1, kc s2.2.2.2.2.2.2.2.2.2.2.2.2.2.1, kc s2.2.2.2.2.2.2.2.2.2.2.2.2.2.2.1, kc s2.2.2.2.2.2.2.2.2.2.2.2.2.2.2.2.1, kc s2.2.2.2.2.2.2.2.2.2.2.2.2.2.2.2.2⟩ })
        | (go_at_call 18; have _t := T1; clear _t T1; refine (is_yes _ _ x1 n1 d1 _ R8 (HP.out.2.2.2.1.below H8) LIM.out.1 LIM.out.2.1).mono ?_; rintro e w9 ⟨rfl, hb9⟩; have H9 := bt H8 hb9; have s4 : w9.cell? ⟨gx, 0, none⟩ = some (.bool x1) ∧ w9.cell? ⟨gx, 1, none⟩ = some (.int .u64 VA1) ∧ w9.cell? ⟨gx, 2, none⟩ = some (.int .u64 VL1) ∧ w9.cell? ⟨gx, 3, none⟩ = some (.pointer vp1) ∧ w9.cell? ⟨gy, 0, none⟩ = some (.bool x2) ∧ w9.cell? ⟨gy, 1, none⟩ = some (.int .u64 VA2) ∧ w9.cell? ⟨gy, 2, none⟩ = some (.int .u64 VL2) ∧ w9.cell? ⟨gy, 3, none⟩ = some (.pointer vp2) ∧ w9.cell? ⟨gx + 1, 0, none⟩ = some (.bool x1) ∧ w9.cell? ⟨gx + 1, 1, none⟩ = some (.slice o1 N1 m1) ∧ w9.cell? ⟨gx + 1, 2, none⟩ = some (.slice o2 D1 m2) ∧ w9.cell? ⟨g1, 0, none⟩ = some (.bool x1) ∧ w9.cell? ⟨g1, 1, none⟩ = some (.slice o1 N1 m1) ∧ w9.cell? ⟨g1, 2, none⟩ = some (.slice o2 D1 m2) ∧ w9.cell? ⟨g2, 0, none⟩ = some (.bool x2) ∧ w9.cell? ⟨g2, 1, none⟩ = some (.slice o3 N2 m3) ∧ w9.cell? ⟨g2, 2, none⟩ = some (.slice o4 D2 m4) := by { have kc : ∀ {p : Addr} {v : Value}, w8.cell? p = some v → w9.cell? p = some v := fun {p v} h => by { rw [hb9.cell (World.block_lt_of_cell? w8 p h)]; exact h }; exact ⟨kc s3.1, kc s3.2.1, kc s3.2.2.1, kc s3.2.2.2.1, kc s3.2.2.2.2.1, kc s3.2.2.2.2.2.1, kc s3.2.2.2.2.2.2.1, kc s3.2.2.2.2.2.2.2.1, kc s3.2.2.2.2.2.2.2.2.1, kc s3.2.2.2.2.2.2.2.2.2.1, kc s3.2.2.2.2.2.2.2.2.2.2.1, kc s3.2.2.2.2.2.2.2.2.2.2.2.1, kc s3.2.2.2.2.2.2.2.2.2.2.2.2.1, kc s3.2.2.2.2.2.2.2.2.2.2.2.2.2.1, kc s3.2.2.2.2.2.2.2.2.2.2.2.2.2.2.1, kc s3.2.2.2.2.2.2.2.2.2.2.2.2.2.2.2.1, kc s3.2.2.2.2.2.2.2.2.2.2.2.2.2.2.2.2⟩ })
        | (go_at_call 36; refine (cMax _ (HP.out.1.below H9) (HP.out.2.1.below H9)).mono ?_; rintro e w10 ⟨v10, rfl, R10, hb10⟩; have H10 := bt H9 hb10; have s5 : w10.cell? ⟨gx, 0, none⟩ = some (.bool x1) ∧ w10.cell? ⟨gx, 1, none⟩ = some (.int .u64 VA1) ∧ w10.cell? ⟨gx, 2, none⟩ = some (.int .u64 VL1) ∧ w10.cell? ⟨gx, 3, none⟩ = some (.pointer vp1) ∧ w10.cell? ⟨gy, 0, none⟩ = some (.bool x2) ∧ w10.cell? ⟨gy, 1, none⟩ = some (.int .u64 VA2) ∧ w10.cell? ⟨gy, 2, none⟩ = some (.int .u64 VL2) ∧ w10.cell? ⟨gy, 3, none⟩ = some (.pointer vp2) ∧ w10.cell? ⟨gx + 1, 0, none⟩ = some (.bool x1) ∧ w10.cell? ⟨gx + 1, 1, none⟩ = some (.slice o1 N1 m1) ∧ w10.cell? ⟨gx + 1, 2, none⟩ = some (.slice o2 D1 m2) ∧ w10.cell? ⟨g1, 0, none⟩ = some (.bool x1) ∧ w10.cell? ⟨g1, 1, none⟩ = some (.slice o1 N1 m1) ∧ w10.cell? ⟨g1, 2, none⟩ = some (.slice o2 D1 m2) ∧ w10.cell? ⟨g2, 0, none⟩ = some (.bool x2) ∧ w10.cell? ⟨g2, 1, none⟩ = some (.slice o3 N2 m3) ∧ w10.cell? ⟨g2, 2, none⟩ = some (.slice o4 D2 m4) := by { have kc : ∀ {p : Addr} {v : Value}, w9.cell? p = some v → w10.cell? p = some v := fun {p v} h => by { rw [hb10.cell (World.block_lt_of_cell? w9 p h)]; exact h }; exact ⟨kc s4.1, kc s4.2.1, kc s4.2.2.1, kc s4.2.2.2.1, kc s4.2.2.2.2.1, kc s4.2.2.2.2.2.1, kc s4.2.2.2.2.2.2.1, kc s4.2.2.2.2.2.2.2.1, kc s4.2.2.2.2.2.2.2.2.1, kc s4.2.2.2.2.2.2.2.2.2.1, kc s4.2.2.2.2.2.2.2.2.2.2.1, kc s4.2.2.2.2.2.2.2.2.2.2.2.1, kc s4.2.2.2.2.2.2.2.2.2.2.2.2.1, kc s4.2.2.2.2.2.2.2.2.2.2.2.2.2.1, kc s4.2.2.2.2.2.2.2.2.2.2.2.2.2.2.1, kc s4.2.2.2.2.2.2.2.2.2.2.2.2.2.2.2.1, kc s4.2.2.2.2.2.2.2.2.2.2.2.2.2.2.2.2⟩ })
        | (go_at_call 18; have _t := T2; clear _t T2; refine (is_yes _ _ x2 n2 d2 _ R10 (HP.out.2.2.2.2.below H10) LIM.out.2.2.1 LIM.out.2.2.2.1).mono ?_; rintro e w11 ⟨rfl, hb11⟩; have H11 := bt H10 hb11; have s6 : w11.cell? ⟨gx, 0, none⟩ = some (.bool x1) ∧ w11.cell? ⟨gx, 1, none⟩ = some (.int .u64 VA1) ∧ w11.cell? ⟨gx, 2, none⟩ = some (.int .u64 VL1) ∧ w11.cell? ⟨gx, 3, none⟩ = some (.pointer vp1) ∧ w11.cell? ⟨gy, 0, none⟩ = some (.bool x2) ∧ w11.cell? ⟨gy, 1, none⟩ = some (.int .u64 VA2) ∧ w11.cell? ⟨gy, 2, none⟩ = some (.int .u64 VL2) ∧ w11.cell? ⟨gy, 3, none⟩ = some (.pointer vp2) ∧ w11.cell? ⟨gx + 1, 0, none⟩ = some (.bool x1) ∧ w11.cell? ⟨gx + 1, 1, none⟩ = some (.slice o1 N1 m1) ∧ w11.cell? ⟨gx + 1, 2, none⟩ = some (.slice o2 D1 m2) ∧ w11.cell? ⟨g1, 0, none⟩ = some (.bool x1) ∧ w11.cell? ⟨g1, 1, none⟩ = some (.slice o1 N1 m1) ∧ w11.cell? ⟨g1, 2, none⟩ = some (.slice o2 D1 m2) ∧ w11.cell? ⟨g2, 0, none⟩ = some (.bool x2) ∧ w11.cell? ⟨g2, 1, none⟩ = some (.slice o3 N2 m3) ∧ w11.cell? ⟨g2, 2, none⟩ = some (.slice o4 D2 m4) := by { have kc : ∀ {p : Addr} {v : Value}, w10.cell? p = some v → w11.cell? p = some v := fun {p v} h => by { rw [hb11.cell (World.block_lt_of_cell? w10 p h)]; exact h }; exact ⟨kc s5.1, kc s5.2.1, kc s5.2.2.1, kc s5.2.2.2.1, kc s5.2.2.2.2.1, kc s5.2.2.2.2.2.1, kc s5.2.2.2.2.2.2.1, kc s5.2.2.2.2.2.2.2.1, kc s5.2.2.2.2.2.2.2.2.1, kc s5.2.2.2.2.2.2.2.2.2.1, kc s5.2.2.2.2.2.2.2.2.2.2.1, kc s5.2.2.2.2.2.2.2.2.2.2.2.1, kc s5.2.2.2.2.2.2.2.2.2.2.2.2.1, kc s5.2.2.2.2.2.2.2.2.2.2.2.2.2.1, kc s5.2.2.2.2.2.2.2.2.2.2.2.2.2.2.1, kc s5.2.2.2.2.2.2.2.2.2.2.2.2.2.2.2.1, kc s5.2.2.2.2.2.2.2.2.2.2.2.2.2.2.2.2⟩ })
        | (go_at_call 37; refine (cWh _ (HP.out.1.below H11)).mono ?_; rintro e w12 ⟨rfl, hb12⟩; have H12 := bt H11 hb12; have s7 : w12.cell? ⟨gx, 0, none⟩ = some (.bool x1) ∧ w12.cell? ⟨gx, 1, none⟩ = some (.int .u64 VA1) ∧ w12.cell? ⟨gx, 2, none⟩ = some (.int .u64 VL1) ∧ w12.cell? ⟨gx, 3, none⟩ = some (.pointer vp1) ∧ w12.cell? ⟨gy, 0, none⟩ = some (.bool x2) ∧ w12.cell? ⟨gy, 1, none⟩ = some (.int .u64 VA2) ∧ w12.cell? ⟨gy, 2, none⟩ = some (.int .u64 VL2) ∧ w12.cell? ⟨gy, 3, none⟩ = some (.pointer vp2) ∧ w12.cell? ⟨gx + 1, 0, none⟩ = some (.bool x1) ∧ w12.cell? ⟨gx + 1, 1, none⟩ = some (.slice o1 N1 m1) ∧ w12.cell? ⟨gx + 1, 2, none⟩ = some (.slice o2 D1 m2) ∧ w12.cell? ⟨g1, 0, none⟩ = some (.bool x1) ∧ w12.cell? ⟨g1, 1, none⟩ = some (.slice o1 N1 m1) ∧ w12.cell? ⟨g1, 2, none⟩ = some (.slice o2 D1 m2) ∧ w12.cell? ⟨g2, 0, none⟩ = some (.bool x2) ∧ w12.cell? ⟨g2, 1, none⟩ = some (.slice o3 N2 m3) ∧ w12.cell? ⟨g2, 2, none⟩ = some (.slice o4 D2 m4) := by { have kc : ∀ {p : Addr} {v : Value}, w11.cell? p = some v → w12.cell? p = some v := fun {p v} h => by { rw [hb12.cell (World.block_lt_of_cell? w11 p h)]; exact h }; exact ⟨kc s6.1, kc s6.2.1, kc s6.2.2.1, kc s6.2.2.2.1, kc s6.2.2.2.2.1, kc s6.2.2.2.2.2.1, kc s6.2.2.2.2.2.2.1, kc s6.2.2.2.2.2.2.2.1, kc s6.2.2.2.2.2.2.2.2.1, kc s6.2.2.2.2.2.2.2.2.2.1, kc s6.2.2.2.2.2.2.2.2.2.2.1, kc s6.2.2.2.2.2.2.2.2.2.2.2.1, kc s6.2.2.2.2.2.2.2.2.2.2.2.2.1, kc s6.2.2.2.2.2.2.2.2.2.2.2.2.2.1, kc s6.2.2.2.2.2.2.2.2.2.2.2.2.2.2.1, kc s6.2.2.2.2.2.2.2.2.2.2.2.2.2.2.2.1, kc s6.2.2.2.2.2.2.2.2.2.2.2.2.2.2.2.2⟩ })
        | (go_at_call 38; refine (cFl _ (HP.out.1.below H12)).mono ?_; rintro e w13 ⟨v13, rfl, R13, hb13⟩; have H13 := bt H12 hb13; have s8 : w13.cell? ⟨gx, 0, none⟩ = some (.bool x1) ∧ w13.cell? ⟨gx, 1, none⟩ = some (.int .u64 VA1) ∧ w13.cell? ⟨gx, 2, none⟩ = some (.int .u64 VL1) ∧ w13.cell? ⟨gx, 3, none⟩ = some (.pointer vp1) ∧ w13.cell? ⟨gy, 0, none⟩ = some (.bool x2) ∧ w13.cell? ⟨gy, 1, none⟩ = some (.int .u64 VA2) ∧ w13.cell? ⟨gy, 2, none⟩ = some (.int .u64 VL2) ∧ w13.cell? ⟨gy, 3, none⟩ = some (.pointer vp2) ∧ w13.cell? ⟨gx + 1, 0, none⟩ = some (.bool x1) ∧ w13.cell? ⟨gx + 1, 1, none⟩ = some (.slice o1 N1 m1) ∧ w13.cell? ⟨gx + 1, 2, none⟩ = some (.slice o2 D1 m2) ∧ w13.cell? ⟨g1, 0, none⟩ = some (.bool x1) ∧ w13.cell? ⟨g1, 1, none⟩ = some (.slice o1 N1 m1) ∧ w13.cell? ⟨g1, 2, none⟩ = some (.slice o2 D1 m2) ∧ w13.cell? ⟨g2, 0, none⟩ = some (.bool x2) ∧ w13.cell? ⟨g2, 1, none⟩ = some (.slice o3 N2 m3) ∧ w13.cell? ⟨g2, 2, none⟩ = some (.slice o4 D2 m4) := by { have kc : ∀ {p : Addr} {v : Value}, w12.cell? p = some v → w13.cell? p = some v := fun {p v} h => by { rw [hb13.cell (World.block_lt_of_cell? w12 p h)]; exact h }; exact ⟨kc s7.1, kc s7.2.1, kc s7.2.2.1, kc s7.2.2.2.1, kc s7.2.2.2.2.1, kc s7.2.2.2.2.2.1, kc s7.2.2.2.2.2.2.1, kc s7.2.2.2.2.2.2.2.1, kc s7.2.2.2.2.2.2.2.2.1, kc s7.2.2.2.2.2.2.2.2.2.1, kc s7.2.2.2.2.2.2.2.2.2.2.1, kc s7.2.2.2.2.2.2.2.2.2.2.2.1, kc s7.2.2.2.2.2.2.2.2.2.2.2.2.1, kc s7.2.2.2.2.2.2.2.2.2.2.2.2.2.1, kc s7.2.2.2.2.2.2.2.2.2.2.2.2.2.2.1, kc s7.2.2.2.2.2.2.2.2.2.2.2.2.2.2.2.1, kc s7.2.2.2.2.2.2.2.2.2.2.2.2.2.2.2.2⟩ })
        | (go_at_call 39; refine (cRf _ (HP.out.2.2.1.below H13)).mono ?_; rintro e w14 ⟨v14, rfl, Q14, hb14⟩; have H14 := bt H13 hb14; have s9 : w14.cell? ⟨gx, 0, none⟩ = some (.bool x1) ∧ w14.cell? ⟨gx, 1, none⟩ = some (.int .u64 VA1) ∧ w14.cell? ⟨gx, 2, none⟩ = some (.int .u64 VL1) ∧ w14.cell? ⟨gx, 3, none⟩ = some (.pointer vp1) ∧ w14.cell? ⟨gy, 0, none⟩ = some (.bool x2) ∧ w14.cell? ⟨gy, 1, none⟩ = some (.int .u64 VA2) ∧ w14.cell? ⟨gy, 2, none⟩ = some (.int .u64 VL2) ∧ w14.cell? ⟨gy, 3, none⟩ = some (.pointer vp2) ∧ w14.cell? ⟨gx + 1, 0, none⟩ = some (.bool x1) ∧ w14.cell? ⟨gx + 1, 1, none⟩ = some (.slice o1 N1 m1) ∧ w14.cell? ⟨gx + 1, 2, none⟩ = some (.slice o2 D1 m2) ∧ w14.cell? ⟨g1, 0, none⟩ = some (.bool x1) ∧ w14.cell? ⟨g1, 1, none⟩ = some (.slice o1 N1 m1) ∧ w14.cell? ⟨g1, 2, none⟩ = some (.slice o2 D1 m2) ∧ w14.cell? ⟨g2, 0, none⟩ = some (.bool x2) ∧ w14.cell? ⟨g2, 1, none⟩ = some (.slice o3 N2 m3) ∧ w14.cell? ⟨g2, 2, none⟩ = some (.slice o4 D2 m4) := by { have kc : ∀ {p : Addr} {v : Value}, w13.cell? p = some v → w14.cell? p = some v := fun {p v} h => by { rw [hb14.cell (World.block_lt_of_cell? w13 p h)]; exact h }; exact ⟨kc s8.1, kc s8.2.1, kc s8.2.2.1, kc s8.2.2.2.1, kc s8.2.2.2.2.1, kc s8.2.2.2.2.2.1, kc s8.2.2.2.2.2.2.1, kc s8.2.2.2.2.2.2.2.1, kc s8.2.2.2.2.2.2.2.2.1, kc s8.2.2.2.2.2.2.2.2.2.1, kc s8.2.2.2.2.2.2.2.2.2.2.1, kc s8.2.2.2.2.2.2.2.2.2.2.2.1, kc s8.2.2.2.2.2.2.2.2.2.2.2.2.1, kc s8.2.2.2.2.2.2.2.2.2.2.2.2.2.1, kc s8.2.2.2.2.2.2.2.2.2.2.2.2.2.2.1, kc s8.2.2.2.2.2.2.2.2.2.2.2.2.2.2.2.1, kc s8.2.2.2.2.2.2.2.2.2.2.2.2.2.2.2.2⟩ })
        | (go_at_call 18; refine (is_yes _ _ fb fn 1 _ (R13.below hb14) Q14 LIM.out.2.2.2.2.1 LIM.out.2.2.2.2.2).mono ?_; rintro e w15 ⟨rfl, hb15⟩; have H15 := bt H14 hb15; have s10 : w15.cell? ⟨gx, 0, none⟩ = some (.bool x1) ∧ w15.cell? ⟨gx, 1, none⟩ = some (.int .u64 VA1) ∧ w15.cell? ⟨gx, 2, none⟩ = some (.int .u64 VL1) ∧ w15.cell? ⟨gx, 3, none⟩ = some (.pointer vp1) ∧ w15.cell? ⟨gy, 0, none⟩ = some (.bool x2) ∧ w15.cell? ⟨gy, 1, none⟩ = some (.int .u64 VA2) ∧ w15.cell? ⟨gy, 2, none⟩ = some (.int .u64 VL2) ∧ w15.cell? ⟨gy, 3, none⟩ = some (.pointer vp2) ∧ w15.cell? ⟨gx + 1, 0, none⟩ = some (.bool x1) ∧ w15.cell? ⟨gx + 1, 1, none⟩ = some (.slice o1 N1 m1) ∧ w15.cell? ⟨gx + 1, 2, none⟩ = some (.slice o2 D1 m2) ∧ w15.cell? ⟨g1, 0, none⟩ = some (.bool x1) ∧ w15.cell? ⟨g1, 1, none⟩ = some (.slice o1 N1 m1) ∧ w15.cell? ⟨g1, 2, none⟩ = some (.slice o2 D1 m2) ∧ w15.cell? ⟨g2, 0, none⟩ = some (.bool x2) ∧ w15.cell? ⟨g2, 1, none⟩ = some (.slice o3 N2 m3) ∧ w15.cell? ⟨g2, 2, none⟩ = some (.slice o4 D2 m4) := by { have kc : ∀ {p : Addr} {v : Value}, w14.cell? p = some v → w15.cell? p = some v := fun {p v} h => by { rw [hb15.cell (World.block_lt_of_cell? w14 p h)]; exact h }; exact ⟨kc s9.1, kc s9.2.1, kc s9.2.2.1, kc s9.2.2.2.1, kc s9.2.2.2.2.1, kc s9.2.2.2.2.2.1, kc s9.2.2.2.2.2.2.1, kc s9.2.2.2.2.2.2.2.1, kc s9.2.2.2.2.2.2.2.2.1, kc s9.2.2.2.2.2.2.2.2.2.1, kc s9.2.2.2.2.2.2.2.2.2.2.1, kc s9.2.2.2.2.2.2.2.2.2.2.2.1, kc s9.2.2.2.2.2.2.2.2.2.2.2.2.1, kc s9.2.2.2.2.2.2.2.2.2.2.2.2.2.1, kc s9.2.2.2.2.2.2.2.2.2.2.2.2.2.2.1, kc s9.2.2.2.2.2.2.2.2.2.2.2.2.2.2.2.1, kc s9.2.2.2.2.2.2.2.2.2.2.2.2.2.2.2.2⟩ }))
      all_goals go_wp2
      all_goals go_ret
      all_goals exact ⟨rfl, bt HC H15⟩
end Go.Proofs.Ytfkaeehbnnhfoaa.OrW
