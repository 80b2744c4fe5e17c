/- Products of rational numbers in words; Products of rational numbers. -/
import Derived.Shelf.Lay
import Derived.Shelf.LaySoft
import Derived.Shelf.Bits.Mul64
import Derived.Test.YtefckmkcbgckfabSetAQ
import Derived.Test.YtefckmkcbgckfabSetAA
import Derived.Deep.CutRange
/- Products of rational numbers in words. -/
namespace Go.Proofs
open Go.Shelf
shelf_lay Lays.n264 Nm 264 at Try as Try.lays264
open Go.RowKit in
theorem Try.bits_Mul64 (x y : Nat) (hx : x < 18446744073709551616) (hy : y < 18446744073709551616) (w : World) :
    Calls Try.prog 60 #[.int .u64 x, .int .u64 y] w fun e w' => e = .returned (.tuple #[.int .u64 ((x * y / 18446744073709551616 : Nat) : Int), .int .u64 ((x * y % 18446744073709551616 : Nat) : Int)]) ∧ w' = w := Any.bits_Mul64 Try.lays264 x y hx hy w
end Go.Proofs
namespace Go.Proofs.Ytefckmkcbgckfab.MulW
open Go.RowKit Mem LimbNum RatL RatM RatN RatF MulN

theorem in_heap {w : World} {g : Nat} {o : Obj} (h : w.heap[g]? = some o) : g < w.heap.size := (Array.getElem?_eq_some_iff.1 h).1
theorem eight_kept {W w5 : World} {g h : Nat} {a0 a1 a2 a3 b0 b1 b2 b3 : Value} (hb : Below W.heap.size W w5) (H : W.cell? ⟨g, 0, none⟩ = some a0 ∧ W.cell? ⟨g, 1, none⟩ = some a1 ∧ W.cell? ⟨g, 2, none⟩ = some a2 ∧ W.cell? ⟨g, 3, none⟩ = some a3 ∧ W.cell? ⟨h, 0, none⟩ = some b0 ∧ W.cell? ⟨h, 1, none⟩ = some b1 ∧ W.cell? ⟨h, 2, none⟩ = some b2 ∧ W.cell? ⟨h, 3, none⟩ = some b3) : w5.cell? ⟨g, 0, none⟩ = some a0 ∧ w5.cell? ⟨g, 1, none⟩ = some a1 ∧ w5.cell? ⟨g, 2, none⟩ = some a2 ∧ w5.cell? ⟨g, 3, none⟩ = some a3 ∧ w5.cell? ⟨h, 0, none⟩ = some b0 ∧ w5.cell? ⟨h, 1, none⟩ = some b1 ∧ w5.cell? ⟨h, 2, none⟩ = some b2 ∧ w5.cell? ⟨h, 3, none⟩ = some b3 := by
  have kc : ∀ {p : Addr} {v : Value}, W.cell? p = some v → w5.cell? p = some v := fun {p v} h => by rw [hb.cell (World.block_lt_of_cell? W p h)]; exact h
  exact ⟨kc H.1, kc H.2.1, kc H.2.2.1, kc H.2.2.2.1, kc H.2.2.2.2.1, kc H.2.2.2.2.2.1, kc H.2.2.2.2.2.2.1, kc H.2.2.2.2.2.2.2⟩
set_option maxRecDepth 20000 in
theorem short_wild (b : Bool) (n d : Nat) (w : World) (h2 : d < 18446744073709551616) :
    Calls Try.prog 62 #[.bool b, .int .u64 (n : Int), .int .u64 (d : Int)] w fun e w' => (∃ x z, e = .returned (.agg #[.bool x, .int .u64 (n : Int), .int .u64 z, .pointer none]) ∧ (1 ≤ d → x = (b && decide (n ≠ 0)) ∧ z = (d : Int) - 1)) ∧ Below w.heap.size w w' := by
  by_cases h1 : 1 ≤ d
  · refine (short_any b n d w h1 h2).mono ?_
    rintro e w' ⟨rfl, hb⟩
    exact ⟨⟨_, _, rfl, fun _ => ⟨rfl, rfl⟩⟩, hb⟩
  · obtain rfl : d = 0 := by omega
    obtain ⟨N, eN⟩ : ∃ x : Int, x = (n : Int) := ⟨_, rfl⟩
    rw [← eN]
    have b0 : ∀ o : Obj, Below w.heap.size w (w.alloc o) := fun o => (Below.refl _ _).alloc (Nat.le_refl _) _
    clear eN h1 h2
    cases b
    all_goals
      go_enter Try.func62, Try.ntmps62
      go_wp2
    · refine bodyPost_ret (v := .agg #[.bool false, .int .u64 N, .int .u64 (IntKind.u64.wrap (-1)), .pointer none]) ?_ rfl ?_
      · simp [results, go_sem]
      · exact ⟨⟨_, _, rfl, fun h => by omega⟩, b0 _⟩
    · refine bodyPost_ret (v := .agg #[.bool (N != 0), .int .u64 N, .int .u64 (IntKind.u64.wrap (-1)), .pointer none]) ?_ rfl ?_
      · simp [results, go_sem]
      · exact ⟨⟨_, _, rfl, fun h => by omega⟩, b0 _⟩
set_option maxRecDepth 20000 in
set_option maxHeartbeats 2000000 in
theorem mulWords_any (b1 b2 : Bool) (n1 d1 n2 d2 : Nat) (w : World) (q1 : n1 < 18446744073709551616) (q2 : d1 < 18446744073709551616) (q3 : n2 < 18446744073709551616) (q4 : d2 < 18446744073709551616) (p1 : 1 ≤ d1) (p2 : 1 ≤ d2) (X Y : Nat)
    (eX : n1 / Nat.gcd n1 d2 * (n2 / Nat.gcd n2 d1) = X) (eY : d1 / Nat.gcd n2 d1 * (d2 / Nat.gcd n1 d2) = Y) :
    Calls Try.prog 32 #[.agg #[.bool b1, .int .u64 (n1 : Int), .int .u64 ((d1 : Int) - 1), .pointer none], .agg #[.bool b2, .int .u64 (n2 : Int), .int .u64 ((d2 : Int) - 1), .pointer none]] w fun e w' =>
      (∃ x z, e = .returned (.tuple #[.agg #[.bool x, .int .u64 ((X % 18446744073709551616 : Nat) : Int), .int .u64 z, .pointer none], .bool (decide (X / 18446744073709551616 = 0) && decide (Y / 18446744073709551616 = 0))]) ∧ (1 ≤ Y % 18446744073709551616 → x = ((b1 != b2) && decide (X % 18446744073709551616 ≠ 0)) ∧ z = ((Y % 18446744073709551616 : Nat) : Int) - 1)) ∧ Below w.heap.size w w' := by
  have g0 : 0 < Nat.gcd n1 d2 := Nat.gcd_pos_of_pos_right _ p2
  have k0 : 0 < Nat.gcd n2 d1 := Nat.gcd_pos_of_pos_right _ p1
  have cC1 := fun (W : World) => common_any n1 d2 W q1 q4
  have cC2 := fun (W : World) => common_any n2 d1 W q3 q2
  have r1 := Nat.div_le_self n1 (Nat.gcd n1 d2)
  have r2 := Nat.div_le_self n2 (Nat.gcd n2 d1)
  have r3 := Nat.div_le_self d1 (Nat.gcd n2 d1)
  have r4 := Nat.div_le_self d2 (Nat.gcd n1 d2)
  have et1 := tdiv_nat n1 (Nat.gcd n1 d2)
  have et2 := tdiv_nat n2 (Nat.gcd n2 d1)
  have et3 := tdiv_nat d1 (Nat.gcd n2 d1)
  have et4 := tdiv_nat d2 (Nat.gcd n1 d2)
  have cM1 := fun (W : World) => Try.bits_Mul64 (n1 / Nat.gcd n1 d2) (n2 / Nat.gcd n2 d1) (by omega) (by omega) W
  have cM2 := fun (W : World) => Try.bits_Mul64 (d1 / Nat.gcd n2 d1) (d2 / Nat.gcd n1 d2) (by omega) (by omega) W
  rw [eX] at cM1
  rw [eY] at cM2
  have hXlt : X < 18446744073709551616 * 18446744073709551616 := by rw [← eX]; exact Nat.mul_lt_mul'' (by omega) (by omega)
  have hYlt : Y < 18446744073709551616 * 18446744073709551616 := by rw [← eY]; exact Nat.mul_lt_mul'' (by omega) (by omega)
  have eOr := or_zero (X / 18446744073709551616) (Y / 18446744073709551616) (by omega) (by omega)
  have cS := fun (W : World) => short_wild (b1 != b2) (X % 18446744073709551616) (Y % 18446744073709551616) W (by omega)
  have hYm : 1 ≤ Y % 18446744073709551616 → True := fun _ => trivial
  have gz : (((Nat.gcd n1 d2 : Nat) : Int) == 0) = false := by rw [beq_eq_false_iff_ne]; omega
  have kz : (((Nat.gcd n2 d1 : Nat) : Int) == 0) = false := by rw [beq_eq_false_iff_ne]; omega
  have hG0 : ((Nat.gcd n1 d2 : Nat) : Int) ≠ 0 := by omega
  have hK0 : ((Nat.gcd n2 d1 : Nat) : Int) ≠ 0 := by omega
  have cD1 := fun (W : World) => den_any b1 (n1 : Int) (d1 : Int) none W (by omega) (by omega)
  have cD2 := fun (W : World) => den_any b2 (n2 : Int) (d2 : Int) none W (by omega) (by omega)
  rw [show (b1 != b2) = !(b1 == b2) from rfl] at cS ⊢
  have b1' : n1 / Nat.gcd n1 d2 < 18446744073709551616 := by omega
  have b2' : n2 / Nat.gcd n2 d1 < 18446744073709551616 := by omega
  have b3' : d1 / Nat.gcd n2 d1 < 18446744073709551616 := by omega
  have b4' : d2 / Nat.gcd n1 d2 < 18446744073709551616 := by omega
  clear g0 k0 r1 r2 r3 r4 eX eY hXlt hYlt hYm q1 q2 q3 q4 p1 p2
  generalize n1 / Nat.gcd n1 d2 = x1n at *
  generalize n2 / Nat.gcd n2 d1 = x2n at *
  generalize d1 / Nat.gcd n2 d1 = y1n at *
  generalize d2 / Nat.gcd n1 d2 = y2n at *
  have u1 : IntKind.u64.wrap (x1n : Int) = x1n := by rw [IntKind.wrap_u64]; omega
  have u2 : IntKind.u64.wrap (x2n : Int) = x2n := by rw [IntKind.wrap_u64]; omega
  have u3 : IntKind.u64.wrap (y1n : Int) = y1n := by rw [IntKind.wrap_u64]; omega
  have u4 : IntKind.u64.wrap (y2n : Int) = y2n := by rw [IntKind.wrap_u64]; omega
  generalize (decide (X / 18446744073709551616 = 0) && decide (Y / 18446744073709551616 = 0)) = ok at *
  generalize X / 18446744073709551616 = XHn at *
  generalize Y / 18446744073709551616 = YHn at *
  generalize X % 18446744073709551616 = XL at *
  generalize Y % 18446744073709551616 = YL at *
  generalize ((!(b1 == b2)) && decide (XL ≠ 0)) = b3 at *
  clear b1' b2' b3' b4'
  generalize (x1n : Int) = x1 at *
  generalize (x2n : Int) = x2 at *
  generalize (y1n : Int) = y1 at *
  generalize (y2n : Int) = y2 at *
  generalize (XHn : Int) = XH at *
  generalize (YHn : Int) = YH at *
  generalize ((Nat.gcd n1 d2 : Nat) : Int) = G at *
  generalize ((Nat.gcd n2 d1 : Nat) : Int) = K at *
  generalize (n1 : Int) = N1 at *
  generalize (n2 : Int) = N2 at *
  generalize (d1 : Int) = D1 at *
  generalize (d2 : Int) = D2 at *
  obtain ⟨W0, eW0⟩ : ∃ W0 : World, ((w.alloc (.cells #[.bool b1, .int .u64 N1, .int .u64 (D1 - 1), .pointer none] 28)).alloc (.cells #[.bool b2, .int .u64 N2, .int .u64 (D2 - 1), .pointer none] 28)).alloc (.cells #[.bool false, .int .u64 0, .int .u64 0, .pointer none] 28) = W0 := ⟨_, rfl⟩
  have hb0 : Below w.heap.size w W0 := by rw [← eW0]; exact (((Below.refl _ _).alloc (Nat.le_refl _) _).alloc (by simp) _).alloc (by simp; omega) _
  have z1 : (w.alloc (.cells #[.bool b1, .int .u64 N1, .int .u64 (D1 - 1), .pointer none] 28)).heap.size = w.heap.size + 1 := by simp
  have z2 : ((w.alloc (.cells #[.bool b1, .int .u64 N1, .int .u64 (D1 - 1), .pointer none] 28)).alloc (.cells #[.bool b2, .int .u64 N2, .int .u64 (D2 - 1), .pointer none] 28)).heap.size = w.heap.size + 1 + 1 := by simp
  have k0 : W0.heap[w.heap.size]? = some (box4 (.bool b1) (.int .u64 N1) (.int .u64 (D1 - 1)) (.pointer none)) := by rw [← eW0, heap_alloc_old _ _ (by omega), heap_alloc_old _ _ (by omega)]; exact box_new _ _ _ _ _
  have k1 : W0.heap[w.heap.size + 1]? = some (box4 (.bool b2) (.int .u64 N2) (.int .u64 (D2 - 1)) (.pointer none)) := by rw [← eW0, heap_alloc_old _ _ (by omega), ← z1]; exact box_new _ _ _ _ _
  have k2 : W0.heap[w.heap.size + 1 + 1]? = some (box4 (.bool false) (.int .u64 0) (.int .u64 0) (.pointer none)) := by rw [← eW0, ← z2]; exact box_new _ _ _ _ _
  have s0 : W0.drew.cell? ⟨w.heap.size, 0, none⟩ = some (.bool b1) ∧ W0.drew.cell? ⟨w.heap.size, 1, none⟩ = some (.int .u64 N1) ∧ W0.drew.cell? ⟨w.heap.size, 2, none⟩ = some (.int .u64 (D1 - 1)) ∧ W0.drew.cell? ⟨w.heap.size, 3, none⟩ = some (.pointer none) ∧ W0.drew.cell? ⟨w.heap.size + 1, 0, none⟩ = some (.bool b2) ∧ W0.drew.cell? ⟨w.heap.size + 1, 1, none⟩ = some (.int .u64 N2) ∧ W0.drew.cell? ⟨w.heap.size + 1, 2, none⟩ = some (.int .u64 (D2 - 1)) ∧ W0.drew.cell? ⟨w.heap.size + 1, 3, none⟩ = some (.pointer none) := by
    obtain ⟨a0, a1, a2, a3⟩ := box0 k0
    obtain ⟨c0, c1, c2, c3⟩ := box0 k1
    exact ⟨a0, a1, a2, a3, c0, c1, c2, c3⟩
  have HK : Hid (W0.heap[w.heap.size + 1 + 1]? = some (box4 (.bool false) (.int .u64 0) (.int .u64 0) (.pointer none))) := k2
  have EW : Hid (((w.alloc (.cells #[.bool b1, .int .u64 N1, .int .u64 (D1 - 1), .pointer none] 28)).alloc (.cells #[.bool b2, .int .u64 N2, .int .u64 (D2 - 1), .pointer none] 28)).alloc (.cells #[.bool false, .int .u64 0, .int .u64 0, .pointer none] 28) = W0) := eW0
  have D0 : Below W0.heap.size W0 W0.drew := (Below.refl _ _).drew
  clear eW0 z1 z2 k0 k1 k2
  have t1 : True := trivial
  have t2 : True := trivial
  go_enter Try.func32, Try.ntmps32
  go_wp2
  rw [EW.out]
  go_region_held3 (fun w' => w'.cell? ⟨w.heap.size, 0, none⟩ = some (.bool b1) ∧ w'.cell? ⟨w.heap.size, 1, none⟩ = some (.int .u64 N1) ∧ w'.cell? ⟨w.heap.size, 2, none⟩ = some (.int .u64 (D1 - 1)) ∧ w'.cell? ⟨w.heap.size, 3, none⟩ = some (.pointer none) ∧ w'.cell? ⟨w.heap.size + 1, 0, none⟩ = some (.bool b2) ∧ w'.cell? ⟨w.heap.size + 1, 1, none⟩ = some (.int .u64 N2) ∧ w'.cell? ⟨w.heap.size + 1, 2, none⟩ = some (.int .u64 (D2 - 1)) ∧ w'.cell? ⟨w.heap.size + 1, 3, none⟩ = some (.pointer none))
    (first | with_reducible exact s0 | with_reducible exact s1 | with_reducible exact s2 | with_reducible exact s3 | with_reducible exact s4) (first
    | (go_at_call 59; have _t := t1; clear _t t1; refine (cD2 _).mono ?_; rintro e w1 ⟨rfl, hb1⟩; have s1 := eight_kept hb1 s0; have E1 := bt D0 hb1)
    | (go_at_call 58; have _t := t2; clear _t t2; refine (cC1 _).mono ?_; rintro e w2 ⟨rfl, hb2⟩; have s2 := eight_kept hb2 s1; have E2 := bt E1 hb2)
    | (go_at_call 59; refine (cD1 _).mono ?_; rintro e w3 ⟨rfl, hb3⟩; have s3 := eight_kept hb3 s2; have E3 := bt E2 hb3)
    | (go_at_call 58; refine (cC2 _).mono ?_; rintro e w4 ⟨rfl, hb4⟩; have s4 := eight_kept hb4 s3; have E4 := bt E3 hb4))
  all_goals go_wp2
  have cM1w : ∀ W : World, Calls Try.prog 60 #[.int .u64 (IntKind.u64.wrap x1), .int .u64 (IntKind.u64.wrap x2)] W fun e w' => e = .returned (.tuple #[.int .u64 XH, .int .u64 (XL : Int)]) ∧ w' = W := by rw [u1, u2]; exact cM1
  have cM2w : ∀ W : World, Calls Try.prog 60 #[.int .u64 (IntKind.u64.wrap y1), .int .u64 (IntKind.u64.wrap y2)] W fun e w' => e = .returned (.tuple #[.int .u64 YH, .int .u64 (YL : Int)]) ∧ w' = W := by rw [u3, u4]; exact cM2
  clear cM1 cM2 u1 u2 u3 u4
  have s5 : w4.drew.cell? ⟨w.heap.size, 0, none⟩ = some (.bool b1) ∧ w4.drew.cell? ⟨w.heap.size, 1, none⟩ = some (.int .u64 N1) ∧ w4.drew.cell? ⟨w.heap.size, 2, none⟩ = some (.int .u64 (D1 - 1)) ∧ w4.drew.cell? ⟨w.heap.size, 3, none⟩ = some (.pointer none) ∧ w4.drew.cell? ⟨w.heap.size + 1, 0, none⟩ = some (.bool b2) ∧ w4.drew.cell? ⟨w.heap.size + 1, 1, none⟩ = some (.int .u64 N2) ∧ w4.drew.cell? ⟨w.heap.size + 1, 2, none⟩ = some (.int .u64 (D2 - 1)) ∧ w4.drew.cell? ⟨w.heap.size + 1, 3, none⟩ = some (.pointer none) := s4
  clear s0 s1 s2 s3 cC1 cC2
  go_region_held3 (fun w' => w'.cell? ⟨w.heap.size, 0, none⟩ = some (.bool b1) ∧ w'.cell? ⟨w.heap.size, 1, none⟩ = some (.int .u64 N1) ∧ w'.cell? ⟨w.heap.size, 2, none⟩ = some (.int .u64 (D1 - 1)) ∧ w'.cell? ⟨w.heap.size, 3, none⟩ = some (.pointer none) ∧ w'.cell? ⟨w.heap.size + 1, 0, none⟩ = some (.bool b2) ∧ w'.cell? ⟨w.heap.size + 1, 1, none⟩ = some (.int .u64 N2) ∧ w'.cell? ⟨w.heap.size + 1, 2, none⟩ = some (.int .u64 (D2 - 1)) ∧ w'.cell? ⟨w.heap.size + 1, 3, none⟩ = some (.pointer none)) (first | with_reducible exact s5 | with_reducible exact s4) (first
    | (go_at_call 60; refine (cM1w _).mono ?_; rintro e w5 ⟨rfl, hw⟩; have hw2 := hw.symm; clear hw; subst hw2))
  all_goals go_wp2
  have s6 : w4.drew.drew.cell? ⟨w.heap.size, 0, none⟩ = some (.bool b1) ∧ w4.drew.drew.cell? ⟨w.heap.size, 1, none⟩ = some (.int .u64 N1) ∧ w4.drew.drew.cell? ⟨w.heap.size, 2, none⟩ = some (.int .u64 (D1 - 1)) ∧ w4.drew.drew.cell? ⟨w.heap.size, 3, none⟩ = some (.pointer none) ∧ w4.drew.drew.cell? ⟨w.heap.size + 1, 0, none⟩ = some (.bool b2) ∧ w4.drew.drew.cell? ⟨w.heap.size + 1, 1, none⟩ = some (.int .u64 N2) ∧ w4.drew.drew.cell? ⟨w.heap.size + 1, 2, none⟩ = some (.int .u64 (D2 - 1)) ∧ w4.drew.drew.cell? ⟨w.heap.size + 1, 3, none⟩ = some (.pointer none) := s4
  have t3 : True := trivial
  go_region_held3 (fun w' => w'.cell? ⟨w.heap.size, 0, none⟩ = some (.bool b1) ∧ w'.cell? ⟨w.heap.size, 1, none⟩ = some (.int .u64 N1) ∧ w'.cell? ⟨w.heap.size, 2, none⟩ = some (.int .u64 (D1 - 1)) ∧ w'.cell? ⟨w.heap.size, 3, none⟩ = some (.pointer none) ∧ w'.cell? ⟨w.heap.size + 1, 0, none⟩ = some (.bool b2) ∧ w'.cell? ⟨w.heap.size + 1, 1, none⟩ = some (.int .u64 N2) ∧ w'.cell? ⟨w.heap.size + 1, 2, none⟩ = some (.int .u64 (D2 - 1)) ∧ w'.cell? ⟨w.heap.size + 1, 3, none⟩ = some (.pointer none)) (first | with_reducible exact s6 | with_reducible exact s7 | with_reducible exact s8) (first
    | (go_at_call 59; have _t := t3; clear _t t3; refine (cD1 _).mono ?_; rintro e w7 ⟨rfl, hb7⟩; have s7 := eight_kept hb7 s6)
    | (go_at_call 59; refine (cD2 _).mono ?_; rintro e w8 ⟨rfl, hb8⟩; have s8 := eight_kept hb8 s7)
    | (go_at_call 60; refine (cM2w _).mono ?_; rintro e w9 ⟨rfl, hw⟩; have hw2 := hw.symm; clear hw; subst hw2))
  have E8 : Below W0.heap.size W0 w8 := bt (bt E4.drew.drew hb7) hb8
  have HK8 : Hid (w8.heap[w.heap.size + 1 + 1]? = some (box4 (.bool false) (.int .u64 0) (.int .u64 0) (.pointer none))) := box_kept HK.out E8 (in_heap HK.out)
  have HE8 : Hid (Below w.heap.size w w8) := bt hb0 E8
  obtain ⟨v0, v1, v2, v3, v4, v5, v6, v7⟩ := s8
  clear s4 s5 s6 s7 cM1w cM2w cD1 cD2 E8
  all_goals go_wp2_with (go_at_call 62; refine (cS _).mono ?_; rintro e w10 ⟨⟨xx, zz, rfl, hxz⟩, hb10⟩; have kk := box_kept HK8.out hb10 (in_heap HK8.out); obtain ⟨c0, c1, c2, c3⟩ := box0 kk; have ff := boxF kk; have HKK : Hid (w10.heap[w.heap.size + 1 + 1]? = some (box4 (.bool false) (.int .u64 0) (.int .u64 0) (.pointer none))) := kk; clear kk)
  have k2 := box_set HKK.out (.bool xx) (.int .u64 (XL : Int)) (.int .u64 zz) (.pointer none)
  have hB := box_below (bt HE8.out hb10) (show w.heap.size ≤ w.heap.size + 1 + 1 by omega) (.bool xx) (.int .u64 (XL : Int)) (.int .u64 zz) (.pointer none)
  generalize World.setCell _ _ _ = W' at *
  obtain ⟨y0, y1, y2, y3⟩ := box0 k2
  refine bodyPost_ret (v := .tuple #[.agg #[.bool xx, .int .u64 (XL : Int), .int .u64 zz, .pointer none], .bool ok]) ?_ rfl ?_
  · simp [results, go_sem, y0, y1, y2, y3]
  · exact ⟨⟨xx, zz, rfl, hxz⟩, hB⟩
end Go.Proofs.Ytefckmkcbgckfab.MulW

/- Products of rational numbers. -/
namespace Go.Proofs.Ytefckmkcbgckfab.MulL
open Go.RowKit Mem LimbNum Limb1 NatL GcdA RatL RatM RatN RatF MulN MulW

theorem part_nl (n g : Nat) (o1 o2 : Option Addr) (c1 c2 : Nat) (w : World) (h1 : Lies w o1 c1 (ints .u32 (nl n))) (h2 : Lies w o2 c2 (ints .u32 (nl g))) (h0 : g ≠ 0) (l1 : (nl n).length ≤ 35184372088832) (l2 : (nl g).length ≤ 35184372088832) :
    Calls Try.prog 28 #[.slice o1 (nl n).length c1, .slice o2 (nl g).length c2] w fun e w' => ∃ o c, e = .returned (.slice o (nl (n / g)).length c) ∧ Lies w' o c (ints .u32 (nl (n / g))) ∧ Below w.heap.size w w' := by
  have := part_any (nl n) (nl g) o1 o2 c1 c2 w h1 h2 (by rw [val_nl]) (small_nl _) (by rw [val_nl]; exact h0) l1 l2
  rw [val_nl, val_nl] at this
  exact this
theorem mul_nl (x y : Nat) (o1 o2 : Option Addr) (c1 c2 : Nat) (w : World) (h1 : Lies w o1 c1 (ints .u32 (nl x))) (h2 : Lies w o2 c2 (ints .u32 (nl y))) (l1 : (nl x).length ≤ 35184372088832) (l2 : (nl y).length ≤ 35184372088832) :
    Calls Try.prog 30 #[.slice o1 (nl x).length c1, .slice o2 (nl y).length c2] w fun e w' => ∃ o c, e = .returned (.slice o (nl (x * y)).length c) ∧ Lies w' o c (ints .u32 (nl (x * y))) ∧ Below w.heap.size w w' := by
  have := mul_any (nl x) (nl y) o1 o2 c1 c2 w h1 h2 (small_nl _) (small_nl _) (by omega)
  rw [val_nl, val_nl] at this
  refine this.mono ?_
  rintro e w' ⟨o, c, rfl, ho, hb⟩
  exact ⟨o, c, rfl, lies_of_owns ho, hb⟩
theorem gcd_nl (x y : Nat) (o1 o2 : Option Addr) (c1 c2 : Nat) (w : World) (h1 : Lies w o1 c1 (ints .u32 (nl x))) (h2 : Lies w o2 c2 (ints .u32 (nl y))) (l1 : (nl x).length ≤ 35184372088832) (l2 : (nl y).length ≤ 35184372088832) :
    Calls Try.prog 17 #[.slice o1 (nl x).length c1, .slice o2 (nl y).length c2] w fun e w' => ∃ o c, e = .returned (.slice o (nl (Nat.gcd x y)).length c) ∧ Lies w' o c (ints .u32 (nl (Nat.gcd x y))) ∧ Below w.heap.size w w' := by
  have := gcd_any (nl x) (nl y) o1 o2 c1 c2 w h1 h2 (small_nl _) (small_nl _) l1 l2
  rw [val_nl, val_nl] at this
  refine this.mono ?_
  rintro e w' ⟨o, c, rfl, ho, hb⟩
  exact ⟨o, c, rfl, lies_of_owns ho, hb⟩
theorem two_kept {W w5 : World} {g h : Nat} {a b : Value} (hb : Below W.heap.size W w5) (H : W.cell? ⟨g, 0, none⟩ = some a ∧ W.cell? ⟨h, 0, none⟩ = some b) : w5.cell? ⟨g, 0, none⟩ = some a ∧ w5.cell? ⟨h, 0, none⟩ = some b := by
  have kc : ∀ {p : Addr} {v : Value}, W.cell? p = some v → w5.cell? p = some v := fun {p v} h => by rw [hb.cell (World.block_lt_of_cell? W p h)]; exact h
  exact ⟨kc H.1, kc H.2⟩
theorem two_off {W W' : World} {g h : Nat} {a b : Value} (hg : W'.heap[g]? = W.heap[g]?) (hh : W'.heap[h]? = W.heap[h]?) (H : W.cell? ⟨g, 0, none⟩ = some a ∧ W.cell? ⟨h, 0, none⟩ = some b) : W'.cell? ⟨g, 0, none⟩ = some a ∧ W'.cell? ⟨h, 0, none⟩ = some b := by
  simp only [World.cell?, hg, hh] at H ⊢
  exact H
set_option maxRecDepth 20000 in
set_option maxHeartbeats 4000000 in
theorem rmul (v1 v2 : Value) (b1 b2 : Bool) (n1 d1 n2 d2 : Nat) (w : World) (h1 : IsRat w v1 b1 n1 d1) (h2 : IsRat w v2 b2 n2 d2) (l1 : (nl n1).length ≤ 35184372088832) (l2 : (nl d1).length ≤ 35184372088832) (l3 : (nl n2).length ≤ 35184372088832) (l4 : (nl d2).length ≤ 35184372088832) :
    Calls Try.prog 9 #[v1, v2] w fun e w' => ∃ v', e = .returned v' ∧ IsRat w' v' ((b1 != b2) && decide (n1 * n2 / Nat.gcd (n1 * n2) (d1 * d2) ≠ 0)) (n1 * n2 / Nat.gcd (n1 * n2) (d1 * d2)) (d1 * d2 / Nat.gcd (n1 * n2) (d1 * d2)) ∧ Below w.heap.size w w' := by
  obtain ⟨eX, eY, eG⟩ := across h1.1.one h2.1.one h1.1.pos h2.1.pos
  rw [← eX, ← eY]
  have pd1 := h1.1.pos
  have pd2 := h2.1.pos
  have g0 : 0 < Nat.gcd n1 d2 := Nat.gcd_pos_of_pos_right _ pd2
  have k0 : 0 < Nat.gcd n2 d1 := Nat.gcd_pos_of_pos_right _ pd1
  have y1 : 1 ≤ d1 / Nat.gcd n2 d1 := (Nat.one_le_div_iff k0).2 (Nat.gcd_le_right _ pd1)
  have y2 : 1 ≤ d2 / Nat.gcd n1 d2 := (Nat.one_le_div_iff g0).2 (Nat.gcd_le_right _ pd2)
  have hY1 : 1 ≤ d1 / Nat.gcd n2 d1 * (d2 / Nat.gcd n1 d2) := Nat.mul_pos y1 y2
  have lg : (nl (Nat.gcd n1 d2)).length ≤ 35184372088832 := Nat.le_trans (nl_mono _ _ (Nat.gcd_le_right _ pd2)) l4
  have lk : (nl (Nat.gcd n2 d1)).length ≤ 35184372088832 := Nat.le_trans (nl_mono _ _ (Nat.gcd_le_right _ pd1)) l2
  have m1 : (nl (n1 / Nat.gcd n1 d2)).length ≤ 35184372088832 := Nat.le_trans (nl_mono _ _ (Nat.div_le_self _ _)) l1
  have m2 : (nl (n2 / Nat.gcd n2 d1)).length ≤ 35184372088832 := Nat.le_trans (nl_mono _ _ (Nat.div_le_self _ _)) l3
  have m3 : (nl (d1 / Nat.gcd n2 d1)).length ≤ 35184372088832 := Nat.le_trans (nl_mono _ _ (Nat.div_le_self _ _)) l2
  have m4 : (nl (d2 / Nat.gcd n1 d2)).length ≤ 35184372088832 := Nat.le_trans (nl_mono _ _ (Nat.div_le_self _ _)) l4
  have cG1 := fun (W : World) (o o' : Option Addr) (c c' : Nat) (h : Lies W o c (ints .u32 (nl n1))) (h' : Lies W o' c' (ints .u32 (nl d2))) => gcd_nl n1 d2 o o' c c' W h h' l1 l4
  have cG2 := fun (W : World) (o o' : Option Addr) (c c' : Nat) (h : Lies W o c (ints .u32 (nl n2))) (h' : Lies W o' c' (ints .u32 (nl d1))) => gcd_nl n2 d1 o o' c c' W h h' l3 l2
  have cP1 := fun (W : World) (o o' : Option Addr) (c c' : Nat) (h : Lies W o c (ints .u32 (nl n1))) (h' : Lies W o' c' (ints .u32 (nl (Nat.gcd n1 d2)))) => part_nl n1 _ o o' c c' W h h' (by omega) l1 lg
  have cP2 := fun (W : World) (o o' : Option Addr) (c c' : Nat) (h : Lies W o c (ints .u32 (nl n2))) (h' : Lies W o' c' (ints .u32 (nl (Nat.gcd n2 d1)))) => part_nl n2 _ o o' c c' W h h' (by omega) l3 lk
  have cP3 := fun (W : World) (o o' : Option Addr) (c c' : Nat) (h : Lies W o c (ints .u32 (nl d1))) (h' : Lies W o' c' (ints .u32 (nl (Nat.gcd n2 d1)))) => part_nl d1 _ o o' c c' W h h' (by omega) l2 lk
  have cP4 := fun (W : World) (o o' : Option Addr) (c c' : Nat) (h : Lies W o c (ints .u32 (nl d2))) (h' : Lies W o' c' (ints .u32 (nl (Nat.gcd n1 d2)))) => part_nl d2 _ o o' c c' W h h' (by omega) l4 lg
  have cM1 := fun (W : World) (o o' : Option Addr) (c c' : Nat) (h : Lies W o c (ints .u32 (nl (n1 / Nat.gcd n1 d2)))) (h' : Lies W o' c' (ints .u32 (nl (n2 / Nat.gcd n2 d1)))) => mul_nl _ _ o o' c c' W h h' m1 m2
  have cM2 := fun (W : World) (o o' : Option Addr) (c c' : Nat) (h : Lies W o c (ints .u32 (nl (d1 / Nat.gcd n2 d1)))) (h' : Lies W o' c' (ints .u32 (nl (d2 / Nat.gcd n1 d2)))) => mul_nl _ _ o o' c c' W h h' m3 m4
  have cW := fun (W : World) (q1 : n1 < 18446744073709551616) (q2 : d1 < 18446744073709551616) (q3 : n2 < 18446744073709551616) (q4 : d2 < 18446744073709551616) => mulWords_any b1 b2 n1 d1 n2 d2 W q1 q2 q3 q4 pd1 pd2 _ _ rfl rfl
  generalize hX : n1 / Nat.gcd n1 d2 * (n2 / Nat.gcd n2 d1) = X at *
  generalize hY : d1 / Nat.gcd n2 d1 * (d2 / Nat.gcd n1 d2) = Y at *
  have cF := fun (W : World) (o o' : Option Addr) (c c' : Nat) (h : Lies W o c (ints .u32 (nl X))) (h' : Lies W o' c' (ints .u32 (nl Y))) => fit_any (b1 != b2) X Y o o' c c' W h h' hY1 eG
  have HLow : Hid (Low ((b1 != b2) && decide (X ≠ 0)) X Y) := Low.of_gcd hY1 eG
  have cSp1 := fun (W : World) (hb : Below w.heap.size w W) => spread_any v1 b1 n1 d1 W (h1.below hb)
  have cSp2 := fun (W : World) (hb : Below w.heap.size w W) => spread_any v2 b2 n2 d2 W (h2.below hb)
  obtain ⟨A1, L1, p1, rfl⟩ := h1.shape
  obtain ⟨A2, L2, p2, rfl⟩ := h2.shape
  rw [show (b1 != b2) = !(b1 == b2) from rfl] at cF cW HLow ⊢
  have HXY : Hid (1 ≤ Y) := hY1
  obtain ⟨b3, eb3⟩ : ∃ x, ((!(b1 == b2)) && decide (X ≠ 0)) = x := ⟨_, rfl⟩
  rw [eb3] at HLow cF ⊢
  have EB : Hid (((!(b1 == b2)) && decide (X ≠ 0)) = b3) := eb3
  clear eb3
  have H1 : Hid (InWords (.agg #[.bool b1, .int .u64 A1, .int .u64 L1, .pointer p1]) b1 n1 d1 ∨ p1 ≠ none) := by
    rcases h1.2 with h | ⟨_, g, _, _, _, _, e, _⟩
    · exact .inl h
    · right; simp at e; rw [e.2.2]; simp
  have H2 : Hid (InWords (.agg #[.bool b2, .int .u64 A2, .int .u64 L2, .pointer p2]) b2 n2 d2 ∨ p2 ≠ none) := by
    rcases h2.2 with h | ⟨_, g, _, _, _, _, e, _⟩
    · exact .inl h
    · right; simp at e; rw [e.2.2]; simp
  clear hX hY h1 h2 eX eY eG pd1 pd2 g0 k0 y1 y2 hY1 lg lk m1 m2 m3 m4 l1 l2 l3 l4
  generalize n1 / Nat.gcd n1 d2 = x1 at *
  generalize n2 / Nat.gcd n2 d1 = x2 at *
  generalize d1 / Nat.gcd n2 d1 = y1 at *
  generalize d2 / Nat.gcd n1 d2 = y2 at *
  generalize Nat.gcd n1 d2 = G at *
  generalize Nat.gcd n2 d1 = K at *
  obtain ⟨W0, eW0⟩ : ∃ W0 : World, ((w.alloc (.cells #[.bool b1, .int .u64 A1, .int .u64 L1, .pointer p1] 28)).alloc (.cells #[.bool b2, .int .u64 A2, .int .u64 L2, .pointer p2] 28)).alloc (.cells #[.bool false, .int .u64 0, .int .u64 0, .pointer none] 28) = W0 := ⟨_, rfl⟩
  have hb0 : Below w.heap.size w W0 := by rw [← eW0]; exact (((Below.refl _ _).alloc (Nat.le_refl _) _).alloc (by simp) _).alloc (by simp; omega) _
  have z1 : (w.alloc (.cells #[.bool b1, .int .u64 A1, .int .u64 L1, .pointer p1] 28)).heap.size = w.heap.size + 1 := by simp
  have z2 : ((w.alloc (.cells #[.bool b1, .int .u64 A1, .int .u64 L1, .pointer p1] 28)).alloc (.cells #[.bool b2, .int .u64 A2, .int .u64 L2, .pointer p2] 28)).heap.size = w.heap.size + 1 + 1 := by simp
  have k0 : W0.heap[w.heap.size]? = some (box4 (.bool b1) (.int .u64 A1) (.int .u64 L1) (.pointer p1)) := by rw [← eW0, heap_alloc_old _ _ (by omega), heap_alloc_old _ _ (by omega)]; exact box_new _ _ _ _ _
  have k1 : W0.heap[w.heap.size + 1]? = some (box4 (.bool b2) (.int .u64 A2) (.int .u64 L2) (.pointer p2)) := by rw [← eW0, heap_alloc_old _ _ (by omega), ← z1]; exact box_new _ _ _ _ _
  have k2 : W0.heap[w.heap.size + 1 + 1]? = some (box4 (.bool false) (.int .u64 0) (.int .u64 0) (.pointer none)) := by rw [← eW0, ← z2]; exact box_new _ _ _ _ _
  have HK0 : Hid (W0.heap[w.heap.size]? = some (box4 (.bool b1) (.int .u64 A1) (.int .u64 L1) (.pointer p1))) := k0
  have HK1 : Hid (W0.heap[w.heap.size + 1]? = some (box4 (.bool b2) (.int .u64 A2) (.int .u64 L2) (.pointer p2))) := k1
  have HK2 : Hid (W0.heap[w.heap.size + 1 + 1]? = some (box4 (.bool false) (.int .u64 0) (.int .u64 0) (.pointer none))) := k2
  have EW : Hid (((w.alloc (.cells #[.bool b1, .int .u64 A1, .int .u64 L1, .pointer p1] 28)).alloc (.cells #[.bool b2, .int .u64 A2, .int .u64 L2, .pointer p2] 28)).alloc (.cells #[.bool false, .int .u64 0, .int .u64 0, .pointer none] 28) = W0) := eW0
  obtain ⟨a0, a1, a2, a3⟩ := box0 k0
  obtain ⟨e0, e1, e2, e3⟩ := box0 k1
  obtain ⟨r0, r1, r2, r3⟩ := box0 k2
  have rf := boxF k2
  clear eW0 z1 z2 k0 k1 k2
  go_enter Try.func9, Try.ntmps9
  go_upto_region 1 with fail
  rw [EW.out]
  go_cut [20] from 13 to 19 (fun v20 wx => v20 = .bool (p1.isNone && p2.isNone) ∧ wx = W0)
  case first =>
    cases p1 with
    | none =>
      cases p2 with
      | none =>
        go_wp2
        go_meet
        exact ⟨rfl, rfl⟩
      | some q =>
        go_wp2
        go_meet
        exact ⟨rfl, rfl⟩
    | some q =>
      go_wp2
      go_meet
      exact ⟨rfl, rfl⟩
  case rest =>
  obtain ⟨rfl, hw0⟩ := hcut
  have hw1 := hw0.symm
  clear hw0
  subst hw1
  go_upto_if 20 with fail
  go_cut [5, 6] from 13 to 28 (fun v5 v6 wx => Hid (Below W0.heap.size W0 wx))
  case first =>
    clear cF cSp1 cSp2 cM1 cM2 cP1 cP2 cP3 cP4 cG1 cG2
    rcases H1.out with i1 | hp
    · rcases H2.out with i2 | hp
      · obtain ⟨q1, q2, e⟩ := i1
        simp only [Value.agg.injEq, Array.mk.injEq, List.cons.injEq, Value.int.injEq, Value.pointer.injEq, and_true, true_and] at e
        obtain ⟨rfl, rfl, rfl⟩ := e
        obtain ⟨q3, q4, e⟩ := i2
        simp only [Value.agg.injEq, Array.mk.injEq, List.cons.injEq, Value.int.injEq, Value.pointer.injEq, and_true, true_and] at e
        obtain ⟨rfl, rfl, rfl⟩ := e
        have cMW := cW W0 q1 q2 q3 q4
        clear cW
        by_cases hfit : X < 18446744073709551616 ∧ Y < 18446744073709551616
        · have hy := HXY.out
          rw [show X / 18446744073709551616 = 0 by omega, show Y / 18446744073709551616 = 0 by omega, show X % 18446744073709551616 = X by omega, show Y % 18446744073709551616 = Y by omega] at cMW
          rw [EB.out] at cMW
          simp only [decide_true, Bool.and_self] at cMW
          have HFit : Hid (X < 18446744073709551616 ∧ Y < 18446744073709551616) := hfit
          clear hfit q1 q2 q3 q4 EB
          generalize (n1 : Int) = N1 at *
          generalize (n2 : Int) = N2 at *
          generalize ((d1 : Int) - 1) = D1 at *
          generalize ((d2 : Int) - 1) = D2 at *
          go_wp2_with (go_at_call 32; refine cMW.mono ?_; rintro e w2 ⟨⟨x, z, rfl, hxz⟩, hb2⟩; obtain ⟨ex, ez⟩ := hxz hy; (rw [ex, ez]); clear ex ez hxz; have kk := box_kept HK2.out hb2 (in_heap HK2.out); have kk2 : (w2.alloc (.cells #[.bool b3, .int .u64 (X : Int), .int .u64 ((Y : Int) - 1), .pointer none] 28)).heap[w.heap.size + 1 + 1]? = some (box4 (.bool false) (.int .u64 0) (.int .u64 0) (.pointer none)) := (by rw [heap_alloc_old _ _ (in_heap kk)]; exact kk); obtain ⟨c0, c1, c2, c3⟩ := box0 kk2; have ff := boxF kk2; have HKK : Hid ((w2.alloc (.cells #[.bool b3, .int .u64 (X : Int), .int .u64 ((Y : Int) - 1), .pointer none] 28)).heap[w.heap.size + 1 + 1]? = some (box4 (.bool false) (.int .u64 0) (.int .u64 0) (.pointer none))) := kk2; clear kk kk2)
          have bA : Below w2.heap.size w2 (w2.alloc (.cells #[.bool b3, .int .u64 (X : Int), .int .u64 ((Y : Int) - 1), .pointer none] 28)) := (Below.refl _ _).alloc (Nat.le_refl _) _
          have k2 := box_set HKK.out (.bool b3) (.int .u64 (X : Int)) (.int .u64 ((Y : Int) - 1)) (.pointer none)
          have hB := box_below (bt (bt hb0 hb2) bA) (show w.heap.size ≤ w.heap.size + 1 + 1 by omega) (.bool b3) (.int .u64 (X : Int)) (.int .u64 ((Y : Int) - 1)) (.pointer none)
          generalize World.setCell _ _ _ = W' at *
          obtain ⟨g0, g1, g2, g3⟩ := box0 k2
          refine bodyPost_ret (v := .agg #[.bool b3, .int .u64 (X : Int), .int .u64 ((Y : Int) - 1), .pointer none]) ?_ rfl ?_
          · simp [results, go_sem, g0, g1, g2, g3]
          · exact ⟨_, rfl, ⟨HLow.out, .inl ⟨HFit.out.1, HFit.out.2, rfl⟩⟩, hB⟩
        · have hok : (decide (X / 18446744073709551616 = 0) && decide (Y / 18446744073709551616 = 0)) = false := by
            rw [Bool.and_eq_false_iff, decide_eq_false_iff_not, decide_eq_false_iff_not]
            omega
          rw [hok] at cMW
          clear hok hfit q1 q2 q3 q4 EB
          generalize X % 18446744073709551616 = XL at *
          generalize (n1 : Int) = N1 at *
          generalize (n2 : Int) = N2 at *
          generalize ((d1 : Int) - 1) = D1 at *
          generalize ((d2 : Int) - 1) = D2 at *
          go_wp2_with (go_at_call 32; refine cMW.mono ?_; rintro e w2 ⟨⟨x, z, rfl, hxz⟩, hb2⟩; clear hxz)
          go_meet
          exact (hb2.alloc hb2.size _)
      · obtain ⟨q1, q2, e⟩ := i1
        simp only [Value.agg.injEq, Array.mk.injEq, List.cons.injEq, Value.int.injEq, Value.pointer.injEq, and_true, true_and] at e
        obtain ⟨rfl, rfl, rfl⟩ := e
        obtain ⟨q, rfl⟩ : ∃ q, p2 = some q := by cases p2 with | none => exact absurd rfl hp | some q => exact ⟨q, rfl⟩
        simp only [Option.isNone_none, Option.isNone_some, Bool.and_false]
        go_wp2
        go_meet
        exact Below.refl _ _
    · obtain ⟨q, rfl⟩ : ∃ q, p1 = some q := by cases p1 with | none => exact absurd rfl hp | some q => exact ⟨q, rfl⟩
      simp only [Option.isNone_some, Bool.false_and]
      go_wp2
      go_meet
      exact Below.refl _ _
  case rest =>
  obtain ⟨w3, ew3⟩ : ∃ W, W = wc := ⟨_, rfl⟩
  subst ew3
  have B3 := hcut.out
  have k0 := box_kept HK0.out B3 (in_heap HK0.out)
  have k1 := box_kept HK1.out B3 (in_heap HK1.out)
  have hb3 : Below w.heap.size w w3 := bt hb0 B3
  obtain ⟨a0, a1, a2, a3⟩ := box0 k0
  have HB3 : Hid (Below W0.heap.size W0 w3) := B3
  clear cW hcut B3 k0 H1 H2 r0 r1 r2 r3 rf
  have t1 : True := trivial
  have t2 : True := trivial
  go_upto_region 8 with (first
    | (go_at_call 27; have _t := t1; clear _t t1; refine (cSp1 _ hb3).mono ?_; rintro e w4 ⟨o1, c1, o2, c2, rfl, l1, l2, hb4⟩; have h34 := bt hb3 hb4; have kk1 := box_kept k1 hb4 (in_heap k1); obtain ⟨e0, e1, e2, e3⟩ := box0 kk1)
    | (go_at_call 27; refine (cSp2 _ h34).mono ?_; rintro e w5 ⟨o3, c3, o4, c4, rfl, l3, l4, hb5⟩; have l1' := l1.below hb5 (Nat.le_refl _); have l2' := l2.below hb5 (Nat.le_refl _))
    | (go_at_call 17; have _t := t2; clear _t t2; refine (cG1 _ _ _ _ _ l1' l4).mono ?_; rintro e w6 ⟨o5, c5, rfl, l5, hb6⟩)
    | (go_at_call 17; refine (cG2 _ _ _ _ _ (l3.below hb6 (Nat.le_refl _)) (l2'.below hb6 (Nat.le_refl _))).mono ?_; rintro e w7 ⟨o6, c6, rfl, l6, hb7⟩))
  have E7 : Below w3.heap.size w3 w7 := bt (bt (bt hb4 hb5) hb6) hb7
  have s0 : w7.drew.cell? ⟨w.heap.size, 0, none⟩ = some (.bool b1) ∧ w7.drew.cell? ⟨w.heap.size + 1, 0, none⟩ = some (.bool b2) := two_kept E7.drew ⟨a0, (box0 k1).1⟩
  have HK7 : Hid (w7.heap[w.heap.size + 1 + 1]? = some (box4 (.bool false) (.int .u64 0) (.int .u64 0) (.pointer none))) := box_kept (box_kept HK2.out HB3.out (in_heap HK2.out)) E7 (in_heap (box_kept HK2.out HB3.out (in_heap HK2.out)))
  have HB7 : Hid (Below w.heap.size w w7) := bt hb3 E7
  have d7 : Below w7.heap.size w7 w7.drew := (Below.refl _ _).drew
  have L1 : Lies w7.drew o1 c1 (ints .u32 (nl n1)) := (l1'.below (bt hb6 hb7) (Nat.le_refl _)).below d7 (Nat.le_refl _)
  have L2 : Lies w7.drew o2 c2 (ints .u32 (nl d1)) := (l2'.below (bt hb6 hb7) (Nat.le_refl _)).below d7 (Nat.le_refl _)
  have L3 : Lies w7.drew o3 c3 (ints .u32 (nl n2)) := (l3.below (bt hb6 hb7) (Nat.le_refl _)).below d7 (Nat.le_refl _)
  have L4 : Lies w7.drew o4 c4 (ints .u32 (nl d2)) := (l4.below (bt hb6 hb7) (Nat.le_refl _)).below d7 (Nat.le_refl _)
  have L5 : Lies w7.drew o5 c5 (ints .u32 (nl G)) := (l5.below hb7 (Nat.le_refl _)).below d7 (Nat.le_refl _)
  have L6 : Lies w7.drew o6 c6 (ints .u32 (nl K)) := l6.below d7 (Nat.le_refl _)
  have ne1 : w.heap.size ≠ w.heap.size + 1 + 1 := by omega
  have ne2 : w.heap.size + 1 ≠ w.heap.size + 1 + 1 := by omega
  have u1 : True := trivial
  have u2 : True := trivial
  have u3 : True := trivial
  have u4 : True := trivial
  clear cSp1 cSp2 cG1 cG2 l1 l2 l3 l4 l5 l6 l1' l2' hb4 hb5 hb6 hb7 k1 kk1 E7 h34 a0 a1 a2 a3 e0 e1 e2 e3 hb3 hb0
  go_region_held3 (fun w' => w'.cell? ⟨w.heap.size, 0, none⟩ = some (.bool b1) ∧ w'.cell? ⟨w.heap.size + 1, 0, none⟩ = some (.bool b2))
    (first | with_reducible exact s0 | with_reducible exact s1 | with_reducible exact s2 | with_reducible exact s3 | with_reducible exact s4 | with_reducible exact s5 | with_reducible exact s6 | with_reducible exact s7 | with_reducible exact s8) (first
    | (go_at_call 28; have _t := u1; clear _t u1; refine (cP1 _ _ _ _ _ L1 L5).mono ?_; rintro e w8 ⟨q1, f1, rfl, M1, hb8⟩; have s1 := two_kept hb8 s0)
    | (go_at_call 28; have _t := u2; clear _t u2; refine (cP2 _ _ _ _ _ (L3.below hb8 (Nat.le_refl _)) (L6.below hb8 (Nat.le_refl _))).mono ?_; rintro e w9 ⟨q2, f2, rfl, M2, hb9⟩; have s2 := two_kept hb9 s1; have C9 := bt hb8 hb9)
    | (go_at_call 30; have _t := u3; clear _t u3; refine (cM1 _ _ _ _ _ (M1.below hb9 (Nat.le_refl _)) M2).mono ?_; rintro e w10 ⟨q3, f3, rfl, M3, hb10⟩; have s3 := two_kept hb10 s2; have C10 := bt C9 hb10)
    | (go_at_call 28; have _t := u4; clear _t u4; refine (cP3 _ _ _ _ _ (L2.below C10 (Nat.le_refl _)) (L6.below C10 (Nat.le_refl _))).mono ?_; rintro e w11 ⟨q4, f4, rfl, M4, hb11⟩; have s4 := two_kept hb11 s3; have C11 := bt C10 hb11)
    | (go_at_call 28; refine (cP4 _ _ _ _ _ (L4.below C11 (Nat.le_refl _)) (L5.below C11 (Nat.le_refl _))).mono ?_; rintro e w12 ⟨q5, f5, rfl, M5, hb12⟩; have s5 := two_kept hb12 s4; have C12 := bt C11 hb12)
    | (go_at_call 30; refine (cM2 _ _ _ _ _ (M4.below hb12 (Nat.le_refl _)) M5).mono ?_; rintro e w13 ⟨q6, f6, rfl, M6, hb13⟩; have s6 := two_kept hb13 s5; have C13 := bt C12 hb13)
    | (go_at_call 31; refine (cF _ _ _ _ _ (M3.below (bt (bt hb11 hb12) hb13) (Nat.le_refl _)) M6).mono ?_; rintro e w14 ⟨v14, rfl, R14, hb14⟩; have s7 := two_kept hb14 s6; have C14 := bt d7 (bt C13 hb14); obtain ⟨VA, VL, vp, rfl⟩ := R14.shape; have kk := box_kept HK7.out C14 (in_heap HK7.out); obtain ⟨c0, c1, c2, c3⟩ := box0 kk; have ff := boxF kk; have s8 := two_off ((set4_off w14 (w.heap.size + 1 + 1) (.bool b3) (.int .u64 VA) (.int .u64 VL) (.pointer vp)).1 _ ne1) ((set4_off w14 (w.heap.size + 1 + 1) (.bool b3) (.int .u64 VA) (.int .u64 VL) (.pointer vp)).1 _ ne2) s7; have HKK : Hid (w14.heap[w.heap.size + 1 + 1]? = some (box4 (.bool false) (.int .u64 0) (.int .u64 0) (.pointer none))) := kk; have HR14 : Hid (IsRat w14 (.agg #[.bool b3, .int .u64 VA, .int .u64 VL, .pointer vp]) b3 X Y) := R14; have HC14 : Hid (Below w7.heap.size w7 w14) := C14; clear kk R14 C14))
  all_goals go_wp2
  have k2 := box_set HKK.out (.bool b3) (.int .u64 VA) (.int .u64 VL) (.pointer vp)
  have hB := box_below (bt HB7.out HC14.out) (show w.heap.size ≤ w.heap.size + 1 + 1 by omega) (.bool b3) (.int .u64 VA) (.int .u64 VL) (.pointer vp)
  have hR2 := HR14.out.set4 HKK.out (.bool b3) (.int .u64 VA) (.int .u64 VL) (.pointer vp)
  generalize World.setCell _ _ _ = W' at *
  obtain ⟨g0, g1, g2, g3⟩ := box0 k2
  refine bodyPost_ret (v := .agg #[.bool b3, .int .u64 VA, .int .u64 VL, .pointer vp]) ?_ rfl ?_
  · simp [results, go_sem, g0, g1, g2, g3]
  · exact ⟨_, rfl, hR2, hB⟩
end Go.Proofs.Ytefckmkcbgckfab.MulL
