/- Rational numbers, the program's: sums of words and of lists with their signs; Rational numbers, the program's: sums of numbers in words; Rational numbers, the program's: the sum of two numbers in words, where a word holds it; Rational numbers, the program's: the sum; Rational numbers, the program's: each call's answer as a quotient of two whole numbers, in lowest terms or not; Rational numbers, th. -/
import Derived.Shelf.Lay
import Derived.Shelf.LaySoft
import Derived.Shelf.Spec.BitsCarry
import Derived.Test.YtfkaeehbnnhfoaaSetAR
import Derived.Test.YtfkaeehbnnhfoaaSetAC
import Derived.Test.YtfkaeehbnnhfoaaSetAP
import Derived.Test.YtfkaeehbnnhfoaaSetAL
import Derived.Test.YtfkaeehbnnhfoaaSetAQ
/- Rational numbers, the program's: sums of words and of lists with their signs. -/
namespace Go.Proofs
open Go.Shelf
shelf_lay Lays7.n25 Nm7 25 at Try as Try.lays25
theorem Try.bits_Add64 (x y : Int) (hx : 0 ≤ x) (hy : 0 ≤ y) (w : World) : (callFunc 91 #[.int .u64 x, .int .u64 y, .int .u64 0]).run Try.prog w =
    .ok (.value (.tuple #[.int .u64 ((x + y) % 18446744073709551616), .int .u64 ((x + y) / 18446744073709551616)])) w := by
  obtain ⟨x, rfl⟩ := Int.eq_ofNat_of_zero_le hx
  obtain ⟨y, rfl⟩ := Int.eq_ofNat_of_zero_le hy
  refine (Any7.bits_Add64 Try.lays25 x y 0 (by omega) w).trans ?_
  congr 5 <;> omega
end Go.Proofs
namespace Go.Proofs.Ytfkaeehbnnhfoaa.JoinL
open Go.RowKit Mem LimbNum Limb1 Limb2 Limb4 NatL GcdA RatL RatM RatN RatF RatO MulN MulW MulL InvL QNum FloL AddN

set_option maxRecDepth 20000 in
set_option maxHeartbeats 1000000 in
theorem joinWords_any (a b : Bool) (x y : Nat) (w : World) (hx : x < 18446744073709551616) (hy : y < 18446744073709551616) :
    Calls Try.prog 78 #[.bool a, .int .u64 (x : Int), .bool b, .int .u64 (y : Int)] w fun e w' => e = .returned (.tuple #[.bool (sumB a b x y), .int .u64 ((sumV a b x y % 18446744073709551616 : Nat) : Int), .int .u64 ((sumV a b x y / 18446744073709551616 : Nat) : Int)]) ∧ w' = w := by
  by_cases hab : a = b
  · subst hab
    rw [show sumB a a x y = a by simp [sumB], show sumV a a x y = x + y by simp [sumV]]
    have hA := fun (W : World) => Try.bits_Add64 (x : Int) (y : Int) (by omega) (by omega) W
    rw [show (((x + y) % 18446744073709551616 : Nat) : Int) = ((x : Int) + y) % 18446744073709551616 by omega, show (((x + y) / 18446744073709551616 : Nat) : Int) = ((x : Int) + y) / 18446744073709551616 by omega]
    generalize ((x : Int) + y) % 18446744073709551616 = L at *
    generalize ((x : Int) + y) / 18446744073709551616 = H at *
    generalize (x : Int) = X at *
    generalize (y : Int) = Y at *
    clear hx hy
    cases a
    all_goals
      go_enter Try.func78, Try.ntmps78
      go_wp2_with (simp only [hA])
      go_ret3
      exact ⟨rfl, rfl⟩
  · by_cases hle : y ≤ x
    · rw [show sumB a b x y = a by simp [sumB, hab, hle], show sumV a b x y = x - y by simp [sumV, hab, hle]]
      rw [show (((x - y) % 18446744073709551616 : Nat) : Int) = (x : Int) - y by omega, show (((x - y) / 18446744073709551616 : Nat) : Int) = 0 by omega]
      have h1 : (y : Int) ≤ x := by omega
      have h2 : (x : Int) < 18446744073709551616 := by omega
      have h3 : (0 : Int) ≤ y := by omega
      generalize (x : Int) = X at *
      generalize (y : Int) = Y at *
      clear hx hy hle
      cases a <;> cases b <;> (try exact absurd rfl hab) <;> clear hab
      all_goals
        go_enter Try.func78, Try.ntmps78
        go_wp2
        go_ret3
        exact ⟨rfl, rfl⟩
    · rw [show sumB a b x y = b by simp [sumB, hab, hle], show sumV a b x y = y - x by simp [sumV, hab, hle]]
      rw [show (((y - x) % 18446744073709551616 : Nat) : Int) = (y : Int) - x by omega, show (((y - x) / 18446744073709551616 : Nat) : Int) = 0 by omega]
      have h1 : (x : Int) < y := by omega
      have h2 : (y : Int) < 18446744073709551616 := by omega
      have h3 : (0 : Int) ≤ x := by omega
      generalize (x : Int) = X at *
      generalize (y : Int) = Y at *
      clear hx hy hle
      cases a <;> cases b <;> (try exact absurd rfl hab) <;> clear hab
      all_goals
        go_enter Try.func78, Try.ntmps78
        go_wp2
        go_ret3
        exact ⟨rfl, rfl⟩
set_option maxRecDepth 20000 in
set_option maxHeartbeats 1000000 in
theorem join_any (a b : Bool) (x y : Nat) (o1 o2 : Option Addr) (c1 c2 : Nat) (w : World) (h1 : Lies w o1 c1 (ints .u32 (nl x))) (h2 : Lies w o2 c2 (ints .u32 (nl y))) (l1 : (nl x).length ≤ 35184372088832) (l2 : (nl y).length ≤ 35184372088832) :
    Calls Try.prog 56 #[.bool a, .slice o1 (nl x).length c1, .bool b, .slice o2 (nl y).length c2] w fun e w' => ∃ o c, e = .returned (.tuple #[.bool (sumB a b x y), .slice o (nl (sumV a b x y)).length c]) ∧ Lies w' o c (ints .u32 (nl (sumV a b x y))) ∧ Below w.heap.size w w' := by
  have cA := add_nl x y o1 o2 c1 c2 w h1 h2 l1 l2
  have cY := fun (h : y ≤ x) => sub_yes (nl x) (nl y) o1 o2 c1 c2 w h1 h2 (small_nl _) (small_nl _) (by rw [val_nl, val_nl]; exact h) (by omega)
  have cN := fun (h : x < y) => sub_no (nl x) (nl y) o1 o2 c1 c2 w h1 h2 (small_nl _) (small_nl _) (by rw [val_nl, val_nl]; exact h)
  have cT := fun (W : World) (hb : Below w.heap.size w W) (h : x ≤ y) => sub_yes (nl y) (nl x) o2 o1 c2 c1 W (h2.below hb (Nat.le_refl _)) (h1.below hb (Nat.le_refl _)) (small_nl _) (small_nl _) (by rw [val_nl, val_nl]; exact h) (by omega)
  simp only [val_nl] at cY cT
  clear h1 h2 l1 l2
  by_cases hab : a = b
  · subst hab
    rw [show sumB a a x y = a by simp [sumB], show sumV a a x y = x + y by simp [sumV]]
    clear cY cN cT
    generalize x + y = Z at *
    cases a
    all_goals
      go_enter Try.func56, Try.ntmps56
      go_wp2_with (go_at_call 69; refine cA.mono ?_; rintro e w1 ⟨o3, c3, rfl, hl, hb⟩)
      go_ret2
      exact ⟨_, _, rfl, hl, hb⟩
  · by_cases hle : y ≤ x
    · rw [show sumB a b x y = a by simp [sumB, hab, hle], show sumV a b x y = x - y by simp [sumV, hab, hle]]
      have cS := cY hle
      clear cA cY cN cT
      generalize x - y = Z at *
      cases a <;> cases b <;> (try exact absurd rfl hab) <;> clear hab
      all_goals
        go_enter Try.func56, Try.ntmps56
        go_wp2_with (go_at_call 82; refine cS.mono ?_; rintro e w1 ⟨o3, c3, rfl, hown, hb⟩)
        go_ret2
        exact ⟨_, _, rfl, lies_of_owns hown, hb⟩
    · rw [show sumB a b x y = b by simp [sumB, hab, hle], show sumV a b x y = y - x by simp [sumV, hab, hle]]
      have cS := cN (by omega)
      have cS2 := fun (W : World) (hb : Below w.heap.size w W) => cT W hb (by omega)
      have T1 : True := trivial
      clear cA cY cN cT
      generalize y - x = Z at *
      cases a <;> cases b <;> (try exact absurd rfl hab) <;> clear hab
      all_goals
        go_enter Try.func56, Try.ntmps56
        go_wp2_with (first
          | (go_at_call 82; have _t := T1; clear _t T1; refine cS.mono ?_; rintro e w1 ⟨rfl, hb⟩)
          | (go_at_call 82; refine (cS2 _ hb).mono ?_; rintro e w2 ⟨o3, c3, rfl, hown, hb2⟩))
        go_ret2
        exact ⟨_, _, rfl, lies_of_owns hown, bt hb hb2⟩
end Go.Proofs.Ytfkaeehbnnhfoaa.JoinL

/- Rational numbers, the program's: sums of numbers in words. -/
namespace Go.Proofs.Ytfkaeehbnnhfoaa.AddW
open Go.RowKit Mem LimbNum Limb1 Limb2 NatL GcdA RatL RatM RatN RatF RatO MulN MulW MulL InvL QNum RefZ FloL AddN JoinL

set_option maxRecDepth 20000 in
set_option maxHeartbeats 2000000 in
theorem words_over (b1 b2 nB : Bool) (N1 N2 D1 D2 G R S XH XL YH YL V VH : Int) (w : World)
    (cD1 : ∀ W : World, Calls Try.prog 66 #[.agg #[.bool b1, .int .u64 N1, .int .u64 (D1 - 1), .pointer none]] W fun e w' => e = .returned (.int .u64 D1) ∧ Below W.heap.size W w')
    (cD2 : ∀ W : World, Calls Try.prog 66 #[.agg #[.bool b2, .int .u64 N2, .int .u64 (D2 - 1), .pointer none]] W fun e w' => e = .returned (.int .u64 D2) ∧ Below W.heap.size W w')
    (cG : ∀ W : World, Calls Try.prog 75 #[.int .u64 D1, .int .u64 D2] W fun e w' => e = .returned (.int .u64 G) ∧ Below W.heap.size W w')
    (g0 : G ≠ 0) (et1 : D1.tdiv G = R) (u1 : IntKind.u64.wrap R = R) (et2 : D2.tdiv G = S) (u2 : IntKind.u64.wrap S = S)
    (cM1 : ∀ W : World, Calls Try.prog 77 #[.int .u64 N1, .int .u64 S] W fun e w' => e = .returned (.tuple #[.int .u64 XH, .int .u64 XL]) ∧ w' = W)
    (cM2 : ∀ W : World, Calls Try.prog 77 #[.int .u64 N2, .int .u64 R] W fun e w' => e = .returned (.tuple #[.int .u64 YH, .int .u64 YL]) ∧ w' = W)
    (cJ : ∀ W : World, Calls Try.prog 78 #[.bool b1, .int .u64 XL, .bool b2, .int .u64 YL] W fun e w' => e = .returned (.tuple #[.bool nB, .int .u64 V, .int .u64 VH]) ∧ w' = W)
    (hor : (bits BinOp.or IntKind.u64 (bits BinOp.or IntKind.u64 XH YH) VH == 0) = false) :
    Calls Try.prog 53 #[.agg #[.bool b1, .int .u64 N1, .int .u64 (D1 - 1), .pointer none], .agg #[.bool b2, .int .u64 N2, .int .u64 (D2 - 1), .pointer none]] w fun e w' => e = .returned (.tuple #[.agg #[.bool false, .int .u64 0, .int .u64 0, .pointer none], .bool false]) ∧ Below w.heap.size w w' := by
  have hor2 : (bits BinOp.or IntKind.u64 (bits BinOp.or IntKind.u64 XH YH) VH != 0) = true := by rw [bne, hor]; rfl
  have hor3 : ¬ bits BinOp.or IntKind.u64 (bits BinOp.or IntKind.u64 XH YH) VH = 0 := by simpa using hor
  obtain ⟨W0, eW0, hb0, hk0, hk1, hk2⟩ := three_new w (.cells #[.bool b1, .int .u64 N1, .int .u64 (D1 - 1), .pointer none] 28) (.cells #[.bool b2, .int .u64 N2, .int .u64 (D2 - 1), .pointer none] 28) (.cells #[.bool false, .int .u64 0, .int .u64 0, .pointer none] 28)
  have s0 : W0.drew.cell? ⟨w.heap.size, 0, none⟩ = some (.bool b1) ∧ W0.drew.cell? ⟨w.heap.size, 1, none⟩ = some (.int .u64 N1) ∧ W0.drew.cell? ⟨w.heap.size, 2, none⟩ = some (.int .u64 (D1 - 1)) ∧ W0.drew.cell? ⟨w.heap.size, 3, none⟩ = some (.pointer none) ∧ W0.drew.cell? ⟨w.heap.size + 1, 0, none⟩ = some (.bool b2) ∧ W0.drew.cell? ⟨w.heap.size + 1, 1, none⟩ = some (.int .u64 N2) ∧ W0.drew.cell? ⟨w.heap.size + 1, 2, none⟩ = some (.int .u64 (D2 - 1)) ∧ W0.drew.cell? ⟨w.heap.size + 1, 3, none⟩ = some (.pointer none) := by
    obtain ⟨a0, a1, a2, a3⟩ := box0 hk0
    obtain ⟨c0, c1, c2, c3⟩ := box0 hk1
    exact ⟨a0, a1, a2, a3, c0, c1, c2, c3⟩
  have hb0d := hb0.drew
  have D0 : Below W0.heap.size W0 W0.drew := (Below.refl _ _).drew
  have HK2 : Hid (W0.heap[w.heap.size + 1 + 1]? = some (.cells #[.bool false, .int .u64 0, .int .u64 0, .pointer none] 28)) := hk2
  have EW : Hid (_ = W0) := eW0
  clear eW0 hk0 hk1 hk2
  have T1 : True := trivial
  have cM1w : ∀ W : World, Calls Try.prog 77 #[.int .u64 N1, .int .u64 (IntKind.u64.wrap S)] W fun e w' => e = .returned (.tuple #[.int .u64 XH, .int .u64 XL]) ∧ w' = W := by rw [u2]; exact cM1
  go_enter Try.func53, Try.ntmps53
  go_wp2
  rw [EW.out]
  go_region_held3 (fun w' => w'.cell? ⟨w.heap.size, 0, none⟩ = some (.bool b1) ∧ w'.cell? ⟨w.heap.size, 1, none⟩ = some (.int .u64 N1) ∧ w'.cell? ⟨w.heap.size, 2, none⟩ = some (.int .u64 (D1 - 1)) ∧ w'.cell? ⟨w.heap.size, 3, none⟩ = some (.pointer none) ∧ w'.cell? ⟨w.heap.size + 1, 0, none⟩ = some (.bool b2) ∧ w'.cell? ⟨w.heap.size + 1, 1, none⟩ = some (.int .u64 N2) ∧ w'.cell? ⟨w.heap.size + 1, 2, none⟩ = some (.int .u64 (D2 - 1)) ∧ w'.cell? ⟨w.heap.size + 1, 3, none⟩ = some (.pointer none)) (first | with_reducible exact s0 | with_reducible exact s1 | with_reducible exact s2 | with_reducible exact s3) (first
    | (go_at_call 66; have _t := T1; clear _t T1; refine (cD1 _).mono ?_; rintro e w1 ⟨rfl, hb1⟩; have s1 := eight_kept hb1 s0)
    | (go_at_call 66; refine (cD2 _).mono ?_; rintro e w2 ⟨rfl, hb2⟩; have s2 := eight_kept hb2 s1)
    | (go_at_call 75; refine (cG _).mono ?_; rintro e w3 ⟨rfl, hb3⟩; have s3 := eight_kept hb3 s2))
  have E3 : Below W0.heap.size W0 w3 := bt D0 (bt hb1 (bt hb2 hb3))
  obtain ⟨v0, v1, v2, v3, v4, v5, v6, v7⟩ := id s3
  clear s0 s1 s2 hb1 hb2 hb3 D0 hb0d
  all_goals go_wp2_with (go_at_call 66; refine (cD1 _).mono ?_; rintro e w4 ⟨rfl, hb4⟩)
  have s4 := eight_kept hb4 s3
  have E4 := bt E3 hb4
  have s5 : w4.drew.cell? ⟨w.heap.size, 0, none⟩ = some (.bool b1) ∧ w4.drew.cell? ⟨w.heap.size, 1, none⟩ = some (.int .u64 N1) ∧ w4.drew.cell? ⟨w.heap.size, 2, none⟩ = some (.int .u64 (D1 - 1)) ∧ w4.drew.cell? ⟨w.heap.size, 3, none⟩ = some (.pointer none) ∧ w4.drew.cell? ⟨w.heap.size + 1, 0, none⟩ = some (.bool b2) ∧ w4.drew.cell? ⟨w.heap.size + 1, 1, none⟩ = some (.int .u64 N2) ∧ w4.drew.cell? ⟨w.heap.size + 1, 2, none⟩ = some (.int .u64 (D2 - 1)) ∧ w4.drew.cell? ⟨w.heap.size + 1, 3, none⟩ = some (.pointer none) := s4
  clear s3 v0 v1 v2 v3 v4 v5 v6 v7 hb4 E3
  go_region_held3 (fun w' => w'.cell? ⟨w.heap.size, 0, none⟩ = some (.bool b1) ∧ w'.cell? ⟨w.heap.size, 1, none⟩ = some (.int .u64 N1) ∧ w'.cell? ⟨w.heap.size, 2, none⟩ = some (.int .u64 (D1 - 1)) ∧ w'.cell? ⟨w.heap.size, 3, none⟩ = some (.pointer none) ∧ w'.cell? ⟨w.heap.size + 1, 0, none⟩ = some (.bool b2) ∧ w'.cell? ⟨w.heap.size + 1, 1, none⟩ = some (.int .u64 N2) ∧ w'.cell? ⟨w.heap.size + 1, 2, none⟩ = some (.int .u64 (D2 - 1)) ∧ w'.cell? ⟨w.heap.size + 1, 3, none⟩ = some (.pointer none)) (first | with_reducible exact s5 | with_reducible exact s6) (first
    | (go_at_call 66; refine (cD2 _).mono ?_; rintro e w6 ⟨rfl, hb6⟩; have s6 := eight_kept hb6 s5)
    | (go_at_call 77; (first | with_reducible refine (cM1 _).mono ?_ | with_reducible refine (cM1w _).mono ?_); rintro e w7 ⟨rfl, hw⟩; have hw2 := hw.symm; clear hw; subst hw2))
  have E6 := bt E4.drew hb6
  obtain ⟨v0, v1, v2, v3, v4, v5, v6, v7⟩ := id s6
  have HE6 : Hid (Below w.heap.size w w6) := bt hb0 E6
  have HK6 : Hid (w6.heap[w.heap.size + 1 + 1]? = some (.cells #[.bool false, .int .u64 0, .int .u64 0, .pointer none] 28)) := box_kept HK2.out E6 (in_heap HK2.out)
  clear s4 s5 s6 hb6 E4 hb0 cM1w E6
  have kr := HK6.out
  obtain ⟨d0, d1, d2, d3⟩ := box0 kr
  have ff := boxF kr
  clear kr
  all_goals go_wp2_with (first
    | (go_at_call 77; refine (cM2 _).mono ?_; rintro e w8 ⟨rfl, hw⟩; have hw2 := hw.symm; clear hw; subst hw2)
    | (go_at_call 78; refine (cJ _).mono ?_; rintro e w9 ⟨rfl, hw⟩; have hw2 := hw.symm; clear hw; subst hw2))
  have k2 := box_set HK6.out (.bool false) (.int .u64 0) (.int .u64 0) (.pointer none)
  have hB := box_below HE6.out (show w.heap.size ≤ w.heap.size + 1 + 1 by omega) (.bool false) (.int .u64 0) (.int .u64 0) (.pointer none)
  generalize World.setCell _ _ _ = W' at *
  obtain ⟨y0, y1, y2, y3⟩ := box0 k2
  refine bodyPost_ret (v := .tuple #[.agg #[.bool false, .int .u64 0, .int .u64 0, .pointer none], .bool false]) ?_ rfl ?_
  · simp [results, go_sem, y0, y1, y2, y3]
  · exact ⟨rfl, hB⟩
set_option maxRecDepth 20000 in
set_option maxHeartbeats 2000000 in
theorem words_fit (b1 b2 nB : Bool) (N1 N2 D1 D2 G R S XH XL YH YL V VH H T Q DH DL : Int) (P : Bool → Int → Prop) (w : World)
    (cD1 : ∀ W : World, Calls Try.prog 66 #[.agg #[.bool b1, .int .u64 N1, .int .u64 (D1 - 1), .pointer none]] W fun e w' => e = .returned (.int .u64 D1) ∧ Below W.heap.size W w')
    (cD2 : ∀ W : World, Calls Try.prog 66 #[.agg #[.bool b2, .int .u64 N2, .int .u64 (D2 - 1), .pointer none]] W fun e w' => e = .returned (.int .u64 D2) ∧ Below W.heap.size W w')
    (cG : ∀ W : World, Calls Try.prog 75 #[.int .u64 D1, .int .u64 D2] W fun e w' => e = .returned (.int .u64 G) ∧ Below W.heap.size W w')
    (g0 : G ≠ 0) (et1 : D1.tdiv G = R) (u1 : IntKind.u64.wrap R = R) (et2 : D2.tdiv G = S) (u2 : IntKind.u64.wrap S = S)
    (cM1 : ∀ W : World, Calls Try.prog 77 #[.int .u64 N1, .int .u64 S] W fun e w' => e = .returned (.tuple #[.int .u64 XH, .int .u64 XL]) ∧ w' = W)
    (cM2 : ∀ W : World, Calls Try.prog 77 #[.int .u64 N2, .int .u64 R] W fun e w' => e = .returned (.tuple #[.int .u64 YH, .int .u64 YL]) ∧ w' = W)
    (cJ : ∀ W : World, Calls Try.prog 78 #[.bool b1, .int .u64 XL, .bool b2, .int .u64 YL] W fun e w' => e = .returned (.tuple #[.bool nB, .int .u64 V, .int .u64 VH]) ∧ w' = W)
    (hor : (bits BinOp.or IntKind.u64 (bits BinOp.or IntKind.u64 XH YH) VH == 0) = true)
    (cH : ∀ W : World, Calls Try.prog 75 #[.int .u64 V, .int .u64 G] W fun e w' => e = .returned (.int .u64 H) ∧ Below W.heap.size W w')
    (h0 : H ≠ 0) (et3 : D2.tdiv H = T) (u3 : IntKind.u64.wrap T = T) (et4 : V.tdiv H = Q) (u4 : IntKind.u64.wrap Q = Q)
    (cM3 : ∀ W : World, Calls Try.prog 77 #[.int .u64 R, .int .u64 T] W fun e w' => e = .returned (.tuple #[.int .u64 DH, .int .u64 DL]) ∧ w' = W)
    (cS : ∀ W : World, Calls Try.prog 65 #[.bool nB, .int .u64 Q, .int .u64 DL] W fun e w' => (∃ x z, e = .returned (.agg #[.bool x, .int .u64 Q, .int .u64 z, .pointer none]) ∧ P x z) ∧ Below W.heap.size W w') :
    Calls Try.prog 53 #[.agg #[.bool b1, .int .u64 N1, .int .u64 (D1 - 1), .pointer none], .agg #[.bool b2, .int .u64 N2, .int .u64 (D2 - 1), .pointer none]] w fun e w' => (∃ x z, e = .returned (.tuple #[.agg #[.bool x, .int .u64 Q, .int .u64 z, .pointer none], .bool (DH == 0)]) ∧ P x z) ∧ Below w.heap.size w w' := by
  have hor3 : bits BinOp.or IntKind.u64 (bits BinOp.or IntKind.u64 XH YH) VH = 0 := by simpa using hor
  obtain ⟨W0, eW0, hb0, hk0, hk1, hk2⟩ := three_new w (.cells #[.bool b1, .int .u64 N1, .int .u64 (D1 - 1), .pointer none] 28) (.cells #[.bool b2, .int .u64 N2, .int .u64 (D2 - 1), .pointer none] 28) (.cells #[.bool false, .int .u64 0, .int .u64 0, .pointer none] 28)
  have s0 : W0.drew.cell? ⟨w.heap.size, 0, none⟩ = some (.bool b1) ∧ W0.drew.cell? ⟨w.heap.size, 1, none⟩ = some (.int .u64 N1) ∧ W0.drew.cell? ⟨w.heap.size, 2, none⟩ = some (.int .u64 (D1 - 1)) ∧ W0.drew.cell? ⟨w.heap.size, 3, none⟩ = some (.pointer none) ∧ W0.drew.cell? ⟨w.heap.size + 1, 0, none⟩ = some (.bool b2) ∧ W0.drew.cell? ⟨w.heap.size + 1, 1, none⟩ = some (.int .u64 N2) ∧ W0.drew.cell? ⟨w.heap.size + 1, 2, none⟩ = some (.int .u64 (D2 - 1)) ∧ W0.drew.cell? ⟨w.heap.size + 1, 3, none⟩ = some (.pointer none) := by
    obtain ⟨a0, a1, a2, a3⟩ := box0 hk0
    obtain ⟨c0, c1, c2, c3⟩ := box0 hk1
    exact ⟨a0, a1, a2, a3, c0, c1, c2, c3⟩
  have hb0d := hb0.drew
  have D0 : Below W0.heap.size W0 W0.drew := (Below.refl _ _).drew
  have HK2 : Hid (W0.heap[w.heap.size + 1 + 1]? = some (.cells #[.bool false, .int .u64 0, .int .u64 0, .pointer none] 28)) := hk2
  have EW : Hid (_ = W0) := eW0
  clear eW0 hk0 hk1 hk2
  have T1 : True := trivial
  have cM1w : ∀ W : World, Calls Try.prog 77 #[.int .u64 N1, .int .u64 (IntKind.u64.wrap S)] W fun e w' => e = .returned (.tuple #[.int .u64 XH, .int .u64 XL]) ∧ w' = W := by rw [u2]; exact cM1
  go_enter Try.func53, Try.ntmps53
  go_wp2
  rw [EW.out]
  go_region_held3 (fun w' => w'.cell? ⟨w.heap.size, 0, none⟩ = some (.bool b1) ∧ w'.cell? ⟨w.heap.size, 1, none⟩ = some (.int .u64 N1) ∧ w'.cell? ⟨w.heap.size, 2, none⟩ = some (.int .u64 (D1 - 1)) ∧ w'.cell? ⟨w.heap.size, 3, none⟩ = some (.pointer none) ∧ w'.cell? ⟨w.heap.size + 1, 0, none⟩ = some (.bool b2) ∧ w'.cell? ⟨w.heap.size + 1, 1, none⟩ = some (.int .u64 N2) ∧ w'.cell? ⟨w.heap.size + 1, 2, none⟩ = some (.int .u64 (D2 - 1)) ∧ w'.cell? ⟨w.heap.size + 1, 3, none⟩ = some (.pointer none)) (first | with_reducible exact s0 | with_reducible exact s1 | with_reducible exact s2 | with_reducible exact s3) (first
    | (go_at_call 66; have _t := T1; clear _t T1; refine (cD1 _).mono ?_; rintro e w1 ⟨rfl, hb1⟩; have s1 := eight_kept hb1 s0)
    | (go_at_call 66; refine (cD2 _).mono ?_; rintro e w2 ⟨rfl, hb2⟩; have s2 := eight_kept hb2 s1)
    | (go_at_call 75; refine (cG _).mono ?_; rintro e w3 ⟨rfl, hb3⟩; have s3 := eight_kept hb3 s2))
  have E3 : Below W0.heap.size W0 w3 := bt D0 (bt hb1 (bt hb2 hb3))
  obtain ⟨v0, v1, v2, v3, v4, v5, v6, v7⟩ := id s3
  clear s0 s1 s2 hb1 hb2 hb3 D0 hb0d
  all_goals go_wp2_with (go_at_call 66; refine (cD1 _).mono ?_; rintro e w4 ⟨rfl, hb4⟩)
  have s4 := eight_kept hb4 s3
  have E4 := bt E3 hb4
  have s5 : w4.drew.cell? ⟨w.heap.size, 0, none⟩ = some (.bool b1) ∧ w4.drew.cell? ⟨w.heap.size, 1, none⟩ = some (.int .u64 N1) ∧ w4.drew.cell? ⟨w.heap.size, 2, none⟩ = some (.int .u64 (D1 - 1)) ∧ w4.drew.cell? ⟨w.heap.size, 3, none⟩ = some (.pointer none) ∧ w4.drew.cell? ⟨w.heap.size + 1, 0, none⟩ = some (.bool b2) ∧ w4.drew.cell? ⟨w.heap.size + 1, 1, none⟩ = some (.int .u64 N2) ∧ w4.drew.cell? ⟨w.heap.size + 1, 2, none⟩ = some (.int .u64 (D2 - 1)) ∧ w4.drew.cell? ⟨w.heap.size + 1, 3, none⟩ = some (.pointer none) := s4
  clear s3 v0 v1 v2 v3 v4 v5 v6 v7 hb4 E3
  go_region_held3 (fun w' => w'.cell? ⟨w.heap.size, 0, none⟩ = some (.bool b1) ∧ w'.cell? ⟨w.heap.size, 1, none⟩ = some (.int .u64 N1) ∧ w'.cell? ⟨w.heap.size, 2, none⟩ = some (.int .u64 (D1 - 1)) ∧ w'.cell? ⟨w.heap.size, 3, none⟩ = some (.pointer none) ∧ w'.cell? ⟨w.heap.size + 1, 0, none⟩ = some (.bool b2) ∧ w'.cell? ⟨w.heap.size + 1, 1, none⟩ = some (.int .u64 N2) ∧ w'.cell? ⟨w.heap.size + 1, 2, none⟩ = some (.int .u64 (D2 - 1)) ∧ w'.cell? ⟨w.heap.size + 1, 3, none⟩ = some (.pointer none)) (first | with_reducible exact s5 | with_reducible exact s6) (first
    | (go_at_call 66; refine (cD2 _).mono ?_; rintro e w6 ⟨rfl, hb6⟩; have s6 := eight_kept hb6 s5)
    | (go_at_call 77; (first | with_reducible refine (cM1 _).mono ?_ | with_reducible refine (cM1w _).mono ?_); rintro e w7 ⟨rfl, hw⟩; have hw2 := hw.symm; clear hw; subst hw2))
  have E6 := bt E4.drew hb6
  obtain ⟨v0, v1, v2, v3, v4, v5, v6, v7⟩ := id s6
  have HE6 : Hid (Below w.heap.size w w6) := bt hb0 E6
  have HK6 : Hid (w6.heap[w.heap.size + 1 + 1]? = some (.cells #[.bool false, .int .u64 0, .int .u64 0, .pointer none] 28)) := box_kept HK2.out E6 (in_heap HK2.out)
  clear s4 s5 s6 hb6 E4 hb0 cM1w E6
  all_goals go_wp2_with (first
    | (go_at_call_of 77 (Value.int IntKind.u64 N2); refine (cM2 _).mono ?_; rintro e w8 ⟨rfl, hw⟩; have hw2 := hw.symm; clear hw; subst hw2)
    | (go_at_call 78; refine (cJ _).mono ?_; rintro e w9 ⟨rfl, hw⟩; have hw2 := hw.symm; clear hw; subst hw2)
    | (go_at_call 75; refine (cH _).mono ?_; rintro e w10 ⟨rfl, hb10⟩; obtain ⟨t0, t1, t2, t3, t4, t5, t6, t7⟩ := eight_kept hb10 ⟨v0, v1, v2, v3, v4, v5, v6, v7⟩)
    | (go_at_call 66; refine (cD2 _).mono ?_; rintro e w11 ⟨rfl, hb11⟩)
    | (go_at_call 77; refine (cM3 _).mono ?_; rintro e w12 ⟨rfl, hw⟩; have hw2 := hw.symm; clear hw; subst hw2)
    | (go_at_call 65; refine (cS _).mono ?_; rintro e w13 ⟨⟨x, z, rfl, hP⟩, hb13⟩; have HP : Hid (P x z) := hP; clear hP; have E13 := bt hb10 (bt hb11 hb13); have kr := box_kept HK6.out E13 (in_heap HK6.out); obtain ⟨d0, d1, d2, d3⟩ := box0 kr; have ff := boxF kr; have HKR : Hid (w13.heap[w.heap.size + 1 + 1]? = some (.cells #[.bool false, .int .u64 0, .int .u64 0, .pointer none] 28)) := kr; clear kr))
  have k2 := box_set HKR.out (.bool x) (.int .u64 Q) (.int .u64 z) (.pointer none)
  have hB := box_below (bt HE6.out E13) (show w.heap.size ≤ w.heap.size + 1 + 1 by omega) (.bool x) (.int .u64 Q) (.int .u64 z) (.pointer none)
  generalize World.setCell _ _ _ = W' at *
  obtain ⟨y0, y1, y2, y3⟩ := box0 k2
  refine bodyPost_ret (v := .tuple #[.agg #[.bool x, .int .u64 Q, .int .u64 z, .pointer none], .bool (DH == 0)]) ?_ rfl ?_
  · simp [results, go_sem, y0, y1, y2, y3]
  · exact ⟨⟨x, z, rfl, HP.out⟩, hB⟩
end Go.Proofs.Ytfkaeehbnnhfoaa.AddW

/- Rational numbers, the program's: the sum of two numbers in words, where a word holds it. -/
namespace Go.Proofs.Ytfkaeehbnnhfoaa.AddV
open Go.RowKit Mem LimbNum Limb1 Limb2 NatNum NatL GcdA RatL RatM RatN RatF RatO MulN MulW MulL InvL QNum RefZ FloL AddN JoinL AddW

theorem or3 (a b c : Nat) (ha : a < 18446744073709551616) (hb : b < 18446744073709551616) (hc : c < 18446744073709551616) :
    (bits BinOp.or IntKind.u64 (bits BinOp.or IntKind.u64 (a : Int) (b : Int)) (c : Int) == 0) = decide (a = 0 ∧ b = 0 ∧ c = 0) := by
  have e := or_zero a b ha hb
  rw [u64_or_nat a b ha hb] at e ⊢
  have hl : a ||| b < 18446744073709551616 := Nat.or_lt_two_pow (n := 64) ha hb
  rw [or_zero (a ||| b) c hl hc]
  have e2 : decide ((a ||| b) = 0) = (decide (a = 0) && decide (b = 0)) := by
    rw [← e, Bool.eq_iff_iff]; simp
  rw [e2, Bool.eq_iff_iff]
  simp only [Bool.and_eq_true, decide_eq_true_iff]
  omega
theorem addWords_any (b1 b2 : Bool) (n1 d1 n2 d2 : Nat) (w : World) (q1 : n1 < 18446744073709551616) (q2 : d1 < 18446744073709551616) (q3 : n2 < 18446744073709551616) (q4 : d2 < 18446744073709551616) (h1 : Nat.gcd n1 d1 = 1) (h2 : Nat.gcd n2 d2 = 1) (p1 : 1 ≤ d1) (p2 : 1 ≤ d2) :
    Calls Try.prog 53 #[.agg #[.bool b1, .int .u64 (n1 : Int), .int .u64 ((d1 : Int) - 1), .pointer none], .agg #[.bool b2, .int .u64 (n2 : Int), .int .u64 ((d2 : Int) - 1), .pointer none]] w fun e w' =>
      (∃ x A z ok, e = .returned (.tuple #[.agg #[.bool x, .int .u64 A, .int .u64 z, .pointer none], .bool ok]) ∧
        (ok = true → x = addB b1 n1 d1 b2 n2 d2 ∧ A = ((addN b1 n1 d1 b2 n2 d2 : Nat) : Int) ∧ z = ((addD b1 n1 d1 b2 n2 d2 : Nat) : Int) - 1 ∧ addN b1 n1 d1 b2 n2 d2 < 18446744073709551616 ∧ addD b1 n1 d1 b2 n2 d2 < 18446744073709551616)) ∧ Below w.heap.size w w' := by
  obtain ⟨eN, eD, eB, pD, _⟩ := sum_low b1 b2 h1 h2 p1 p2
  have g0 : 0 < Nat.gcd d1 d2 := Nat.gcd_pos_of_pos_right _ p2
  have gl : Nat.gcd d1 d2 ≤ d1 := Nat.gcd_le_left _ p1
  have eAB : addB b1 n1 d1 b2 n2 d2 = (sumB b1 b2 (n1 * d2) (n2 * d1) && decide (addN b1 n1 d1 b2 n2 d2 ≠ 0)) := rfl
  rw [eAB, eB]
  clear eAB eB
  have r1 := Nat.div_le_self d1 (Nat.gcd d1 d2)
  have r2 := Nat.div_le_self d2 (Nat.gcd d1 d2)
  have et1 := tdiv_nat d1 (Nat.gcd d1 d2)
  have et2 := tdiv_nat d2 (Nat.gcd d1 d2)
  have cG := fun (W : World) => common_any d1 d2 W q2 q4
  have cD1 := fun (W : World) => den_any b1 (n1 : Int) (d1 : Int) none W (by omega) (by omega)
  have cD2 := fun (W : World) => den_any b2 (n2 : Int) (d2 : Int) none W (by omega) (by omega)
  generalize hN : addN b1 n1 d1 b2 n2 d2 = N at *
  generalize hD : addD b1 n1 d1 b2 n2 d2 = D at *
  generalize Nat.gcd d1 d2 = g at *
  generalize d1 / g = r at *
  generalize d2 / g = s at *
  have u1 : IntKind.u64.wrap (r : Int) = r := by rw [IntKind.wrap_u64]; omega
  have u2 : IntKind.u64.wrap (s : Int) = s := by rw [IntKind.wrap_u64]; omega
  have cM1 := fun (W : World) => Try.bits_Mul64 n1 s q1 (by omega) W
  have cM2 := fun (W : World) => Try.bits_Mul64 n2 r q3 (by omega) W
  have lX : n1 * s < 18446744073709551616 * 18446744073709551616 := Nat.mul_lt_mul'' q1 (by omega)
  have lY : n2 * r < 18446744073709551616 * 18446744073709551616 := Nat.mul_lt_mul'' q3 (by omega)
  generalize n1 * s = X at *
  generalize n2 * r = Y at *
  have cJ := fun (W : World) => joinWords_any b1 b2 (X % 18446744073709551616) (Y % 18446744073709551616) W (by omega) (by omega)
  have lV : sumV b1 b2 (X % 18446744073709551616) (Y % 18446744073709551616) ≤ X % 18446744073709551616 + Y % 18446744073709551616 := sumV_le _ _ _ _
  have ho := or3 (X / 18446744073709551616) (Y / 18446744073709551616) (sumV b1 b2 (X % 18446744073709551616) (Y % 18446744073709551616) / 18446744073709551616) (by omega) (by omega) (by omega)
  by_cases hz : X / 18446744073709551616 = 0 ∧ Y / 18446744073709551616 = 0 ∧ sumV b1 b2 (X % 18446744073709551616) (Y % 18446744073709551616) / 18446744073709551616 = 0
  · rw [decide_eq_true hz] at ho
    obtain ⟨z1, z2, z3⟩ := hz
    have x1 : X % 18446744073709551616 = X := by omega
    have x2 : Y % 18446744073709551616 = Y := by omega
    rw [x1, x2] at z3 lV ho
    simp only [x1, x2] at cJ cM1 cM2
    have x3 : sumV b1 b2 X Y % 18446744073709551616 = sumV b1 b2 X Y := by omega
    simp only [x3] at cJ
    have lV2 : sumV b1 b2 X Y < 18446744073709551616 := by omega
    generalize sumV b1 b2 X Y = V at *
    generalize sumB b1 b2 X Y = nB at *
    have cH := fun (W : World) => common_any V g W lV2 (by omega)
    have h0 : 0 < Nat.gcd V g := Nat.gcd_pos_of_pos_right _ g0
    have hl : Nat.gcd V g ≤ g := Nat.gcd_le_right _ g0
    have et3 := tdiv_nat d2 (Nat.gcd V g)
    have et4 := tdiv_nat V (Nat.gcd V g)
    have r3 := Nat.div_le_self d2 (Nat.gcd V g)
    have r4 := Nat.div_le_self V (Nat.gcd V g)
    generalize Nat.gcd V g = h at *
    generalize d2 / h = T at *
    generalize V / h = Q at *
    have u3 : IntKind.u64.wrap (T : Int) = T := by rw [IntKind.wrap_u64]; omega
    have u4 : IntKind.u64.wrap (Q : Int) = Q := by rw [IntKind.wrap_u64]; omega
    have cM3 := fun (W : World) => Try.bits_Mul64 r T (by omega) (by omega) W
    have cS := fun (W : World) => short_wild nB Q (r * T % 18446744073709551616) W (by omega)
    have := words_fit b1 b2 nB (n1 : Int) (n2 : Int) (d1 : Int) (d2 : Int) (g : Int) (r : Int) (s : Int) _ _ _ _ (V : Int) _ (h : Int) (T : Int) (Q : Int) _ _ (fun x z => 1 ≤ r * T % 18446744073709551616 → x = (nB && decide (Q ≠ 0)) ∧ z = ((r * T % 18446744073709551616 : Nat) : Int) - 1) w
      cD1 cD2 cG (by omega) et1 u1 et2 u2 cM1 cM2 cJ ho cH (by omega) et3 u3 et4 u4 cM3 cS
    refine this.mono ?_
    rintro e w' ⟨⟨x, z, rfl, hP⟩, hb⟩
    refine ⟨⟨x, Q, z, _, rfl, fun hok => ?_⟩, hb⟩
    have hk : r * T / 18446744073709551616 = 0 := by
      have : ((r * T / 18446744073709551616 : Nat) : Int) = 0 := by simpa using hok
      omega
    have hm : r * T % 18446744073709551616 = r * T := by omega
    rw [hm] at hP
    obtain ⟨e1, e2⟩ := hP (by omega)
    subst eN eD
    exact ⟨e1, rfl, e2, by omega, by omega⟩
  · rw [decide_eq_false hz] at ho
    have := words_over b1 b2 _ (n1 : Int) (n2 : Int) (d1 : Int) (d2 : Int) (g : Int) (r : Int) (s : Int) _ _ _ _ _ _ w cD1 cD2 cG (by omega) et1 u1 et2 u2 cM1 cM2 cJ ho
    refine this.mono ?_
    rintro e w' ⟨rfl, hb⟩
    exact ⟨⟨_, _, _, _, rfl, fun h => by simp at h⟩, hb⟩
end Go.Proofs.Ytfkaeehbnnhfoaa.AddV

/- Rational numbers, the program's: the sum. -/
namespace Go.Proofs.Ytfkaeehbnnhfoaa.AddR
open Go.RowKit Mem LimbNum Limb1 NatL GcdA RatL RatM RatN RatF MulN MulW MulL QNum RefZ FloL AddN JoinL AddW AddV

theorem nl_mul (x y k l : Nat) (hx : (nl x).length ≤ k) (hy : (nl y).length ≤ l) : (nl (x * y)).length ≤ k + l := by
  apply nl_lt
  have h1 := val_lt (nl x) (small_nl x)
  have h2 := val_lt (nl y) (small_nl y)
  rw [val_nl] at h1 h2
  rw [Nat.pow_add]
  exact Nat.mul_lt_mul'' (Nat.lt_of_lt_of_le h1 (Nat.pow_le_pow_right (by omega) hx)) (Nat.lt_of_lt_of_le h2 (Nat.pow_le_pow_right (by omega) hy))
theorem nl_sum (a b : Bool) (x y k : Nat) (hx : (nl x).length ≤ k) (hy : (nl y).length ≤ k) : (nl (sumV a b x y)).length ≤ k + 1 := by
  refine Nat.le_trans (nl_mono _ _ (sumV_le a b x y)) ?_
  apply nl_lt
  have h1 := val_lt (nl x) (small_nl x)
  have h2 := val_lt (nl y) (small_nl y)
  rw [val_nl] at h1 h2
  have e1 := Nat.lt_of_lt_of_le h1 (Nat.pow_le_pow_right (show 0 < 4294967296 by omega) hx)
  have e2 := Nat.lt_of_lt_of_le h2 (Nat.pow_le_pow_right (show 0 < 4294967296 by omega) hy)
  rw [Nat.pow_succ]; omega
set_option maxRecDepth 20000 in
set_option maxHeartbeats 4000000 in
theorem radd (v1 v2 : Value) (b1 b2 : Bool) (n1 d1 n2 d2 : Nat) (w : World) (h1 : IsRat w v1 b1 n1 d1) (h2 : IsRat w v2 b2 n2 d2) (l1 : (nl n1).length ≤ 1000000) (l2 : (nl d1).length ≤ 1000000) (l3 : (nl n2).length ≤ 1000000) (l4 : (nl d2).length ≤ 1000000) :
    Calls Try.prog 19 #[v1, v2] w fun e w' => ∃ v', e = .returned v' ∧ IsRat w' v' (addB b1 n1 d1 b2 n2 d2) (addN b1 n1 d1 b2 n2 d2) (addD b1 n1 d1 b2 n2 d2) ∧ Below w.heap.size w w' := by
  obtain ⟨eN, eD, eB, pD, cG1⟩ := sum_low b1 b2 h1.1.one h2.1.one h1.1.pos h2.1.pos
  have pd1 := h1.1.pos
  have pd2 := h2.1.pos
  have o1' := h1.1.one
  have o2' := h2.1.one
  have eAB : addB b1 n1 d1 b2 n2 d2 = (sumB b1 b2 (n1 * d2) (n2 * d1) && decide (addN b1 n1 d1 b2 n2 d2 ≠ 0)) := rfl
  have g0 : 0 < Nat.gcd d1 d2 := Nat.gcd_pos_of_pos_right _ pd2
  have lg : (nl (Nat.gcd d1 d2)).length ≤ 1000000 := Nat.le_trans (nl_mono _ _ (Nat.gcd_le_left _ pd1)) l2
  have lr : (nl (d1 / Nat.gcd d1 d2)).length ≤ 1000000 := Nat.le_trans (nl_mono _ _ (Nat.div_le_self _ _)) l2
  have ls : (nl (d2 / Nat.gcd d1 d2)).length ≤ 1000000 := Nat.le_trans (nl_mono _ _ (Nat.div_le_self _ _)) l4
  have cG := fun (W : World) (o o' : Option Addr) (c c' : Nat) (h : Lies W o c (ints .u32 (nl d1))) (h' : Lies W o' c' (ints .u32 (nl d2))) => gcd_nl d1 d2 o o' c c' W h h' (by omega) (by omega)
  have cR := fun (W : World) (o o' : Option Addr) (c c' : Nat) (h : Lies W o c (ints .u32 (nl d1))) (h' : Lies W o' c' (ints .u32 (nl (Nat.gcd d1 d2)))) => part_nl d1 _ o o' c c' W h h' (by omega) (by omega) (by omega)
  have cT := fun (W : World) (o o' : Option Addr) (c c' : Nat) (h : Lies W o c (ints .u32 (nl d2))) (h' : Lies W o' c' (ints .u32 (nl (Nat.gcd d1 d2)))) => part_nl d2 _ o o' c c' W h h' (by omega) (by omega) (by omega)
  have cW := fun (W : World) (q1 : n1 < 18446744073709551616) (q2 : d1 < 18446744073709551616) (q3 : n2 < 18446744073709551616) (q4 : d2 < 18446744073709551616) => addWords_any b1 b2 n1 d1 n2 d2 W q1 q2 q3 q4 o1' o2' pd1 pd2
  rw [eAB, eB] at cW ⊢
  generalize hs : d2 / Nat.gcd d1 d2 = s at *
  generalize hr : d1 / Nat.gcd d1 d2 = r at *
  generalize hg : Nat.gcd d1 d2 = g at *
  have cX := fun (W : World) (o o' : Option Addr) (c c' : Nat) (h : Lies W o c (ints .u32 (nl n1))) (h' : Lies W o' c' (ints .u32 (nl s))) => mul_nl n1 s o o' c c' W h h' (by omega) (by omega)
  have cY := fun (W : World) (o o' : Option Addr) (c c' : Nat) (h : Lies W o c (ints .u32 (nl n2))) (h' : Lies W o' c' (ints .u32 (nl r))) => mul_nl n2 r o o' c c' W h h' (by omega) (by omega)
  have lX : (nl (n1 * s)).length ≤ 2000000 := nl_mul n1 s _ _ l1 ls
  have lY : (nl (n2 * r)).length ≤ 2000000 := nl_mul n2 r _ _ l3 lr
  generalize hX : n1 * s = X at *
  generalize hY : n2 * r = Y at *
  have cJ := fun (W : World) (o o' : Option Addr) (c c' : Nat) (h : Lies W o c (ints .u32 (nl X))) (h' : Lies W o' c' (ints .u32 (nl Y))) => join_any b1 b2 X Y o o' c c' W h h' (by omega) (by omega)
  have lV : (nl (sumV b1 b2 X Y)).length ≤ 2000001 := nl_sum b1 b2 X Y _ lX lY
  generalize hV : sumV b1 b2 X Y = V at *
  generalize hnB : sumB b1 b2 X Y = nB at *
  have cH := fun (W : World) (o o' : Option Addr) (c c' : Nat) (h : Lies W o c (ints .u32 (nl V))) (h' : Lies W o' c' (ints .u32 (nl g))) => gcd_nl V g o o' c c' W h h' (by omega) (by omega)
  have h0 : 0 < Nat.gcd V g := Nat.gcd_pos_of_pos_right _ g0
  have lh : (nl (Nat.gcd V g)).length ≤ 1000000 := Nat.le_trans (nl_mono _ _ (Nat.gcd_le_right _ g0)) lg
  have cQ := fun (W : World) (o o' : Option Addr) (c c' : Nat) (h : Lies W o c (ints .u32 (nl V))) (h' : Lies W o' c' (ints .u32 (nl (Nat.gcd V g)))) => part_nl V _ o o' c c' W h h' (by omega) (by omega) (by omega)
  have cU := fun (W : World) (o o' : Option Addr) (c c' : Nat) (h : Lies W o c (ints .u32 (nl d2))) (h' : Lies W o' c' (ints .u32 (nl (Nat.gcd V g)))) => part_nl d2 _ o o' c c' W h h' (by omega) (by omega) (by omega)
  have lT : (nl (d2 / Nat.gcd V g)).length ≤ 1000000 := Nat.le_trans (nl_mono _ _ (Nat.div_le_self _ _)) l4
  have cM := fun (W : World) (o o' : Option Addr) (c c' : Nat) (h : Lies W o c (ints .u32 (nl r))) (h' : Lies W o' c' (ints .u32 (nl (d2 / Nat.gcd V g)))) => mul_nl r _ o o' c c' W h h' (by omega) (by omega)
  rw [← eD] at cM
  rw [← eN] at cQ
  generalize hN : addN b1 n1 d1 b2 n2 d2 = N at *
  generalize hD : addD b1 n1 d1 b2 n2 d2 = D at *
  have cF := fun (W : World) (o o' : Option Addr) (c c' : Nat) (h : Lies W o c (ints .u32 (nl N))) (h' : Lies W o' c' (ints .u32 (nl D))) => fit_any nB N D o o' c c' W h h' pD cG1
  have HLow : Hid (Low (nB && decide (N ≠ 0)) N D) := Low.of_gcd pD cG1
  have cSp1 := fun (W : World) (hb : Below w.heap.size w W) => spread_any v1 b1 n1 d1 W (h1.below hb)
  have cSp2 := fun (W : World) (hb : Below w.heap.size w W) => spread_any v2 b2 n2 d2 W (h2.below hb)
  obtain ⟨A1, L1, p1, rfl⟩ := h1.shape
  obtain ⟨A2, L2, p2, rfl⟩ := h2.shape
  have HXY : Hid (1 ≤ D) := pD
  obtain ⟨b3, eb3⟩ : ∃ x, (nB && decide (N ≠ 0)) = x := ⟨_, rfl⟩
  rw [eb3] at HLow cF cW ⊢
  have EB : Hid ((nB && decide (N ≠ 0)) = b3) := eb3
  clear eb3
  have H1 : Hid (InWords (.agg #[.bool b1, .int .u64 A1, .int .u64 L1, .pointer p1]) b1 n1 d1 ∨ p1 ≠ none) := by
    rcases h1.2 with h | ⟨_, g, _, _, _, _, e, _⟩
    · exact .inl h
    · right; simp at e; rw [e.2.2]; simp
  have H2 : Hid (InWords (.agg #[.bool b2, .int .u64 A2, .int .u64 L2, .pointer p2]) b2 n2 d2 ∨ p2 ≠ none) := by
    rcases h2.2 with h | ⟨_, g, _, _, _, _, e, _⟩
    · exact .inl h
    · right; simp at e; rw [e.2.2]; simp
  clear hX hY hs hr hg hV hnB hN hD h1 h2 eN eD eB eAB pd1 pd2 g0 h0 lg lr ls lX lY lV lh lT l1 l2 l3 l4 o1' o2' pD cG1
  generalize d2 / Nat.gcd V g = T at *
  generalize Nat.gcd V g = h at *
  obtain ⟨W0, eW0⟩ : ∃ W0 : World, ((w.alloc (.cells #[.bool b1, .int .u64 A1, .int .u64 L1, .pointer p1] 28)).alloc (.cells #[.bool b2, .int .u64 A2, .int .u64 L2, .pointer p2] 28)).alloc (.cells #[.bool false, .int .u64 0, .int .u64 0, .pointer none] 28) = W0 := ⟨_, rfl⟩
  have hb0 : Below w.heap.size w W0 := by rw [← eW0]; exact (((Below.refl _ _).alloc (Nat.le_refl _) _).alloc (by simp) _).alloc (by simp; omega) _
  have z1 : (w.alloc (.cells #[.bool b1, .int .u64 A1, .int .u64 L1, .pointer p1] 28)).heap.size = w.heap.size + 1 := by simp
  have z2 : ((w.alloc (.cells #[.bool b1, .int .u64 A1, .int .u64 L1, .pointer p1] 28)).alloc (.cells #[.bool b2, .int .u64 A2, .int .u64 L2, .pointer p2] 28)).heap.size = w.heap.size + 1 + 1 := by simp
  have k0 : W0.heap[w.heap.size]? = some (box4 (.bool b1) (.int .u64 A1) (.int .u64 L1) (.pointer p1)) := by rw [← eW0, heap_alloc_old _ _ (by omega), heap_alloc_old _ _ (by omega)]; exact box_new _ _ _ _ _
  have k1 : W0.heap[w.heap.size + 1]? = some (box4 (.bool b2) (.int .u64 A2) (.int .u64 L2) (.pointer p2)) := by rw [← eW0, heap_alloc_old _ _ (by omega), ← z1]; exact box_new _ _ _ _ _
  have k2 : W0.heap[w.heap.size + 1 + 1]? = some (box4 (.bool false) (.int .u64 0) (.int .u64 0) (.pointer none)) := by rw [← eW0, ← z2]; exact box_new _ _ _ _ _
  have HK0 : Hid (W0.heap[w.heap.size]? = some (box4 (.bool b1) (.int .u64 A1) (.int .u64 L1) (.pointer p1))) := k0
  have HK1 : Hid (W0.heap[w.heap.size + 1]? = some (box4 (.bool b2) (.int .u64 A2) (.int .u64 L2) (.pointer p2))) := k1
  have HK2 : Hid (W0.heap[w.heap.size + 1 + 1]? = some (box4 (.bool false) (.int .u64 0) (.int .u64 0) (.pointer none))) := k2
  have EW : Hid (((w.alloc (.cells #[.bool b1, .int .u64 A1, .int .u64 L1, .pointer p1] 28)).alloc (.cells #[.bool b2, .int .u64 A2, .int .u64 L2, .pointer p2] 28)).alloc (.cells #[.bool false, .int .u64 0, .int .u64 0, .pointer none] 28) = W0) := eW0
  obtain ⟨a0, a1, a2, a3⟩ := box0 k0
  obtain ⟨e0, e1, e2, e3⟩ := box0 k1
  obtain ⟨r0, r1, r2, r3⟩ := box0 k2
  have rf := boxF k2
  clear eW0 z1 z2 k0 k1 k2
  go_enter Try.func19, Try.ntmps19
  go_upto_region 1 with fail
  rw [EW.out]
  go_cut [23] from 16 to 22 (fun v23 wx => v23 = .bool (p1.isNone && p2.isNone) ∧ wx = W0)
  case first =>
    cases p1 with
    | none =>
      cases p2 with
      | none =>
        go_wp2
        go_meet
        exact ⟨rfl, rfl⟩
      | some q =>
        go_wp2
        go_meet
        exact ⟨rfl, rfl⟩
    | some q =>
      go_wp2
      go_meet
      exact ⟨rfl, rfl⟩
  case rest =>
  obtain ⟨rfl, hw0⟩ := hcut
  have hw1 := hw0.symm
  clear hw0
  subst hw1
  go_upto_if 23 with fail
  go_cut [5, 6] from 16 to 31 (fun v5 v6 wx => Hid (Below W0.heap.size W0 wx))
  case first =>
    clear cF cSp1 cSp2 cG cR cT cX cY cJ cH cQ cU cM
    rcases H1.out with i1 | hp
    · rcases H2.out with i2 | hp
      · obtain ⟨q1, q2, e⟩ := i1
        simp only [Value.agg.injEq, Array.mk.injEq, List.cons.injEq, Value.int.injEq, Value.pointer.injEq, and_true, true_and] at e
        obtain ⟨rfl, rfl, rfl⟩ := e
        obtain ⟨q3, q4, e⟩ := i2
        simp only [Value.agg.injEq, Array.mk.injEq, List.cons.injEq, Value.int.injEq, Value.pointer.injEq, and_true, true_and] at e
        obtain ⟨rfl, rfl, rfl⟩ := e
        have cMW := cW W0 q1 q2 q3 q4
        clear cW q1 q2 q3 q4 EB
        generalize (n1 : Int) = N1 at *
        generalize (n2 : Int) = N2 at *
        generalize ((d1 : Int) - 1) = D1 at *
        generalize ((d2 : Int) - 1) = D2 at *
        go_upto_region 3 with (go_at_call 53; refine cMW.mono ?_; rintro e w2 ⟨⟨x, A, z, ok, rfl, hok⟩, hb2⟩; have HO : Hid (ok = true → x = b3 ∧ A = (N : Int) ∧ z = (D : Int) - 1 ∧ N < 18446744073709551616 ∧ D < 18446744073709551616) := hok; clear hok)
        cases ok with
        | false =>
          go_wp2
          go_meet
          exact (hb2.alloc hb2.size _)
        | true =>
          obtain ⟨ex, eA, ez, f1, f2⟩ := HO.out rfl
          subst ex
          have HA : Hid (A = (N : Int) ∧ z = (D : Int) - 1 ∧ N < 18446744073709551616 ∧ D < 18446744073709551616) := ⟨eA, ez, f1, f2⟩
          clear HO eA ez f1 f2
          have kk := box_kept HK2.out hb2 (in_heap HK2.out)
          have kk2 : (w2.alloc (.cells #[.bool x, .int .u64 A, .int .u64 z, .pointer none] 28)).heap[w.heap.size + 1 + 1]? = some (box4 (.bool false) (.int .u64 0) (.int .u64 0) (.pointer none)) := by rw [heap_alloc_old _ _ (in_heap kk)]; exact kk
          obtain ⟨c0, c1, c2, c3⟩ := box0 kk2
          have ff := boxF kk2
          have HKK : Hid ((w2.alloc (.cells #[.bool x, .int .u64 A, .int .u64 z, .pointer none] 28)).heap[w.heap.size + 1 + 1]? = some (box4 (.bool false) (.int .u64 0) (.int .u64 0) (.pointer none))) := kk2
          clear kk kk2
          go_wp2
          have bA : Below w2.heap.size w2 (w2.alloc (.cells #[.bool x, .int .u64 A, .int .u64 z, .pointer none] 28)) := (Below.refl _ _).alloc (Nat.le_refl _) _
          have k2 := box_set HKK.out (.bool x) (.int .u64 A) (.int .u64 z) (.pointer none)
          have hB := box_below (bt (bt hb0 hb2) bA) (show w.heap.size ≤ w.heap.size + 1 + 1 by omega) (.bool x) (.int .u64 A) (.int .u64 z) (.pointer none)
          generalize World.setCell _ _ _ = W' at *
          obtain ⟨g0, g1, g2, g3⟩ := box0 k2
          refine bodyPost_ret (v := .agg #[.bool x, .int .u64 A, .int .u64 z, .pointer none]) ?_ rfl ?_
          · simp [results, go_sem, g0, g1, g2, g3]
          · exact ⟨_, rfl, ⟨HLow.out, .inl ⟨HA.out.2.2.1, HA.out.2.2.2, by rw [HA.out.1, HA.out.2.1]⟩⟩, hB⟩
      · obtain ⟨q1, q2, e⟩ := i1
        simp only [Value.agg.injEq, Array.mk.injEq, List.cons.injEq, Value.int.injEq, Value.pointer.injEq, and_true, true_and] at e
        obtain ⟨rfl, rfl, rfl⟩ := e
        obtain ⟨q, rfl⟩ : ∃ q, p2 = some q := by cases p2 with | none => exact absurd rfl hp | some q => exact ⟨q, rfl⟩
        simp only [Option.isNone_none, Option.isNone_some, Bool.and_false]
        go_wp2
        go_meet
        exact Below.refl _ _
    · obtain ⟨q, rfl⟩ : ∃ q, p1 = some q := by cases p1 with | none => exact absurd rfl hp | some q => exact ⟨q, rfl⟩
      simp only [Option.isNone_some, Bool.false_and]
      go_wp2
      go_meet
      exact Below.refl _ _
  case rest =>
  obtain ⟨w3, ew3⟩ : ∃ W, W = wc := ⟨_, rfl⟩
  subst ew3
  have B3 := hcut.out
  have k0 := box_kept HK0.out B3 (in_heap HK0.out)
  have k1 := box_kept HK1.out B3 (in_heap HK1.out)
  have hb3 : Below w.heap.size w w3 := bt hb0 B3
  obtain ⟨a0, a1, a2, a3⟩ := box0 k0
  have HB3 : Hid (Below W0.heap.size W0 w3) := B3
  clear cW hcut B3 k0 H1 H2 r0 r1 r2 r3 rf
  have t1 : True := trivial
  go_upto_region 9 with (first
    | (go_at_call 47; have _t := t1; clear _t t1; refine (cSp1 _ hb3).mono ?_; rintro e w4 ⟨o1, c1, o2, c2, rfl, l1, l2, hb4⟩; have h34 := bt hb3 hb4; have kk1 := box_kept k1 hb4 (in_heap k1); obtain ⟨e0, e1, e2, e3⟩ := box0 kk1)
    | (go_at_call 47; refine (cSp2 _ h34).mono ?_; rintro e w5 ⟨o3, c3, o4, c4, rfl, l3, l4, hb5⟩; have l1' := l1.below hb5 (Nat.le_refl _); have l2' := l2.below hb5 (Nat.le_refl _))
    | (go_at_call 54; refine (cG _ _ _ _ _ l2' l4).mono ?_; rintro e w6 ⟨o5, c5, rfl, l5, hb6⟩)
    | (go_at_call 55; refine (cR _ _ _ _ _ (l2'.below hb6 (Nat.le_refl _)) l5).mono ?_; rintro e w7 ⟨o6, c6, rfl, l6, hb7⟩))
  have E7 : Below w3.heap.size w3 w7 := bt (bt (bt hb4 hb5) hb6) hb7
  have s0 : w7.drew.cell? ⟨w.heap.size, 0, none⟩ = some (.bool b1) ∧ w7.drew.cell? ⟨w.heap.size + 1, 0, none⟩ = some (.bool b2) := two_kept E7.drew ⟨a0, (box0 k1).1⟩
  have HK7 : Hid (w7.heap[w.heap.size + 1 + 1]? = some (box4 (.bool false) (.int .u64 0) (.int .u64 0) (.pointer none))) := box_kept (box_kept HK2.out HB3.out (in_heap HK2.out)) E7 (in_heap (box_kept HK2.out HB3.out (in_heap HK2.out)))
  have HB7 : Hid (Below w.heap.size w w7) := bt hb3 E7
  have d7 : Below w7.heap.size w7 w7.drew := (Below.refl _ _).drew
  have L1 : Lies w7.drew o1 c1 (ints .u32 (nl n1)) := (l1'.below (bt hb6 hb7) (Nat.le_refl _)).below d7 (Nat.le_refl _)
  have L3 : Lies w7.drew o3 c3 (ints .u32 (nl n2)) := (l3.below (bt hb6 hb7) (Nat.le_refl _)).below d7 (Nat.le_refl _)
  have L4 : Lies w7.drew o4 c4 (ints .u32 (nl d2)) := (l4.below (bt hb6 hb7) (Nat.le_refl _)).below d7 (Nat.le_refl _)
  have L5 : Lies w7.drew o5 c5 (ints .u32 (nl g)) := (l5.below hb7 (Nat.le_refl _)).below d7 (Nat.le_refl _)
  have L6 : Lies w7.drew o6 c6 (ints .u32 (nl r)) := l6.below d7 (Nat.le_refl _)
  have u1 : True := trivial
  have u2 : True := trivial
  clear cSp1 cSp2 cG cR l1 l2 l3 l4 l5 l6 l1' l2' hb4 hb5 hb6 hb7 k1 kk1 E7 h34 a0 a1 a2 a3 e0 e1 e2 e3 hb3 hb0
  go_region_held3 (fun w' => w'.cell? ⟨w.heap.size, 0, none⟩ = some (.bool b1) ∧ w'.cell? ⟨w.heap.size + 1, 0, none⟩ = some (.bool b2))
    (first | with_reducible exact s0 | with_reducible exact s1 | with_reducible exact s2 | with_reducible exact s3 | with_reducible exact s4) (first
    | (go_at_call 55; refine (cT _ _ _ _ _ L4 L5).mono ?_; rintro e w8 ⟨q1, f1, rfl, M1, hb8⟩; have s1 := two_kept hb8 s0)
    | (go_at_call 57; have _t := u1; clear _t u1; refine (cX _ _ _ _ _ (L1.below hb8 (Nat.le_refl _)) M1).mono ?_; rintro e w9 ⟨q2, f2, rfl, M2, hb9⟩; have s2 := two_kept hb9 s1; have C9 := bt hb8 hb9)
    | (go_at_call 57; refine (cY _ _ _ _ _ (L3.below C9 (Nat.le_refl _)) (L6.below C9 (Nat.le_refl _))).mono ?_; rintro e w10 ⟨q3, f3, rfl, M3, hb10⟩; have s3 := two_kept hb10 s2; have C10 := bt C9 hb10)
    | (go_at_call 56; refine (cJ _ _ _ _ _ (M2.below hb10 (Nat.le_refl _)) M3).mono ?_; rintro e w11 ⟨q4, f4, rfl, M4, hb11⟩; have s4 := two_kept hb11 s3; have C11 := bt C10 hb11))
  have N4 := L4.below C11 (Nat.le_refl _)
  have N5 := L5.below C11 (Nat.le_refl _)
  have N6 := L6.below C11 (Nat.le_refl _)
  have HC11 : Hid (Below w7.heap.size w7 w11) := bt d7 C11
  clear s0 s1 s2 s3 s4 L1 L3 L4 L5 L6 M1 M2 M3 C9 C10 C11 hb8 hb9 hb10 hb11 cT cX cY cJ d7
  all_goals go_wp2_with (first
    | (go_at_call 54; refine (cH _ _ _ _ _ M4 N5).mono ?_; rintro e w12 ⟨q5, f5, rfl, M5, hb12⟩)
    | (go_at_call 55; have _t := u2; clear _t u2; refine (cQ _ _ _ _ _ (M4.below hb12 (Nat.le_refl _)) M5).mono ?_; rintro e w13 ⟨q6, f6, rfl, M6, hb13⟩; have C13 := bt hb12 hb13)
    | (go_at_call 55; refine (cU _ _ _ _ _ (N4.below C13 (Nat.le_refl _)) (M5.below hb13 (Nat.le_refl _))).mono ?_; rintro e w14 ⟨q7, f7, rfl, M7, hb14⟩; have C14 := bt C13 hb14)
    | (go_at_call 57; refine (cM _ _ _ _ _ (N6.below C14 (Nat.le_refl _)) M7).mono ?_; rintro e w15 ⟨q8, f8, rfl, M8, hb15⟩)
    | (go_at_call 58; refine (cF _ _ _ _ _ (M6.below (bt hb14 hb15) (Nat.le_refl _)) M8).mono ?_; rintro e w16 ⟨v16, rfl, R16, hb16⟩; have C16 := bt HC11.out (bt C14 (bt hb15 hb16)); obtain ⟨VA, VL, vp, rfl⟩ := R16.shape; have kk := box_kept HK7.out C16 (in_heap HK7.out); obtain ⟨c0, c1, c2, c3⟩ := box0 kk; have ff := boxF kk; have HKK : Hid (w16.heap[w.heap.size + 1 + 1]? = some (box4 (.bool false) (.int .u64 0) (.int .u64 0) (.pointer none))) := kk; have HR16 : Hid (IsRat w16 (.agg #[.bool b3, .int .u64 VA, .int .u64 VL, .pointer vp]) b3 N D) := R16; have HC16 : Hid (Below w7.heap.size w7 w16) := C16; clear kk R16 C16))
  have k2 := box_set HKK.out (.bool b3) (.int .u64 VA) (.int .u64 VL) (.pointer vp)
  have hB := box_below (bt HB7.out HC16.out) (show w.heap.size ≤ w.heap.size + 1 + 1 by omega) (.bool b3) (.int .u64 VA) (.int .u64 VL) (.pointer vp)
  have hR2 := HR16.out.set4 HKK.out (.bool b3) (.int .u64 VA) (.int .u64 VL) (.pointer vp)
  generalize World.setCell _ _ _ = W' at *
  obtain ⟨g0, g1, g2, g3⟩ := box0 k2
  refine bodyPost_ret (v := .agg #[.bool b3, .int .u64 VA, .int .u64 VL, .pointer vp]) ?_ rfl ?_
  · simp [results, go_sem, g0, g1, g2, g3]
  · exact ⟨_, rfl, hR2, hB⟩
end Go.Proofs.Ytfkaeehbnnhfoaa.AddR

/- Rational numbers, the program's: each call's answer as a quotient of two whole numbers, in lowest terms or not. -/
namespace Go.Proofs.Ytfkaeehbnnhfoaa.FldL
open Go.RowKit Mem LimbNum Limb1 NatL GcdA RatL RatM RatN RatF RatO MulN MulW MulL RefR RefT RefU InvL DivL QNum CmpL CmqL RefX RefY RefZ FloL Mk5 AddN JoinL AddW AddV AddR

theorem nl_of_nb {n k : Nat} (h : (nb n).length ≤ k) : (nl n).length ≤ k := by
  apply nl_lt
  have h1 := fromL_lt (nb n)
  rw [fromL_nb] at h1
  exact Nat.lt_of_lt_of_le (Nat.lt_of_lt_of_le h1 (Nat.pow_le_pow_right (by omega) h)) (Nat.pow_le_pow_left (by omega) k)
theorem sv_flag (b : Bool) (n : Nat) : sv (b && decide (n ≠ 0)) n = sv b n := by
  unfold sv; by_cases h : n = 0
  · subst h; cases b <;> simp
  · simp [h]
theorem cmpI_mul (x y c : Int) (hc : 0 < c) : cmpI (x * c) (y * c) = cmpI x y := by
  unfold cmpI
  by_cases h : x < y
  · rw [if_pos h, if_pos (Int.mul_lt_mul_of_pos_right h hc)]
  · rw [if_neg h, if_neg (fun e => h (Int.lt_of_mul_lt_mul_right e (Int.le_of_lt hc)))]
    by_cases h2 : x = y
    · subst h2; simp
    · rw [if_neg h2, if_neg (fun e => h2 (Int.eq_of_mul_eq_mul_right (by omega) e))]
theorem add_val (b1 b2 : Bool) (n1 d1 n2 d2 : Nat) : ∃ g : Nat, sv (addB b1 n1 d1 b2 n2 d2) (addN b1 n1 d1 b2 n2 d2) * g = sv b1 n1 * d2 + sv b2 n2 * d1 ∧ addD b1 n1 d1 b2 n2 d2 * g = d1 * d2 := by
  refine ⟨Nat.gcd (sumV b1 b2 (n1 * d2) (n2 * d1)) (d1 * d2), ?_, ?_⟩
  · unfold addB addN
    rw [sv_flag, ← sv_mul, Nat.div_mul_cancel (Nat.gcd_dvd_left _ _), sum_sv, sv_mul, sv_mul]
  · unfold addD
    rw [Nat.div_mul_cancel (Nat.gcd_dvd_right _ _)]
theorem sv_ne (b1 b2 : Bool) (n1 n2 : Nat) : sv (b1 != b2) (n1 * n2) = sv b1 n1 * sv b2 n2 := by
  unfold sv; cases b1 <;> cases b2 <;> simp [Int.neg_mul, Int.mul_neg]
theorem mul_val (b1 b2 : Bool) (n1 d1 n2 d2 : Nat) : ∃ g : Nat, sv ((b1 != b2) && decide (n1 * n2 / Nat.gcd (n1 * n2) (d1 * d2) ≠ 0)) (n1 * n2 / Nat.gcd (n1 * n2) (d1 * d2)) * g = sv b1 n1 * sv b2 n2 ∧ d1 * d2 / Nat.gcd (n1 * n2) (d1 * d2) * g = d1 * d2 := by
  refine ⟨Nat.gcd (n1 * n2) (d1 * d2), ?_, Nat.div_mul_cancel (Nat.gcd_dvd_right _ _)⟩
  rw [sv_flag, ← sv_mul, Nat.div_mul_cancel (Nat.gcd_dvd_left _ _), sv_ne]
/-- The value v is P / Q; its two numbers have at most k bits. -/
def RV (w : World) (v : Value) (P Q : Int) (k : Nat) : Prop := 0 < Q ∧ ∃ b n d, IsRat w v b n d ∧ sv b n * Q = P * d ∧ (nb n).length ≤ k ∧ (nb d).length ≤ k
theorem RV.below {w w' : World} {v : Value} {P Q : Int} {k : Nat} (h : RV w v P Q k) (hb : Below w.heap.size w w') : RV w' v P Q k := by
  obtain ⟨h0, b, n, d, h1, h2, h3, h4⟩ := h
  exact ⟨h0, b, n, d, h1.below hb, h2, h3, h4⟩
theorem RV.of {w : World} {v : Value} {b : Bool} {n d k : Nat} (h : IsRat w v b n d) (h1 : (nb n).length ≤ k) (h2 : (nb d).length ≤ k) : RV w v (sv b n) d k :=
  ⟨by have := h.1.pos; omega, b, n, d, h, rfl, h1, h2⟩
theorem RV.more {w : World} {v : Value} {P Q : Int} {k l : Nat} (h : RV w v P Q k) (hl : k ≤ l) : RV w v P Q l := by
  obtain ⟨h0, b, n, d, h1, h2, h3, h4⟩ := h
  exact ⟨h0, b, n, d, h1, h2, by omega, by omega⟩
theorem ring_add {A g S1 S2 d1 d2 D P1 Q1 P2 Q2 : Int} (e1 : A * g = S1 * d2 + S2 * d1) (e2 : D * g = d1 * d2) (h1 : S1 * Q1 = P1 * d1) (h2 : S2 * Q2 = P2 * d2) (hg : g ≠ 0) : A * (Q1 * Q2) = (P1 * Q2 + P2 * Q1) * D := by
  apply Int.eq_of_mul_eq_mul_right hg
  have : A * (Q1 * Q2) * g = (A * g) * (Q1 * Q2) := by grind
  rw [this, e1]
  have : (P1 * Q2 + P2 * Q1) * D * g = (P1 * Q2 + P2 * Q1) * (D * g) := by grind
  rw [this, e2]
  have e3 : (S1 * d2 + S2 * d1) * (Q1 * Q2) = (S1 * Q1) * (d2 * Q2) + (S2 * Q2) * (d1 * Q1) := by grind
  rw [e3, h1, h2]
  grind
theorem ring_mul {A g S1 S2 d1 d2 D P1 Q1 P2 Q2 : Int} (e1 : A * g = S1 * S2) (e2 : D * g = d1 * d2) (h1 : S1 * Q1 = P1 * d1) (h2 : S2 * Q2 = P2 * d2) (hg : g ≠ 0) : A * (Q1 * Q2) = (P1 * P2) * D := by
  apply Int.eq_of_mul_eq_mul_right hg
  have : A * (Q1 * Q2) * g = (A * g) * (Q1 * Q2) := by grind
  rw [this, e1]
  have : (P1 * P2) * D * g = (P1 * P2) * (D * g) := by grind
  rw [this, e2]
  have e3 : S1 * S2 * (Q1 * Q2) = (S1 * Q1) * (S2 * Q2) := by grind
  rw [e3, h1, h2]
  grind
theorem rv_add {v1 v2 : Value} {P1 Q1 P2 Q2 : Int} {k : Nat} (hk : k ≤ 100000) {w : World} (h1 : RV w v1 P1 Q1 k) (h2 : RV w v2 P2 Q2 k) :
    Calls Try.prog 19 #[v1, v2] w fun e w' => ∃ v, e = .returned v ∧ RV w' v (P1 * Q2 + P2 * Q1) (Q1 * Q2) (2 * k + 1) ∧ Below w.heap.size w w' := by
  obtain ⟨q1, b1, n1, d1, r1, e1, l1, l2⟩ := h1
  obtain ⟨q2, b2, n2, d2, r2, e2, l3, l4⟩ := h2
  refine (radd v1 v2 b1 b2 n1 d1 n2 d2 w r1 r2 (Nat.le_trans (nl_of_nb l1) (by omega)) (Nat.le_trans (nl_of_nb l2) (by omega)) (Nat.le_trans (nl_of_nb l3) (by omega)) (Nat.le_trans (nl_of_nb l4) (by omega))).mono ?_
  rintro e w' ⟨v, rfl, R, hb⟩
  obtain ⟨g, f1, f2⟩ := add_val b1 b2 n1 d1 n2 d2
  have hg : (g : Int) ≠ 0 := by
    intro e
    have e : g = 0 := by omega
    rw [e] at f2
    have := Nat.mul_pos r1.1.pos r2.1.pos
    omega
  refine ⟨v, rfl, ⟨Int.mul_pos q1 q2, _, _, _, R, ring_add f1 (by exact_mod_cast f2) e1 e2 hg, ?_, ?_⟩, hb⟩
  · have bX := mul_bits n1 d2 _ _ l1 l4
    have bY := mul_bits n2 d1 _ _ l3 l2
    exact Nat.le_trans (bits_div _ _ _ (sumV_bits b1 b2 _ _ _ bX bY)) (by omega)
  · exact Nat.le_trans (bits_div _ _ _ (mul_bits d1 d2 _ _ l2 l4)) (by omega)
theorem rv_mul {v1 v2 : Value} {P1 Q1 P2 Q2 : Int} {k : Nat} (hk : k ≤ 100000) {w : World} (h1 : RV w v1 P1 Q1 k) (h2 : RV w v2 P2 Q2 k) :
    Calls Try.prog 23 #[v1, v2] w fun e w' => ∃ v, e = .returned v ∧ RV w' v (P1 * P2) (Q1 * Q2) (2 * k) ∧ Below w.heap.size w w' := by
  obtain ⟨q1, b1, n1, d1, r1, e1, l1, l2⟩ := h1
  obtain ⟨q2, b2, n2, d2, r2, e2, l3, l4⟩ := h2
  refine (rmul v1 v2 b1 b2 n1 d1 n2 d2 w r1 r2 (Nat.le_trans (nl_of_nb l1) (by omega)) (Nat.le_trans (nl_of_nb l2) (by omega)) (Nat.le_trans (nl_of_nb l3) (by omega)) (Nat.le_trans (nl_of_nb l4) (by omega))).mono ?_
  rintro e w' ⟨v, rfl, R, hb⟩
  obtain ⟨g, f1, f2⟩ := mul_val b1 b2 n1 d1 n2 d2
  have hg : (g : Int) ≠ 0 := by
    intro e
    have e : g = 0 := by omega
    rw [e] at f2
    have := Nat.mul_pos r1.1.pos r2.1.pos
    omega
  refine ⟨v, rfl, ⟨Int.mul_pos q1 q2, _, _, _, R, ring_mul f1 (by exact_mod_cast f2) e1 e2 hg, ?_, ?_⟩, hb⟩
  · exact Nat.le_trans (bits_div _ _ _ (mul_bits n1 n2 _ _ l1 l3)) (by omega)
  · exact Nat.le_trans (bits_div _ _ _ (mul_bits d1 d2 _ _ l2 l4)) (by omega)
theorem rv_cmp {v1 v2 : Value} {P1 Q1 P2 Q2 : Int} {k1 k2 : Nat} (hk1 : k1 ≤ 100000) (hk2 : k2 ≤ 100000) {w : World} (h1 : RV w v1 P1 Q1 k1) (h2 : RV w v2 P2 Q2 k2) :
    Calls Try.prog 17 #[v1, v2] w fun e w' => e = .returned (.int .i64 (cmpI (P1 * Q2) (P2 * Q1))) ∧ Below w.heap.size w w' := by
  obtain ⟨q1, b1, n1, d1, r1, e1, l1, l2⟩ := h1
  obtain ⟨q2, b2, n2, d2, r2, e2, l3, l4⟩ := h2
  have := cmp_q v1 v2 b1 b2 n1 d1 n2 d2 w r1 r2 (Nat.le_trans (nl_of_nb l1) (by omega)) (Nat.le_trans (nl_of_nb l2) (by omega)) (Nat.le_trans (nl_of_nb l3) (by omega)) (Nat.le_trans (nl_of_nb l4) (by omega))
  have p1 := r1.1.pos
  have p2 := r2.1.pos
  have e : cmpQ b1 n1 d1 b2 n2 d2 = cmpI (P1 * Q2) (P2 * Q1) := by
    unfold cmpQ
    rw [sv_mul, sv_mul, ← cmpI_mul _ _ (Q1 * Q2) (Int.mul_pos q1 q2), ← cmpI_mul (P1 * Q2) (P2 * Q1) ((d1 : Int) * d2) (Int.mul_pos (by omega) (by omega))]
    generalize sv b1 n1 = S1 at *
    generalize sv b2 n2 = S2 at *
    generalize (d1 : Int) = D1 at *
    generalize (d2 : Int) = D2 at *
    have f1 : S1 * D2 * (Q1 * Q2) = (S1 * Q1) * (D2 * Q2) := by grind
    have f2 : S2 * D1 * (Q1 * Q2) = (S2 * Q2) * (D1 * Q1) := by grind
    rw [f1, f2, e1, e2]
    congr 1 <;> grind
  rw [← e]
  exact this
theorem rv_sign {v : Value} {P Q : Int} {k : Nat} {w : World} (h : RV w v P Q k) : Calls Try.prog 27 #[v] w fun e w' => e = .returned (.int .i64 (cmpI P 0)) ∧ Below w.heap.size w w' := by
  obtain ⟨q, b, n, d, r, e, l1, l2⟩ := h
  have := sign_any v b n d w r
  have p := r.1.pos
  rw [sgn_sv, ← cmpI_mul _ _ Q q, e, Int.zero_mul, show (0 : Int) = 0 * (d : Int) by omega, cmpI_mul _ _ (d : Int) (by omega)] at this
  exact this
end Go.Proofs.Ytfkaeehbnnhfoaa.FldL

/- Rational numbers, the program's: the difference. -/
namespace Go.Proofs.Ytfkaeehbnnhfoaa.SubL
open Go.RowKit Mem LimbNum Limb1 NatL GcdA RatL RatM RatN RatF RatO MulN MulW MulL RefR RefT RefU InvL DivL QNum CmpL CmqL RefX RefY RefZ FloL Mk5 AddN JoinL AddW AddV AddR FldL

theorem neg_flag (b : Bool) (n : Nat) : decide (0 < sgn b n) = (!b && decide (n ≠ 0)) := by
  unfold sgn; by_cases h : n = 0
  · simp [h]
  · cases b <;> simp [h]
theorem cells_kept8 {W w5 : World} {g h : Nat} {a0 a1 a2 a3 b0 b1 b2 b3 : Value} (hg : w5.heap[g]? = W.heap[g]?) (hh : w5.heap[h]? = W.heap[h]?) (H : W.cell? ⟨g, 0, none⟩ = some a0 ∧ W.cell? ⟨g, 1, none⟩ = some a1 ∧ W.cell? ⟨g, 2, none⟩ = some a2 ∧ W.cell? ⟨g, 3, none⟩ = some a3 ∧ W.cell? ⟨h, 0, none⟩ = some b0 ∧ W.cell? ⟨h, 1, none⟩ = some b1 ∧ W.cell? ⟨h, 2, none⟩ = some b2 ∧ W.cell? ⟨h, 3, none⟩ = some b3) :
    w5.cell? ⟨g, 0, none⟩ = some a0 ∧ w5.cell? ⟨g, 1, none⟩ = some a1 ∧ w5.cell? ⟨g, 2, none⟩ = some a2 ∧ w5.cell? ⟨g, 3, none⟩ = some a3 ∧ w5.cell? ⟨h, 0, none⟩ = some b0 ∧ w5.cell? ⟨h, 1, none⟩ = some b1 ∧ w5.cell? ⟨h, 2, none⟩ = some b2 ∧ w5.cell? ⟨h, 3, none⟩ = some b3 := by
  simp only [World.cell?, hg, hh] at H ⊢
  exact H
set_option maxRecDepth 20000 in
set_option maxHeartbeats 2000000 in
theorem rsub (v1 v2 : Value) (b1 b2 : Bool) (n1 d1 n2 d2 : Nat) (w : World) (h1 : IsRat w v1 b1 n1 d1) (h2 : IsRat w v2 b2 n2 d2) (l1 : (nl n1).length ≤ 1000000) (l2 : (nl d1).length ≤ 1000000) (l3 : (nl n2).length ≤ 1000000) (l4 : (nl d2).length ≤ 1000000) :
    Calls Try.prog 21 #[v1, v2] w fun e w' => ∃ v', e = .returned v' ∧ IsRat w' v' (addB b1 n1 d1 (!b2 && decide (n2 ≠ 0)) n2 d2) (addN b1 n1 d1 (!b2 && decide (n2 ≠ 0)) n2 d2) (addD b1 n1 d1 (!b2 && decide (n2 ≠ 0)) n2 d2) ∧ Below w.heap.size w w' := by
  rw [← neg_flag]
  obtain ⟨b3, eb⟩ : ∃ x, decide (0 < sgn b2 n2) = x := ⟨_, rfl⟩
  have cN := fun (W : World) (hb : Below w.heap.size w W) => neg_any v2 b2 n2 d2 W (h2.below hb)
  simp only [eb] at cN
  rw [eb]
  have cA := fun (W : World) (v : Value) (hb : Below w.heap.size w W) (h : IsRat W v b3 n2 d2) => radd v1 v b1 b3 n1 d1 n2 d2 W (h1.below hb) h l1 l2 l3 l4
  generalize addB b1 n1 d1 b3 n2 d2 = rb at *
  generalize addN b1 n1 d1 b3 n2 d2 = rn at *
  generalize addD b1 n1 d1 b3 n2 d2 = rd at *
  obtain ⟨A1, L1, p1, rfl⟩ := h1.shape
  obtain ⟨A2, L2, p2, rfl⟩ := h2.shape
  clear h1 h2 l1 l2 l3 l4 eb
  obtain ⟨W0, eW0, hb0, hk0, hk1, hk2⟩ := three_new w (.cells #[.bool b1, .int .u64 A1, .int .u64 L1, .pointer p1] 28) (.cells #[.bool b2, .int .u64 A2, .int .u64 L2, .pointer p2] 28) (.cells #[.bool false, .int .u64 0, .int .u64 0, .pointer none] 28)
  have s0 : W0.drew.cell? ⟨w.heap.size, 0, none⟩ = some (.bool b1) ∧ W0.drew.cell? ⟨w.heap.size, 1, none⟩ = some (.int .u64 A1) ∧ W0.drew.cell? ⟨w.heap.size, 2, none⟩ = some (.int .u64 L1) ∧ W0.drew.cell? ⟨w.heap.size, 3, none⟩ = some (.pointer p1) ∧ W0.drew.cell? ⟨w.heap.size + 1, 0, none⟩ = some (.bool b2) ∧ W0.drew.cell? ⟨w.heap.size + 1, 1, none⟩ = some (.int .u64 A2) ∧ W0.drew.cell? ⟨w.heap.size + 1, 2, none⟩ = some (.int .u64 L2) ∧ W0.drew.cell? ⟨w.heap.size + 1, 3, none⟩ = some (.pointer p2) := by
    obtain ⟨a0, a1, a2, a3⟩ := box0 hk0
    obtain ⟨c0, c1, c2, c3⟩ := box0 hk1
    exact ⟨a0, a1, a2, a3, c0, c1, c2, c3⟩
  have hb0d := hb0.drew
  have HK2 : Hid (W0.drew.heap[w.heap.size + 1 + 1]? = some (.cells #[.bool false, .int .u64 0, .int .u64 0, .pointer none] 28)) := hk2
  have ne1 : w.heap.size ≠ w.heap.size + 1 + 1 := by omega
  have ne2 : w.heap.size + 1 ≠ w.heap.size + 1 + 1 := by omega
  have EW : Hid (_ = W0) := eW0
  clear eW0 hk0 hk1 hk2
  go_enter Try.func21, Try.ntmps21
  go_wp2
  rw [EW.out]
  go_region_held3 (fun w' => w'.cell? ⟨w.heap.size, 0, none⟩ = some (.bool b1) ∧ w'.cell? ⟨w.heap.size, 1, none⟩ = some (.int .u64 A1) ∧ w'.cell? ⟨w.heap.size, 2, none⟩ = some (.int .u64 L1) ∧ w'.cell? ⟨w.heap.size, 3, none⟩ = some (.pointer p1) ∧ w'.cell? ⟨w.heap.size + 1, 0, none⟩ = some (.bool b2) ∧ w'.cell? ⟨w.heap.size + 1, 1, none⟩ = some (.int .u64 A2) ∧ w'.cell? ⟨w.heap.size + 1, 2, none⟩ = some (.int .u64 L2) ∧ w'.cell? ⟨w.heap.size + 1, 3, none⟩ = some (.pointer p2)) (first | with_reducible exact s0 | with_reducible exact s1 | with_reducible exact s2 | with_reducible exact s3) (first
    | (go_at_call 25; refine (cN _ hb0d).mono ?_; rintro e w1 ⟨v3, rfl, R3, hb1⟩; have H1 := bt hb0d hb1; have s1 := eight_kept hb1 s0)
    | (go_at_call 19; refine (cA _ _ H1 R3).mono ?_; rintro e w2 ⟨v4, rfl, R4, hb2⟩; have H2 := bt H1 hb2; have s2 := eight_kept hb2 s1; obtain ⟨VA, VL, vp, rfl⟩ := R4.shape; have kk := box_kept HK2.out (bt hb1 hb2) (in_heap HK2.out); obtain ⟨d0, d1, d2, d3⟩ := box0 kk; have ff := boxF kk; have s3 := cells_kept8 ((set4_off w2 (w.heap.size + 1 + 1) (.bool rb) (.int .u64 VA) (.int .u64 VL) (.pointer vp)).1 _ ne1) ((set4_off w2 (w.heap.size + 1 + 1) (.bool rb) (.int .u64 VA) (.int .u64 VL) (.pointer vp)).1 _ ne2) s2; have HK : Hid (w2.heap[w.heap.size + 1 + 1]? = some (.cells #[.bool false, .int .u64 0, .int .u64 0, .pointer none] 28)) := kk; clear kk))
  all_goals go_wp2
  have k2 := box_set HK.out (.bool rb) (.int .u64 VA) (.int .u64 VL) (.pointer vp)
  have hB := box_below H2 (show w.heap.size ≤ w.heap.size + 1 + 1 by omega) (.bool rb) (.int .u64 VA) (.int .u64 VL) (.pointer vp)
  have hR := R4.set4 HK.out (.bool rb) (.int .u64 VA) (.int .u64 VL) (.pointer vp)
  generalize World.setCell _ _ _ = W' at *
  obtain ⟨g0, g1, g2, g3⟩ := box0 k2
  refine bodyPost_ret (v := .agg #[.bool rb, .int .u64 VA, .int .u64 VL, .pointer vp]) ?_ rfl ?_
  · simp [results, go_sem, g0, g1, g2, g3]
  · exact ⟨_, rfl, hR, hB⟩
theorem rv_sub {v1 v2 : Value} {P1 Q1 P2 Q2 : Int} {k : Nat} (hk : k ≤ 100000) {w : World} (h1 : RV w v1 P1 Q1 k) (h2 : RV w v2 P2 Q2 k) :
    Calls Try.prog 21 #[v1, v2] w fun e w' => ∃ v, e = .returned v ∧ RV w' v (P1 * Q2 - P2 * Q1) (Q1 * Q2) (2 * k + 1) ∧ Below w.heap.size w w' := by
  obtain ⟨q1, b1, n1, d1, r1, e1, l1, l2⟩ := h1
  obtain ⟨q2, b2, n2, d2, r2, e2, l3, l4⟩ := h2
  refine (rsub v1 v2 b1 b2 n1 d1 n2 d2 w r1 r2 (Nat.le_trans (nl_of_nb l1) (by omega)) (Nat.le_trans (nl_of_nb l2) (by omega)) (Nat.le_trans (nl_of_nb l3) (by omega)) (Nat.le_trans (nl_of_nb l4) (by omega))).mono ?_
  rintro e w' ⟨v, rfl, R, hb⟩
  obtain ⟨g, f1, f2⟩ := add_val b1 (!b2 && decide (n2 ≠ 0)) n1 d1 n2 d2
  have hg : (g : Int) ≠ 0 := by
    intro e
    have e : g = 0 := by omega
    rw [e] at f2
    have := Nat.mul_pos r1.1.pos r2.1.pos
    omega
  have e3 : sv (!b2 && decide (n2 ≠ 0)) n2 * Q2 = (-P2) * d2 := by rw [sv_not, Int.neg_mul, e2, Int.neg_mul]
  have := ring_add f1 (by rw [← Int.natCast_mul, f2, Int.natCast_mul]) e1 e3 hg
  rw [show P1 * Q2 + (-P2) * Q1 = P1 * Q2 - P2 * Q1 by rw [Int.neg_mul]; rfl] at this
  refine ⟨v, rfl, ⟨Int.mul_pos q1 q2, _, _, _, R, this, ?_, ?_⟩, hb⟩
  · have bX := mul_bits n1 d2 _ _ l1 l4
    have bY := mul_bits n2 d1 _ _ l3 l2
    exact Nat.le_trans (bits_div _ _ _ (sumV_bits b1 _ _ _ _ bX bY)) (by omega)
  · exact Nat.le_trans (bits_div _ _ _ (mul_bits d1 d2 _ _ l2 l4)) (by omega)
end Go.Proofs.Ytfkaeehbnnhfoaa.SubL

/- RatField: rational numbers keep the laws of an ordered field: the walk. -/
namespace Go.Proofs.Ytfkaeehbnnhfoaa.FdW
open Go.RowKit Mem LimbNum Limb1 NatL GcdA RatL RatM RatN RatF RatO MulN MulW MulL RefR RefT RefU InvL DivL QNum CmpL CmqL RefX RefY RefZ FloL Law5 Aw5 Mk5 AddN JoinL AddW AddV AddR FldL SubL

theorem rv_cmp0 {v1 v2 : Value} {P1 Q1 P2 Q2 : Int} {k1 k2 : Nat} (hk1 : k1 ≤ 100000) (hk2 : k2 ≤ 100000) {w : World} (h1 : RV w v1 P1 Q1 k1) (h2 : RV w v2 P2 Q2 k2) (h : P1 * Q2 = P2 * Q1) :
    Calls Try.prog 17 #[v1, v2] w fun e w' => e = .returned (.int .i64 0) ∧ Below w.heap.size w w' := by
  have := rv_cmp hk1 hk2 h1 h2
  rw [h, show cmpI (P2 * Q1) (P2 * Q1) = 0 by unfold cmpI; simp] at this
  exact this
theorem rv_cmpl {v1 v2 : Value} {P1 Q1 P2 Q2 : Int} {k1 k2 : Nat} (hk1 : k1 ≤ 100000) (hk2 : k2 ≤ 100000) {w : World} (h1 : RV w v1 P1 Q1 k1) (h2 : RV w v2 P2 Q2 k2) (h : P1 * Q2 ≤ P2 * Q1) :
    Calls Try.prog 17 #[v1, v2] w fun e w' => ∃ c : Int, e = .returned (.int .i64 c) ∧ c ≤ 0 ∧ Below w.heap.size w w' := by
  refine (rv_cmp hk1 hk2 h1 h2).mono ?_
  rintro e w' ⟨rfl, hb⟩
  exact ⟨_, rfl, by unfold cmpI; split <;> (try split) <;> omega, hb⟩
theorem rv_div {v1 v2 : Value} {b1 b2 : Bool} {n1 d1 n2 d2 : Nat} {w : World} (h1 : IsRat w v1 b1 n1 d1) (h2 : IsRat w v2 b2 n2 d2) (hn : n2 ≠ 0) (l1 : (nb n1).length ≤ 256 ∧ (nb d1).length ≤ 256) (l2 : (nb n2).length ≤ 256 ∧ (nb d2).length ≤ 256) :
    Calls Try.prog 32 #[v1, v2] w fun e w' => ∃ v b n d, e = .returned (.tuple #[v, .bool true]) ∧ IsRat w' v b n d ∧ RV w' v (sv (b1 != b2) (n1 * d2)) ((d1 * n2 : Nat) : Int) 512 ∧ Below w.heap.size w w' := by
  refine (div_yes v1 v2 b1 b2 n1 d1 n2 d2 w h1 h2 hn (Nat.le_trans (nl_of_nb l1.1) (by omega)) (Nat.le_trans (nl_of_nb l1.2) (by omega)) (Nat.le_trans (nl_of_nb l2.1) (by omega)) (Nat.le_trans (nl_of_nb l2.2) (by omega))).mono ?_
  rintro e w' ⟨v, rfl, R, hb⟩
  have hp : 0 < d1 * n2 := Nat.mul_pos h1.1.pos (by omega)
  have hg : 0 < Nat.gcd (n1 * d2) (d1 * n2) := Nat.gcd_pos_of_pos_right _ hp
  refine ⟨v, _, _, _, rfl, R, ⟨by omega, _, _, _, R, ?_, bits_div _ _ _ (mul_bits n1 d2 256 256 l1.1 l2.2), bits_div _ _ _ (mul_bits d1 n2 256 256 l1.2 l2.1)⟩, hb⟩
  rw [sv_flag]
  have e1 : ((d1 * n2 : Nat) : Int) = ((d1 * n2 / Nat.gcd (n1 * d2) (d1 * n2) : Nat) : Int) * ((Nat.gcd (n1 * d2) (d1 * n2) : Nat) : Int) := by rw [← Int.natCast_mul, Nat.div_mul_cancel (Nat.gcd_dvd_right _ _)]
  have e2 : sv (b1 != b2) (n1 * d2) = sv (b1 != b2) (n1 * d2 / Nat.gcd (n1 * d2) (d1 * n2)) * ((Nat.gcd (n1 * d2) (d1 * n2) : Nat) : Int) := by rw [← sv_mul, Nat.div_mul_cancel (Nat.gcd_dvd_left _ _)]
  rw [e2]
  generalize sv (b1 != b2) (n1 * d2 / Nat.gcd (n1 * d2) (d1 * n2)) = A at *
  rw [e1]
  grind
theorem div_back (b1 b2 : Bool) (n1 d1 n2 d2 : Nat) : sv (b1 != b2) (n1 * d2) * sv b2 n2 * (d1 : Int) = sv b1 n1 * (((d1 * n2 : Nat) : Int) * d2) := by
  have e : sv (b1 != b2) (n1 * d2) * sv b2 n2 = sv b1 n1 * d2 * n2 := by
    unfold sv; cases b1 <;> cases b2 <;> simp [Int.neg_mul, Int.mul_neg] <;> grind
  rw [e, Int.natCast_mul]
  grind
theorem rv_sign0 {v : Value} {P Q : Int} {k : Nat} {w : World} (h : RV w v P Q k) (hP : P = 0) : Calls Try.prog 27 #[v] w fun e w' => e = .returned (.int .i64 0) ∧ Below w.heap.size w w' := by
  have := rv_sign h
  rw [hP, show cmpI 0 0 = 0 by unfold cmpI; simp] at this
  exact this
theorem mono3 {S1 D1 S2 D2 : Int} (S3 D3 : Int) (h : S1 * D2 ≤ S2 * D1) (hD : 0 < D3) : (S1 * D3 + S3 * D1) * (D2 * D3) ≤ (S2 * D3 + S3 * D2) * (D1 * D3) := by
  have h2 : S1 * D2 * (D3 * D3) ≤ S2 * D1 * (D3 * D3) := Int.mul_le_mul_of_nonneg_right h (Int.le_of_lt (Int.mul_pos hD hD))
  have e1 : (S1 * D3 + S3 * D1) * (D2 * D3) = S1 * D2 * (D3 * D3) + S3 * D1 * D2 * D3 := by grind
  have e2 : (S2 * D3 + S3 * D2) * (D1 * D3) = S2 * D1 * (D3 * D3) + S3 * D1 * D2 * D3 := by grind
  rw [e1, e2]
  omega
set_option maxRecDepth 20000 in
set_option maxHeartbeats 4000000 in
theorem law (b1 b2 b3 : Bool) (SA1 SB1 SA2 SB2 SA3 SB3 : Value) (w : World)
    (cB1 : ∀ W, Below w.heap.size w W → Calls Try.prog 9 #[.agg #[.bool b1, SA1, SB1]] W fun e w' => ∃ v q b2 n d, e = .returned (.tuple #[v, q]) ∧ IsRat w' v b2 n d ∧ IsRef w' q b2 n d ∧ ((nb n).length ≤ 256 ∧ (nb d).length ≤ 256) ∧ Below W.heap.size W w')
    (cB2 : ∀ W, Below w.heap.size w W → Calls Try.prog 9 #[.agg #[.bool b2, SA2, SB2]] W fun e w' => ∃ v q b2 n d, e = .returned (.tuple #[v, q]) ∧ IsRat w' v b2 n d ∧ IsRef w' q b2 n d ∧ ((nb n).length ≤ 256 ∧ (nb d).length ≤ 256) ∧ Below W.heap.size W w')
    (cB3 : ∀ W, Below w.heap.size w W → Calls Try.prog 9 #[.agg #[.bool b3, SA3, SB3]] W fun e w' => ∃ v q b2 n d, e = .returned (.tuple #[v, q]) ∧ IsRat w' v b2 n d ∧ IsRef w' q b2 n d ∧ ((nb n).length ≤ 256 ∧ (nb d).length ≤ 256) ∧ Below W.heap.size W w') :
    Calls Try.prog 8 #[.agg #[.bool b1, SA1, SB1], .agg #[.bool b2, SA2, SB2], .agg #[.bool b3, SA3, SB3]] w fun e w' => e = .returned (.bool true) ∧ Below w.heap.size w w' := by
  obtain ⟨W0, eW0, hb0, k0, k1, k2⟩ := three_new w (.cells #[.bool b1, SA1, SB1] 24) (.cells #[.bool b2, SA2, SB2] 24) (.cells #[.bool b3, SA3, SB3] 24)
  have c3 : ∀ {W : World} {g : Nat} {a b c : Value} {t : TypeId}, W.heap[g]? = some (.cells #[a, b, c] t) → W.cell? ⟨g, 0, none⟩ = some a ∧ W.cell? ⟨g, 1, none⟩ = some b ∧ W.cell? ⟨g, 2, none⟩ = some c := fun {W g a b c t} h => by
    refine ⟨?_, ?_, ?_⟩ <;> simp [World.cell?, h]
  obtain ⟨a0, a1, a2⟩ := c3 k0
  have HK1 : Hid (W0.heap[w.heap.size + 1]? = some (.cells #[.bool b2, SA2, SB2] 24)) := k1
  have HK2 : Hid (W0.heap[w.heap.size + 1 + 1]? = some (.cells #[.bool b3, SA3, SB3] 24)) := k2
  have HC3 : Hid (∀ {W : World} {g : Nat} {a b c : Value} {t : TypeId}, W.heap[g]? = some (.cells #[a, b, c] t) → W.cell? ⟨g, 0, none⟩ = some a ∧ W.cell? ⟨g, 1, none⟩ = some b ∧ W.cell? ⟨g, 2, none⟩ = some c) := c3
  have EW : Hid (_ = W0) := eW0
  have cB1' := cB1 W0 hb0
  clear eW0 k0 k1 k2 c3 cB1
  go_enter Try.func8, Try.ntmps8
  go_upto_region 1 with fail
  rw [EW.out]
  go_upto_region 2 with (go_at_call 9; refine cB1'.mono ?_; rintro e w1 ⟨v1, q1, x1, n1, d1, rfl, R1, Q1, lim1, hb1⟩; obtain ⟨VA1, VL1, vp1, rfl⟩ := R1.shape; obtain ⟨o1, m1, o2, m2, rfl, O1, O2⟩ := Q1)
  obtain ⟨W1, eW1, B1, kx, kp⟩ := two_new w1 (.cells #[.bool x1, .int .u64 VA1, .int .u64 VL1, .pointer vp1] 28) (.cells #[.bool x1, .slice o1 (nb n1).length m1, .slice o2 (nb d1).length m2] 31)
  rw [eW1]
  have X1 : Hid (RL W1 w1.heap.size x1 n1 d1 VA1 VL1 vp1) := ⟨kx, R1.below B1⟩
  have C1 : Hid (Below w.heap.size w W1) := bt (bt hb0 hb1) B1
  have HK3 : Hid (W1.heap[w.heap.size + 1 + 1]? = some (.cells #[.bool b3, SA3, SB3] 24)) := box_kept HK2.out (bt hb1 B1) (in_heap HK2.out)
  obtain ⟨y0, y1, y2⟩ := HC3.out (box_kept HK1.out (bt hb1 B1) (in_heap HK1.out))
  have cB2' := cB2 W1 C1.out
  generalize w1.heap.size = gx at *
  clear eW1 kx kp B1 R1 O1 O2 cB1' cB2 a0 a1 a2 EW hb1 hb0 HK1 HK2
  go_upto_region 3 with (go_at_call 9; refine cB2'.mono ?_; rintro e w2 ⟨v2, q2, x2, n2, d2, rfl, R2, Q2, lim2, hb2⟩; obtain ⟨VA2, VL2, vp2, rfl⟩ := R2.shape; obtain ⟨o3, m3, o4, m4, rfl, O3, O4⟩ := Q2)
  obtain ⟨W2, eW2, B2, ky, kq⟩ := two_new w2 (.cells #[.bool x2, .int .u64 VA2, .int .u64 VL2, .pointer vp2] 28) (.cells #[.bool x2, .slice o3 (nb n2).length m3, .slice o4 (nb d2).length m4] 31)
  rw [eW2]
  have X2 : Hid (RL W2 gx x1 n1 d1 VA1 VL1 vp1) := X1.out.kept (bt hb2 B2)
  have Y2 : Hid (RL W2 w2.heap.size x2 n2 d2 VA2 VL2 vp2) := ⟨ky, R2.below B2⟩
  have C2 : Hid (Below w.heap.size w W2) := bt (bt C1.out hb2) B2
  obtain ⟨z0, z1, z2⟩ := HC3.out (box_kept HK3.out (bt hb2 B2) (in_heap HK3.out))
  have cB3' := cB3 W2 C2.out
  generalize w2.heap.size = gy at *
  clear eW2 ky kq B2 R2 O3 O4 cB2' cB3 y0 y1 y2 hb2 X1 C1 HK3 HC3
  go_upto_region 4 with (go_at_call 9; refine cB3'.mono ?_; rintro e w3 ⟨v3, q3, x3, n3, d3, rfl, R3, Q3, lim3, hb3⟩; obtain ⟨VA3, VL3, vp3, rfl⟩ := R3.shape; obtain ⟨o5, m5, o6, m6, rfl, O5, O6⟩ := Q3)
  obtain ⟨W3, eW3, B3, kz, kr⟩ := two_new w3 (.cells #[.bool x3, .int .u64 VA3, .int .u64 VL3, .pointer vp3] 28) (.cells #[.bool x3, .slice o5 (nb n3).length m5, .slice o6 (nb d3).length m6] 31)
  rw [eW3]
  have D3 : Below W3.heap.size W3 W3.drew := (Below.refl _ _).drew
  have X3 : Hid (RL W3.drew gx x1 n1 d1 VA1 VL1 vp1) := (X2.out.kept (bt hb3 B3)).kept D3
  have Y3 : Hid (RL W3.drew gy x2 n2 d2 VA2 VL2 vp2) := (Y2.out.kept (bt hb3 B3)).kept D3
  have Z3 : Hid (RL W3.drew w3.heap.size x3 n3 d3 VA3 VL3 vp3) := RL.kept (W := W3) ⟨kz, R3.below B3⟩ D3
  have C3 : Hid (Below w.heap.size w W3.drew) := (bt (bt C2.out hb3) B3).drew
  generalize w3.heap.size = gz at *
  have L1 : Hid ((nb n1).length ≤ 256 ∧ (nb d1).length ≤ 256) := lim1
  have L2 : Hid ((nb n2).length ≤ 256 ∧ (nb d2).length ≤ 256) := lim2
  have HP : Hid (RV W3.drew (.agg #[.bool x1, .int .u64 VA1, .int .u64 VL1, .pointer vp1]) (sv x1 n1) d1 256 ∧ RV W3.drew (.agg #[.bool x2, .int .u64 VA2, .int .u64 VL2, .pointer vp2]) (sv x2 n2) d2 256 ∧ RV W3.drew (.agg #[.bool x3, .int .u64 VA3, .int .u64 VL3, .pointer vp3]) (sv x3 n3) d3 256) := ⟨RV.of X3.out.is lim1.1 lim1.2, RV.of Y3.out.is lim2.1 lim2.2, RV.of Z3.out.is lim3.1 lim3.2⟩
  have s0 : W3.drew.cell? ⟨gx, 0, none⟩ = some (.bool x1) ∧ W3.drew.cell? ⟨gx, 1, none⟩ = some (.int .u64 VA1) ∧ W3.drew.cell? ⟨gx, 2, none⟩ = some (.int .u64 VL1) ∧ W3.drew.cell? ⟨gx, 3, none⟩ = some (.pointer vp1) ∧ W3.drew.cell? ⟨gy, 0, none⟩ = some (.bool x2) ∧ W3.drew.cell? ⟨gy, 1, none⟩ = some (.int .u64 VA2) ∧ W3.drew.cell? ⟨gy, 2, none⟩ = some (.int .u64 VL2) ∧ W3.drew.cell? ⟨gy, 3, none⟩ = some (.pointer vp2) ∧ W3.drew.cell? ⟨gz, 0, none⟩ = some (.bool x3) ∧ W3.drew.cell? ⟨gz, 1, none⟩ = some (.int .u64 VA3) ∧ W3.drew.cell? ⟨gz, 2, none⟩ = some (.int .u64 VL3) ∧ W3.drew.cell? ⟨gz, 3, none⟩ = some (.pointer vp3) := by
    obtain ⟨e1, e2, e3, e4⟩ := X3.out.cells
    obtain ⟨e5, e6, e7, e8⟩ := Y3.out.cells
    obtain ⟨e9, e10, e11, e12⟩ := Z3.out.cells
    exact ⟨e1, e2, e3, e4, e5, e6, e7, e8, e9, e10, e11, e12⟩
  clear eW3 kz kr B3 R3 O5 O6 cB3' z0 z1 z2 hb3 X2 Y2 C2 lim1 lim2 lim3 D3
  have Ta1 : True := trivial
  have Ta2 : True := trivial
  have Ta4 : True := trivial
  have Ta3 : True := trivial
  have Ta9 : True := trivial
  have Ta5 : True := trivial
  have Ta6 : True := trivial
  have Ta7 : True := trivial
  have Ta10 : True := trivial
  have Ta11 : True := trivial
  have Ta12 : True := trivial
  go_region_held3 (fun w' => w'.cell? ⟨gx, 0, none⟩ = some (.bool x1) ∧ w'.cell? ⟨gx, 1, none⟩ = some (.int .u64 VA1) ∧ w'.cell? ⟨gx, 2, none⟩ = some (.int .u64 VL1) ∧ w'.cell? ⟨gx, 3, none⟩ = some (.pointer vp1) ∧ w'.cell? ⟨gy, 0, none⟩ = some (.bool x2) ∧ w'.cell? ⟨gy, 1, none⟩ = some (.int .u64 VA2) ∧ w'.cell? ⟨gy, 2, none⟩ = some (.int .u64 VL2) ∧ w'.cell? ⟨gy, 3, none⟩ = some (.pointer vp2) ∧ w'.cell? ⟨gz, 0, none⟩ = some (.bool x3) ∧ w'.cell? ⟨gz, 1, none⟩ = some (.int .u64 VA3) ∧ w'.cell? ⟨gz, 2, none⟩ = some (.int .u64 VL3) ∧ w'.cell? ⟨gz, 3, none⟩ = some (.pointer vp3)) (first | with_reducible exact s0 | with_reducible exact sa0 | with_reducible exact sa1 | with_reducible exact sa2 | with_reducible exact sa3 | with_reducible exact sa4 | with_reducible exact sa5 | with_reducible exact sa6 | with_reducible exact sa7 | with_reducible exact sa8 | with_reducible exact sa9 | with_reducible exact sa10 | with_reducible exact sa11 | with_reducible exact sa12 | with_reducible exact sa13 | with_reducible exact sa14) (first
    | (go_at_call 12; refine (awake5 _).mono ?_; rintro e wa0 ⟨rfl, hba0⟩; have Ha0 := hba0; have sa0 : wa0.cell? ⟨gx, 0, none⟩ = some (.bool x1) ∧ wa0.cell? ⟨gx, 1, none⟩ = some (.int .u64 VA1) ∧ wa0.cell? ⟨gx, 2, none⟩ = some (.int .u64 VL1) ∧ wa0.cell? ⟨gx, 3, none⟩ = some (.pointer vp1) ∧ wa0.cell? ⟨gy, 0, none⟩ = some (.bool x2) ∧ wa0.cell? ⟨gy, 1, none⟩ = some (.int .u64 VA2) ∧ wa0.cell? ⟨gy, 2, none⟩ = some (.int .u64 VL2) ∧ wa0.cell? ⟨gy, 3, none⟩ = some (.pointer vp2) ∧ wa0.cell? ⟨gz, 0, none⟩ = some (.bool x3) ∧ wa0.cell? ⟨gz, 1, none⟩ = some (.int .u64 VA3) ∧ wa0.cell? ⟨gz, 2, none⟩ = some (.int .u64 VL3) ∧ wa0.cell? ⟨gz, 3, none⟩ = some (.pointer vp3) := by { have kc : ∀ {p : Addr} {v : Value}, W3.drew.cell? p = some v → wa0.cell? p = some v := fun {p v} h => by { rw [hba0.cell (World.block_lt_of_cell? W3.drew p h)]; exact h }; exact ⟨kc s0.1, kc s0.2.1, kc s0.2.2.1, kc s0.2.2.2.1, kc s0.2.2.2.2.1, kc s0.2.2.2.2.2.1, kc s0.2.2.2.2.2.2.1, kc s0.2.2.2.2.2.2.2.1, kc s0.2.2.2.2.2.2.2.2.1, kc s0.2.2.2.2.2.2.2.2.2.1, kc s0.2.2.2.2.2.2.2.2.2.2.1, kc s0.2.2.2.2.2.2.2.2.2.2.2⟩ })
    | (go_at_call 19; have _t := Ta1; clear _t Ta1; refine (rv_add (k := 256) (by omega) (((HP.out.1.below Ha0)).more (by omega)) (((HP.out.2.1.below Ha0)).more (by omega))).mono ?_; rintro e wa1 ⟨va1, rfl, Ra1, hba1⟩; have Ha1 := bt Ha0 hba1; have sa1 : wa1.cell? ⟨gx, 0, none⟩ = some (.bool x1) ∧ wa1.cell? ⟨gx, 1, none⟩ = some (.int .u64 VA1) ∧ wa1.cell? ⟨gx, 2, none⟩ = some (.int .u64 VL1) ∧ wa1.cell? ⟨gx, 3, none⟩ = some (.pointer vp1) ∧ wa1.cell? ⟨gy, 0, none⟩ = some (.bool x2) ∧ wa1.cell? ⟨gy, 1, none⟩ = some (.int .u64 VA2) ∧ wa1.cell? ⟨gy, 2, none⟩ = some (.int .u64 VL2) ∧ wa1.cell? ⟨gy, 3, none⟩ = some (.pointer vp2) ∧ wa1.cell? ⟨gz, 0, none⟩ = some (.bool x3) ∧ wa1.cell? ⟨gz, 1, none⟩ = some (.int .u64 VA3) ∧ wa1.cell? ⟨gz, 2, none⟩ = some (.int .u64 VL3) ∧ wa1.cell? ⟨gz, 3, none⟩ = some (.pointer vp3) := by { have kc : ∀ {p : Addr} {v : Value}, wa0.cell? p = some v → wa1.cell? p = some v := fun {p v} h => by { rw [hba1.cell (World.block_lt_of_cell? wa0 p h)]; exact h }; exact ⟨kc sa0.1, kc sa0.2.1, kc sa0.2.2.1, kc sa0.2.2.2.1, kc sa0.2.2.2.2.1, kc sa0.2.2.2.2.2.1, kc sa0.2.2.2.2.2.2.1, kc sa0.2.2.2.2.2.2.2.1, kc sa0.2.2.2.2.2.2.2.2.1, kc sa0.2.2.2.2.2.2.2.2.2.1, kc sa0.2.2.2.2.2.2.2.2.2.2.1, kc sa0.2.2.2.2.2.2.2.2.2.2.2⟩ })
    | (go_at_call 19; have _t := Ta2; clear _t Ta2; refine (rv_add (k := 256) (by omega) (((HP.out.2.1.below Ha1)).more (by omega)) (((HP.out.1.below Ha1)).more (by omega))).mono ?_; rintro e wa2 ⟨va2, rfl, Ra2, hba2⟩; have Ha2 := bt Ha1 hba2; have sa2 : wa2.cell? ⟨gx, 0, none⟩ = some (.bool x1) ∧ wa2.cell? ⟨gx, 1, none⟩ = some (.int .u64 VA1) ∧ wa2.cell? ⟨gx, 2, none⟩ = some (.int .u64 VL1) ∧ wa2.cell? ⟨gx, 3, none⟩ = some (.pointer vp1) ∧ wa2.cell? ⟨gy, 0, none⟩ = some (.bool x2) ∧ wa2.cell? ⟨gy, 1, none⟩ = some (.int .u64 VA2) ∧ wa2.cell? ⟨gy, 2, none⟩ = some (.int .u64 VL2) ∧ wa2.cell? ⟨gy, 3, none⟩ = some (.pointer vp2) ∧ wa2.cell? ⟨gz, 0, none⟩ = some (.bool x3) ∧ wa2.cell? ⟨gz, 1, none⟩ = some (.int .u64 VA3) ∧ wa2.cell? ⟨gz, 2, none⟩ = some (.int .u64 VL3) ∧ wa2.cell? ⟨gz, 3, none⟩ = some (.pointer vp3) := by { have kc : ∀ {p : Addr} {v : Value}, wa1.cell? p = some v → wa2.cell? p = some v := fun {p v} h => by { rw [hba2.cell (World.block_lt_of_cell? wa1 p h)]; exact h }; exact ⟨kc sa1.1, kc sa1.2.1, kc sa1.2.2.1, kc sa1.2.2.2.1, kc sa1.2.2.2.2.1, kc sa1.2.2.2.2.2.1, kc sa1.2.2.2.2.2.2.1, kc sa1.2.2.2.2.2.2.2.1, kc sa1.2.2.2.2.2.2.2.2.1, kc sa1.2.2.2.2.2.2.2.2.2.1, kc sa1.2.2.2.2.2.2.2.2.2.2.1, kc sa1.2.2.2.2.2.2.2.2.2.2.2⟩ })
    | (go_at_call 17; have _t := Ta3; clear _t Ta3; refine (rv_cmp0 (by omega) (by omega) ((Ra1.below hba2)) (Ra2) (by grind)).mono ?_; rintro e wa3 ⟨rfl, hba3⟩; have Ha3 := bt Ha2 hba3; have sa3 : wa3.cell? ⟨gx, 0, none⟩ = some (.bool x1) ∧ wa3.cell? ⟨gx, 1, none⟩ = some (.int .u64 VA1) ∧ wa3.cell? ⟨gx, 2, none⟩ = some (.int .u64 VL1) ∧ wa3.cell? ⟨gx, 3, none⟩ = some (.pointer vp1) ∧ wa3.cell? ⟨gy, 0, none⟩ = some (.bool x2) ∧ wa3.cell? ⟨gy, 1, none⟩ = some (.int .u64 VA2) ∧ wa3.cell? ⟨gy, 2, none⟩ = some (.int .u64 VL2) ∧ wa3.cell? ⟨gy, 3, none⟩ = some (.pointer vp2) ∧ wa3.cell? ⟨gz, 0, none⟩ = some (.bool x3) ∧ wa3.cell? ⟨gz, 1, none⟩ = some (.int .u64 VA3) ∧ wa3.cell? ⟨gz, 2, none⟩ = some (.int .u64 VL3) ∧ wa3.cell? ⟨gz, 3, none⟩ = some (.pointer vp3) := by { have kc : ∀ {p : Addr} {v : Value}, wa2.cell? p = some v → wa3.cell? p = some v := fun {p v} h => by { rw [hba3.cell (World.block_lt_of_cell? wa2 p h)]; exact h }; exact ⟨kc sa2.1, kc sa2.2.1, kc sa2.2.2.1, kc sa2.2.2.2.1, kc sa2.2.2.2.2.1, kc sa2.2.2.2.2.2.1, kc sa2.2.2.2.2.2.2.1, kc sa2.2.2.2.2.2.2.2.1, kc sa2.2.2.2.2.2.2.2.2.1, kc sa2.2.2.2.2.2.2.2.2.2.1, kc sa2.2.2.2.2.2.2.2.2.2.2.1, kc sa2.2.2.2.2.2.2.2.2.2.2.2⟩ })
    | (go_at_call 19; have _t := Ta4; clear _t Ta4; refine (rv_add (k := 256) (by omega) (((HP.out.2.1.below Ha3)).more (by omega)) (((HP.out.2.2.below Ha3)).more (by omega))).mono ?_; rintro e wa4 ⟨va4, rfl, Ra4, hba4⟩; have Ha4 := bt Ha3 hba4; have sa4 : wa4.cell? ⟨gx, 0, none⟩ = some (.bool x1) ∧ wa4.cell? ⟨gx, 1, none⟩ = some (.int .u64 VA1) ∧ wa4.cell? ⟨gx, 2, none⟩ = some (.int .u64 VL1) ∧ wa4.cell? ⟨gx, 3, none⟩ = some (.pointer vp1) ∧ wa4.cell? ⟨gy, 0, none⟩ = some (.bool x2) ∧ wa4.cell? ⟨gy, 1, none⟩ = some (.int .u64 VA2) ∧ wa4.cell? ⟨gy, 2, none⟩ = some (.int .u64 VL2) ∧ wa4.cell? ⟨gy, 3, none⟩ = some (.pointer vp2) ∧ wa4.cell? ⟨gz, 0, none⟩ = some (.bool x3) ∧ wa4.cell? ⟨gz, 1, none⟩ = some (.int .u64 VA3) ∧ wa4.cell? ⟨gz, 2, none⟩ = some (.int .u64 VL3) ∧ wa4.cell? ⟨gz, 3, none⟩ = some (.pointer vp3) := by { have kc : ∀ {p : Addr} {v : Value}, wa3.cell? p = some v → wa4.cell? p = some v := fun {p v} h => by { rw [hba4.cell (World.block_lt_of_cell? wa3 p h)]; exact h }; exact ⟨kc sa3.1, kc sa3.2.1, kc sa3.2.2.1, kc sa3.2.2.2.1, kc sa3.2.2.2.2.1, kc sa3.2.2.2.2.2.1, kc sa3.2.2.2.2.2.2.1, kc sa3.2.2.2.2.2.2.2.1, kc sa3.2.2.2.2.2.2.2.2.1, kc sa3.2.2.2.2.2.2.2.2.2.1, kc sa3.2.2.2.2.2.2.2.2.2.2.1, kc sa3.2.2.2.2.2.2.2.2.2.2.2⟩ })
    | (go_at_call 23; have _t := Ta5; clear _t Ta5; refine (rv_mul (k := 513) (by omega) (((HP.out.1.below Ha4)).more (by omega)) ((Ra4).more (by omega))).mono ?_; rintro e wa5 ⟨va5, rfl, Ra5, hba5⟩; have Ha5 := bt Ha4 hba5; have sa5 : wa5.cell? ⟨gx, 0, none⟩ = some (.bool x1) ∧ wa5.cell? ⟨gx, 1, none⟩ = some (.int .u64 VA1) ∧ wa5.cell? ⟨gx, 2, none⟩ = some (.int .u64 VL1) ∧ wa5.cell? ⟨gx, 3, none⟩ = some (.pointer vp1) ∧ wa5.cell? ⟨gy, 0, none⟩ = some (.bool x2) ∧ wa5.cell? ⟨gy, 1, none⟩ = some (.int .u64 VA2) ∧ wa5.cell? ⟨gy, 2, none⟩ = some (.int .u64 VL2) ∧ wa5.cell? ⟨gy, 3, none⟩ = some (.pointer vp2) ∧ wa5.cell? ⟨gz, 0, none⟩ = some (.bool x3) ∧ wa5.cell? ⟨gz, 1, none⟩ = some (.int .u64 VA3) ∧ wa5.cell? ⟨gz, 2, none⟩ = some (.int .u64 VL3) ∧ wa5.cell? ⟨gz, 3, none⟩ = some (.pointer vp3) := by { have kc : ∀ {p : Addr} {v : Value}, wa4.cell? p = some v → wa5.cell? p = some v := fun {p v} h => by { rw [hba5.cell (World.block_lt_of_cell? wa4 p h)]; exact h }; exact ⟨kc sa4.1, kc sa4.2.1, kc sa4.2.2.1, kc sa4.2.2.2.1, kc sa4.2.2.2.2.1, kc sa4.2.2.2.2.2.1, kc sa4.2.2.2.2.2.2.1, kc sa4.2.2.2.2.2.2.2.1, kc sa4.2.2.2.2.2.2.2.2.1, kc sa4.2.2.2.2.2.2.2.2.2.1, kc sa4.2.2.2.2.2.2.2.2.2.2.1, kc sa4.2.2.2.2.2.2.2.2.2.2.2⟩ })
    | (go_at_call 23; have _t := Ta6; clear _t Ta6; refine (rv_mul (k := 256) (by omega) (((HP.out.1.below Ha5)).more (by omega)) (((HP.out.2.1.below Ha5)).more (by omega))).mono ?_; rintro e wa6 ⟨va6, rfl, Ra6, hba6⟩; have Ha6 := bt Ha5 hba6; have sa6 : wa6.cell? ⟨gx, 0, none⟩ = some (.bool x1) ∧ wa6.cell? ⟨gx, 1, none⟩ = some (.int .u64 VA1) ∧ wa6.cell? ⟨gx, 2, none⟩ = some (.int .u64 VL1) ∧ wa6.cell? ⟨gx, 3, none⟩ = some (.pointer vp1) ∧ wa6.cell? ⟨gy, 0, none⟩ = some (.bool x2) ∧ wa6.cell? ⟨gy, 1, none⟩ = some (.int .u64 VA2) ∧ wa6.cell? ⟨gy, 2, none⟩ = some (.int .u64 VL2) ∧ wa6.cell? ⟨gy, 3, none⟩ = some (.pointer vp2) ∧ wa6.cell? ⟨gz, 0, none⟩ = some (.bool x3) ∧ wa6.cell? ⟨gz, 1, none⟩ = some (.int .u64 VA3) ∧ wa6.cell? ⟨gz, 2, none⟩ = some (.int .u64 VL3) ∧ wa6.cell? ⟨gz, 3, none⟩ = some (.pointer vp3) := by { have kc : ∀ {p : Addr} {v : Value}, wa5.cell? p = some v → wa6.cell? p = some v := fun {p v} h => by { rw [hba6.cell (World.block_lt_of_cell? wa5 p h)]; exact h }; exact ⟨kc sa5.1, kc sa5.2.1, kc sa5.2.2.1, kc sa5.2.2.2.1, kc sa5.2.2.2.2.1, kc sa5.2.2.2.2.2.1, kc sa5.2.2.2.2.2.2.1, kc sa5.2.2.2.2.2.2.2.1, kc sa5.2.2.2.2.2.2.2.2.1, kc sa5.2.2.2.2.2.2.2.2.2.1, kc sa5.2.2.2.2.2.2.2.2.2.2.1, kc sa5.2.2.2.2.2.2.2.2.2.2.2⟩ })
    | (go_at_call 23; have _t := Ta7; clear _t Ta7; refine (rv_mul (k := 256) (by omega) (((HP.out.1.below Ha6)).more (by omega)) (((HP.out.2.2.below Ha6)).more (by omega))).mono ?_; rintro e wa7 ⟨va7, rfl, Ra7, hba7⟩; have Ha7 := bt Ha6 hba7; have sa7 : wa7.cell? ⟨gx, 0, none⟩ = some (.bool x1) ∧ wa7.cell? ⟨gx, 1, none⟩ = some (.int .u64 VA1) ∧ wa7.cell? ⟨gx, 2, none⟩ = some (.int .u64 VL1) ∧ wa7.cell? ⟨gx, 3, none⟩ = some (.pointer vp1) ∧ wa7.cell? ⟨gy, 0, none⟩ = some (.bool x2) ∧ wa7.cell? ⟨gy, 1, none⟩ = some (.int .u64 VA2) ∧ wa7.cell? ⟨gy, 2, none⟩ = some (.int .u64 VL2) ∧ wa7.cell? ⟨gy, 3, none⟩ = some (.pointer vp2) ∧ wa7.cell? ⟨gz, 0, none⟩ = some (.bool x3) ∧ wa7.cell? ⟨gz, 1, none⟩ = some (.int .u64 VA3) ∧ wa7.cell? ⟨gz, 2, none⟩ = some (.int .u64 VL3) ∧ wa7.cell? ⟨gz, 3, none⟩ = some (.pointer vp3) := by { have kc : ∀ {p : Addr} {v : Value}, wa6.cell? p = some v → wa7.cell? p = some v := fun {p v} h => by { rw [hba7.cell (World.block_lt_of_cell? wa6 p h)]; exact h }; exact ⟨kc sa6.1, kc sa6.2.1, kc sa6.2.2.1, kc sa6.2.2.2.1, kc sa6.2.2.2.2.1, kc sa6.2.2.2.2.2.1, kc sa6.2.2.2.2.2.2.1, kc sa6.2.2.2.2.2.2.2.1, kc sa6.2.2.2.2.2.2.2.2.1, kc sa6.2.2.2.2.2.2.2.2.2.1, kc sa6.2.2.2.2.2.2.2.2.2.2.1, kc sa6.2.2.2.2.2.2.2.2.2.2.2⟩ })
    | (go_at_call 19; refine (rv_add (k := 512) (by omega) (((Ra6.below hba7)).more (by omega)) ((Ra7).more (by omega))).mono ?_; rintro e wa8 ⟨va8, rfl, Ra8, hba8⟩; have Ha8 := bt Ha7 hba8; have sa8 : wa8.cell? ⟨gx, 0, none⟩ = some (.bool x1) ∧ wa8.cell? ⟨gx, 1, none⟩ = some (.int .u64 VA1) ∧ wa8.cell? ⟨gx, 2, none⟩ = some (.int .u64 VL1) ∧ wa8.cell? ⟨gx, 3, none⟩ = some (.pointer vp1) ∧ wa8.cell? ⟨gy, 0, none⟩ = some (.bool x2) ∧ wa8.cell? ⟨gy, 1, none⟩ = some (.int .u64 VA2) ∧ wa8.cell? ⟨gy, 2, none⟩ = some (.int .u64 VL2) ∧ wa8.cell? ⟨gy, 3, none⟩ = some (.pointer vp2) ∧ wa8.cell? ⟨gz, 0, none⟩ = some (.bool x3) ∧ wa8.cell? ⟨gz, 1, none⟩ = some (.int .u64 VA3) ∧ wa8.cell? ⟨gz, 2, none⟩ = some (.int .u64 VL3) ∧ wa8.cell? ⟨gz, 3, none⟩ = some (.pointer vp3) := by { have kc : ∀ {p : Addr} {v : Value}, wa7.cell? p = some v → wa8.cell? p = some v := fun {p v} h => by { rw [hba8.cell (World.block_lt_of_cell? wa7 p h)]; exact h }; exact ⟨kc sa7.1, kc sa7.2.1, kc sa7.2.2.1, kc sa7.2.2.2.1, kc sa7.2.2.2.2.1, kc sa7.2.2.2.2.2.1, kc sa7.2.2.2.2.2.2.1, kc sa7.2.2.2.2.2.2.2.1, kc sa7.2.2.2.2.2.2.2.2.1, kc sa7.2.2.2.2.2.2.2.2.2.1, kc sa7.2.2.2.2.2.2.2.2.2.2.1, kc sa7.2.2.2.2.2.2.2.2.2.2.2⟩ })
    | (go_at_call 17; have _t := Ta9; clear _t Ta9; refine (rv_cmp0 (by omega) (by omega) ((((Ra5.below hba6).below hba7).below hba8)) (Ra8) (by grind)).mono ?_; rintro e wa9 ⟨rfl, hba9⟩; have Ha9 := bt Ha8 hba9; have sa9 : wa9.cell? ⟨gx, 0, none⟩ = some (.bool x1) ∧ wa9.cell? ⟨gx, 1, none⟩ = some (.int .u64 VA1) ∧ wa9.cell? ⟨gx, 2, none⟩ = some (.int .u64 VL1) ∧ wa9.cell? ⟨gx, 3, none⟩ = some (.pointer vp1) ∧ wa9.cell? ⟨gy, 0, none⟩ = some (.bool x2) ∧ wa9.cell? ⟨gy, 1, none⟩ = some (.int .u64 VA2) ∧ wa9.cell? ⟨gy, 2, none⟩ = some (.int .u64 VL2) ∧ wa9.cell? ⟨gy, 3, none⟩ = some (.pointer vp2) ∧ wa9.cell? ⟨gz, 0, none⟩ = some (.bool x3) ∧ wa9.cell? ⟨gz, 1, none⟩ = some (.int .u64 VA3) ∧ wa9.cell? ⟨gz, 2, none⟩ = some (.int .u64 VL3) ∧ wa9.cell? ⟨gz, 3, none⟩ = some (.pointer vp3) := by { have kc : ∀ {p : Addr} {v : Value}, wa8.cell? p = some v → wa9.cell? p = some v := fun {p v} h => by { rw [hba9.cell (World.block_lt_of_cell? wa8 p h)]; exact h }; exact ⟨kc sa8.1, kc sa8.2.1, kc sa8.2.2.1, kc sa8.2.2.2.1, kc sa8.2.2.2.2.1, kc sa8.2.2.2.2.2.1, kc sa8.2.2.2.2.2.2.1, kc sa8.2.2.2.2.2.2.2.1, kc sa8.2.2.2.2.2.2.2.2.1, kc sa8.2.2.2.2.2.2.2.2.2.1, kc sa8.2.2.2.2.2.2.2.2.2.2.1, kc sa8.2.2.2.2.2.2.2.2.2.2.2⟩ })
    | (go_at_call 23; have _t := Ta10; clear _t Ta10; refine (rv_mul (k := 256) (by omega) (((HP.out.1.below Ha9)).more (by omega)) (((HP.out.2.1.below Ha9)).more (by omega))).mono ?_; rintro e wa10 ⟨va10, rfl, Ra10, hba10⟩; have Ha10 := bt Ha9 hba10; have sa10 : wa10.cell? ⟨gx, 0, none⟩ = some (.bool x1) ∧ wa10.cell? ⟨gx, 1, none⟩ = some (.int .u64 VA1) ∧ wa10.cell? ⟨gx, 2, none⟩ = some (.int .u64 VL1) ∧ wa10.cell? ⟨gx, 3, none⟩ = some (.pointer vp1) ∧ wa10.cell? ⟨gy, 0, none⟩ = some (.bool x2) ∧ wa10.cell? ⟨gy, 1, none⟩ = some (.int .u64 VA2) ∧ wa10.cell? ⟨gy, 2, none⟩ = some (.int .u64 VL2) ∧ wa10.cell? ⟨gy, 3, none⟩ = some (.pointer vp2) ∧ wa10.cell? ⟨gz, 0, none⟩ = some (.bool x3) ∧ wa10.cell? ⟨gz, 1, none⟩ = some (.int .u64 VA3) ∧ wa10.cell? ⟨gz, 2, none⟩ = some (.int .u64 VL3) ∧ wa10.cell? ⟨gz, 3, none⟩ = some (.pointer vp3) := by { have kc : ∀ {p : Addr} {v : Value}, wa9.cell? p = some v → wa10.cell? p = some v := fun {p v} h => by { rw [hba10.cell (World.block_lt_of_cell? wa9 p h)]; exact h }; exact ⟨kc sa9.1, kc sa9.2.1, kc sa9.2.2.1, kc sa9.2.2.2.1, kc sa9.2.2.2.2.1, kc sa9.2.2.2.2.2.1, kc sa9.2.2.2.2.2.2.1, kc sa9.2.2.2.2.2.2.2.1, kc sa9.2.2.2.2.2.2.2.2.1, kc sa9.2.2.2.2.2.2.2.2.2.1, kc sa9.2.2.2.2.2.2.2.2.2.2.1, kc sa9.2.2.2.2.2.2.2.2.2.2.2⟩ })
    | (go_at_call 23; have _t := Ta11; clear _t Ta11; refine (rv_mul (k := 512) (by omega) ((Ra10).more (by omega)) (((HP.out.2.2.below Ha10)).more (by omega))).mono ?_; rintro e wa11 ⟨va11, rfl, Ra11, hba11⟩; have Ha11 := bt Ha10 hba11; have sa11 : wa11.cell? ⟨gx, 0, none⟩ = some (.bool x1) ∧ wa11.cell? ⟨gx, 1, none⟩ = some (.int .u64 VA1) ∧ wa11.cell? ⟨gx, 2, none⟩ = some (.int .u64 VL1) ∧ wa11.cell? ⟨gx, 3, none⟩ = some (.pointer vp1) ∧ wa11.cell? ⟨gy, 0, none⟩ = some (.bool x2) ∧ wa11.cell? ⟨gy, 1, none⟩ = some (.int .u64 VA2) ∧ wa11.cell? ⟨gy, 2, none⟩ = some (.int .u64 VL2) ∧ wa11.cell? ⟨gy, 3, none⟩ = some (.pointer vp2) ∧ wa11.cell? ⟨gz, 0, none⟩ = some (.bool x3) ∧ wa11.cell? ⟨gz, 1, none⟩ = some (.int .u64 VA3) ∧ wa11.cell? ⟨gz, 2, none⟩ = some (.int .u64 VL3) ∧ wa11.cell? ⟨gz, 3, none⟩ = some (.pointer vp3) := by { have kc : ∀ {p : Addr} {v : Value}, wa10.cell? p = some v → wa11.cell? p = some v := fun {p v} h => by { rw [hba11.cell (World.block_lt_of_cell? wa10 p h)]; exact h }; exact ⟨kc sa10.1, kc sa10.2.1, kc sa10.2.2.1, kc sa10.2.2.2.1, kc sa10.2.2.2.2.1, kc sa10.2.2.2.2.2.1, kc sa10.2.2.2.2.2.2.1, kc sa10.2.2.2.2.2.2.2.1, kc sa10.2.2.2.2.2.2.2.2.1, kc sa10.2.2.2.2.2.2.2.2.2.1, kc sa10.2.2.2.2.2.2.2.2.2.2.1, kc sa10.2.2.2.2.2.2.2.2.2.2.2⟩ })
    | (go_at_call 23; have _t := Ta12; clear _t Ta12; refine (rv_mul (k := 256) (by omega) (((HP.out.2.1.below Ha11)).more (by omega)) (((HP.out.2.2.below Ha11)).more (by omega))).mono ?_; rintro e wa12 ⟨va12, rfl, Ra12, hba12⟩; have Ha12 := bt Ha11 hba12; have sa12 : wa12.cell? ⟨gx, 0, none⟩ = some (.bool x1) ∧ wa12.cell? ⟨gx, 1, none⟩ = some (.int .u64 VA1) ∧ wa12.cell? ⟨gx, 2, none⟩ = some (.int .u64 VL1) ∧ wa12.cell? ⟨gx, 3, none⟩ = some (.pointer vp1) ∧ wa12.cell? ⟨gy, 0, none⟩ = some (.bool x2) ∧ wa12.cell? ⟨gy, 1, none⟩ = some (.int .u64 VA2) ∧ wa12.cell? ⟨gy, 2, none⟩ = some (.int .u64 VL2) ∧ wa12.cell? ⟨gy, 3, none⟩ = some (.pointer vp2) ∧ wa12.cell? ⟨gz, 0, none⟩ = some (.bool x3) ∧ wa12.cell? ⟨gz, 1, none⟩ = some (.int .u64 VA3) ∧ wa12.cell? ⟨gz, 2, none⟩ = some (.int .u64 VL3) ∧ wa12.cell? ⟨gz, 3, none⟩ = some (.pointer vp3) := by { have kc : ∀ {p : Addr} {v : Value}, wa11.cell? p = some v → wa12.cell? p = some v := fun {p v} h => by { rw [hba12.cell (World.block_lt_of_cell? wa11 p h)]; exact h }; exact ⟨kc sa11.1, kc sa11.2.1, kc sa11.2.2.1, kc sa11.2.2.2.1, kc sa11.2.2.2.2.1, kc sa11.2.2.2.2.2.1, kc sa11.2.2.2.2.2.2.1, kc sa11.2.2.2.2.2.2.2.1, kc sa11.2.2.2.2.2.2.2.2.1, kc sa11.2.2.2.2.2.2.2.2.2.1, kc sa11.2.2.2.2.2.2.2.2.2.2.1, kc sa11.2.2.2.2.2.2.2.2.2.2.2⟩ })
    | (go_at_call 23; refine (rv_mul (k := 512) (by omega) (((HP.out.1.below Ha12)).more (by omega)) ((Ra12).more (by omega))).mono ?_; rintro e wa13 ⟨va13, rfl, Ra13, hba13⟩; have Ha13 := bt Ha12 hba13; have sa13 : wa13.cell? ⟨gx, 0, none⟩ = some (.bool x1) ∧ wa13.cell? ⟨gx, 1, none⟩ = some (.int .u64 VA1) ∧ wa13.cell? ⟨gx, 2, none⟩ = some (.int .u64 VL1) ∧ wa13.cell? ⟨gx, 3, none⟩ = some (.pointer vp1) ∧ wa13.cell? ⟨gy, 0, none⟩ = some (.bool x2) ∧ wa13.cell? ⟨gy, 1, none⟩ = some (.int .u64 VA2) ∧ wa13.cell? ⟨gy, 2, none⟩ = some (.int .u64 VL2) ∧ wa13.cell? ⟨gy, 3, none⟩ = some (.pointer vp2) ∧ wa13.cell? ⟨gz, 0, none⟩ = some (.bool x3) ∧ wa13.cell? ⟨gz, 1, none⟩ = some (.int .u64 VA3) ∧ wa13.cell? ⟨gz, 2, none⟩ = some (.int .u64 VL3) ∧ wa13.cell? ⟨gz, 3, none⟩ = some (.pointer vp3) := by { have kc : ∀ {p : Addr} {v : Value}, wa12.cell? p = some v → wa13.cell? p = some v := fun {p v} h => by { rw [hba13.cell (World.block_lt_of_cell? wa12 p h)]; exact h }; exact ⟨kc sa12.1, kc sa12.2.1, kc sa12.2.2.1, kc sa12.2.2.2.1, kc sa12.2.2.2.2.1, kc sa12.2.2.2.2.2.1, kc sa12.2.2.2.2.2.2.1, kc sa12.2.2.2.2.2.2.2.1, kc sa12.2.2.2.2.2.2.2.2.1, kc sa12.2.2.2.2.2.2.2.2.2.1, kc sa12.2.2.2.2.2.2.2.2.2.2.1, kc sa12.2.2.2.2.2.2.2.2.2.2.2⟩ })
    | (go_at_call 17; refine (rv_cmp0 (by omega) (by omega) (((Ra11.below hba12).below hba13)) (Ra13) (by grind)).mono ?_; rintro e wa14 ⟨rfl, hba14⟩; have Ha14 := bt Ha13 hba14; have sa14 : wa14.cell? ⟨gx, 0, none⟩ = some (.bool x1) ∧ wa14.cell? ⟨gx, 1, none⟩ = some (.int .u64 VA1) ∧ wa14.cell? ⟨gx, 2, none⟩ = some (.int .u64 VL1) ∧ wa14.cell? ⟨gx, 3, none⟩ = some (.pointer vp1) ∧ wa14.cell? ⟨gy, 0, none⟩ = some (.bool x2) ∧ wa14.cell? ⟨gy, 1, none⟩ = some (.int .u64 VA2) ∧ wa14.cell? ⟨gy, 2, none⟩ = some (.int .u64 VL2) ∧ wa14.cell? ⟨gy, 3, none⟩ = some (.pointer vp2) ∧ wa14.cell? ⟨gz, 0, none⟩ = some (.bool x3) ∧ wa14.cell? ⟨gz, 1, none⟩ = some (.int .u64 VA3) ∧ wa14.cell? ⟨gz, 2, none⟩ = some (.int .u64 VL3) ∧ wa14.cell? ⟨gz, 3, none⟩ = some (.pointer vp3) := by { have kc : ∀ {p : Addr} {v : Value}, wa13.cell? p = some v → wa14.cell? p = some v := fun {p v} h => by { rw [hba14.cell (World.block_lt_of_cell? wa13 p h)]; exact h }; exact ⟨kc sa13.1, kc sa13.2.1, kc sa13.2.2.1, kc sa13.2.2.2.1, kc sa13.2.2.2.2.1, kc sa13.2.2.2.2.2.1, kc sa13.2.2.2.2.2.2.1, kc sa13.2.2.2.2.2.2.2.1, kc sa13.2.2.2.2.2.2.2.2.1, kc sa13.2.2.2.2.2.2.2.2.2.1, kc sa13.2.2.2.2.2.2.2.2.2.2.1, kc sa13.2.2.2.2.2.2.2.2.2.2.2⟩ }))
  have Da : Below wa14.heap.size wa14 wa14.drew := (Below.refl _ _).drew
  have X4 : Hid (RL wa14 gx x1 n1 d1 VA1 VL1 vp1) := X3.out.kept Ha14
  have Y4 : Hid (RL wa14 gy x2 n2 d2 VA2 VL2 vp2) := Y3.out.kept Ha14
  have HP4 : Hid (RV wa14.drew (.agg #[.bool x1, .int .u64 VA1, .int .u64 VL1, .pointer vp1]) (sv x1 n1) d1 256 ∧ RV wa14.drew (.agg #[.bool x2, .int .u64 VA2, .int .u64 VL2, .pointer vp2]) (sv x2 n2) d2 256 ∧ RV wa14.drew (.agg #[.bool x3, .int .u64 VA3, .int .u64 VL3, .pointer vp3]) (sv x3 n3) d3 256) := ⟨(HP.out.1.below Ha14).below Da, (HP.out.2.1.below Ha14).below Da, (HP.out.2.2.below Ha14).below Da⟩
  have C4 : Hid (Below w.heap.size w wa14) := bt C3.out Ha14
  have t0 : wa14.drew.cell? ⟨gx, 0, none⟩ = some (.bool x1) ∧ wa14.drew.cell? ⟨gx, 1, none⟩ = some (.int .u64 VA1) ∧ wa14.drew.cell? ⟨gx, 2, none⟩ = some (.int .u64 VL1) ∧ wa14.drew.cell? ⟨gx, 3, none⟩ = some (.pointer vp1) ∧ wa14.drew.cell? ⟨gy, 0, none⟩ = some (.bool x2) ∧ wa14.drew.cell? ⟨gy, 1, none⟩ = some (.int .u64 VA2) ∧ wa14.drew.cell? ⟨gy, 2, none⟩ = some (.int .u64 VL2) ∧ wa14.drew.cell? ⟨gy, 3, none⟩ = some (.pointer vp2) ∧ wa14.drew.cell? ⟨gz, 0, none⟩ = some (.bool x3) ∧ wa14.drew.cell? ⟨gz, 1, none⟩ = some (.int .u64 VA3) ∧ wa14.drew.cell? ⟨gz, 2, none⟩ = some (.int .u64 VL3) ∧ wa14.drew.cell? ⟨gz, 3, none⟩ = some (.pointer vp3) := sa14
  clear X3 Y3 Z3 C3 HP s0 sa0 sa1 sa2 sa3 sa4 sa5 sa6 sa7 sa8 sa9 sa10 sa11 sa12 sa13 sa14 Ha0 Ha1 Ha2 Ha3 Ha4 Ha5 Ha6 Ha7 Ha8 Ha9 Ha10 Ha11 Ha12 Ha13 Ha14 hba0 hba1 hba2 hba3 hba4 hba5 hba6 hba7 hba8 hba9 hba10 hba11 hba12 hba13 hba14 Ra1 Ra2 Ra4 Ra5 Ra6 Ra7 Ra8 Ra10 Ra11 Ra12 Ra13 Da
  all_goals go_wp2
  have HP := HP4
  clear HP4
  go_cut [85] from 72 to 84 (fun v85 wx => v85 = .bool false ∧ Hid (Below wa14.heap.size wa14 wx))
  case first =>
    have Db : Below wa14.heap.size wa14 wa14.drew := (Below.refl _ _).drew
    have cK := fun (W : World) (h : RV W (.agg #[.bool x1, .int .u64 VA1, .int .u64 VL1, .pointer vp1]) (sv x1 n1) d1 256) (h' : RV W (.agg #[.bool x2, .int .u64 VA2, .int .u64 VL2, .pointer vp2]) (sv x2 n2) d2 256) => rv_cmp (by omega) (by omega) h h'
    have hKle : cmpI (sv x1 n1 * d2) (sv x2 n2 * d1) ≤ 0 → sv x1 n1 * (d2 : Int) ≤ sv x2 n2 * d1 := fun h => by
      unfold cmpI at h
      split at h
      · omega
      · split at h <;> omega
    generalize cmpI (sv x1 n1 * d2) (sv x2 n2 * d1) = c0 at *
    by_cases hc : c0 ≤ 0
    · have hm := mono3 (sv x3 n3) (d3 : Int) (hKle hc) HP.out.2.2.1
      have HM : Hid ((sv x1 n1 * d3 + sv x3 n3 * d1) * ((d2 : Int) * d3) ≤ (sv x2 n2 * d3 + sv x3 n3 * d2) * ((d1 : Int) * d3)) := hm
      clear hm hKle
      have Tb0 : True := trivial
      have Tb1 : True := trivial
      go_region_held3 (fun w' => w'.cell? ⟨gx, 0, none⟩ = some (.bool x1) ∧ w'.cell? ⟨gx, 1, none⟩ = some (.int .u64 VA1) ∧ w'.cell? ⟨gx, 2, none⟩ = some (.int .u64 VL1) ∧ w'.cell? ⟨gx, 3, none⟩ = some (.pointer vp1) ∧ w'.cell? ⟨gy, 0, none⟩ = some (.bool x2) ∧ w'.cell? ⟨gy, 1, none⟩ = some (.int .u64 VA2) ∧ w'.cell? ⟨gy, 2, none⟩ = some (.int .u64 VL2) ∧ w'.cell? ⟨gy, 3, none⟩ = some (.pointer vp2) ∧ w'.cell? ⟨gz, 0, none⟩ = some (.bool x3) ∧ w'.cell? ⟨gz, 1, none⟩ = some (.int .u64 VA3) ∧ w'.cell? ⟨gz, 2, none⟩ = some (.int .u64 VL3) ∧ w'.cell? ⟨gz, 3, none⟩ = some (.pointer vp3)) (first | with_reducible exact t0 | with_reducible exact sb0 | with_reducible exact sb1 | with_reducible exact sb2 | with_reducible exact sb3) (first
        | (go_at_call 17; have _t := Tb0; clear _t Tb0; refine (cK _ HP.out.1 HP.out.2.1).mono ?_; rintro e wb0 ⟨rfl, hbb0⟩; have Hb0 := hbb0; have sb0 : wb0.cell? ⟨gx, 0, none⟩ = some (.bool x1) ∧ wb0.cell? ⟨gx, 1, none⟩ = some (.int .u64 VA1) ∧ wb0.cell? ⟨gx, 2, none⟩ = some (.int .u64 VL1) ∧ wb0.cell? ⟨gx, 3, none⟩ = some (.pointer vp1) ∧ wb0.cell? ⟨gy, 0, none⟩ = some (.bool x2) ∧ wb0.cell? ⟨gy, 1, none⟩ = some (.int .u64 VA2) ∧ wb0.cell? ⟨gy, 2, none⟩ = some (.int .u64 VL2) ∧ wb0.cell? ⟨gy, 3, none⟩ = some (.pointer vp2) ∧ wb0.cell? ⟨gz, 0, none⟩ = some (.bool x3) ∧ wb0.cell? ⟨gz, 1, none⟩ = some (.int .u64 VA3) ∧ wb0.cell? ⟨gz, 2, none⟩ = some (.int .u64 VL3) ∧ wb0.cell? ⟨gz, 3, none⟩ = some (.pointer vp3) := by { have kc : ∀ {p : Addr} {v : Value}, wa14.drew.cell? p = some v → wb0.cell? p = some v := fun {p v} h => by { rw [hbb0.cell (World.block_lt_of_cell? wa14.drew p h)]; exact h }; exact ⟨kc t0.1, kc t0.2.1, kc t0.2.2.1, kc t0.2.2.2.1, kc t0.2.2.2.2.1, kc t0.2.2.2.2.2.1, kc t0.2.2.2.2.2.2.1, kc t0.2.2.2.2.2.2.2.1, kc t0.2.2.2.2.2.2.2.2.1, kc t0.2.2.2.2.2.2.2.2.2.1, kc t0.2.2.2.2.2.2.2.2.2.2.1, kc t0.2.2.2.2.2.2.2.2.2.2.2⟩ })
        | (go_at_call 19; have _t := Tb1; clear _t Tb1; refine (rv_add (k := 256) (by omega) (HP.out.1.below Hb0) (HP.out.2.2.below Hb0)).mono ?_; rintro e wb1 ⟨vb1, rfl, Rb1, hbb1⟩; have Hb1 := bt Hb0 hbb1; have sb1 : wb1.cell? ⟨gx, 0, none⟩ = some (.bool x1) ∧ wb1.cell? ⟨gx, 1, none⟩ = some (.int .u64 VA1) ∧ wb1.cell? ⟨gx, 2, none⟩ = some (.int .u64 VL1) ∧ wb1.cell? ⟨gx, 3, none⟩ = some (.pointer vp1) ∧ wb1.cell? ⟨gy, 0, none⟩ = some (.bool x2) ∧ wb1.cell? ⟨gy, 1, none⟩ = some (.int .u64 VA2) ∧ wb1.cell? ⟨gy, 2, none⟩ = some (.int .u64 VL2) ∧ wb1.cell? ⟨gy, 3, none⟩ = some (.pointer vp2) ∧ wb1.cell? ⟨gz, 0, none⟩ = some (.bool x3) ∧ wb1.cell? ⟨gz, 1, none⟩ = some (.int .u64 VA3) ∧ wb1.cell? ⟨gz, 2, none⟩ = some (.int .u64 VL3) ∧ wb1.cell? ⟨gz, 3, none⟩ = some (.pointer vp3) := by { have kc : ∀ {p : Addr} {v : Value}, wb0.cell? p = some v → wb1.cell? p = some v := fun {p v} h => by { rw [hbb1.cell (World.block_lt_of_cell? wb0 p h)]; exact h }; exact ⟨kc sb0.1, kc sb0.2.1, kc sb0.2.2.1, kc sb0.2.2.2.1, kc sb0.2.2.2.2.1, kc sb0.2.2.2.2.2.1, kc sb0.2.2.2.2.2.2.1, kc sb0.2.2.2.2.2.2.2.1, kc sb0.2.2.2.2.2.2.2.2.1, kc sb0.2.2.2.2.2.2.2.2.2.1, kc sb0.2.2.2.2.2.2.2.2.2.2.1, kc sb0.2.2.2.2.2.2.2.2.2.2.2⟩ })
        | (go_at_call 19; refine (rv_add (k := 256) (by omega) (HP.out.2.1.below Hb1) (HP.out.2.2.below Hb1)).mono ?_; rintro e wb2 ⟨vb2, rfl, Rb2, hbb2⟩; have Hb2 := bt Hb1 hbb2; have sb2 : wb2.cell? ⟨gx, 0, none⟩ = some (.bool x1) ∧ wb2.cell? ⟨gx, 1, none⟩ = some (.int .u64 VA1) ∧ wb2.cell? ⟨gx, 2, none⟩ = some (.int .u64 VL1) ∧ wb2.cell? ⟨gx, 3, none⟩ = some (.pointer vp1) ∧ wb2.cell? ⟨gy, 0, none⟩ = some (.bool x2) ∧ wb2.cell? ⟨gy, 1, none⟩ = some (.int .u64 VA2) ∧ wb2.cell? ⟨gy, 2, none⟩ = some (.int .u64 VL2) ∧ wb2.cell? ⟨gy, 3, none⟩ = some (.pointer vp2) ∧ wb2.cell? ⟨gz, 0, none⟩ = some (.bool x3) ∧ wb2.cell? ⟨gz, 1, none⟩ = some (.int .u64 VA3) ∧ wb2.cell? ⟨gz, 2, none⟩ = some (.int .u64 VL3) ∧ wb2.cell? ⟨gz, 3, none⟩ = some (.pointer vp3) := by { have kc : ∀ {p : Addr} {v : Value}, wb1.cell? p = some v → wb2.cell? p = some v := fun {p v} h => by { rw [hbb2.cell (World.block_lt_of_cell? wb1 p h)]; exact h }; exact ⟨kc sb1.1, kc sb1.2.1, kc sb1.2.2.1, kc sb1.2.2.2.1, kc sb1.2.2.2.2.1, kc sb1.2.2.2.2.2.1, kc sb1.2.2.2.2.2.2.1, kc sb1.2.2.2.2.2.2.2.1, kc sb1.2.2.2.2.2.2.2.2.1, kc sb1.2.2.2.2.2.2.2.2.2.1, kc sb1.2.2.2.2.2.2.2.2.2.2.1, kc sb1.2.2.2.2.2.2.2.2.2.2.2⟩ })
        | (go_at_call 17; refine (rv_cmpl (by omega) (by omega) (Rb1.below hbb2) Rb2 HM.out).mono ?_; rintro e wb3 ⟨cb3, rfl, hdb3, hbb3⟩; have Hb3 := bt Hb2 hbb3; have sb3 : wb3.cell? ⟨gx, 0, none⟩ = some (.bool x1) ∧ wb3.cell? ⟨gx, 1, none⟩ = some (.int .u64 VA1) ∧ wb3.cell? ⟨gx, 2, none⟩ = some (.int .u64 VL1) ∧ wb3.cell? ⟨gx, 3, none⟩ = some (.pointer vp1) ∧ wb3.cell? ⟨gy, 0, none⟩ = some (.bool x2) ∧ wb3.cell? ⟨gy, 1, none⟩ = some (.int .u64 VA2) ∧ wb3.cell? ⟨gy, 2, none⟩ = some (.int .u64 VL2) ∧ wb3.cell? ⟨gy, 3, none⟩ = some (.pointer vp2) ∧ wb3.cell? ⟨gz, 0, none⟩ = some (.bool x3) ∧ wb3.cell? ⟨gz, 1, none⟩ = some (.int .u64 VA3) ∧ wb3.cell? ⟨gz, 2, none⟩ = some (.int .u64 VL3) ∧ wb3.cell? ⟨gz, 3, none⟩ = some (.pointer vp3) := by { have kc : ∀ {p : Addr} {v : Value}, wb2.cell? p = some v → wb3.cell? p = some v := fun {p v} h => by { rw [hbb3.cell (World.block_lt_of_cell? wb2 p h)]; exact h }; exact ⟨kc sb2.1, kc sb2.2.1, kc sb2.2.2.1, kc sb2.2.2.2.1, kc sb2.2.2.2.2.1, kc sb2.2.2.2.2.2.1, kc sb2.2.2.2.2.2.2.1, kc sb2.2.2.2.2.2.2.2.1, kc sb2.2.2.2.2.2.2.2.2.1, kc sb2.2.2.2.2.2.2.2.2.2.1, kc sb2.2.2.2.2.2.2.2.2.2.2.1, kc sb2.2.2.2.2.2.2.2.2.2.2.2⟩ }))
      all_goals go_wp2
      go_meet
      exact ⟨by rw [decide_eq_false (by omega)], bt Db Hb3⟩
    · have hcd : decide (c0 ≤ 0) = false := decide_eq_false hc
      clear hKle
      refine wp_region_held_drew (S := (fun w' => w'.cell? ⟨gx, 0, none⟩ = some (.bool x1) ∧ w'.cell? ⟨gx, 1, none⟩ = some (.int .u64 VA1) ∧ w'.cell? ⟨gx, 2, none⟩ = some (.int .u64 VL1) ∧ w'.cell? ⟨gx, 3, none⟩ = some (.pointer vp1) ∧ w'.cell? ⟨gy, 0, none⟩ = some (.bool x2) ∧ w'.cell? ⟨gy, 1, none⟩ = some (.int .u64 VA2) ∧ w'.cell? ⟨gy, 2, none⟩ = some (.int .u64 VL2) ∧ w'.cell? ⟨gy, 3, none⟩ = some (.pointer vp2) ∧ w'.cell? ⟨gz, 0, none⟩ = some (.bool x3) ∧ w'.cell? ⟨gz, 1, none⟩ = some (.int .u64 VA3) ∧ w'.cell? ⟨gz, 2, none⟩ = some (.int .u64 VL3) ∧ w'.cell? ⟨gz, 3, none⟩ = some (.pointer vp3))) (by kernel_rfl) ?_ (fun hHeld => ?_)
      · exact t0
      refine wpAnyH_take (i := 0) (oi := { dst := some 72, op := Op.load 28 (Operand.tmp 7), type := 28, pos := "law.go:181", after := #[], guard := none }) (v := ?vf0) rfl (by kernel_rfl) (by kernel_rfl) (by kernel_rfl) (fun _ _ _ h => h) (Or.inl ⟨by rfl, ?hyf0⟩) hHeld ?restf0
      case hyf0 =>
        intro w hSw
        (try dsimp only at hSw)
        first | (go_simp; done) | (go_simp; with_reducible rfl) | with_reducible rfl | rfl
      simp only [Act.put, List.setIfInBounds_toArray, List.set_cons_zero, List.set_cons_succ]
      refine wpAnyH_take (i := 1) (oi := { dst := some 73, op := Op.load 28 (Operand.tmp 9), type := 28, pos := "law.go:181", after := #[], guard := none }) (v := ?vf1) rfl (by kernel_rfl) (by kernel_rfl) (by kernel_rfl) (fun _ _ _ h => h) (Or.inl ⟨by rfl, ?hyf1⟩) hHeld ?restf1
      case hyf1 =>
        intro w hSw
        (try dsimp only at hSw)
        first | (go_simp; done) | (go_simp; with_reducible rfl) | with_reducible rfl | rfl
      simp only [Act.put, List.setIfInBounds_toArray, List.set_cons_zero, List.set_cons_succ]
      refine wpAnyH_ready (rs := [2]) (by kernel_rfl) (by simp) ?_
      refine AllReadyH.cons (o := { dst := some 74, op := Op.call { callee := Callee.value (Operand.func 17), args := #[Operand.tmp 72, Operand.tmp 73], argTypes := #[28, 28] }, type := 3, pos := "law.go:181", after := #[{ on := 0, ground := Ground.data }, { on := 1, ground := Ground.data }], guard := none }) rfl (fun K hK => ?_) AllReadyH.nil
      go_simp
      (go_at_call 17; refine (cK _ HP.out.1 HP.out.2.1).mono ?_; rintro e w5 ⟨rfl, hb5⟩; have t1 : w5.cell? ⟨gx, 0, none⟩ = some (.bool x1) ∧ w5.cell? ⟨gx, 1, none⟩ = some (.int .u64 VA1) ∧ w5.cell? ⟨gx, 2, none⟩ = some (.int .u64 VL1) ∧ w5.cell? ⟨gx, 3, none⟩ = some (.pointer vp1) ∧ w5.cell? ⟨gy, 0, none⟩ = some (.bool x2) ∧ w5.cell? ⟨gy, 1, none⟩ = some (.int .u64 VA2) ∧ w5.cell? ⟨gy, 2, none⟩ = some (.int .u64 VL2) ∧ w5.cell? ⟨gy, 3, none⟩ = some (.pointer vp2) ∧ w5.cell? ⟨gz, 0, none⟩ = some (.bool x3) ∧ w5.cell? ⟨gz, 1, none⟩ = some (.int .u64 VA3) ∧ w5.cell? ⟨gz, 2, none⟩ = some (.int .u64 VL3) ∧ w5.cell? ⟨gz, 3, none⟩ = some (.pointer vp3) := by { have kc : ∀ {p : Addr} {v : Value}, wa14.drew.cell? p = some v → w5.cell? p = some v := fun {p v} h => by { rw [hb5.cell (World.block_lt_of_cell? wa14.drew p h)]; exact h }; exact ⟨kc t0.1, kc t0.2.1, kc t0.2.2.1, kc t0.2.2.2.1, kc t0.2.2.2.2.1, kc t0.2.2.2.2.2.1, kc t0.2.2.2.2.2.2.1, kc t0.2.2.2.2.2.2.2.1, kc t0.2.2.2.2.2.2.2.2.1, kc t0.2.2.2.2.2.2.2.2.2.1, kc t0.2.2.2.2.2.2.2.2.2.2.1, kc t0.2.2.2.2.2.2.2.2.2.2.2⟩ })
      first | go_wp2 | skip
      refine hK.out _ _ ?_ (fun hHeld2 => ?_)
      · exact t1
      clear hK K hHeld
      have hHeld := hHeld2
      clear hHeld2
      refine wpAnyH_take (i := 3) (oi := { dst := some 75, op := Op.binOp BinOp.leq 3 (Operand.tmp 74) (Operand.const (Value.int IntKind.i64 0)) 3, type := 4, pos := "law.go:181", after := #[{ on := 2, ground := Ground.data }], guard := none }) (v := ?vf3) rfl (by kernel_rfl) (by kernel_rfl) (by kernel_rfl) (fun _ _ _ h => h) (Or.inl ⟨by rfl, ?hyf3⟩) hHeld ?restf3
      case hyf3 =>
        intro w hSw
        (try dsimp only at hSw)
        first | (go_simp; done) | (go_simp; with_reducible rfl) | with_reducible rfl | rfl
      simp only [Act.put, List.setIfInBounds_toArray, List.set_cons_zero, List.set_cons_succ]
      refine wpAnyH_take (i := 4) (oi := { dst := some 76, op := Op.move (Operand.tmp 75), type := 4, pos := "law.go:181", after := #[{ on := 3, ground := Ground.data }, { on := 2, ground := Ground.chain }], guard := none }) (v := ?vf4) rfl (by kernel_rfl) (by kernel_rfl) (by kernel_rfl) (fun _ _ _ h => h) (Or.inl ⟨by rfl, ?hyf4⟩) hHeld ?restf4
      case hyf4 =>
        intro w hSw
        (try dsimp only at hSw)
        first | (go_simp; done) | (go_simp; with_reducible rfl) | with_reducible rfl | rfl
      simp only [Act.put, List.setIfInBounds_toArray, List.set_cons_zero, List.set_cons_succ]
      refine wpAnyH_take (i := 5) (oi := { dst := some 77, op := Op.load 28 (Operand.tmp 7), type := 28, pos := "law.go:181", after := #[{ on := 4, ground := Ground.guard }], guard := some (4, true) }) (v := undef) rfl (by kernel_rfl) (by kernel_rfl) (by kernel_rfl) (fun _ _ _ h => h) (Or.inr ⟨by rfl, rfl⟩) hHeld ?restf5
      simp only [Act.put, List.setIfInBounds_toArray, List.set_cons_zero, List.set_cons_succ]
      refine wpAnyH_take (i := 6) (oi := { dst := some 78, op := Op.load 28 (Operand.tmp 11), type := 28, pos := "law.go:181", after := #[{ on := 4, ground := Ground.guard }], guard := some (4, true) }) (v := undef) rfl (by kernel_rfl) (by kernel_rfl) (by kernel_rfl) (fun _ _ _ h => h) (Or.inr ⟨by rfl, rfl⟩) hHeld ?restf6
      simp only [Act.put, List.setIfInBounds_toArray, List.set_cons_zero, List.set_cons_succ]
      refine wpAnyH_take (i := 7) (oi := { dst := some 79, op := Op.call { callee := Callee.value (Operand.func 19), args := #[Operand.tmp 77, Operand.tmp 78], argTypes := #[28, 28] }, type := 28, pos := "law.go:181", after := #[{ on := 5, ground := Ground.data }, { on := 6, ground := Ground.data }, { on := 4, ground := Ground.chain }, { on := 4, ground := Ground.guard }], guard := some (4, true) }) (v := undef) rfl (by kernel_rfl) (by kernel_rfl) (by kernel_rfl) (fun _ _ _ h => h) (Or.inr ⟨by rfl, rfl⟩) hHeld ?restf7
      simp only [Act.put, List.setIfInBounds_toArray, List.set_cons_zero, List.set_cons_succ]
      refine wpAnyH_take (i := 8) (oi := { dst := some 80, op := Op.load 28 (Operand.tmp 9), type := 28, pos := "law.go:181", after := #[{ on := 4, ground := Ground.guard }], guard := some (4, true) }) (v := undef) rfl (by kernel_rfl) (by kernel_rfl) (by kernel_rfl) (fun _ _ _ h => h) (Or.inr ⟨by rfl, rfl⟩) hHeld ?restf8
      simp only [Act.put, List.setIfInBounds_toArray, List.set_cons_zero, List.set_cons_succ]
      refine wpAnyH_take (i := 9) (oi := { dst := some 81, op := Op.load 28 (Operand.tmp 11), type := 28, pos := "law.go:181", after := #[{ on := 4, ground := Ground.guard }], guard := some (4, true) }) (v := undef) rfl (by kernel_rfl) (by kernel_rfl) (by kernel_rfl) (fun _ _ _ h => h) (Or.inr ⟨by rfl, rfl⟩) hHeld ?restf9
      simp only [Act.put, List.setIfInBounds_toArray, List.set_cons_zero, List.set_cons_succ]
      refine wpAnyH_take (i := 10) (oi := { dst := some 82, op := Op.call { callee := Callee.value (Operand.func 19), args := #[Operand.tmp 80, Operand.tmp 81], argTypes := #[28, 28] }, type := 28, pos := "law.go:181", after := #[{ on := 8, ground := Ground.data }, { on := 9, ground := Ground.data }, { on := 7, ground := Ground.chain }, { on := 4, ground := Ground.guard }], guard := some (4, true) }) (v := undef) rfl (by kernel_rfl) (by kernel_rfl) (by kernel_rfl) (fun _ _ _ h => h) (Or.inr ⟨by rfl, rfl⟩) hHeld ?restf10
      simp only [Act.put, List.setIfInBounds_toArray, List.set_cons_zero, List.set_cons_succ]
      refine wpAnyH_take (i := 11) (oi := { dst := some 83, op := Op.call { callee := Callee.value (Operand.func 17), args := #[Operand.tmp 79, Operand.tmp 82], argTypes := #[28, 28] }, type := 3, pos := "law.go:181", after := #[{ on := 7, ground := Ground.data }, { on := 10, ground := Ground.data }, { on := 10, ground := Ground.chain }, { on := 4, ground := Ground.guard }], guard := some (4, true) }) (v := undef) rfl (by kernel_rfl) (by kernel_rfl) (by kernel_rfl) (fun _ _ _ h => h) (Or.inr ⟨by rfl, rfl⟩) hHeld ?restf11
      simp only [Act.put, List.setIfInBounds_toArray, List.set_cons_zero, List.set_cons_succ]
      refine wpAnyH_take (i := 12) (oi := { dst := some 84, op := Op.binOp BinOp.gtr 3 (Operand.tmp 83) (Operand.const (Value.int IntKind.i64 0)) 3, type := 4, pos := "law.go:181", after := #[{ on := 11, ground := Ground.data }, { on := 4, ground := Ground.guard }], guard := some (4, true) }) (v := undef) rfl (by kernel_rfl) (by kernel_rfl) (by kernel_rfl) (fun _ _ _ h => h) (Or.inr ⟨by rfl, rfl⟩) hHeld ?restf12
      simp only [Act.put, List.setIfInBounds_toArray, List.set_cons_zero, List.set_cons_succ]
      refine wpAnyH_take (i := 13) (oi := { dst := some 85, op := Op.pick (Operand.tmp 76) (Operand.tmp 84) (Operand.const (Value.bool false)), type := 4, pos := "law.go:181", after := #[{ on := 4, ground := Ground.data }, { on := 12, ground := Ground.data }], guard := none }) (v := ?vf13) rfl (by kernel_rfl) (by kernel_rfl) (by kernel_rfl) (fun _ _ _ h => h) (Or.inl ⟨by rfl, ?hyf13⟩) hHeld ?restf13
      case hyf13 =>
        intro w hSw
        (try dsimp only at hSw)
        first | (go_simp; done) | (go_simp; with_reducible rfl) | with_reducible rfl | rfl
      simp only [Act.put, List.setIfInBounds_toArray, List.set_cons_zero, List.set_cons_succ]
      refine wpAnyH_done (by kernel_rfl) ?_ _
      all_goals go_wp2
      go_meet
      exact ⟨rfl, bt Db hb5⟩
  case rest =>
    obtain ⟨rfl, HB⟩ := hcut
    have X5 : Hid (RL wc gx x1 n1 d1 VA1 VL1 vp1) := X4.out.kept HB.out
    have Y5 : Hid (RL wc gy x2 n2 d2 VA2 VL2 vp2) := Y4.out.kept HB.out
    have C5 : Hid (Below w.heap.size w wc) := bt C4.out HB.out
    clear X4 Y4 C4 HP HB t0
    obtain ⟨u0, u1, u2, u3⟩ := X5.out.cells
    obtain ⟨r0, r1, r2, r3⟩ := Y5.out.cells
    by_cases hn : n2 = 0
    · subst hn
      have hx : x2 = false := Y5.out.is.1.sg rfl
      subst hx
      go_upto_region 9 with (go_at_call 32; refine (div_no _ _ _ _ _ _ _ _ X5.out.is Y5.out.is).mono ?_; rintro e w6 ⟨rfl, hb6⟩)
      obtain ⟨W6, eW6, B6, kq⟩ := one_new w6 (.cells #[.bool false, .int .u64 0, .int .u64 0, .pointer none] 28)
      rw [eW6]
      have Y6 : Hid (RL W6 gy false 0 d2 VA2 VL2 vp2) := Y5.out.kept (bt hb6 B6)
      have C6 : Hid (Below w.heap.size w W6) := bt C5.out (bt hb6 B6)
      clear eW6 kq B6 hb6 X5 Y5 C5 u0 u1 u2 u3 r0 r1 r2 r3
      obtain ⟨r0, r1, r2, r3⟩ := Y6.out.cells
      have cS := sign_any _ false 0 d2 W6 Y6.out.is
      rw [sgn_zero rfl] at cS
      go_wp2_with (go_at_call 27; refine cS.mono ?_; rintro e w7 ⟨rfl, hb7⟩)
      go_ret
      exact ⟨rfl, bt C6.out hb7⟩
    · have hnz : Hid (n2 ≠ 0) := hn
      go_upto_region 9 with (go_at_call 32; refine (rv_div X5.out.is Y5.out.is hnz.out L1.out L2.out).mono ?_; rintro e w6 ⟨v6, xq, nq, dq, rfl, Rq, RVq, hb6⟩; obtain ⟨VAq, VLq, vpq, rfl⟩ := Rq.shape)
      obtain ⟨W6, eW6, B6, kq⟩ := one_new w6 (.cells #[.bool xq, .int .u64 VAq, .int .u64 VLq, .pointer vpq] 28)
      rw [eW6]
      have E6a := bt hb6 B6
      have E6 := E6a.drew
      have C6 : Hid (Below w.heap.size w W6.drew) := bt C5.out E6
      have HP : Hid (RV W6.drew (.agg #[.bool x1, .int .u64 VA1, .int .u64 VL1, .pointer vp1]) (sv x1 n1) d1 256 ∧ RV W6.drew (.agg #[.bool x2, .int .u64 VA2, .int .u64 VL2, .pointer vp2]) (sv x2 n2) d2 256 ∧ RV W6.drew (.agg #[.bool xq, .int .u64 VAq, .int .u64 VLq, .pointer vpq]) (sv (x1 != x2) (n1 * d2)) ((d1 * n2 : Nat) : Int) 512) := ⟨RV.of (X5.out.is.below E6) L1.out.1 L1.out.2, RV.of (Y5.out.is.below E6) L2.out.1 L2.out.2, RVq.below B6.drew⟩
      have Q6 : RL W6 w6.heap.size xq nq dq VAq VLq vpq := ⟨kq, Rq.below B6⟩
      generalize w6.heap.size = gq at *
      have q0 : W6.drew.cell? ⟨gx, 0, none⟩ = some (.bool x1) ∧ W6.drew.cell? ⟨gx, 1, none⟩ = some (.int .u64 VA1) ∧ W6.drew.cell? ⟨gx, 2, none⟩ = some (.int .u64 VL1) ∧ W6.drew.cell? ⟨gx, 3, none⟩ = some (.pointer vp1) ∧ W6.drew.cell? ⟨gy, 0, none⟩ = some (.bool x2) ∧ W6.drew.cell? ⟨gy, 1, none⟩ = some (.int .u64 VA2) ∧ W6.drew.cell? ⟨gy, 2, none⟩ = some (.int .u64 VL2) ∧ W6.drew.cell? ⟨gy, 3, none⟩ = some (.pointer vp2) ∧ W6.drew.cell? ⟨gq, 0, none⟩ = some (.bool xq) ∧ W6.drew.cell? ⟨gq, 1, none⟩ = some (.int .u64 VAq) ∧ W6.drew.cell? ⟨gq, 2, none⟩ = some (.int .u64 VLq) ∧ W6.drew.cell? ⟨gq, 3, none⟩ = some (.pointer vpq) := by
        obtain ⟨e1, e2, e3, e4⟩ := (X5.out.kept E6a).cells
        obtain ⟨e5, e6, e7, e8⟩ := (Y5.out.kept E6a).cells
        obtain ⟨e9, e10, e11, e12⟩ := Q6.cells
        exact ⟨e1, e2, e3, e4, e5, e6, e7, e8, e9, e10, e11, e12⟩
      have HDB : Hid (sv (x1 != x2) (n1 * d2) * sv x2 n2 * (d1 : Int) = sv x1 n1 * (((d1 * n2 : Nat) : Int) * d2)) := div_back x1 x2 n1 d1 n2 d2
      clear eW6 kq B6 hb6 X5 Y5 C5 u0 u1 u2 u3 r0 r1 r2 r3 Q6 Rq RVq E6 hn
      go_wp2
      go_region_held3 (fun w' => w'.cell? ⟨gx, 0, none⟩ = some (.bool x1) ∧ w'.cell? ⟨gx, 1, none⟩ = some (.int .u64 VA1) ∧ w'.cell? ⟨gx, 2, none⟩ = some (.int .u64 VL1) ∧ w'.cell? ⟨gx, 3, none⟩ = some (.pointer vp1) ∧ w'.cell? ⟨gy, 0, none⟩ = some (.bool x2) ∧ w'.cell? ⟨gy, 1, none⟩ = some (.int .u64 VA2) ∧ w'.cell? ⟨gy, 2, none⟩ = some (.int .u64 VL2) ∧ w'.cell? ⟨gy, 3, none⟩ = some (.pointer vp2) ∧ w'.cell? ⟨gq, 0, none⟩ = some (.bool xq) ∧ w'.cell? ⟨gq, 1, none⟩ = some (.int .u64 VAq) ∧ w'.cell? ⟨gq, 2, none⟩ = some (.int .u64 VLq) ∧ w'.cell? ⟨gq, 3, none⟩ = some (.pointer vpq)) (first | with_reducible exact q0 | with_reducible exact sc0 | with_reducible exact sc1 | with_reducible exact sc2 | with_reducible exact sc3) (first
        | (go_at_call 23; refine (rv_mul (k := 512) (by omega) HP.out.2.2 (HP.out.2.1.more (by omega))).mono ?_; rintro e wc0 ⟨vc0, rfl, Rc0, hbc0⟩; have Hc0 := hbc0; have sc0 : wc0.cell? ⟨gx, 0, none⟩ = some (.bool x1) ∧ wc0.cell? ⟨gx, 1, none⟩ = some (.int .u64 VA1) ∧ wc0.cell? ⟨gx, 2, none⟩ = some (.int .u64 VL1) ∧ wc0.cell? ⟨gx, 3, none⟩ = some (.pointer vp1) ∧ wc0.cell? ⟨gy, 0, none⟩ = some (.bool x2) ∧ wc0.cell? ⟨gy, 1, none⟩ = some (.int .u64 VA2) ∧ wc0.cell? ⟨gy, 2, none⟩ = some (.int .u64 VL2) ∧ wc0.cell? ⟨gy, 3, none⟩ = some (.pointer vp2) ∧ wc0.cell? ⟨gq, 0, none⟩ = some (.bool xq) ∧ wc0.cell? ⟨gq, 1, none⟩ = some (.int .u64 VAq) ∧ wc0.cell? ⟨gq, 2, none⟩ = some (.int .u64 VLq) ∧ wc0.cell? ⟨gq, 3, none⟩ = some (.pointer vpq) := by { have kc : ∀ {p : Addr} {v : Value}, W6.drew.cell? p = some v → wc0.cell? p = some v := fun {p v} h => by { rw [hbc0.cell (World.block_lt_of_cell? W6.drew p h)]; exact h }; exact ⟨kc q0.1, kc q0.2.1, kc q0.2.2.1, kc q0.2.2.2.1, kc q0.2.2.2.2.1, kc q0.2.2.2.2.2.1, kc q0.2.2.2.2.2.2.1, kc q0.2.2.2.2.2.2.2.1, kc q0.2.2.2.2.2.2.2.2.1, kc q0.2.2.2.2.2.2.2.2.2.1, kc q0.2.2.2.2.2.2.2.2.2.2.1, kc q0.2.2.2.2.2.2.2.2.2.2.2⟩ })
        | (go_at_call 17; refine (rv_cmp0 (by omega) (by omega) Rc0 (HP.out.1.below Hc0) HDB.out).mono ?_; rintro e wc1 ⟨rfl, hbc1⟩; have Hc1 := bt Hc0 hbc1; have sc1 : wc1.cell? ⟨gx, 0, none⟩ = some (.bool x1) ∧ wc1.cell? ⟨gx, 1, none⟩ = some (.int .u64 VA1) ∧ wc1.cell? ⟨gx, 2, none⟩ = some (.int .u64 VL1) ∧ wc1.cell? ⟨gx, 3, none⟩ = some (.pointer vp1) ∧ wc1.cell? ⟨gy, 0, none⟩ = some (.bool x2) ∧ wc1.cell? ⟨gy, 1, none⟩ = some (.int .u64 VA2) ∧ wc1.cell? ⟨gy, 2, none⟩ = some (.int .u64 VL2) ∧ wc1.cell? ⟨gy, 3, none⟩ = some (.pointer vp2) ∧ wc1.cell? ⟨gq, 0, none⟩ = some (.bool xq) ∧ wc1.cell? ⟨gq, 1, none⟩ = some (.int .u64 VAq) ∧ wc1.cell? ⟨gq, 2, none⟩ = some (.int .u64 VLq) ∧ wc1.cell? ⟨gq, 3, none⟩ = some (.pointer vpq) := by { have kc : ∀ {p : Addr} {v : Value}, wc0.cell? p = some v → wc1.cell? p = some v := fun {p v} h => by { rw [hbc1.cell (World.block_lt_of_cell? wc0 p h)]; exact h }; exact ⟨kc sc0.1, kc sc0.2.1, kc sc0.2.2.1, kc sc0.2.2.2.1, kc sc0.2.2.2.2.1, kc sc0.2.2.2.2.2.1, kc sc0.2.2.2.2.2.2.1, kc sc0.2.2.2.2.2.2.2.1, kc sc0.2.2.2.2.2.2.2.2.1, kc sc0.2.2.2.2.2.2.2.2.2.1, kc sc0.2.2.2.2.2.2.2.2.2.2.1, kc sc0.2.2.2.2.2.2.2.2.2.2.2⟩ })
        | (go_at_call 21; refine (rv_sub (k := 256) (by omega) (HP.out.1.below Hc1) (HP.out.1.below Hc1)).mono ?_; rintro e wc2 ⟨vc2, rfl, Rc2, hbc2⟩; have Hc2 := bt Hc1 hbc2; have sc2 : wc2.cell? ⟨gx, 0, none⟩ = some (.bool x1) ∧ wc2.cell? ⟨gx, 1, none⟩ = some (.int .u64 VA1) ∧ wc2.cell? ⟨gx, 2, none⟩ = some (.int .u64 VL1) ∧ wc2.cell? ⟨gx, 3, none⟩ = some (.pointer vp1) ∧ wc2.cell? ⟨gy, 0, none⟩ = some (.bool x2) ∧ wc2.cell? ⟨gy, 1, none⟩ = some (.int .u64 VA2) ∧ wc2.cell? ⟨gy, 2, none⟩ = some (.int .u64 VL2) ∧ wc2.cell? ⟨gy, 3, none⟩ = some (.pointer vp2) ∧ wc2.cell? ⟨gq, 0, none⟩ = some (.bool xq) ∧ wc2.cell? ⟨gq, 1, none⟩ = some (.int .u64 VAq) ∧ wc2.cell? ⟨gq, 2, none⟩ = some (.int .u64 VLq) ∧ wc2.cell? ⟨gq, 3, none⟩ = some (.pointer vpq) := by { have kc : ∀ {p : Addr} {v : Value}, wc1.cell? p = some v → wc2.cell? p = some v := fun {p v} h => by { rw [hbc2.cell (World.block_lt_of_cell? wc1 p h)]; exact h }; exact ⟨kc sc1.1, kc sc1.2.1, kc sc1.2.2.1, kc sc1.2.2.2.1, kc sc1.2.2.2.2.1, kc sc1.2.2.2.2.2.1, kc sc1.2.2.2.2.2.2.1, kc sc1.2.2.2.2.2.2.2.1, kc sc1.2.2.2.2.2.2.2.2.1, kc sc1.2.2.2.2.2.2.2.2.2.1, kc sc1.2.2.2.2.2.2.2.2.2.2.1, kc sc1.2.2.2.2.2.2.2.2.2.2.2⟩ })
        | (go_at_call 27; refine (rv_sign0 Rc2 (by omega)).mono ?_; rintro e wc3 ⟨rfl, hbc3⟩; have Hc3 := bt Hc2 hbc3; have sc3 : wc3.cell? ⟨gx, 0, none⟩ = some (.bool x1) ∧ wc3.cell? ⟨gx, 1, none⟩ = some (.int .u64 VA1) ∧ wc3.cell? ⟨gx, 2, none⟩ = some (.int .u64 VL1) ∧ wc3.cell? ⟨gx, 3, none⟩ = some (.pointer vp1) ∧ wc3.cell? ⟨gy, 0, none⟩ = some (.bool x2) ∧ wc3.cell? ⟨gy, 1, none⟩ = some (.int .u64 VA2) ∧ wc3.cell? ⟨gy, 2, none⟩ = some (.int .u64 VL2) ∧ wc3.cell? ⟨gy, 3, none⟩ = some (.pointer vp2) ∧ wc3.cell? ⟨gq, 0, none⟩ = some (.bool xq) ∧ wc3.cell? ⟨gq, 1, none⟩ = some (.int .u64 VAq) ∧ wc3.cell? ⟨gq, 2, none⟩ = some (.int .u64 VLq) ∧ wc3.cell? ⟨gq, 3, none⟩ = some (.pointer vpq) := by { have kc : ∀ {p : Addr} {v : Value}, wc2.cell? p = some v → wc3.cell? p = some v := fun {p v} h => by { rw [hbc3.cell (World.block_lt_of_cell? wc2 p h)]; exact h }; exact ⟨kc sc2.1, kc sc2.2.1, kc sc2.2.2.1, kc sc2.2.2.2.1, kc sc2.2.2.2.2.1, kc sc2.2.2.2.2.2.1, kc sc2.2.2.2.2.2.2.1, kc sc2.2.2.2.2.2.2.2.1, kc sc2.2.2.2.2.2.2.2.2.1, kc sc2.2.2.2.2.2.2.2.2.2.1, kc sc2.2.2.2.2.2.2.2.2.2.2.1, kc sc2.2.2.2.2.2.2.2.2.2.2.2⟩ }))
      all_goals go_wp2
      all_goals go_ret
      all_goals exact ⟨rfl, bt C6.out Hc3⟩
end Go.Proofs.Ytfkaeehbnnhfoaa.FdW
