/- Rational numbers, the program's: sums of words and of lists with their signs; Rational numbers, the program's: sums of numbers in words; Rational numbers, the program's: the sum of two numbers in words, where a word holds it; Rational numbers, the program's: the sum; Rational numbers, the program's: each call's answer as a quotient of two whole numbers, in lowest terms or not; Rational numbers, th. -/
import Derived.Shelf.Lay
import Derived.Shelf.LaySoft
import Derived.Shelf.Spec.BitsCarry
import Derived.Test.YtfkaeehbnnhfoaaSetAR
import Derived.Test.YtfkaeehbnnhfoaaSetAC
import Derived.Test.YtfkaeehbnnhfoaaSetAP
import Derived.Test.YtfkaeehbnnhfoaaSetAL
import Derived.Test.YtfkaeehbnnhfoaaSetAQ
/- Rational numbers, the program's: sums of words and of lists with their signs. -/
namespace Go.Proofs
open Go.Shelf
shelf_lay Lays7.n25 Nm7 25 at Try as Try.lays25
theorem Try.bits_Add64 (x y : Int) (hx : 0 ≤ x) (hy : 0 ≤ y) (w : World) : (callFunc 91 #[.int .u64 x, .int .u64 y, .int .u64 0]).run Try.prog w =
    .ok (.value (.tuple #[.int .u64 ((x + y) % 18446744073709551616), .int .u64 ((x + y) / 18446744073709551616)])) w := by
  obtain ⟨x, rfl⟩ := Int.eq_ofNat_of_zero_le hx
  obtain ⟨y, rfl⟩ := Int.eq_ofNat_of_zero_le hy
  refine (Any7.bits_Add64 Try.lays25 x y 0 (by omega) w).trans ?_
  congr 5 <;> omega
end Go.Proofs
namespace Go.Proofs.Ytfkaeehbnnhfoaa.JoinL
open Go.RowKit Mem LimbNum Limb1 Limb2 Limb4 NatL GcdA RatL RatM RatN RatF RatO MulN MulW MulL InvL QNum FloL AddN

set_option maxRecDepth 20000 in
set_option maxHeartbeats 1000000 in
theorem joinWords_any (a b : Bool) (x y : Nat) (w : World) (hx : x < 18446744073709551616) (hy : y < 18446744073709551616) :
    Calls Try.prog 78 #[.bool a, .int .u64 (x : Int), .bool b, .int .u64 (y : Int)] w fun e w' => e = .returned (.tuple #[.bool (sumB a b x y), .int .u64 ((sumV a b x y % 18446744073709551616 : Nat) : Int), .int .u64 ((sumV a b x y / 18446744073709551616 : Nat) : Int)]) ∧ w' = w := by
  by_cases hab : a = b
  · subst hab
    rw [show sumB a a x y = a by simp [sumB], show sumV a a x y = x + y by simp [sumV]]
    have hA := fun (W : World) => Try.bits_Add64 (x : Int) (y : Int) (by omega) (by omega) W
    rw [show (((x + y) % 18446744073709551616 : Nat) : Int) = ((x : Int) + y) % 18446744073709551616 by omega, show (((x + y) / 18446744073709551616 : Nat) : Int) = ((x : Int) + y) / 18446744073709551616 by omega]
    generalize ((x : Int) + y) % 18446744073709551616 = L at *
    generalize ((x : Int) + y) / 18446744073709551616 = H at *
    generalize (x : Int) = X at *
    generalize (y : Int) = Y at *
    clear hx hy
    cases a
    all_goals
      go_enter Try.func78, Try.ntmps78
      go_wp2_with (simp only [hA])
      go_ret3
      exact ⟨rfl, rfl⟩
  · by_cases hle : y ≤ x
    · rw [show sumB a b x y = a by simp [sumB, hab, hle], show sumV a b x y = x - y by simp [sumV, hab, hle]]
      rw [show (((x - y) % 18446744073709551616 : Nat) : Int) = (x : Int) - y by omega, show (((x - y) / 18446744073709551616 : Nat) : Int) = 0 by omega]
      have h1 : (y : Int) ≤ x := by omega
      have h2 : (x : Int) < 18446744073709551616 := by omega
      have h3 : (0 : Int) ≤ y := by omega
      generalize (x : Int) = X at *
      generalize (y : Int) = Y at *
      clear hx hy hle
      cases a <;> cases b <;> (try exact absurd rfl hab) <;> clear hab
      all_goals
        go_enter Try.func78, Try.ntmps78
        go_wp2
        go_ret3
        exact ⟨rfl, rfl⟩
    · rw [show sumB a b x y = b by simp [sumB, hab, hle], show sumV a b x y = y - x by simp [sumV, hab, hle]]
      rw [show (((y - x) % 18446744073709551616 : Nat) : Int) = (y : Int) - x by omega, show (((y - x) / 18446744073709551616 : Nat) : Int) = 0 by omega]
      have h1 : (x : Int) < y := by omega
      have h2 : (y : Int) < 18446744073709551616 := by omega
      have h3 : (0 : Int) ≤ x := by omega
      generalize (x : Int) = X at *
      generalize (y : Int) = Y at *
      clear hx hy hle
      cases a <;> cases b <;> (try exact absurd rfl hab) <;> clear hab
      all_goals
        go_enter Try.func78, Try.ntmps78
        go_wp2
        go_ret3
        exact ⟨rfl, rfl⟩
set_option maxRecDepth 20000 in
set_option maxHeartbeats 1000000 in
theorem join_any (a b : Bool) (x y : Nat) (o1 o2 : Option Addr) (c1 c2 : Nat) (w : World) (h1 : Lies w o1 c1 (ints .u32 (nl x))) (h2 : Lies w o2 c2 (ints .u32 (nl y))) (l1 : (nl x).length ≤ 35184372088832) (l2 : (nl y).length ≤ 35184372088832) :
    Calls Try.prog 56 #[.bool a, .slice o1 (nl x).length c1, .bool b, .slice o2 (nl y).length c2] w fun e w' => ∃ o c, e = .returned (.tuple #[.bool (sumB a b x y), .slice o (nl (sumV a b x y)).length c]) ∧ Lies w' o c (ints .u32 (nl (sumV a b x y))) ∧ Below w.heap.size w w' := by
  have cA := add_nl x y o1 o2 c1 c2 w h1 h2 l1 l2
  have cY := fun (h : y ≤ x) => sub_yes (nl x) (nl y) o1 o2 c1 c2 w h1 h2 (small_nl _) (small_nl _) (by rw [val_nl, val_nl]; exact h) (by omega)
  have cN := fun (h : x < y) => sub_no (nl x) (nl y) o1 o2 c1 c2 w h1 h2 (small_nl _) (small_nl _) (by rw [val_nl, val_nl]; exact h)
  have cT := fun (W : World) (hb : Below w.heap.size w W) (h : x ≤ y) => sub_yes (nl y) (nl x) o2 o1 c2 c1 W (h2.below hb (Nat.le_refl _)) (h1.below hb (Nat.le_refl _)) (small_nl _) (small_nl _) (by rw [val_nl, val_nl]; exact h) (by omega)
  simp only [val_nl] at cY cT
  clear h1 h2 l1 l2
  by_cases hab : a = b
  · subst hab
    rw [show sumB a a x y = a by simp [sumB], show sumV a a x y = x + y by simp [sumV]]
    clear cY cN cT
    generalize x + y = Z at *
    cases a
    all_goals
      go_enter Try.func56, Try.ntmps56
      go_wp2_with (go_at_call 69; refine cA.mono ?_; rintro e w1 ⟨o3, c3, rfl, hl, hb⟩)
      go_ret2
      exact ⟨_, _, rfl, hl, hb⟩
  · by_cases hle : y ≤ x
    · rw [show sumB a b x y = a by simp [sumB, hab, hle], show sumV a b x y = x - y by simp [sumV, hab, hle]]
      have cS := cY hle
      clear cA cY cN cT
      generalize x - y = Z at *
      cases a <;> cases b <;> (try exact absurd rfl hab) <;> clear hab
      all_goals
        go_enter Try.func56, Try.ntmps56
        go_wp2_with (go_at_call 82; refine cS.mono ?_; rintro e w1 ⟨o3, c3, rfl, hown, hb⟩)
        go_ret2
        exact ⟨_, _, rfl, lies_of_owns hown, hb⟩
    · rw [show sumB a b x y = b by simp [sumB, hab, hle], show sumV a b x y = y - x by simp [sumV, hab, hle]]
      have cS := cN (by omega)
      have cS2 := fun (W : World) (hb : Below w.heap.size w W) => cT W hb (by omega)
      have T1 : True := trivial
      clear cA cY cN cT
      generalize y - x = Z at *
      cases a <;> cases b <;> (try exact absurd rfl hab) <;> clear hab
      all_goals
        go_enter Try.func56, Try.ntmps56
        go_wp2_with (first
          | (go_at_call 82; have _t := T1; clear _t T1; refine cS.mono ?_; rintro e w1 ⟨rfl, hb⟩)
          | (go_at_call 82; refine (cS2 _ hb).mono ?_; rintro e w2 ⟨o3, c3, rfl, hown, hb2⟩))
        go_ret2
        exact ⟨_, _, rfl, lies_of_owns hown, bt hb hb2⟩
end Go.Proofs.Ytfkaeehbnnhfoaa.JoinL

/- Rational numbers, the program's: sums of numbers in words. -/
namespace Go.Proofs.Ytfkaeehbnnhfoaa.AddW
open Go.RowKit Mem LimbNum Limb1 Limb2 NatL GcdA RatL RatM RatN RatF RatO MulN MulW MulL InvL QNum RefZ FloL AddN JoinL

set_option maxRecDepth 20000 in
set_option maxHeartbeats 2000000 in
theorem words_over (b1 b2 nB : Bool) (N1 N2 D1 D2 G R S XH XL YH YL V VH : Int) (w : World)
    (cD1 : ∀ W : World, Calls Try.prog 66 #[.agg #[.bool b1, .int .u64 N1, .int .u64 (D1 - 1), .pointer none]] W fun e w' => e = .returned (.int .u64 D1) ∧ Below W.heap.size W w')
    (cD2 : ∀ W : World, Calls Try.prog 66 #[.agg #[.bool b2, .int .u64 N2, .int .u64 (D2 - 1), .pointer none]] W fun e w' => e = .returned (.int .u64 D2) ∧ Below W.heap.size W w')
    (cG : ∀ W : World, Calls Try.prog 75 #[.int .u64 D1, .int .u64 D2] W fun e w' => e = .returned (.int .u64 G) ∧ Below W.heap.size W w')
    (g0 : G ≠ 0) (et1 : D1.tdiv G = R) (u1 : IntKind.u64.wrap R = R) (et2 : D2.tdiv G = S) (u2 : IntKind.u64.wrap S = S)
    (cM1 : ∀ W : World, Calls Try.prog 77 #[.int .u64 N1, .int .u64 S] W fun e w' => e = .returned (.tuple #[.int .u64 XH, .int .u64 XL]) ∧ w' = W)
    (cM2 : ∀ W : World, Calls Try.prog 77 #[.int .u64 N2, .int .u64 R] W fun e w' => e = .returned (.tuple #[.int .u64 YH, .int .u64 YL]) ∧ w' = W)
    (cJ : ∀ W : World, Calls Try.prog 78 #[.bool b1, .int .u64 XL, .bool b2, .int .u64 YL] W fun e w' => e = .returned (.tuple #[.bool nB, .int .u64 V, .int .u64 VH]) ∧ w' = W)
    (hor : (bits BinOp.or IntKind.u64 (bits BinOp.or IntKind.u64 XH YH) VH == 0) = false) :
    Calls Try.prog 53 #[.agg #[.bool b1, .int .u64 N1, .int .u64 (D1 - 1), .pointer none], .agg #[.bool b2, .int .u64 N2, .int .u64 (D2 - 1), .pointer none]] w fun e w' => e = .returned (.tuple #[.agg #[.bool false, .int .u64 0, .int .u64 0, .pointer none], .bool false]) ∧ Below w.heap.size w w' := by
  have hor2 : (bits BinOp.or IntKind.u64 (bits BinOp.or IntKind.u64 XH YH) VH != 0) = true := by rw [bne, hor]; rfl
  have hor3 : ¬ bits BinOp.or IntKind.u64 (bits BinOp.or IntKind.u64 XH YH) VH = 0 := by simpa using hor
  obtain ⟨W0, eW0, hb0, hk0, hk1, hk2⟩ := three_new w (.cells #[.bool b1, .int .u64 N1, .int .u64 (D1 - 1), .pointer none] 28) (.cells #[.bool b2, .int .u64 N2, .int .u64 (D2 - 1), .pointer none] 28) (.cells #[.bool false, .int .u64 0, .int .u64 0, .pointer none] 28)
  have s0 : W0.drew.cell? ⟨w.heap.size, 0, none⟩ = some (.bool b1) ∧ W0.drew.cell? ⟨w.heap.size, 1, none⟩ = some (.int .u64 N1) ∧ W0.drew.cell? ⟨w.heap.size, 2, none⟩ = some (.int .u64 (D1 - 1)) ∧ W0.drew.cell? ⟨w.heap.size, 3, none⟩ = some (.pointer none) ∧ W0.drew.cell? ⟨w.heap.size + 1, 0, none⟩ = some (.bool b2) ∧ W0.drew.cell? ⟨w.heap.size + 1, 1, none⟩ = some (.int .u64 N2) ∧ W0.drew.cell? ⟨w.heap.size + 1, 2, none⟩ = some (.int .u64 (D2 - 1)) ∧ W0.drew.cell? ⟨w.heap.size + 1, 3, none⟩ = some (.pointer none) := by
    obtain ⟨a0, a1, a2, a3⟩ := box0 hk0
    obtain ⟨c0, c1, c2, c3⟩ := box0 hk1
    exact ⟨a0, a1, a2, a3, c0, c1, c2, c3⟩
  have hb0d := hb0.drew
  have D0 : Below W0.heap.size W0 W0.drew := (Below.refl _ _).drew
  have HK2 : Hid (W0.heap[w.heap.size + 1 + 1]? = some (.cells #[.bool false, .int .u64 0, .int .u64 0, .pointer none] 28)) := hk2
  have EW : Hid (_ = W0) := eW0
  clear eW0 hk0 hk1 hk2
  have T1 : True := trivial
  have cM1w : ∀ W : World, Calls Try.prog 77 #[.int .u64 N1, .int .u64 (IntKind.u64.wrap S)] W fun e w' => e = .returned (.tuple #[.int .u64 XH, .int .u64 XL]) ∧ w' = W := by rw [u2]; exact cM1
  go_enter Try.func53, Try.ntmps53
  go_wp2
  rw [EW.out]
  go_region_held3 (fun w' => w'.cell? ⟨w.heap.size, 0, none⟩ = some (.bool b1) ∧ w'.cell? ⟨w.heap.size, 1, none⟩ = some (.int .u64 N1) ∧ w'.cell? ⟨w.heap.size, 2, none⟩ = some (.int .u64 (D1 - 1)) ∧ w'.cell? ⟨w.heap.size, 3, none⟩ = some (.pointer none) ∧ w'.cell? ⟨w.heap.size + 1, 0, none⟩ = some (.bool b2) ∧ w'.cell? ⟨w.heap.size + 1, 1, none⟩ = some (.int .u64 N2) ∧ w'.cell? ⟨w.heap.size + 1, 2, none⟩ = some (.int .u64 (D2 - 1)) ∧ w'.cell? ⟨w.heap.size + 1, 3, none⟩ = some (.pointer none)) (first | with_reducible exact s0 | with_reducible exact s1 | with_reducible exact s2 | with_reducible exact s3) (first
    | (go_at_call 66; have _t := T1; clear _t T1; refine (cD1 _).mono ?_; rintro e w1 ⟨rfl, hb1⟩; have s1 := eight_kept hb1 s0)
    | (go_at_call 66; refine (cD2 _).mono ?_; rintro e w2 ⟨rfl, hb2⟩; have s2 := eight_kept hb2 s1)
    | (go_at_call 75; refine (cG _).mono ?_; rintro e w3 ⟨rfl, hb3⟩; have s3 := eight_kept hb3 s2))
  have E3 : Below W0.heap.size W0 w3 := bt D0 (bt hb1 (bt hb2 hb3))
  obtain ⟨v0, v1, v2, v3, v4, v5, v6, v7⟩ := id s3
  clear s0 s1 s2 hb1 hb2 hb3 D0 hb0d
  all_goals go_wp2_with (go_at_call 66; refine (cD1 _).mono ?_; rintro e w4 ⟨rfl, hb4⟩)
  have s4 := eight_kept hb4 s3
  have E4 := bt E3 hb4
  have s5 : w4.drew.cell? ⟨w.heap.size, 0, none⟩ = some (.bool b1) ∧ w4.drew.cell? ⟨w.heap.size, 1, none⟩ = some (.int .u64 N1) ∧ w4.drew.cell? ⟨w.heap.size, 2, none⟩ = some (.int .u64 (D1 - 1)) ∧ w4.drew.cell? ⟨w.heap.size, 3, none⟩ = some (.pointer none) ∧ w4.drew.cell? ⟨w.heap.size + 1, 0, none⟩ = some (.bool b2) ∧ w4.drew.cell? ⟨w.heap.size + 1, 1, none⟩ = some (.int .u64 N2) ∧ w4.drew.cell? ⟨w.heap.size + 1, 2, none⟩ = some (.int .u64 (D2 - 1)) ∧ w4.drew.cell? ⟨w.heap.size + 1, 3, none⟩ = some (.pointer none) := s4
  clear s3 v0 v1 v2 v3 v4 v5 v6 v7 hb4 E3
  go_region_held3 (fun w' => w'.cell? ⟨w.heap.size, 0, none⟩ = some (.bool b1) ∧ w'.cell? ⟨w.heap.size, 1, none⟩ = some (.int .u64 N1) ∧ w'.cell? ⟨w.heap.size, 2, none⟩ = some (.int .u64 (D1 - 1)) ∧ w'.cell? ⟨w.heap.size, 3, none⟩ = some (.pointer none) ∧ w'.cell? ⟨w.heap.size + 1, 0, none⟩ = some (.bool b2) ∧ w'.cell? ⟨w.heap.size + 1, 1, none⟩ = some (.int .u64 N2) ∧ w'.cell? ⟨w.heap.size + 1, 2, none⟩ = some (.int .u64 (D2 - 1)) ∧ w'.cell? ⟨w.heap.size + 1, 3, none⟩ = some (.pointer none)) (first | with_reducible exact s5 | with_reducible exact s6) (first
    | (go_at_call 66; refine (cD2 _).mono ?_; rintro e w6 ⟨rfl, hb6⟩; have s6 := eight_kept hb6 s5)
    | (go_at_call 77; (first | with_reducible refine (cM1 _).mono ?_ | with_reducible refine (cM1w _).mono ?_); rintro e w7 ⟨rfl, hw⟩; have hw2 := hw.symm; clear hw; subst hw2))
  have E6 := bt E4.drew hb6
  obtain ⟨v0, v1, v2, v3, v4, v5, v6, v7⟩ := id s6
  have HE6 : Hid (Below w.heap.size w w6) := bt hb0 E6
  have HK6 : Hid (w6.heap[w.heap.size + 1 + 1]? = some (.cells #[.bool false, .int .u64 0, .int .u64 0, .pointer none] 28)) := box_kept HK2.out E6 (in_heap HK2.out)
  clear s4 s5 s6 hb6 E4 hb0 cM1w E6
  have kr := HK6.out
  obtain ⟨d0, d1, d2, d3⟩ := box0 kr
  have ff := boxF kr
  clear kr
  all_goals go_wp2_with (first
    | (go_at_call 77; refine (cM2 _).mono ?_; rintro e w8 ⟨rfl, hw⟩; have hw2 := hw.symm; clear hw; subst hw2)
    | (go_at_call 78; refine (cJ _).mono ?_; rintro e w9 ⟨rfl, hw⟩; have hw2 := hw.symm; clear hw; subst hw2))
  have k2 := box_set HK6.out (.bool false) (.int .u64 0) (.int .u64 0) (.pointer none)
  have hB := box_below HE6.out (show w.heap.size ≤ w.heap.size + 1 + 1 by omega) (.bool false) (.int .u64 0) (.int .u64 0) (.pointer none)
  generalize World.setCell _ _ _ = W' at *
  obtain ⟨y0, y1, y2, y3⟩ := box0 k2
  refine bodyPost_ret (v := .tuple #[.agg #[.bool false, .int .u64 0, .int .u64 0, .pointer none], .bool false]) ?_ rfl ?_
  · simp [results, go_sem, y0, y1, y2, y3]
  · exact ⟨rfl, hB⟩
set_option maxRecDepth 20000 in
set_option maxHeartbeats 2000000 in
theorem words_fit (b1 b2 nB : Bool) (N1 N2 D1 D2 G R S XH XL YH YL V VH H T Q DH DL : Int) (P : Bool → Int → Prop) (w : World)
    (cD1 : ∀ W : World, Calls Try.prog 66 #[.agg #[.bool b1, .int .u64 N1, .int .u64 (D1 - 1), .pointer none]] W fun e w' => e = .returned (.int .u64 D1) ∧ Below W.heap.size W w')
    (cD2 : ∀ W : World, Calls Try.prog 66 #[.agg #[.bool b2, .int .u64 N2, .int .u64 (D2 - 1), .pointer none]] W fun e w' => e = .returned (.int .u64 D2) ∧ Below W.heap.size W w')
    (cG : ∀ W : World, Calls Try.prog 75 #[.int .u64 D1, .int .u64 D2] W fun e w' => e = .returned (.int .u64 G) ∧ Below W.heap.size W w')
    (g0 : G ≠ 0) (et1 : D1.tdiv G = R) (u1 : IntKind.u64.wrap R = R) (et2 : D2.tdiv G = S) (u2 : IntKind.u64.wrap S = S)
    (cM1 : ∀ W : World, Calls Try.prog 77 #[.int .u64 N1, .int .u64 S] W fun e w' => e = .returned (.tuple #[.int .u64 XH, .int .u64 XL]) ∧ w' = W)
    (cM2 : ∀ W : World, Calls Try.prog 77 #[.int .u64 N2, .int .u64 R] W fun e w' => e = .returned (.tuple #[.int .u64 YH, .int .u64 YL]) ∧ w' = W)
    (cJ : ∀ W : World, Calls Try.prog 78 #[.bool b1, .int .u64 XL, .bool b2, .int .u64 YL] W fun e w' => e = .returned (.tuple #[.bool nB, .int .u64 V, .int .u64 VH]) ∧ w' = W)
    (hor : (bits BinOp.or IntKind.u64 (bits BinOp.or IntKind.u64 XH YH) VH == 0) = true)
    (cH : ∀ W : World, Calls Try.prog 75 #[.int .u64 V, .int .u64 G] W fun e w' => e = .returned (.int .u64 H) ∧ Below W.heap.size W w')
    (h0 : H ≠ 0) (et3 : D2.tdiv H = T) (u3 : IntKind.u64.wrap T = T) (et4 : V.tdiv H = Q) (u4 : IntKind.u64.wrap Q = Q)
    (cM3 : ∀ W : World, Calls Try.prog 77 #[.int .u64 R, .int .u64 T] W fun e w' => e = .returned (.tuple #[.int .u64 DH, .int .u64 DL]) ∧ w' = W)
    (cS : ∀ W : World, Calls Try.prog 65 #[.bool nB, .int .u64 Q, .int .u64 DL] W fun e w' => (∃ x z, e = .returned (.agg #[.bool x, .int .u64 Q, .int .u64 z, .pointer none]) ∧ P x z) ∧ Below W.heap.size W w') :
    Calls Try.prog 53 #[.agg #[.bool b1, .int .u64 N1, .int .u64 (D1 - 1), .pointer none], .agg #[.bool b2, .int .u64 N2, .int .u64 (D2 - 1), .pointer none]] w fun e w' => (∃ x z, e = .returned (.tuple #[.agg #[.bool x, .int .u64 Q, .int .u64 z, .pointer none], .bool (DH == 0)]) ∧ P x z) ∧ Below w.heap.size w w' := by
  have hor3 : bits BinOp.or IntKind.u64 (bits BinOp.or IntKind.u64 XH YH) VH = 0 := by simpa using hor
  obtain ⟨W0, eW0, hb0, hk0, hk1, hk2⟩ := three_new w (.cells #[.bool b1, .int .u64 N1, .int .u64 (D1 - 1), .pointer none] 28) (.cells #[.bool b2, .int .u64 N2, .int .u64 (D2 - 1), .pointer none] 28) (.cells #[.bool false, .int .u64 0, .int .u64 0, .pointer none] 28)
  have s0 : W0.drew.cell? ⟨w.heap.size, 0, none⟩ = some (.bool b1) ∧ W0.drew.cell? ⟨w.heap.size, 1, none⟩ = some (.int .u64 N1) ∧ W0.drew.cell? ⟨w.heap.size, 2, none⟩ = some (.int .u64 (D1 - 1)) ∧ W0.drew.cell? ⟨w.heap.size, 3, none⟩ = some (.pointer none) ∧ W0.drew.cell? ⟨w.heap.size + 1, 0, none⟩ = some (.bool b2) ∧ W0.drew.cell? ⟨w.heap.size + 1, 1, none⟩ = some (.int .u64 N2) ∧ W0.drew.cell? ⟨w.heap.size + 1, 2, none⟩ = some (.int .u64 (D2 - 1)) ∧ W0.drew.cell? ⟨w.heap.size + 1, 3, none⟩ = some (.pointer none) := by
    obtain ⟨a0, a1, a2, a3⟩ := box0 hk0
    obtain ⟨c0, c1, c2, c3⟩ := box0 hk1
    exact ⟨a0, a1, a2, a3, c0, c1, c2, c3⟩
  have hb0d := hb0.drew
  have D0 : Below W0.heap.size W0 W0.drew := (Below.refl _ _).drew
  have HK2 : Hid (W0.heap[w.heap.size + 1 + 1]? = some (.cells #[.bool false, .int .u64 0, .int .u64 0, .pointer none] 28)) := hk2
  have EW : Hid (_ = W0) := eW0
  clear eW0 hk0 hk1 hk2
  have T1 : True := trivial
  have cM1w : ∀ W : World, Calls Try.prog 77 #[.int .u64 N1, .int .u64 (IntKind.u64.wrap S)] W fun e w' => e = .returned (.tuple #[.int .u64 XH, .int .u64 XL]) ∧ w' = W := by rw [u2]; exact cM1
  go_enter Try.func53, Try.ntmps53
  go_wp2
  rw [EW.out]
  go_region_held3 (fun w' => w'.cell? ⟨w.heap.size, 0, none⟩ = some (.bool b1) ∧ w'.cell? ⟨w.heap.size, 1, none⟩ = some (.int .u64 N1) ∧ w'.cell? ⟨w.heap.size, 2, none⟩ = some (.int .u64 (D1 - 1)) ∧ w'.cell? ⟨w.heap.size, 3, none⟩ = some (.pointer none) ∧ w'.cell? ⟨w.heap.size + 1, 0, none⟩ = some (.bool b2) ∧ w'.cell? ⟨w.heap.size + 1, 1, none⟩ = some (.int .u64 N2) ∧ w'.cell? ⟨w.heap.size + 1, 2, none⟩ = some (.int .u64 (D2 - 1)) ∧ w'.cell? ⟨w.heap.size + 1, 3, none⟩ = some (.pointer none)) (first | with_reducible exact s0 | with_reducible exact s1 | with_reducible exact s2 | with_reducible exact s3) (first
    | (go_at_call 66; have _t := T1; clear _t T1; refine (cD1 _).mono ?_; rintro e w1 ⟨rfl, hb1⟩; have s1 := eight_kept hb1 s0)
    | (go_at_call 66; refine (cD2 _).mono ?_; rintro e w2 ⟨rfl, hb2⟩; have s2 := eight_kept hb2 s1)
    | (go_at_call 75; refine (cG _).mono ?_; rintro e w3 ⟨rfl, hb3⟩; have s3 := eight_kept hb3 s2))
  have E3 : Below W0.heap.size W0 w3 := bt D0 (bt hb1 (bt hb2 hb3))
  obtain ⟨v0, v1, v2, v3, v4, v5, v6, v7⟩ := id s3
  clear s0 s1 s2 hb1 hb2 hb3 D0 hb0d
  all_goals go_wp2_with (go_at_call 66; refine (cD1 _).mono ?_; rintro e w4 ⟨rfl, hb4⟩)
  have s4 := eight_kept hb4 s3
  have E4 := bt E3 hb4
  have s5 : w4.drew.cell? ⟨w.heap.size, 0, none⟩ = some (.bool b1) ∧ w4.drew.cell? ⟨w.heap.size, 1, none⟩ = some (.int .u64 N1) ∧ w4.drew.cell? ⟨w.heap.size, 2, none⟩ = some (.int .u64 (D1 - 1)) ∧ w4.drew.cell? ⟨w.heap.size, 3, none⟩ = some (.pointer none) ∧ w4.drew.cell? ⟨w.heap.size + 1, 0, none⟩ = some (.bool b2) ∧ w4.drew.cell? ⟨w.heap.size + 1, 1, none⟩ = some (.int .u64 N2) ∧ w4.drew.cell? ⟨w.heap.size + 1, 2, none⟩ = some (.int .u64 (D2 - 1)) ∧ w4.drew.cell? ⟨w.heap.size + 1, 3, none⟩ = some (.pointer none) := s4
  clear s3 v0 v1 v2 v3 v4 v5 v6 v7 hb4 E3
  go_region_held3 (fun w' => w'.cell? ⟨w.heap.size, 0, none⟩ = some (.bool b1) ∧ w'.cell? ⟨w.heap.size, 1, none⟩ = some (.int .u64 N1) ∧ w'.cell? ⟨w.heap.size, 2, none⟩ = some (.int .u64 (D1 - 1)) ∧ w'.cell? ⟨w.heap.size, 3, none⟩ = some (.pointer none) ∧ w'.cell? ⟨w.heap.size + 1, 0, none⟩ = some (.bool b2) ∧ w'.cell? ⟨w.heap.size + 1, 1, none⟩ = some (.int .u64 N2) ∧ w'.cell? ⟨w.heap.size + 1, 2, none⟩ = some (.int .u64 (D2 - 1)) ∧ w'.cell? ⟨w.heap.size + 1, 3, none⟩ = some (.pointer none)) (first | with_reducible exact s5 | with_reducible exact s6) (first
    | (go_at_call 66; refine (cD2 _).mono ?_; rintro e w6 ⟨rfl, hb6⟩; have s6 := eight_kept hb6 s5)
    | (go_at_call 77; (first | with_reducible refine (cM1 _).mono ?_ | with_reducible refine (cM1w _).mono ?_); rintro e w7 ⟨rfl, hw⟩; have hw2 := hw.symm; clear hw; subst hw2))
  have E6 := bt E4.drew hb6
  obtain ⟨v0, v1, v2, v3, v4, v5, v6, v7⟩ := id s6
  have HE6 : Hid (Below w.heap.size w w6) := bt hb0 E6
  have HK6 : Hid (w6.heap[w.heap.size + 1 + 1]? = some (.cells #[.bool false, .int .u64 0, .int .u64 0, .pointer none] 28)) := box_kept HK2.out E6 (in_heap HK2.out)
  clear s4 s5 s6 hb6 E4 hb0 cM1w E6
  all_goals go_wp2_with (first
    | (go_at_call_of 77 (Value.int IntKind.u64 N2); refine (cM2 _).mono ?_; rintro e w8 ⟨rfl, hw⟩; have hw2 := hw.symm; clear hw; subst hw2)
    | (go_at_call 78; refine (cJ _).mono ?_; rintro e w9 ⟨rfl, hw⟩; have hw2 := hw.symm; clear hw; subst hw2)
    | (go_at_call 75; refine (cH _).mono ?_; rintro e w10 ⟨rfl, hb10⟩; obtain ⟨t0, t1, t2, t3, t4, t5, t6, t7⟩ := eight_kept hb10 ⟨v0, v1, v2, v3, v4, v5, v6, v7⟩)
    | (go_at_call 66; refine (cD2 _).mono ?_; rintro e w11 ⟨rfl, hb11⟩)
    | (go_at_call 77; refine (cM3 _).mono ?_; rintro e w12 ⟨rfl, hw⟩; have hw2 := hw.symm; clear hw; subst hw2)
    | (go_at_call 65; refine (cS _).mono ?_; rintro e w13 ⟨⟨x, z, rfl, hP⟩, hb13⟩; have HP : Hid (P x z) := hP; clear hP; have E13 := bt hb10 (bt hb11 hb13); have kr := box_kept HK6.out E13 (in_heap HK6.out); obtain ⟨d0, d1, d2, d3⟩ := box0 kr; have ff := boxF kr; have HKR : Hid (w13.heap[w.heap.size + 1 + 1]? = some (.cells #[.bool false, .int .u64 0, .int .u64 0, .pointer none] 28)) := kr; clear kr))
  have k2 := box_set HKR.out (.bool x) (.int .u64 Q) (.int .u64 z) (.pointer none)
  have hB := box_below (bt HE6.out E13) (show w.heap.size ≤ w.heap.size + 1 + 1 by omega) (.bool x) (.int .u64 Q) (.int .u64 z) (.pointer none)
  generalize World.setCell _ _ _ = W' at *
  obtain ⟨y0, y1, y2, y3⟩ := box0 k2
  refine bodyPost_ret (v := .tuple #[.agg #[.bool x, .int .u64 Q, .int .u64 z, .pointer none], .bool (DH == 0)]) ?_ rfl ?_
  · simp [results, go_sem, y0, y1, y2, y3]
  · exact ⟨⟨x, z, rfl, HP.out⟩, hB⟩
end Go.Proofs.Ytfkaeehbnnhfoaa.AddW

/- Rational numbers, the program's: the sum of two numbers in words, where a word holds it. -/
namespace Go.Proofs.Ytfkaeehbnnhfoaa.AddV
open Go.RowKit Mem LimbNum Limb1 Limb2 NatNum NatL GcdA RatL RatM RatN RatF RatO MulN MulW MulL InvL QNum RefZ FloL AddN JoinL AddW

theorem or3 (a b c : Nat) (ha : a < 18446744073709551616) (hb : b < 18446744073709551616) (hc : c < 18446744073709551616) :
    (bits BinOp.or IntKind.u64 (bits BinOp.or IntKind.u64 (a : Int) (b : Int)) (c : Int) == 0) = decide (a = 0 ∧ b = 0 ∧ c = 0) := by
  have e := or_zero a b ha hb
  rw [u64_or_nat a b ha hb] at e ⊢
  have hl : a ||| b < 18446744073709551616 := Nat.or_lt_two_pow (n := 64) ha hb
  rw [or_zero (a ||| b) c hl hc]
  have e2 : decide ((a ||| b) = 0) = (decide (a = 0) && decide (b = 0)) := by
    rw [← e, Bool.eq_iff_iff]; simp
  rw [e2, Bool.eq_iff_iff]
  simp only [Bool.and_eq_true, decide_eq_true_iff]
  omega
theorem addWords_any (b1 b2 : Bool) (n1 d1 n2 d2 : Nat) (w : World) (q1 : n1 < 18446744073709551616) (q2 : d1 < 18446744073709551616) (q3 : n2 < 18446744073709551616) (q4 : d2 < 18446744073709551616) (h1 : Nat.gcd n1 d1 = 1) (h2 : Nat.gcd n2 d2 = 1) (p1 : 1 ≤ d1) (p2 : 1 ≤ d2) :
    Calls Try.prog 53 #[.agg #[.bool b1, .int .u64 (n1 : Int), .int .u64 ((d1 : Int) - 1), .pointer none], .agg #[.bool b2, .int .u64 (n2 : Int), .int .u64 ((d2 : Int) - 1), .pointer none]] w fun e w' =>
      (∃ x A z ok, e = .returned (.tuple #[.agg #[.bool x, .int .u64 A, .int .u64 z, .pointer none], .bool ok]) ∧
        (ok = true → x = addB b1 n1 d1 b2 n2 d2 ∧ A = ((addN b1 n1 d1 b2 n2 d2 : Nat) : Int) ∧ z = ((addD b1 n1 d1 b2 n2 d2 : Nat) : Int) - 1 ∧ addN b1 n1 d1 b2 n2 d2 < 18446744073709551616 ∧ addD b1 n1 d1 b2 n2 d2 < 18446744073709551616)) ∧ Below w.heap.size w w' := by
  obtain ⟨eN, eD, eB, pD, _⟩ := sum_low b1 b2 h1 h2 p1 p2
  have g0 : 0 < Nat.gcd d1 d2 := Nat.gcd_pos_of_pos_right _ p2
  have gl : Nat.gcd d1 d2 ≤ d1 := Nat.gcd_le_left _ p1
  have eAB : addB b1 n1 d1 b2 n2 d2 = (sumB b1 b2 (n1 * d2) (n2 * d1) && decide (addN b1 n1 d1 b2 n2 d2 ≠ 0)) := rfl
  rw [eAB, eB]
  clear eAB eB
  have r1 := Nat.div_le_self d1 (Nat.gcd d1 d2)
  have r2 := Nat.div_le_self d2 (Nat.gcd d1 d2)
  have et1 := tdiv_nat d1 (Nat.gcd d1 d2)
  have et2 := tdiv_nat d2 (Nat.gcd d1 d2)
  have cG := fun (W : World) => common_any d1 d2 W q2 q4
  have cD1 := fun (W : World) => den_any b1 (n1 : Int) (d1 : Int) none W (by omega) (by omega)
  have cD2 := fun (W : World) => den_any b2 (n2 : Int) (d2 : Int) none W (by omega) (by omega)
  generalize hN : addN b1 n1 d1 b2 n2 d2 = N at *
  generalize hD : addD b1 n1 d1 b2 n2 d2 = D at *
  generalize Nat.gcd d1 d2 = g at *
  generalize d1 / g = r at *
  generalize d2 / g = s at *
  have u1 : IntKind.u64.wrap (r : Int) = r := by rw [IntKind.wrap_u64]; omega
  have u2 : IntKind.u64.wrap (s : Int) = s := by rw [IntKind.wrap_u64]; omega
  have cM1 := fun (W : World) => Try.bits_Mul64 n1 s q1 (by omega) W
  have cM2 := fun (W : World) => Try.bits_Mul64 n2 r q3 (by omega) W
  have lX : n1 * s < 18446744073709551616 * 18446744073709551616 := Nat.mul_lt_mul'' q1 (by omega)
  have lY : n2 * r < 18446744073709551616 * 18446744073709551616 := Nat.mul_lt_mul'' q3 (by omega)
  generalize n1 * s = X at *
  generalize n2 * r = Y at *
  have cJ := fun (W : World) => joinWords_any b1 b2 (X % 18446744073709551616) (Y % 18446744073709551616) W (by omega) (by omega)
  have lV : sumV b1 b2 (X % 18446744073709551616) (Y % 18446744073709551616) ≤ X % 18446744073709551616 + Y % 18446744073709551616 := sumV_le _ _ _ _
  have ho := or3 (X / 18446744073709551616) (Y / 18446744073709551616) (sumV b1 b2 (X % 18446744073709551616) (Y % 18446744073709551616) / 18446744073709551616) (by omega) (by omega) (by omega)
  by_cases hz : X / 18446744073709551616 = 0 ∧ Y / 18446744073709551616 = 0 ∧ sumV b1 b2 (X % 18446744073709551616) (Y % 18446744073709551616) / 18446744073709551616 = 0
  · rw [decide_eq_true hz] at ho
    obtain ⟨z1, z2, z3⟩ := hz
    have x1 : X % 18446744073709551616 = X := by omega
    have x2 : Y % 18446744073709551616 = Y := by omega
    rw [x1, x2] at z3 lV ho
    simp only [x1, x2] at cJ cM1 cM2
    have x3 : sumV b1 b2 X Y % 18446744073709551616 = sumV b1 b2 X Y := by omega
    simp only [x3] at cJ
    have lV2 : sumV b1 b2 X Y < 18446744073709551616 := by omega
    generalize sumV b1 b2 X Y = V at *
    generalize sumB b1 b2 X Y = nB at *
    have cH := fun (W : World) => common_any V g W lV2 (by omega)
    have h0 : 0 < Nat.gcd V g := Nat.gcd_pos_of_pos_right _ g0
    have hl : Nat.gcd V g ≤ g := Nat.gcd_le_right _ g0
    have et3 := tdiv_nat d2 (Nat.gcd V g)
    have et4 := tdiv_nat V (Nat.gcd V g)
    have r3 := Nat.div_le_self d2 (Nat.gcd V g)
    have r4 := Nat.div_le_self V (Nat.gcd V g)
    generalize Nat.gcd V g = h at *
    generalize d2 / h = T at *
    generalize V / h = Q at *
    have u3 : IntKind.u64.wrap (T : Int) = T := by rw [IntKind.wrap_u64]; omega
    have u4 : IntKind.u64.wrap (Q : Int) = Q := by rw [IntKind.wrap_u64]; omega
    have cM3 := fun (W : World) => Try.bits_Mul64 r T (by omega) (by omega) W
    have cS := fun (W : World) => short_wild nB Q (r * T % 18446744073709551616) W (by omega)
    have := words_fit b1 b2 nB (n1 : Int) (n2 : Int) (d1 : Int) (d2 : Int) (g : Int) (r : Int) (s : Int) _ _ _ _ (V : Int) _ (h : Int) (T : Int) (Q : Int) _ _ (fun x z => 1 ≤ r * T % 18446744073709551616 → x = (nB && decide (Q ≠ 0)) ∧ z = ((r * T % 18446744073709551616 : Nat) : Int) - 1) w
      cD1 cD2 cG (by omega) et1 u1 et2 u2 cM1 cM2 cJ ho cH (by omega) et3 u3 et4 u4 cM3 cS
    refine this.mono ?_
    rintro e w' ⟨⟨x, z, rfl, hP⟩, hb⟩
    refine ⟨⟨x, Q, z, _, rfl, fun hok => ?_⟩, hb⟩
    have hk : r * T / 18446744073709551616 = 0 := by
      have : ((r * T / 18446744073709551616 : Nat) : Int) = 0 := by simpa using hok
      omega
    have hm : r * T % 18446744073709551616 = r * T := by omega
    rw [hm] at hP
    obtain ⟨e1, e2⟩ := hP (by omega)
    subst eN eD
    exact ⟨e1, rfl, e2, by omega, by omega⟩
  · rw [decide_eq_false hz] at ho
    have := words_over b1 b2 _ (n1 : Int) (n2 : Int) (d1 : Int) (d2 : Int) (g : Int) (r : Int) (s : Int) _ _ _ _ _ _ w cD1 cD2 cG (by omega) et1 u1 et2 u2 cM1 cM2 cJ ho
    refine this.mono ?_
    rintro e w' ⟨rfl, hb⟩
    exact ⟨⟨_, _, _, _, rfl, fun h => by simp at h⟩, hb⟩
end Go.Proofs.Ytfkaeehbnnhfoaa.AddV

/- Rational numbers, the program's: the sum. -/
namespace Go.Proofs.Ytfkaeehbnnhfoaa.AddR
open Go.RowKit Mem LimbNum Limb1 NatL GcdA RatL RatM RatN RatF MulN MulW MulL QNum RefZ FloL AddN JoinL AddW AddV

theorem nl_mul (x y k l : Nat) (hx : (nl x).length ≤ k) (hy : (nl y).length ≤ l) : (nl (x * y)).length ≤ k + l := by
  apply nl_lt
  have h1 := val_lt (nl x) (small_nl x)
  have h2 := val_lt (nl y) (small_nl y)
  rw [val_nl] at h1 h2
  rw [Nat.pow_add]
  exact Nat.mul_lt_mul'' (Nat.lt_of_lt_of_le h1 (Nat.pow_le_pow_right (by omega) hx)) (Nat.lt_of_lt_of_le h2 (Nat.pow_le_pow_right (by omega) hy))
theorem nl_sum (a b : Bool) (x y k : Nat) (hx : (nl x).length ≤ k) (hy : (nl y).length ≤ k) : (nl (sumV a b x y)).length ≤ k + 1 := by
  refine Nat.le_trans (nl_mono _ _ (sumV_le a b x y)) ?_
  apply nl_lt
  have h1 := val_lt (nl x) (small_nl x)
  have h2 := val_lt (nl y) (small_nl y)
  rw [val_nl] at h1 h2
  have e1 := Nat.lt_of_lt_of_le h1 (Nat.pow_le_pow_right (show 0 < 4294967296 by omega) hx)
  have e2 := Nat.lt_of_lt_of_le h2 (Nat.pow_le_pow_right (show 0 < 4294967296 by omega) hy)
  rw [Nat.pow_succ]; omega
set_option maxRecDepth 20000 in
set_option maxHeartbeats 4000000 in
theorem radd (v1 v2 : Value) (b1 b2 : Bool) (n1 d1 n2 d2 : Nat) (w : World) (h1 : IsRat w v1 b1 n1 d1) (h2 : IsRat w v2 b2 n2 d2) (l1 : (nl n1).length ≤ 1000000) (l2 : (nl d1).length ≤ 1000000) (l3 : (nl n2).length ≤ 1000000) (l4 : (nl d2).length ≤ 1000000) :
    Calls Try.prog 19 #[v1, v2] w fun e w' => ∃ v', e = .returned v' ∧ IsRat w' v' (addB b1 n1 d1 b2 n2 d2) (addN b1 n1 d1 b2 n2 d2) (addD b1 n1 d1 b2 n2 d2) ∧ Below w.heap.size w w' := by
  obtain ⟨eN, eD, eB, pD, cG1⟩ := sum_low b1 b2 h1.1.one h2.1.one h1.1.pos h2.1.pos
  have pd1 := h1.1.pos
  have pd2 := h2.1.pos
  have o1' := h1.1.one
  have o2' := h2.1.one
  have eAB : addB b1 n1 d1 b2 n2 d2 = (sumB b1 b2 (n1 * d2) (n2 * d1) && decide (addN b1 n1 d1 b2 n2 d2 ≠ 0)) := rfl
  have g0 : 0 < Nat.gcd d1 d2 := Nat.gcd_pos_of_pos_right _ pd2
  have lg : (nl (Nat.gcd d1 d2)).length ≤ 1000000 := Nat.le_trans (nl_mono _ _ (Nat.gcd_le_left _ pd1)) l2
  have lr : (nl (d1 / Nat.gcd d1 d2)).length ≤ 1000000 := Nat.le_trans (nl_mono _ _ (Nat.div_le_self _ _)) l2
  have ls : (nl (d2 / Nat.gcd d1 d2)).length ≤ 1000000 := Nat.le_trans (nl_mono _ _ (Nat.div_le_self _ _)) l4
  have cG := fun (W : World) (o o' : Option Addr) (c c' : Nat) (h : Lies W o c (ints .u32 (nl d1))) (h' : Lies W o' c' (ints .u32 (nl d2))) => gcd_nl d1 d2 o o' c c' W h h' (by omega) (by omega)
  have cR := fun (W : World) (o o' : Option Addr) (c c' : Nat) (h : Lies W o c (ints .u32 (nl d1))) (h' : Lies W o' c' (ints .u32 (nl (Nat.gcd d1 d2)))) => part_nl d1 _ o o' c c' W h h' (by omega) (by omega) (by omega)
  have cT := fun (W : World) (o o' : Option Addr) (c c' : Nat) (h : Lies W o c (ints .u32 (nl d2))) (h' : Lies W o' c' (ints .u32 (nl (Nat.gcd d1 d2)))) => part_nl d2 _ o o' c c' W h h' (by omega) (by omega) (by omega)
  have cW := fun (W : World) (q1 : n1 < 18446744073709551616) (q2 : d1 < 18446744073709551616) (q3 : n2 < 18446744073709551616) (q4 : d2 < 18446744073709551616) => addWords_any b1 b2 n1 d1 n2 d2 W q1 q2 q3 q4 o1' o2' pd1 pd2
  rw [eAB, eB] at cW ⊢
  generalize hs : d2 / Nat.gcd d1 d2 = s at *
  generalize hr : d1 / Nat.gcd d1 d2 = r at *
  generalize hg : Nat.gcd d1 d2 = g at *
  have cX := fun (W : World) (o o' : Option Addr) (c c' : Nat) (h : Lies W o c (ints .u32 (nl n1))) (h' : Lies W o' c' (ints .u32 (nl s))) => mul_nl n1 s o o' c c' W h h' (by omega) (by omega)
  have cY := fun (W : World) (o o' : Option Addr) (c c' : Nat) (h : Lies W o c (ints .u32 (nl n2))) (h' : Lies W o' c' (ints .u32 (nl r))) => mul_nl n2 r o o' c c' W h h' (by omega) (by omega)
  have lX : (nl (n1 * s)).length ≤ 2000000 := nl_mul n1 s _ _ l1 ls
  have lY : (nl (n2 * r)).length ≤ 2000000 := nl_mul n2 r _ _ l3 lr
  generalize hX : n1 * s = X at *
  generalize hY : n2 * r = Y at *
  have cJ := fun (W : World) (o o' : Option Addr) (c c' : Nat) (h : Lies W o c (ints .u32 (nl X))) (h' : Lies W o' c' (ints .u32 (nl Y))) => join_any b1 b2 X Y o o' c c' W h h' (by omega) (by omega)
  have lV : (nl (sumV b1 b2 X Y)).length ≤ 2000001 := nl_sum b1 b2 X Y _ lX lY
  generalize hV : sumV b1 b2 X Y = V at *
  generalize hnB : sumB b1 b2 X Y = nB at *
  have cH := fun (W : World) (o o' : Option Addr) (c c' : Nat) (h : Lies W o c (ints .u32 (nl V))) (h' : Lies W o' c' (ints .u32 (nl g))) => gcd_nl V g o o' c c' W h h' (by omega) (by omega)
  have h0 : 0 < Nat.gcd V g := Nat.gcd_pos_of_pos_right _ g0
  have lh : (nl (Nat.gcd V g)).length ≤ 1000000 := Nat.le_trans (nl_mono _ _ (Nat.gcd_le_right _ g0)) lg
  have cQ := fun (W : World) (o o' : Option Addr) (c c' : Nat) (h : Lies W o c (ints .u32 (nl V))) (h' : Lies W o' c' (ints .u32 (nl (Nat.gcd V g)))) => part_nl V _ o o' c c' W h h' (by omega) (by omega) (by omega)
  have cU := fun (W : World) (o o' : Option Addr) (c c' : Nat) (h : Lies W o c (ints .u32 (nl d2))) (h' : Lies W o' c' (ints .u32 (nl (Nat.gcd V g)))) => part_nl d2 _ o o' c c' W h h' (by omega) (by omega) (by omega)
  have lT : (nl (d2 / Nat.gcd V g)).length ≤ 1000000 := Nat.le_trans (nl_mono _ _ (Nat.div_le_self _ _)) l4
  have cM := fun (W : World) (o o' : Option Addr) (c c' : Nat) (h : Lies W o c (ints .u32 (nl r))) (h' : Lies W o' c' (ints .u32 (nl (d2 / Nat.gcd V g)))) => mul_nl r _ o o' c c' W h h' (by omega) (by omega)
  rw [← eD] at cM
  rw [← eN] at cQ
  generalize hN : addN b1 n1 d1 b2 n2 d2 = N at *
  generalize hD : addD b1 n1 d1 b2 n2 d2 = D at *
  have cF := fun (W : World) (o o' : Option Addr) (c c' : Nat) (h : Lies W o c (ints .u32 (nl N))) (h' : Lies W o' c' (ints .u32 (nl D))) => fit_any nB N D o o' c c' W h h' pD cG1
  have HLow : Hid (Low (nB && decide (N ≠ 0)) N D) := Low.of_gcd pD cG1
  have cSp1 := fun (W : World) (hb : Below w.heap.size w W) => spread_any v1 b1 n1 d1 W (h1.below hb)
  have cSp2 := fun (W : World) (hb : Below w.heap.size w W) => spread_any v2 b2 n2 d2 W (h2.below hb)
  obtain ⟨A1, L1, p1, rfl⟩ := h1.shape
  obtain ⟨A2, L2, p2, rfl⟩ := h2.shape
  have HXY : Hid (1 ≤ D) := pD
  obtain ⟨b3, eb3⟩ : ∃ x, (nB && decide (N ≠ 0)) = x := ⟨_, rfl⟩
  rw [eb3] at HLow cF cW ⊢
  have EB : Hid ((nB && decide (N ≠ 0)) = b3) := eb3
  clear eb3
  have H1 : Hid (InWords (.agg #[.bool b1, .int .u64 A1, .int .u64 L1, .pointer p1]) b1 n1 d1 ∨ p1 ≠ none) := by
    rcases h1.2 with h | ⟨_, g, _, _, _, _, e, _⟩
    · exact .inl h
    · right; simp at e; rw [e.2.2]; simp
  have H2 : Hid (InWords (.agg #[.bool b2, .int .u64 A2, .int .u64 L2, .pointer p2]) b2 n2 d2 ∨ p2 ≠ none) := by
    rcases h2.2 with h | ⟨_, g, _, _, _, _, e, _⟩
    · exact .inl h
    · right; simp at e; rw [e.2.2]; simp
  clear hX hY hs hr hg hV hnB hN hD h1 h2 eN eD eB eAB pd1 pd2 g0 h0 lg lr ls lX lY lV lh lT l1 l2 l3 l4 o1' o2' pD cG1
  generalize d2 / Nat.gcd V g = T at *
  generalize Nat.gcd V g = h at *
  obtain ⟨W0, eW0⟩ : ∃ W0 : World, ((w.alloc (.cells #[.bool b1, .int .u64 A1, .int .u64 L1, .pointer p1] 28)).alloc (.cells #[.bool b2, .int .u64 A2, .int .u64 L2, .pointer p2] 28)).alloc (.cells #[.bool false, .int .u64 0, .int .u64 0, .pointer none] 28) = W0 := ⟨_, rfl⟩
  have hb0 : Below w.heap.size w W0 := by rw [← eW0]; exact (((Below.refl _ _).alloc (Nat.le_refl _) _).alloc (by simp) _).alloc (by simp; omega) _
  have z1 : (w.alloc (.cells #[.bool b1, .int .u64 A1, .int .u64 L1, .pointer p1] 28)).heap.size = w.heap.size + 1 := by simp
  have z2 : ((w.alloc (.cells #[.bool b1, .int .u64 A1, .int .u64 L1, .pointer p1] 28)).alloc (.cells #[.bool b2, .int .u64 A2, .int .u64 L2, .pointer p2] 28)).heap.size = w.heap.size + 1 + 1 := by simp
  have k0 : W0.heap[w.heap.size]? = some (box4 (.bool b1) (.int .u64 A1) (.int .u64 L1) (.pointer p1)) := by rw [← eW0, heap_alloc_old _ _ (by omega), heap_alloc_old _ _ (by omega)]; exact box_new _ _ _ _ _
  have k1 : W0.heap[w.heap.size + 1]? = some (box4 (.bool b2) (.int .u64 A2) (.int .u64 L2) (.pointer p2)) := by rw [← eW0, heap_alloc_old _ _ (by omega), ← z1]; exact box_new _ _ _ _ _
  have k2 : W0.heap[w.heap.size + 1 + 1]? = some (box4 (.bool false) (.int .u64 0) (.int .u64 0) (.pointer none)) := by rw [← eW0, ← z2]; exact box_new _ _ _ _ _
  have HK0 : Hid (W0.heap[w.heap.size]? = some (box4 (.bool b1) (.int .u64 A1) (.int .u64 L1) (.pointer p1))) := k0
  have HK1 : Hid (W0.heap[w.heap.size + 1]? = some (box4 (.bool b2) (.int .u64 A2) (.int .u64 L2) (.pointer p2))) := k1
  have HK2 : Hid (W0.heap[w.heap.size + 1 + 1]? = some (box4 (.bool false) (.int .u64 0) (.int .u64 0) (.pointer none))) := k2
  have EW : Hid (((w.alloc (.cells #[.bool b1, .int .u64 A1, .int .u64 L1, .pointer p1] 28)).alloc (.cells #[.bool b2, .int .u64 A2, .int .u64 L2, .pointer p2] 28)).alloc (.cells #[.bool false, .int .u64 0, .int .u64 0, .pointer none] 28) = W0) := eW0
  obtain ⟨a0, a1, a2, a3⟩ := box0 k0
  obtain ⟨e0, e1, e2, e3⟩ := box0 k1
  obtain ⟨r0, r1, r2, r3⟩ := box0 k2
  have rf := boxF k2
  clear eW0 z1 z2 k0 k1 k2
  go_enter Try.func19, Try.ntmps19
  go_upto_region 1 with fail
  rw [EW.out]
  go_cut [23] from 16 to 22 (fun v23 wx => v23 = .bool (p1.isNone && p2.isNone) ∧ wx = W0)
  case first =>
    cases p1 with
    | none =>
      cases p2 with
      | none =>
        go_wp2
        go_meet
        exact ⟨rfl, rfl⟩
      | some q =>
        go_wp2
        go_meet
        exact ⟨rfl, rfl⟩
    | some q =>
      go_wp2
      go_meet
      exact ⟨rfl, rfl⟩
  case rest =>
  obtain ⟨rfl, hw0⟩ := hcut
  have hw1 := hw0.symm
  clear hw0
  subst hw1
  go_upto_if 23 with fail
  go_cut [5, 6] from 16 to 31 (fun v5 v6 wx => Hid (Below W0.heap.size W0 wx))
  case first =>
    clear cF cSp1 cSp2 cG cR cT cX cY cJ cH cQ cU cM
    rcases H1.out with i1 | hp
    · rcases H2.out with i2 | hp
      · obtain ⟨q1, q2, e⟩ := i1
        simp only [Value.agg.injEq, Array.mk.injEq, List.cons.injEq, Value.int.injEq, Value.pointer.injEq, and_true, true_and] at e
        obtain ⟨rfl, rfl, rfl⟩ := e
        obtain ⟨q3, q4, e⟩ := i2
        simp only [Value.agg.injEq, Array.mk.injEq, List.cons.injEq, Value.int.injEq, Value.pointer.injEq, and_true, true_and] at e
        obtain ⟨rfl, rfl, rfl⟩ := e
        have cMW := cW W0 q1 q2 q3 q4
        clear cW q1 q2 q3 q4 EB
        generalize (n1 : Int) = N1 at *
        generalize (n2 : Int) = N2 at *
        generalize ((d1 : Int) - 1) = D1 at *
        generalize ((d2 : Int) - 1) = D2 at *
        go_upto_region 3 with (go_at_call 53; refine cMW.mono ?_; rintro e w2 ⟨⟨x, A, z, ok, rfl, hok⟩, hb2⟩; have HO : Hid (ok = true → x = b3 ∧ A = (N : Int) ∧ z = (D : Int) - 1 ∧ N < 18446744073709551616 ∧ D < 18446744073709551616) := hok; clear hok)
        cases ok with
        | false =>
          go_wp2
          go_meet
          exact (hb2.alloc hb2.size _)
        | true =>
          obtain ⟨ex, eA, ez, f1, f2⟩ := HO.out rfl
          subst ex
          have HA : Hid (A = (N : Int) ∧ z = (D : Int) - 1 ∧ N < 18446744073709551616 ∧ D < 18446744073709551616) := ⟨eA, ez, f1, f2⟩
          clear HO eA ez f1 f2
          have kk := box_kept HK2.out hb2 (in_heap HK2.out)
          have kk2 : (w2.alloc (.cells #[.bool x, .int .u64 A, .int .u64 z, .pointer none] 28)).heap[w.heap.size + 1 + 1]? = some (box4 (.bool false) (.int .u64 0) (.int .u64 0) (.pointer none)) := by rw [heap_alloc_old _ _ (in_heap kk)]; exact kk
          obtain ⟨c0, c1, c2, c3⟩ := box0 kk2
          have ff := boxF kk2
          have HKK : Hid ((w2.alloc (.cells #[.bool x, .int .u64 A, .int .u64 z, .pointer none] 28)).heap[w.heap.size + 1 + 1]? = some (box4 (.bool false) (.int .u64 0) (.int .u64 0) (.pointer none))) := kk2
          clear kk kk2
          go_wp2
          have bA : Below w2.heap.size w2 (w2.alloc (.cells #[.bool x, .int .u64 A, .int .u64 z, .pointer none] 28)) := (Below.refl _ _).alloc (Nat.le_refl _) _
          have k2 := box_set HKK.out (.bool x) (.int .u64 A) (.int .u64 z) (.pointer none)
          have hB := box_below (bt (bt hb0 hb2) bA) (show w.heap.size ≤ w.heap.size + 1 + 1 by omega) (.bool x) (.int .u64 A) (.int .u64 z) (.pointer none)
          generalize World.setCell _ _ _ = W' at *
          obtain ⟨g0, g1, g2, g3⟩ := box0 k2
          refine bodyPost_ret (v := .agg #[.bool x, .int .u64 A, .int .u64 z, .pointer none]) ?_ rfl ?_
          · simp [results, go_sem, g0, g1, g2, g3]
          · exact ⟨_, rfl, ⟨HLow.out, .inl ⟨HA.out.2.2.1, HA.out.2.2.2, by rw [HA.out.1, HA.out.2.1]⟩⟩, hB⟩
      · obtain ⟨q1, q2, e⟩ := i1
        simp only [Value.agg.injEq, Array.mk.injEq, List.cons.injEq, Value.int.injEq, Value.pointer.injEq, and_true, true_and] at e
        obtain ⟨rfl, rfl, rfl⟩ := e
        obtain ⟨q, rfl⟩ : ∃ q, p2 = some q := by cases p2 with | none => exact absurd rfl hp | some q => exact ⟨q, rfl⟩
        simp only [Option.isNone_none, Option.isNone_some, Bool.and_false]
        go_wp2
        go_meet
        exact Below.refl _ _
    · obtain ⟨q, rfl⟩ : ∃ q, p1 = some q := by cases p1 with | none => exact absurd rfl hp | some q => exact ⟨q, rfl⟩
      simp only [Option.isNone_some, Bool.false_and]
      go_wp2
      go_meet
      exact Below.refl _ _
  case rest =>
  obtain ⟨w3, ew3⟩ : ∃ W, W = wc := ⟨_, rfl⟩
  subst ew3
  have B3 := hcut.out
  have k0 := box_kept HK0.out B3 (in_heap HK0.out)
  have k1 := box_kept HK1.out B3 (in_heap HK1.out)
  have hb3 : Below w.heap.size w w3 := bt hb0 B3
  obtain ⟨a0, a1, a2, a3⟩ := box0 k0
  have HB3 : Hid (Below W0.heap.size W0 w3) := B3
  clear cW hcut B3 k0 H1 H2 r0 r1 r2 r3 rf
  have t1 : True := trivial
  go_upto_region 9 with (first
    | (go_at_call 47; have _t := t1; clear _t t1; refine (cSp1 _ hb3).mono ?_; rintro e w4 ⟨o1, c1, o2, c2, rfl, l1, l2, hb4⟩; have h34 := bt hb3 hb4; have kk1 := box_kept k1 hb4 (in_heap k1); obtain ⟨e0, e1, e2, e3⟩ := box0 kk1)
    | (go_at_call 47; refine (cSp2 _ h34).mono ?_; rintro e w5 ⟨o3, c3, o4, c4, rfl, l3, l4, hb5⟩; have l1' := l1.below hb5 (Nat.le_refl _); have l2' := l2.below hb5 (Nat.le_refl _))
    | (go_at_call 54; refine (cG _ _ _ _ _ l2' l4).mono ?_; rintro e w6 ⟨o5, c5, rfl, l5, hb6⟩)
    | (go_at_call 55; refine (cR _ _ _ _ _ (l2'.below hb6 (Nat.le_refl _)) l5).mono ?_; rintro e w7 ⟨o6, c6, rfl, l6, hb7⟩))
  have E7 : Below w3.heap.size w3 w7 := bt (bt (bt hb4 hb5) hb6) hb7
  have s0 : w7.drew.cell? ⟨w.heap.size, 0, none⟩ = some (.bool b1) ∧ w7.drew.cell? ⟨w.heap.size + 1, 0, none⟩ = some (.bool b2) := two_kept E7.drew ⟨a0, (box0 k1).1⟩
  have HK7 : Hid (w7.heap[w.heap.size + 1 + 1]? = some (box4 (.bool false) (.int .u64 0) (.int .u64 0) (.pointer none))) := box_kept (box_kept HK2.out HB3.out (in_heap HK2.out)) E7 (in_heap (box_kept HK2.out HB3.out (in_heap HK2.out)))
  have HB7 : Hid (Below w.heap.size w w7) := bt hb3 E7
  have d7 : Below w7.heap.size w7 w7.drew := (Below.refl _ _).drew
  have L1 : Lies w7.drew o1 c1 (ints .u32 (nl n1)) := (l1'.below (bt hb6 hb7) (Nat.le_refl _)).below d7 (Nat.le_refl _)
  have L3 : Lies w7.drew o3 c3 (ints .u32 (nl n2)) := (l3.below (bt hb6 hb7) (Nat.le_refl _)).below d7 (Nat.le_refl _)
  have L4 : Lies w7.drew o4 c4 (ints .u32 (nl d2)) := (l4.below (bt hb6 hb7) (Nat.le_refl _)).below d7 (Nat.le_refl _)
  have L5 : Lies w7.drew o5 c5 (ints .u32 (nl g)) := (l5.below hb7 (Nat.le_refl _)).below d7 (Nat.le_refl _)
  have L6 : Lies w7.drew o6 c6 (ints .u32 (nl r)) := l6.below d7 (Nat.le_refl _)
  have u1 : True := trivial
  have u2 : True := trivial
  clear cSp1 cSp2 cG cR l1 l2 l3 l4 l5 l6 l1' l2' hb4 hb5 hb6 hb7 k1 kk1 E7 h34 a0 a1 a2 a3 e0 e1 e2 e3 hb3 hb0
  go_region_held3 (fun w' => w'.cell? ⟨w.heap.size, 0, none⟩ = some (.bool b1) ∧ w'.cell? ⟨w.heap.size + 1, 0, none⟩ = some (.bool b2))
    (first | with_reducible exact s0 | with_reducible exact s1 | with_reducible exact s2 | with_reducible exact s3 | with_reducible exact s4) (first
    | (go_at_call 55; refine (cT _ _ _ _ _ L4 L5).mono ?_; rintro e w8 ⟨q1, f1, rfl, M1, hb8⟩; have s1 := two_kept hb8 s0)
    | (go_at_call 57; have _t := u1; clear _t u1; refine (cX _ _ _ _ _ (L1.below hb8 (Nat.le_refl _)) M1).mono ?_; rintro e w9 ⟨q2, f2, rfl, M2, hb9⟩; have s2 := two_kept hb9 s1; have C9 := bt hb8 hb9)
    | (go_at_call 57; refine (cY _ _ _ _ _ (L3.below C9 (Nat.le_refl _)) (L6.below C9 (Nat.le_refl _))).mono ?_; rintro e w10 ⟨q3, f3, rfl, M3, hb10⟩; have s3 := two_kept hb10 s2; have C10 := bt C9 hb10)
    | (go_at_call 56; refine (cJ _ _ _ _ _ (M2.below hb10 (Nat.le_refl _)) M3).mono ?_; rintro e w11 ⟨q4, f4, rfl, M4, hb11⟩; have s4 := two_kept hb11 s3; have C11 := bt C10 hb11))
  have N4 := L4.below C11 (Nat.le_refl _)
  have N5 := L5.below C11 (Nat.le_refl _)
  have N6 := L6.below C11 (Nat.le_refl _)
  have HC11 : Hid (Below w7.heap.size w7 w11) := bt d7 C11
  clear s0 s1 s2 s3 s4 L1 L3 L4 L5 L6 M1 M2 M3 C9 C10 C11 hb8 hb9 hb10 hb11 cT cX cY cJ d7
  all_goals go_wp2_with (first
    | (go_at_call 54; refine (cH _ _ _ _ _ M4 N5).mono ?_; rintro e w12 ⟨q5, f5, rfl, M5, hb12⟩)
    | (go_at_call 55; have _t := u2; clear _t u2; refine (cQ _ _ _ _ _ (M4.below hb12 (Nat.le_refl _)) M5).mono ?_; rintro e w13 ⟨q6, f6, rfl, M6, hb13⟩; have C13 := bt hb12 hb13)
    | (go_at_call 55; refine (cU _ _ _ _ _ (N4.below C13 (Nat.le_refl _)) (M5.below hb13 (Nat.le_refl _))).mono ?_; rintro e w14 ⟨q7, f7, rfl, M7, hb14⟩; have C14 := bt C13 hb14)
    | (go_at_call 57; refine (cM _ _ _ _ _ (N6.below C14 (Nat.le_refl _)) M7).mono ?_; rintro e w15 ⟨q8, f8, rfl, M8, hb15⟩)
    | (go_at_call 58; refine (cF _ _ _ _ _ (M6.below (bt hb14 hb15) (Nat.le_refl _)) M8).mono ?_; rintro e w16 ⟨v16, rfl, R16, hb16⟩; have C16 := bt HC11.out (bt C14 (bt hb15 hb16)); obtain ⟨VA, VL, vp, rfl⟩ := R16.shape; have kk := box_kept HK7.out C16 (in_heap HK7.out); obtain ⟨c0, c1, c2, c3⟩ := box0 kk; have ff := boxF kk; have HKK : Hid (w16.heap[w.heap.size + 1 + 1]? = some (box4 (.bool false) (.int .u64 0) (.int .u64 0) (.pointer none))) := kk; have HR16 : Hid (IsRat w16 (.agg #[.bool b3, .int .u64 VA, .int .u64 VL, .pointer vp]) b3 N D) := R16; have HC16 : Hid (Below w7.heap.size w7 w16) := C16; clear kk R16 C16))
  have k2 := box_set HKK.out (.bool b3) (.int .u64 VA) (.int .u64 VL) (.pointer vp)
  have hB := box_below (bt HB7.out HC16.out) (show w.heap.size ≤ w.heap.size + 1 + 1 by omega) (.bool b3) (.int .u64 VA) (.int .u64 VL) (.pointer vp)
  have hR2 := HR16.out.set4 HKK.out (.bool b3) (.int .u64 VA) (.int .u64 VL) (.pointer vp)
  generalize World.setCell _ _ _ = W' at *
  obtain ⟨g0, g1, g2, g3⟩ := box0 k2
  refine bodyPost_ret (v := .agg #[.bool b3, .int .u64 VA, .int .u64 VL, .pointer vp]) ?_ rfl ?_
  · simp [results, go_sem, g0, g1, g2, g3]
  · exact ⟨_, rfl, hR2, hB⟩
end Go.Proofs.Ytfkaeehbnnhfoaa.AddR

/- Rational numbers, the program's: each call's answer as a quotient of two whole numbers, in lowest terms or not. -/
namespace Go.Proofs.Ytfkaeehbnnhfoaa.FldL
open Go.RowKit Mem LimbNum Limb1 NatL GcdA RatL RatM RatN RatF RatO MulN MulW MulL RefR RefT RefU InvL DivL QNum CmpL CmqL RefX RefY RefZ FloL Mk5 AddN JoinL AddW AddV AddR

theorem nl_of_nb {n k : Nat} (h : (nb n).length ≤ k) : (nl n).length ≤ k := by
  apply nl_lt
  have h1 := fromL_lt (nb n)
  rw [fromL_nb] at h1
  exact Nat.lt_of_lt_of_le (Nat.lt_of_lt_of_le h1 (Nat.pow_le_pow_right (by omega) h)) (Nat.pow_le_pow_left (by omega) k)
theorem sv_flag (b : Bool) (n : Nat) : sv (b && decide (n ≠ 0)) n = sv b n := by
  unfold sv; by_cases h : n = 0
  · subst h; cases b <;> simp
  · simp [h]
theorem cmpI_mul (x y c : Int) (hc : 0 < c) : cmpI (x * c) (y * c) = cmpI x y := by
  unfold cmpI
  by_cases h : x < y
  · rw [if_pos h, if_pos (Int.mul_lt_mul_of_pos_right h hc)]
  · rw [if_neg h, if_neg (fun e => h (Int.lt_of_mul_lt_mul_right e (Int.le_of_lt hc)))]
    by_cases h2 : x = y
    · subst h2; simp
    · rw [if_neg h2, if_neg (fun e => h2 (Int.eq_of_mul_eq_mul_right (by omega) e))]
theorem add_val (b1 b2 : Bool) (n1 d1 n2 d2 : Nat) : ∃ g : Nat, sv (addB b1 n1 d1 b2 n2 d2) (addN b1 n1 d1 b2 n2 d2) * g = sv b1 n1 * d2 + sv b2 n2 * d1 ∧ addD b1 n1 d1 b2 n2 d2 * g = d1 * d2 := by
  refine ⟨Nat.gcd (sumV b1 b2 (n1 * d2) (n2 * d1)) (d1 * d2), ?_, ?_⟩
  · unfold addB addN
    rw [sv_flag, ← sv_mul, Nat.div_mul_cancel (Nat.gcd_dvd_left _ _), sum_sv, sv_mul, sv_mul]
  · unfold addD
    rw [Nat.div_mul_cancel (Nat.gcd_dvd_right _ _)]
theorem sv_ne (b1 b2 : Bool) (n1 n2 : Nat) : sv (b1 != b2) (n1 * n2) = sv b1 n1 * sv b2 n2 := by
  unfold sv; cases b1 <;> cases b2 <;> simp [Int.neg_mul, Int.mul_neg]
theorem mul_val (b1 b2 : Bool) (n1 d1 n2 d2 : Nat) : ∃ g : Nat, sv ((b1 != b2) && decide (n1 * n2 / Nat.gcd (n1 * n2) (d1 * d2) ≠ 0)) (n1 * n2 / Nat.gcd (n1 * n2) (d1 * d2)) * g = sv b1 n1 * sv b2 n2 ∧ d1 * d2 / Nat.gcd (n1 * n2) (d1 * d2) * g = d1 * d2 := by
  refine ⟨Nat.gcd (n1 * n2) (d1 * d2), ?_, Nat.div_mul_cancel (Nat.gcd_dvd_right _ _)⟩
  rw [sv_flag, ← sv_mul, Nat.div_mul_cancel (Nat.gcd_dvd_left _ _), sv_ne]
/-- The value v is P / Q; its two numbers have at most k bits. -/
def RV (w : World) (v : Value) (P Q : Int) (k : Nat) : Prop := 0 < Q ∧ ∃ b n d, IsRat w v b n d ∧ sv b n * Q = P * d ∧ (nb n).length ≤ k ∧ (nb d).length ≤ k
theorem RV.below {w w' : World} {v : Value} {P Q : Int} {k : Nat} (h : RV w v P Q k) (hb : Below w.heap.size w w') : RV w' v P Q k := by
  obtain ⟨h0, b, n, d, h1, h2, h3, h4⟩ := h
  exact ⟨h0, b, n, d, h1.below hb, h2, h3, h4⟩
theorem RV.of {w : World} {v : Value} {b : Bool} {n d k : Nat} (h : IsRat w v b n d) (h1 : (nb n).length ≤ k) (h2 : (nb d).length ≤ k) : RV w v (sv b n) d k :=
  ⟨by have := h.1.pos; omega, b, n, d, h, rfl, h1, h2⟩
theorem RV.more {w : World} {v : Value} {P Q : Int} {k l : Nat} (h : RV w v P Q k) (hl : k ≤ l) : RV w v P Q l := by
  obtain ⟨h0, b, n, d, h1, h2, h3, h4⟩ := h
  exact ⟨h0, b, n, d, h1, h2, by omega, by omega⟩
theorem ring_add {A g S1 S2 d1 d2 D P1 Q1 P2 Q2 : Int} (e1 : A * g = S1 * d2 + S2 * d1) (e2 : D * g = d1 * d2) (h1 : S1 * Q1 = P1 * d1) (h2 : S2 * Q2 = P2 * d2) (hg : g ≠ 0) : A * (Q1 * Q2) = (P1 * Q2 + P2 * Q1) * D := by
  apply Int.eq_of_mul_eq_mul_right hg
  have : A * (Q1 * Q2) * g = (A * g) * (Q1 * Q2) := by grind
  rw [this, e1]
  have : (P1 * Q2 + P2 * Q1) * D * g = (P1 * Q2 + P2 * Q1) * (D * g) := by grind
  rw [this, e2]
  have e3 : (S1 * d2 + S2 * d1) * (Q1 * Q2) = (S1 * Q1) * (d2 * Q2) + (S2 * Q2) * (d1 * Q1) := by grind
  rw [e3, h1, h2]
  grind
theorem ring_mul {A g S1 S2 d1 d2 D P1 Q1 P2 Q2 : Int} (e1 : A * g = S1 * S2) (e2 : D * g = d1 * d2) (h1 : S1 * Q1 = P1 * d1) (h2 : S2 * Q2 = P2 * d2) (hg : g ≠ 0) : A * (Q1 * Q2) = (P1 * P2) * D := by
  apply Int.eq_of_mul_eq_mul_right hg
  have : A * (Q1 * Q2) * g = (A * g) * (Q1 * Q2) := by grind
  rw [this, e1]
  have : (P1 * P2) * D * g = (P1 * P2) * (D * g) := by grind
  rw [this, e2]
  have e3 : S1 * S2 * (Q1 * Q2) = (S1 * Q1) * (S2 * Q2) := by grind
  rw [e3, h1, h2]
  grind
theorem rv_add {v1 v2 : Value} {P1 Q1 P2 Q2 : Int} {k : Nat} (hk : k ≤ 100000) {w : World} (h1 : RV w v1 P1 Q1 k) (h2 : RV w v2 P2 Q2 k) :
    Calls Try.prog 19 #[v1, v2] w fun e w' => ∃ v, e = .returned v ∧ RV w' v (P1 * Q2 + P2 * Q1) (Q1 * Q2) (2 * k + 1) ∧ Below w.heap.size w w' := by
  obtain ⟨q1, b1, n1, d1, r1, e1, l1, l2⟩ := h1
  obtain ⟨q2, b2, n2, d2, r2, e2, l3, l4⟩ := h2
  refine (radd v1 v2 b1 b2 n1 d1 n2 d2 w r1 r2 (Nat.le_trans (nl_of_nb l1) (by omega)) (Nat.le_trans (nl_of_nb l2) (by omega)) (Nat.le_trans (nl_of_nb l3) (by omega)) (Nat.le_trans (nl_of_nb l4) (by omega))).mono ?_
  rintro e w' ⟨v, rfl, R, hb⟩
  obtain ⟨g, f1, f2⟩ := add_val b1 b2 n1 d1 n2 d2
  have hg : (g : Int) ≠ 0 := by
    intro e
    have e : g = 0 := by omega
    rw [e] at f2
    have := Nat.mul_pos r1.1.pos r2.1.pos
    omega
  refine ⟨v, rfl, ⟨Int.mul_pos q1 q2, _, _, _, R, ring_add f1 (by exact_mod_cast f2) e1 e2 hg, ?_, ?_⟩, hb⟩
  · have bX := mul_bits n1 d2 _ _ l1 l4
    have bY := mul_bits n2 d1 _ _ l3 l2
    exact Nat.le_trans (bits_div _ _ _ (sumV_bits b1 b2 _ _ _ bX bY)) (by omega)
  · exact Nat.le_trans (bits_div _ _ _ (mul_bits d1 d2 _ _ l2 l4)) (by omega)
theorem rv_mul {v1 v2 : Value} {P1 Q1 P2 Q2 : Int} {k : Nat} (hk : k ≤ 100000) {w : World} (h1 : RV w v1 P1 Q1 k) (h2 : RV w v2 P2 Q2 k) :
    Calls Try.prog 23 #[v1, v2] w fun e w' => ∃ v, e = .returned v ∧ RV w' v (P1 * P2) (Q1 * Q2) (2 * k) ∧ Below w.heap.size w w' := by
  obtain ⟨q1, b1, n1, d1, r1, e1, l1, l2⟩ := h1
  obtain ⟨q2, b2, n2, d2, r2, e2, l3, l4⟩ := h2
  refine (rmul v1 v2 b1 b2 n1 d1 n2 d2 w r1 r2 (Nat.le_trans (nl_of_nb l1) (by omega)) (Nat.le_trans (nl_of_nb l2) (by omega)) (Nat.le_trans (nl_of_nb l3) (by omega)) (Nat.le_trans (nl_of_nb l4) (by omega))).mono ?_
  rintro e w' ⟨v, rfl, R, hb⟩
  obtain ⟨g, f1, f2⟩ := mul_val b1 b2 n1 d1 n2 d2
  have hg : (g : Int) ≠ 0 := by
    intro e
    have e : g = 0 := by omega
    rw [e] at f2
    have := Nat.mul_pos r1.1.pos r2.1.pos
    omega
  refine ⟨v, rfl, ⟨Int.mul_pos q1 q2, _, _, _, R, ring_mul f1 (by exact_mod_cast f2) e1 e2 hg, ?_, ?_⟩, hb⟩
  · exact Nat.le_trans (bits_div _ _ _ (mul_bits n1 n2 _ _ l1 l3)) (by omega)
  · exact Nat.le_trans (bits_div _ _ _ (mul_bits d1 d2 _ _ l2 l4)) (by omega)
theorem rv_cmp {v1 v2 : Value} {P1 Q1 P2 Q2 : Int} {k1 k2 : Nat} (hk1 : k1 ≤ 100000) (hk2 : k2 ≤ 100000) {w : World} (h1 : RV w v1 P1 Q1 k1) (h2 : RV w v2 P2 Q2 k2) :
    Calls Try.prog 17 #[v1, v2] w fun e w' => e = .returned (.int .i64 (cmpI (P1 * Q2) (P2 * Q1))) ∧ Below w.heap.size w w' := by
  obtain ⟨q1, b1, n1, d1, r1, e1, l1, l2⟩ := h1
  obtain ⟨q2, b2, n2, d2, r2, e2, l3, l4⟩ := h2
  have := cmp_q v1 v2 b1 b2 n1 d1 n2 d2 w r1 r2 (Nat.le_trans (nl_of_nb l1) (by omega)) (Nat.le_trans (nl_of_nb l2) (by omega)) (Nat.le_trans (nl_of_nb l3) (by omega)) (Nat.le_trans (nl_of_nb l4) (by omega))
  have p1 := r1.1.pos
  have p2 := r2.1.pos
  have e : cmpQ b1 n1 d1 b2 n2 d2 = cmpI (P1 * Q2) (P2 * Q1) := by
    unfold cmpQ
    rw [sv_mul, sv_mul, ← cmpI_mul _ _ (Q1 * Q2) (Int.mul_pos q1 q2), ← cmpI_mul (P1 * Q2) (P2 * Q1) ((d1 : Int) * d2) (Int.mul_pos (by omega) (by omega))]
    generalize sv b1 n1 = S1 at *
    generalize sv b2 n2 = S2 at *
    generalize (d1 : Int) = D1 at *
    generalize (d2 : Int) = D2 at *
    have f1 : S1 * D2 * (Q1 * Q2) = (S1 * Q1) * (D2 * Q2) := by grind
    have f2 : S2 * D1 * (Q1 * Q2) = (S2 * Q2) * (D1 * Q1) := by grind
    rw [f1, f2, e1, e2]
    congr 1 <;> grind
  rw [← e]
  exact this
theorem rv_sign {v : Value} {P Q : Int} {k : Nat} {w : World} (h : RV w v P Q k) : Calls Try.prog 27 #[v] w fun e w' => e = .returned (.int .i64 (cmpI P 0)) ∧ Below w.heap.size w w' := by
  obtain ⟨q, b, n, d, r, e, l1, l2⟩ := h
  have := sign_any v b n d w r
  have p := r.1.pos
  rw [sgn_sv, ← cmpI_mul _ _ Q q, e, Int.zero_mul, show (0 : Int) = 0 * (d : Int) by omega, cmpI_mul _ _ (d : Int) (by omega)] at this
  exact this
end Go.Proofs.Ytfkaeehbnnhfoaa.FldL

/- Rational numbers, the program's: the difference. -/
namespace Go.Proofs.Ytfkaeehbnnhfoaa.SubL
open Go.RowKit Mem LimbNum Limb1 NatL GcdA RatL RatM RatN RatF RatO MulN MulW MulL RefR RefT RefU InvL DivL QNum CmpL CmqL RefX RefY RefZ FloL Mk5 AddN JoinL AddW AddV AddR FldL

theorem neg_flag (b : Bool) (n : Nat) : decide (0 < sgn b n) = (!b && decide (n ≠ 0)) := by
  unfold sgn; by_cases h : n = 0
  · simp [h]
  · cases b <;> simp [h]
theorem cells_kept8 {W w5 : World} {g h : Nat} {a0 a1 a2 a3 b0 b1 b2 b3 : Value} (hg : w5.heap[g]? = W.heap[g]?) (hh : w5.heap[h]? = W.heap[h]?) (H : W.cell? ⟨g, 0, none⟩ = some a0 ∧ W.cell? ⟨g, 1, none⟩ = some a1 ∧ W.cell? ⟨g, 2, none⟩ = some a2 ∧ W.cell? ⟨g, 3, none⟩ = some a3 ∧ W.cell? ⟨h, 0, none⟩ = some b0 ∧ W.cell? ⟨h, 1, none⟩ = some b1 ∧ W.cell? ⟨h, 2, none⟩ = some b2 ∧ W.cell? ⟨h, 3, none⟩ = some b3) :
    w5.cell? ⟨g, 0, none⟩ = some a0 ∧ w5.cell? ⟨g, 1, none⟩ = some a1 ∧ w5.cell? ⟨g, 2, none⟩ = some a2 ∧ w5.cell? ⟨g, 3, none⟩ = some a3 ∧ w5.cell? ⟨h, 0, none⟩ = some b0 ∧ w5.cell? ⟨h, 1, none⟩ = some b1 ∧ w5.cell? ⟨h, 2, none⟩ = some b2 ∧ w5.cell? ⟨h, 3, none⟩ = some b3 := by
  simp only [World.cell?, hg, hh] at H ⊢
  exact H
set_option maxRecDepth 20000 in
set_option maxHeartbeats 2000000 in
theorem rsub (v1 v2 : Value) (b1 b2 : Bool) (n1 d1 n2 d2 : Nat) (w : World) (h1 : IsRat w v1 b1 n1 d1) (h2 : IsRat w v2 b2 n2 d2) (l1 : (nl n1).length ≤ 1000000) (l2 : (nl d1).length ≤ 1000000) (l3 : (nl n2).length ≤ 1000000) (l4 : (nl d2).length ≤ 1000000) :
    Calls Try.prog 21 #[v1, v2] w fun e w' => ∃ v', e = .returned v' ∧ IsRat w' v' (addB b1 n1 d1 (!b2 && decide (n2 ≠ 0)) n2 d2) (addN b1 n1 d1 (!b2 && decide (n2 ≠ 0)) n2 d2) (addD b1 n1 d1 (!b2 && decide (n2 ≠ 0)) n2 d2) ∧ Below w.heap.size w w' := by
  rw [← neg_flag]
  obtain ⟨b3, eb⟩ : ∃ x, decide (0 < sgn b2 n2) = x := ⟨_, rfl⟩
  have cN := fun (W : World) (hb : Below w.heap.size w W) => neg_any v2 b2 n2 d2 W (h2.below hb)
  simp only [eb] at cN
  rw [eb]
  have cA := fun (W : World) (v : Value) (hb : Below w.heap.size w W) (h : IsRat W v b3 n2 d2) => radd v1 v b1 b3 n1 d1 n2 d2 W (h1.below hb) h l1 l2 l3 l4
  generalize addB b1 n1 d1 b3 n2 d2 = rb at *
  generalize addN b1 n1 d1 b3 n2 d2 = rn at *
  generalize addD b1 n1 d1 b3 n2 d2 = rd at *
  obtain ⟨A1, L1, p1, rfl⟩ := h1.shape
  obtain ⟨A2, L2, p2, rfl⟩ := h2.shape
  clear h1 h2 l1 l2 l3 l4 eb
  obtain ⟨W0, eW0, hb0, hk0, hk1, hk2⟩ := three_new w (.cells #[.bool b1, .int .u64 A1, .int .u64 L1, .pointer p1] 28) (.cells #[.bool b2, .int .u64 A2, .int .u64 L2, .pointer p2] 28) (.cells #[.bool false, .int .u64 0, .int .u64 0, .pointer none] 28)
  have s0 : W0.drew.cell? ⟨w.heap.size, 0, none⟩ = some (.bool b1) ∧ W0.drew.cell? ⟨w.heap.size, 1, none⟩ = some (.int .u64 A1) ∧ W0.drew.cell? ⟨w.heap.size, 2, none⟩ = some (.int .u64 L1) ∧ W0.drew.cell? ⟨w.heap.size, 3, none⟩ = some (.pointer p1) ∧ W0.drew.cell? ⟨w.heap.size + 1, 0, none⟩ = some (.bool b2) ∧ W0.drew.cell? ⟨w.heap.size + 1, 1, none⟩ = some (.int .u64 A2) ∧ W0.drew.cell? ⟨w.heap.size + 1, 2, none⟩ = some (.int .u64 L2) ∧ W0.drew.cell? ⟨w.heap.size + 1, 3, none⟩ = some (.pointer p2) := by
    obtain ⟨a0, a1, a2, a3⟩ := box0 hk0
    obtain ⟨c0, c1, c2, c3⟩ := box0 hk1
    exact ⟨a0, a1, a2, a3, c0, c1, c2, c3⟩
  have hb0d := hb0.drew
  have HK2 : Hid (W0.drew.heap[w.heap.size + 1 + 1]? = some (.cells #[.bool false, .int .u64 0, .int .u64 0, .pointer none] 28)) := hk2
  have ne1 : w.heap.size ≠ w.heap.size + 1 + 1 := by omega
  have ne2 : w.heap.size + 1 ≠ w.heap.size + 1 + 1 := by omega
  have EW : Hid (_ = W0) := eW0
  clear eW0 hk0 hk1 hk2
  go_enter Try.func21, Try.ntmps21
  go_wp2
  rw [EW.out]
  go_region_held3 (fun w' => w'.cell? ⟨w.heap.size, 0, none⟩ = some (.bool b1) ∧ w'.cell? ⟨w.heap.size, 1, none⟩ = some (.int .u64 A1) ∧ w'.cell? ⟨w.heap.size, 2, none⟩ = some (.int .u64 L1) ∧ w'.cell? ⟨w.heap.size, 3, none⟩ = some (.pointer p1) ∧ w'.cell? ⟨w.heap.size + 1, 0, none⟩ = some (.bool b2) ∧ w'.cell? ⟨w.heap.size + 1, 1, none⟩ = some (.int .u64 A2) ∧ w'.cell? ⟨w.heap.size + 1, 2, none⟩ = some (.int .u64 L2) ∧ w'.cell? ⟨w.heap.size + 1, 3, none⟩ = some (.pointer p2)) (first | with_reducible exact s0 | with_reducible exact s1 | with_reducible exact s2 | with_reducible exact s3) (first
    | (go_at_call 25; refine (cN _ hb0d).mono ?_; rintro e w1 ⟨v3, rfl, R3, hb1⟩; have H1 := bt hb0d hb1; have s1 := eight_kept hb1 s0)
    | (go_at_call 19; refine (cA _ _ H1 R3).mono ?_; rintro e w2 ⟨v4, rfl, R4, hb2⟩; have H2 := bt H1 hb2; have s2 := eight_kept hb2 s1; obtain ⟨VA, VL, vp, rfl⟩ := R4.shape; have kk := box_kept HK2.out (bt hb1 hb2) (in_heap HK2.out); obtain ⟨d0, d1, d2, d3⟩ := box0 kk; have ff := boxF kk; have s3 := cells_kept8 ((set4_off w2 (w.heap.size + 1 + 1) (.bool rb) (.int .u64 VA) (.int .u64 VL) (.pointer vp)).1 _ ne1) ((set4_off w2 (w.heap.size + 1 + 1) (.bool rb) (.int .u64 VA) (.int .u64 VL) (.pointer vp)).1 _ ne2) s2; have HK : Hid (w2.heap[w.heap.size + 1 + 1]? = some (.cells #[.bool false, .int .u64 0, .int .u64 0, .pointer none] 28)) := kk; clear kk))
  all_goals go_wp2
  have k2 := box_set HK.out (.bool rb) (.int .u64 VA) (.int .u64 VL) (.pointer vp)
  have hB := box_below H2 (show w.heap.size ≤ w.heap.size + 1 + 1 by omega) (.bool rb) (.int .u64 VA) (.int .u64 VL) (.pointer vp)
  have hR := R4.set4 HK.out (.bool rb) (.int .u64 VA) (.int .u64 VL) (.pointer vp)
  generalize World.setCell _ _ _ = W' at *
  obtain ⟨g0, g1, g2, g3⟩ := box0 k2
  refine bodyPost_ret (v := .agg #[.bool rb, .int .u64 VA, .int .u64 VL, .pointer vp]) ?_ rfl ?_
  · simp [results, go_sem, g0, g1, g2, g3]
  · exact ⟨_, rfl, hR, hB⟩
theorem rv_sub {v1 v2 : Value} {P1 Q1 P2 Q2 : Int} {k : Nat} (hk : k ≤ 100000) {w : World} (h1 : RV w v1 P1 Q1 k) (h2 : RV w v2 P2 Q2 k) :
    Calls Try.prog 21 #[v1, v2] w fun e w' => ∃ v, e = .returned v ∧ RV w' v (P1 * Q2 - P2 * Q1) (Q1 * Q2) (2 * k + 1) ∧ Below w.heap.size w w' := by
  obtain ⟨q1, b1, n1, d1, r1, e1, l1, l2⟩ := h1
  obtain ⟨q2, b2, n2, d2, r2, e2, l3, l4⟩ := h2
  refine (rsub v1 v2 b1 b2 n1 d1 n2 d2 w r1 r2 (Nat.le_trans (nl_of_nb l1) (by omega)) (Nat.le_trans (nl_of_nb l2) (by omega)) (Nat.le_trans (nl_of_nb l3) (by omega)) (Nat.le_trans (nl_of_nb l4) (by omega))).mono ?_
  rintro e w' ⟨v, rfl, R, hb⟩
  obtain ⟨g, f1, f2⟩ := add_val b1 (!b2 && decide (n2 ≠ 0)) n1 d1 n2 d2
  have hg : (g : Int) ≠ 0 := by
    intro e
    have e : g = 0 := by omega
    rw [e] at f2
    have := Nat.mul_pos r1.1.pos r2.1.pos
    omega
  have e3 : sv (!b2 && decide (n2 ≠ 0)) n2 * Q2 = (-P2) * d2 := by rw [sv_not, Int.neg_mul, e2, Int.neg_mul]
  have := ring_add f1 (by rw [← Int.natCast_mul, f2, Int.natCast_mul]) e1 e3 hg
  rw [show P1 * Q2 + (-P2) * Q1 = P1 * Q2 - P2 * Q1 by rw [Int.neg_mul]; rfl] at this
  refine ⟨v, rfl, ⟨Int.mul_pos q1 q2, _, _, _, R, this, ?_, ?_⟩, hb⟩
  · have bX := mul_bits n1 d2 _ _ l1 l4
    have bY := mul_bits n2 d1 _ _ l3 l2
    exact Nat.le_trans (bits_div _ _ _ (sumV_bits b1 _ _ _ _ bX bY)) (by omega)
  · exact Nat.le_trans (bits_div _ _ _ (mul_bits d1 d2 _ _ l2 l4)) (by omega)
end Go.Proofs.Ytfkaeehbnnhfoaa.SubL

/- Rational numbers, the program's: the sum of a row of numbers. -/
namespace Go.Proofs.Ytfkaeehbnnhfoaa.SumL
open Go.RowKit Mem LimbNum Limb1 NatL GcdA RatL RatM RatN RatF RatO MulN MulW MulL RefR RefT RefU InvL DivL QNum CmpL CmqL RefX RefY RefZ FloL Mk5 AddN JoinL AddW AddV AddR FldL SubL

/-- A number's sign, what is above the bar, what is below. -/
def stepF (F e : Bool × Nat × Nat) : Bool × Nat × Nat := (addB F.1 F.2.1 F.2.2 e.1 e.2.1 e.2.2, addN F.1 F.2.1 F.2.2 e.1 e.2.1 e.2.2, addD F.1 F.2.1 F.2.2 e.1 e.2.1 e.2.2)
def sumF (E : Nat → Bool × Nat × Nat) : Nat → Bool × Nat × Nat
  | 0 => (false, 0, 1)
  | k + 1 => stepF (sumF E k) (E k)
theorem zero_add {b : Bool} {n d : Nat} (h : Low b n d) : stepF (false, 0, 1) (b, n, d) = (b, n, d) := by
  have hv : sumV false b (0 * d) (n * 1) = n := by
    unfold sumV; cases b
    · simp
    · have : n ≠ 0 := fun e => by have := h.sg e; simp at this
      simp; omega
  have hB : (sumB false b (0 * d) (n * 1) && decide (n ≠ 0)) = b := by
    unfold sumB; cases b
    · simp
    · have : n ≠ 0 := fun e => by have := h.sg e; simp at this
      simp [this]
  unfold stepF addB addN addD
  simp only [hv, Nat.one_mul, h.one, Nat.div_one, hB]
theorem sum_bits2 {F e : Bool × Nat × Nat} {k l : Nat} (h1 : (nb F.2.1).length ≤ k) (h2 : (nb F.2.2).length ≤ k) (h3 : (nb e.2.1).length ≤ l) (h4 : (nb e.2.2).length ≤ l) : (nb (stepF F e).2.1).length ≤ k + l + 1 ∧ (nb (stepF F e).2.2).length ≤ k + l + 1 := by
  constructor
  · have bX := mul_bits F.2.1 e.2.2 _ _ h1 h4
    have bY := mul_bits e.2.1 F.2.2 _ _ h3 h2
    exact bits_div _ _ _ (sumV_bits F.1 e.1 _ _ (k + l) bX (by omega))
  · exact Nat.le_trans (bits_div _ _ _ (mul_bits F.2.2 e.2.2 _ _ h2 h4)) (by omega)
theorem sumF_bits (E : Nat → Bool × Nat × Nat) (N : Nat) (hE : ∀ k, k < N → (nb (E k).2.1).length ≤ 1000 ∧ (nb (E k).2.2).length ≤ 1000) : ∀ k, k ≤ N → (nb (sumF E k).2.1).length ≤ 1001 * k + 1 ∧ (nb (sumF E k).2.2).length ≤ 1001 * k + 1
  | 0, _ => ⟨by show (nb 0).length ≤ _; rw [nb_zero]; simp, nb_lt _ 1 (by decide)⟩
  | k + 1, hk => by
    have ih := sumF_bits E N hE k (by omega)
    have he := hE k (by omega)
    have := sum_bits2 (F := sumF E k) (e := E k) ih.1 ih.2 he.1 he.2
    exact ⟨Nat.le_trans this.1 (by omega), Nat.le_trans this.2 (by omega)⟩
set_option maxRecDepth 20000 in
set_option maxHeartbeats 2000000 in
theorem sum_any (N : Nat) (E : Nat → Bool × Nat × Nat) (g off cap : Nat) (w : World) (hN : N ≤ 50) (hE : ∀ k, k < N → (nb (E k).2.1).length ≤ 1000 ∧ (nb (E k).2.2).length ≤ 1000) (hg : g < w.heap.size)
    (hC : ∀ k, k < N → ∃ (A L : Int) (p : Option Addr), w.cell? ⟨g, off + k * 4, none⟩ = some (.bool (E k).1) ∧ w.cell? ⟨g, off + k * 4 + 1, none⟩ = some (.int .u64 A) ∧ w.cell? ⟨g, off + k * 4 + 2, none⟩ = some (.int .u64 L) ∧ w.cell? ⟨g, off + k * 4 + 3, none⟩ = some (.pointer p) ∧
      IsRat w (.agg #[.bool (E k).1, .int .u64 A, .int .u64 L, .pointer p]) (E k).1 (E k).2.1 (E k).2.2) :
    Calls Try.prog 29 #[.slice (some ⟨g, off, none⟩) N cap] w fun e w' => ∃ v, e = .returned v ∧ IsRat w' v (sumF E N).1 (sumF E N).2.1 (sumF E N).2.2 ∧ Below w.heap.size w w' := by
  obtain ⟨W0, eW0, hb0, hk0, hk1⟩ := two_new w (.cells #[.bool false, .int .u64 0, .int .u64 0, .pointer none] 28) (.cells #[.bool false, .int .u64 0, .int .u64 0, .pointer none] 28)
  have HK0 : Hid (W0.heap[w.heap.size]? = some (.cells #[.bool false, .int .u64 0, .int .u64 0, .pointer none] 28)) := hk0
  have HK1 : Hid (W0.heap[w.heap.size + 1]? = some (.cells #[.bool false, .int .u64 0, .int .u64 0, .pointer none] 28)) := hk1
  have HEC : Hid (∀ k, k < N → ∃ (A L : Int) (p : Option Addr), w.cell? ⟨g, off + k * 4, none⟩ = some (.bool (E k).1) ∧ w.cell? ⟨g, off + k * 4 + 1, none⟩ = some (.int .u64 A) ∧ w.cell? ⟨g, off + k * 4 + 2, none⟩ = some (.int .u64 L) ∧ w.cell? ⟨g, off + k * 4 + 3, none⟩ = some (.pointer p) ∧
      IsRat w (.agg #[.bool (E k).1, .int .u64 A, .int .u64 L, .pointer p]) (E k).1 (E k).2.1 (E k).2.2) := hC
  have HBits := sumF_bits E N hE
  have HEB : Hid (∀ k, k < N → (nb (E k).2.1).length ≤ 1000 ∧ (nb (E k).2.2).length ≤ 1000) := hE
  have HFB : Hid (∀ k, k ≤ N → (nb (sumF E k).2.1).length ≤ 1001 * k + 1 ∧ (nb (sumF E k).2.2).length ≤ 1001 * k + 1) := HBits
  have EW : Hid (_ = W0) := eW0
  clear eW0 hk0 hk1 hC hE HBits
  go_enter Try.func29, Try.ntmps29
  go_upto_region 2 with fail
  rw [EW.out]
  go_wp2
  have hS : w.heap.size + 1 < W0.heap.size := in_heap HK1.out
  go_loopw [8] (fun iv wr => ∃ (k : Nat) (A L : Int) (p : Option Addr), k ≤ N ∧ iv = .int .i64 (k : Int) ∧ Hid (RL wr (w.heap.size + 1) (sumF E k).1 (sumF E k).2.1 (sumF E k).2.2 A L p) ∧ Hid (wr.heap[w.heap.size]? = some (.cells #[.bool false, .int .u64 0, .int .u64 0, .pointer none] 28)) ∧ Hid (Below w.heap.size w wr)) (fun iv _ => N - (intOf iv).toNat)
  case atStart => exact ⟨0, 0, 0, none, Nat.zero_le _, rfl, ⟨HK1.out, zero_rat _⟩, HK0.out, hb0⟩
  case round =>
    clear HK0 HK1 EW hb0 hS
    obtain ⟨k, A, L, p, hk, rfl, HR, HZ, HB⟩ := hrel
    by_cases hlt : k < N
    · obtain ⟨A1, L1, p1, f0, f1, f2, f3, fI⟩ := HEC.out k hlt
      have cw : ∀ i, wr.cell? ⟨g, i, none⟩ = w.cell? ⟨g, i, none⟩ := fun i => HB.out.cell (p := ⟨g, i, none⟩) hg
      have e0 := (cw _).trans f0
      have e1 := (cw _).trans f1
      have e2 := (cw _).trans f2
      have e3 := (cw _).trans f3
      have HI : Hid (IsRat wr (.agg #[.bool (E k).1, .int .u64 A1, .int .u64 L1, .pointer p1]) (E k).1 (E k).2.1 (E k).2.2) := fI.below HB.out
      obtain ⟨Wn, eWn, Bn, kn⟩ := one_new wr (.cells #[.bool (E k).1, .int .u64 A1, .int .u64 L1, .pointer p1] 28)
      have HRn : Hid (RL Wn (w.heap.size + 1) (sumF E k).1 (sumF E k).2.1 (sumF E k).2.2 A L p) := HR.out.kept Bn
      have HEn : Hid (RL Wn wr.heap.size (E k).1 (E k).2.1 (E k).2.2 A1 L1 p1) := ⟨kn, HI.out.below Bn⟩
      have HZn : Hid (Wn.heap[w.heap.size]? = some (.cells #[.bool false, .int .u64 0, .int .u64 0, .pointer none] 28)) := box_kept HZ.out Bn (in_heap HZ.out)
      have HBn : Hid (Below w.heap.size w Wn) := bt HB.out Bn
      have EWn : Hid (_ = Wn) := eWn
      have b1 := HFB.out k hk
      have b2 := HEB.out k hlt
      have cA := radd _ _ _ _ _ _ _ _ Wn HRn.out.is HEn.out.is (Nat.le_trans (nl_of_nb b1.1) (by omega)) (Nat.le_trans (nl_of_nb b1.2) (by omega)) (Nat.le_trans (nl_of_nb b2.1) (by omega)) (Nat.le_trans (nl_of_nb b2.2) (by omega))
      have cA2 : Calls Try.prog 19 #[.agg #[.bool (sumF E k).1, .int .u64 A, .int .u64 L, .pointer p], .agg #[.bool (E k).1, .int .u64 A1, .int .u64 L1, .pointer p1]] Wn fun e w' => ∃ v', e = .returned v' ∧ IsRat w' v' (sumF E (k + 1)).1 (sumF E (k + 1)).2.1 (sumF E (k + 1)).2.2 ∧ Below Wn.heap.size Wn w' := cA
      generalize (sumF E k).1 = xb at *
      generalize (E k).1 = eb at *
      clear cA eWn kn Bn b1 b2 f0 f1 f2 f3 fI cw HR HZ HB HI
      go_upto_region 5 with fail
      rw [EWn.out]
      obtain ⟨r0, r1, r2, r3⟩ := HRn.out.cells
      obtain ⟨t0, t1, t2, t3⟩ := HEn.out.cells
      go_wp2_with (go_at_call 19; refine cA2.mono ?_; rintro e w2 ⟨v2, rfl, R2, hb2⟩; obtain ⟨VA, VL, vp, rfl⟩ := R2.shape; have ks := HRn.out.kept hb2; obtain ⟨d0, d1, d2, d3⟩ := ks.cells; have ff := boxF ks.box; have HKS : Hid (RL w2 (w.heap.size + 1) xb (sumF E k).2.1 (sumF E k).2.2 A L p) := ks; have HR2 : Hid (IsRat w2 (.agg #[.bool (sumF E (k + 1)).1, .int .u64 VA, .int .u64 VL, .pointer vp]) (sumF E (k + 1)).1 (sumF E (k + 1)).2.1 (sumF E (k + 1)).2.2) := R2; have HZ2 : Hid (w2.heap[w.heap.size]? = some (.cells #[.bool false, .int .u64 0, .int .u64 0, .pointer none] 28)) := box_kept HZn.out hb2 (in_heap HZn.out); clear ks R2)
      have HB2 : Hid (Below w.heap.size w w2) := bt HBn.out hb2
      have hn1 : w.heap.size ≠ w.heap.size + 1 := by omega
      go_roundw
      case rel => exact ⟨k + 1, VA, VL, vp, hlt, by go_num, ⟨box_set HKS.out.box _ _ _ _, HR2.out.set4 HKS.out.box _ _ _ _⟩, ((set4_off w2 (w.heap.size + 1) _ _ _ _).1 _ hn1).trans HZ2.out, box_below HB2.out (Nat.le_succ _) _ _ _ _⟩
      case measure => simp only [intOf]; omega
    · obtain rfl : k = N := by omega
      obtain ⟨r0, r1, r2, r3⟩ := HR.out.cells
      obtain ⟨d0, d1, d2, d3⟩ := box0 HZ.out
      have ff := boxF HZ.out
      have HBx : Hid (Below w.heap.size w wr) := HB.out
      go_wp2
      have k2 := box_set HZ.out (.bool (sumF E k).1) (.int .u64 A) (.int .u64 L) (.pointer p)
      have hB := box_below HBx.out (Nat.le_refl _) (.bool (sumF E k).1) (.int .u64 A) (.int .u64 L) (.pointer p)
      have hR := HR.out.is.set4 HZ.out (.bool (sumF E k).1) (.int .u64 A) (.int .u64 L) (.pointer p)
      generalize World.setCell _ _ _ = W' at *
      obtain ⟨g0, g1, g2, g3⟩ := box0 k2
      refine bodyPost_ret (v := .agg #[.bool (sumF E k).1, .int .u64 A, .int .u64 L, .pointer p]) ?_ rfl ?_
      · simp [results, go_sem, g0, g1, g2, g3]
      · exact ⟨_, rfl, hR, hB⟩
set_option maxRecDepth 20000 in
set_option maxHeartbeats 2000000 in
theorem sum_nil (w : World) : Calls Try.prog 29 #[.slice none 0 0] w fun e w' => ∃ v, e = .returned v ∧ IsRat w' v false 0 1 ∧ Below w.heap.size w w' := by
  obtain ⟨W0, eW0, hb0, hk0, hk1⟩ := two_new w (.cells #[.bool false, .int .u64 0, .int .u64 0, .pointer none] 28) (.cells #[.bool false, .int .u64 0, .int .u64 0, .pointer none] 28)
  have HK0 : Hid (W0.heap[w.heap.size]? = some (.cells #[.bool false, .int .u64 0, .int .u64 0, .pointer none] 28)) := hk0
  have EW : Hid (_ = W0) := eW0
  obtain ⟨r0, r1, r2, r3⟩ := box0 hk1
  obtain ⟨d0, d1, d2, d3⟩ := box0 hk0
  have ff := boxF hk0
  clear eW0 hk0 hk1
  go_enter Try.func29, Try.ntmps29
  go_upto_region 2 with fail
  rw [EW.out]
  go_wp2
  go_loopw [8] (fun iv wr => iv = .int .i64 0 ∧ wr = W0) (fun _ _ => 0)
  case atStart => exact ⟨rfl, rfl⟩
  case round =>
    obtain ⟨rfl, hw⟩ := hrel
    have hw2 := hw.symm
    clear hw
    subst hw2
    go_wp2
    have k2 := box_set HK0.out (.bool false) (.int .u64 0) (.int .u64 0) (.pointer none)
    have hB := box_below hb0 (Nat.le_refl _) (.bool false) (.int .u64 0) (.int .u64 0) (.pointer none)
    generalize World.setCell _ _ _ = W' at *
    obtain ⟨g0, g1, g2, g3⟩ := box0 k2
    refine bodyPost_ret (v := .agg #[.bool false, .int .u64 0, .int .u64 0, .pointer none]) ?_ rfl ?_
    · simp [results, go_sem, g0, g1, g2, g3]
    · exact ⟨_, rfl, zero_rat _, hB⟩
end Go.Proofs.Ytfkaeehbnnhfoaa.SumL

/- RatSums: sums, differences, products, signs and sizes of rational numbers are exact: the walk. -/
namespace Go.Proofs.Ytfkaeehbnnhfoaa.SwW
open Go.RowKit Mem LimbNum Limb1 NatL GcdA RatL RatM RatN RatF RatO MulN MulW MulL RefR RefT RefU RefI InvL DivL QNum CmpL CmqL RefX RefY RefZ FloL Law5 Aw5 Mk5 Bo5 BoN BoZ AddN JoinL AddW AddV AddR FldL SubL SumL OrW

theorem sum3 {T : TypeId} {w : World} {x1 x2 : Bool} {n1 d1 n2 d2 : Nat} {A1 L1 A2 L2 : Int} {p1 p2 : Option Addr} (h1 : IsRat w (.agg #[.bool x1, .int .u64 A1, .int .u64 L1, .pointer p1]) x1 n1 d1) (h2 : IsRat w (.agg #[.bool x2, .int .u64 A2, .int .u64 L2, .pointer p2]) x2 n2 d2)
    (b1 : (nb n1).length ≤ 256 ∧ (nb d1).length ≤ 256) (b2 : (nb n2).length ≤ 256 ∧ (nb d2).length ≤ 256) :
    Calls Try.prog 29 #[.slice (some ⟨w.heap.size, 0, none⟩) 3 3] (w.alloc (.cells #[.bool x1, .int .u64 A1, .int .u64 L1, .pointer p1, .bool x2, .int .u64 A2, .int .u64 L2, .pointer p2, .bool x1, .int .u64 A1, .int .u64 L1, .pointer p1] T)) fun e w' => ∃ v, e = .returned v ∧
      IsRat w' v (stepF (stepF (x1, n1, d1) (x2, n2, d2)) (x1, n1, d1)).1 (stepF (stepF (x1, n1, d1) (x2, n2, d2)) (x1, n1, d1)).2.1 (stepF (stepF (x1, n1, d1) (x2, n2, d2)) (x1, n1, d1)).2.2 ∧ Below w.heap.size w w' := by
  obtain ⟨W, eW, hb, hk⟩ := one_new w (.cells #[.bool x1, .int .u64 A1, .int .u64 L1, .pointer p1, .bool x2, .int .u64 A2, .int .u64 L2, .pointer p2, .bool x1, .int .u64 A1, .int .u64 L1, .pointer p1] T)
  rw [eW]
  have h1' := h1.below hb
  have h2' := h2.below hb
  have := sum_any 3 (fun k => if k = 1 then (x2, n2, d2) else (x1, n1, d1)) w.heap.size 0 3 _ (by omega) (fun k _ => by by_cases hk : k = 1 <;> simp [hk] <;> omega) (in_heap hk) (fun k hk3 => by
    have h3 : k = 0 ∨ k = 1 ∨ k = 2 := by omega
    rcases h3 with rfl | rfl | rfl
    · exact ⟨A1, L1, p1, by simp [World.cell?, hk], by simp [World.cell?, hk], by simp [World.cell?, hk], by simp [World.cell?, hk], h1'⟩
    · exact ⟨A2, L2, p2, by simp [World.cell?, hk], by simp [World.cell?, hk], by simp [World.cell?, hk], by simp [World.cell?, hk], h2'⟩
    · exact ⟨A1, L1, p1, by simp [World.cell?, hk], by simp [World.cell?, hk], by simp [World.cell?, hk], by simp [World.cell?, hk], h1'⟩)
  have e : sumF (fun k => if k = 1 then (x2, n2, d2) else (x1, n1, d1)) 3 = stepF (stepF (x1, n1, d1) (x2, n2, d2)) (x1, n1, d1) := by
    show stepF (stepF (stepF (false, 0, 1) (x1, n1, d1)) (x2, n2, d2)) (x1, n1, d1) = _
    rw [zero_add h1.1]
  rw [e] at this
  refine this.mono ?_
  rintro e w' ⟨v, rfl, R, hb2⟩
  exact ⟨v, rfl, R, bt hb hb2⟩
theorem step_pos {x1 x2 : Bool} {n1 d1 n2 d2 : Nat} (h1 : d1 ≠ 0) (h2 : d2 ≠ 0) : 0 < (stepF (x1, n1, d1) (x2, n2, d2)).2.2 := by
  have hD : 0 < d1 * d2 := Nat.mul_pos (by omega) (by omega)
  show 0 < addD x1 n1 d1 x2 n2 d2
  unfold addD
  exact Nat.div_pos (Nat.le_of_dvd hD (Nat.gcd_dvd_right _ _)) (Nat.gcd_pos_of_pos_right _ hD)
set_option maxRecDepth 20000 in
set_option maxHeartbeats 4000000 in
theorem law (b1 b2 : Bool) (SA1 SB1 SA2 SB2 : Value) (w : World)
    (cB1 : ∀ W, Below w.heap.size w W → Calls Try.prog 9 #[.agg #[.bool b1, SA1, SB1]] W fun e w' => ∃ v q b2 n d, e = .returned (.tuple #[v, q]) ∧ IsRat w' v b2 n d ∧ IsRef w' q b2 n d ∧ ((nb n).length ≤ 256 ∧ (nb d).length ≤ 256) ∧ Below W.heap.size W w')
    (cB2 : ∀ W, Below w.heap.size w W → Calls Try.prog 9 #[.agg #[.bool b2, SA2, SB2]] W fun e w' => ∃ v q b2 n d, e = .returned (.tuple #[v, q]) ∧ IsRat w' v b2 n d ∧ IsRef w' q b2 n d ∧ ((nb n).length ≤ 256 ∧ (nb d).length ≤ 256) ∧ Below W.heap.size W w') :
    Calls Try.prog 4 #[.agg #[.bool b1, SA1, SB1], .agg #[.bool b2, SA2, SB2]] w fun e w' => e = .returned (.bool true) ∧ Below w.heap.size w w' := by
  obtain ⟨W0, eW0⟩ : ∃ W0 : World, (w.alloc (.cells #[.bool b1, SA1, SB1] 24)).alloc (.cells #[.bool b2, SA2, SB2] 24) = W0 := ⟨_, rfl⟩
  have hb0 : Below w.heap.size w W0 := by rw [← eW0]; exact ((Below.refl _ _).alloc (Nat.le_refl _) _).alloc (by simp) _
  have z1 : (w.alloc (.cells #[.bool b1, SA1, SB1] 24)).heap.size = w.heap.size + 1 := by simp
  have k0 : W0.heap[w.heap.size]? = some (.cells #[.bool b1, SA1, SB1] 24) := by rw [← eW0, heap_alloc_old _ _ (by omega)]; exact heap_alloc_new _ _
  have k1 : W0.heap[w.heap.size + 1]? = some (.cells #[.bool b2, SA2, SB2] 24) := by rw [← eW0, ← z1]; exact heap_alloc_new _ _
  have c3 : ∀ {W : World} {g : Nat} {a b c : Value} {t : TypeId}, W.heap[g]? = some (.cells #[a, b, c] t) → W.cell? ⟨g, 0, none⟩ = some a ∧ W.cell? ⟨g, 1, none⟩ = some b ∧ W.cell? ⟨g, 2, none⟩ = some c := fun {W g a b c t} h => by
    refine ⟨?_, ?_, ?_⟩ <;> simp [World.cell?, h]
  obtain ⟨a0, a1, a2⟩ := c3 k0
  have HK1 : Hid (W0.heap[w.heap.size + 1]? = some (.cells #[.bool b2, SA2, SB2] 24)) := k1
  have HC3 : Hid (∀ {W : World} {g : Nat} {a b c : Value} {t : TypeId}, W.heap[g]? = some (.cells #[a, b, c] t) → W.cell? ⟨g, 0, none⟩ = some a ∧ W.cell? ⟨g, 1, none⟩ = some b ∧ W.cell? ⟨g, 2, none⟩ = some c) := c3
  have EW : Hid ((w.alloc (.cells #[.bool b1, SA1, SB1] 24)).alloc (.cells #[.bool b2, SA2, SB2] 24) = W0) := eW0
  have cB1' := cB1 W0 hb0
  clear eW0 z1 k0 k1 c3 cB1
  go_enter Try.func4, Try.ntmps4
  go_upto_region 1 with fail
  rw [EW.out]
  go_upto_region 2 with (go_at_call 9; refine cB1'.mono ?_; rintro e w1 ⟨v1, q1, x1, n1, d1, rfl, R1, Q1, lim1, hb1⟩; obtain ⟨VA1, VL1, vp1, rfl⟩ := R1.shape; obtain ⟨o1, m1, o2, m2, rfl, O1, O2⟩ := Q1)
  obtain ⟨W1, eW1, B1, kx, kp⟩ := two_new w1 (.cells #[.bool x1, .int .u64 VA1, .int .u64 VL1, .pointer vp1] 28) (.cells #[.bool x1, .slice o1 (nb n1).length m1, .slice o2 (nb d1).length m2] 31)
  rw [eW1]
  have X1 : Hid (RL W1 w1.heap.size x1 n1 d1 VA1 VL1 vp1) := ⟨kx, R1.below B1⟩
  have P1 : Hid (QL W1 (w1.heap.size + 1) x1 n1 d1 o1 m1 o2 m2) := ⟨kp, ⟨_, _, _, _, rfl, keep O1 B1, keep O2 B1⟩⟩
  have C1 : Hid (Below w.heap.size w W1) := bt (bt hb0 hb1) B1
  obtain ⟨y0, y1, y2⟩ := HC3.out (box_kept HK1.out (bt hb1 B1) (in_heap HK1.out))
  have cB2' := cB2 W1 C1.out
  generalize w1.heap.size = gx at *
  clear eW1 kx kp B1 R1 O1 O2 cB1' cB2 a0 a1 a2 HC3 EW hb1 hb0 HK1
  go_upto_region 3 with (go_at_call 9; refine cB2'.mono ?_; rintro e w2 ⟨v2, q2, x2, n2, d2, rfl, R2, Q2, lim2, hb2⟩; obtain ⟨VA2, VL2, vp2, rfl⟩ := R2.shape; obtain ⟨o3, m3, o4, m4, rfl, O3, O4⟩ := Q2)
  obtain ⟨W2, eW2, B2, ky, kq⟩ := two_new w2 (.cells #[.bool x2, .int .u64 VA2, .int .u64 VL2, .pointer vp2] 28) (.cells #[.bool x2, .slice o3 (nb n2).length m3, .slice o4 (nb d2).length m4] 31)
  rw [eW2]
  have X2 : Hid (RL W2 gx x1 n1 d1 VA1 VL1 vp1) := X1.out.kept (bt hb2 B2)
  have P2 : Hid (QL W2 (gx + 1) x1 n1 d1 o1 m1 o2 m2) := P1.out.kept (bt hb2 B2)
  have Y2 : Hid (RL W2 w2.heap.size x2 n2 d2 VA2 VL2 vp2) := ⟨ky, R2.below B2⟩
  have Z2 : Hid (QL W2 (w2.heap.size + 1) x2 n2 d2 o3 m3 o4 m4) := ⟨kq, ⟨_, _, _, _, rfl, keep O3 B2, keep O4 B2⟩⟩
  have C2 : Hid (Below w.heap.size w W2) := bt (bt C1.out hb2) B2
  generalize w2.heap.size = gy at *
  clear eW2 ky kq B2 R2 O3 O4 cB2' y0 y1 y2 hb2 X1 P1 C1
  have L1 : Hid ((nb n1).length ≤ 256 ∧ (nb d1).length ≤ 256) := lim1
  have L2 : Hid ((nb n2).length ≤ 256 ∧ (nb d2).length ≤ 256) := lim2
  clear lim1 lim2
  obtain ⟨N1, eN1⟩ : ∃ x, Hid ((nb n1).length = x) := ⟨_, rfl⟩
  obtain ⟨D1, eD1⟩ : ∃ x, Hid ((nb d1).length = x) := ⟨_, rfl⟩
  obtain ⟨N2, eN2⟩ : ∃ x, Hid ((nb n2).length = x) := ⟨_, rfl⟩
  obtain ⟨D2, eD2⟩ : ∃ x, Hid ((nb d2).length = x) := ⟨_, rfl⟩
  have po1 : d1 ≠ 0 := by have := X2.out.is.1.pos; omega
  have po2 : d2 ≠ 0 := by have := Y2.out.is.1.pos; omega
  have i1 := L1.out
  have i2 := L2.out
  have hz1 := X2.out.is.1.sg
  have cAdd0 := fun (W : World) (h : IsRat W (.agg #[.bool x1, .int .u64 VA1, .int .u64 VL1, .pointer vp1]) x1 n1 d1) (h' : IsRat W (.agg #[.bool x2, .int .u64 VA2, .int .u64 VL2, .pointer vp2]) x2 n2 d2) => radd _ _ x1 x2 n1 d1 n2 d2 W h h' (nl_few6 i1.1) (nl_few6 i1.2) (nl_few6 i2.1) (nl_few6 i2.2)
  have cRAdd0 := fun (W : World) (h : IsRef W (.agg #[.bool x1, .slice o1 N1 m1, .slice o2 D1 m2]) x1 n1 d1) (h' : IsRef W (.agg #[.bool x2, .slice o3 N2 m3, .slice o4 D2 m4]) x2 n2 d2) => radd_any _ _ x1 x2 n1 d1 n2 d2 W h h' po1 po2 (by omega) (by omega) (by omega) (by omega)
  have cSub0 := fun (W : World) (h : IsRat W (.agg #[.bool x1, .int .u64 VA1, .int .u64 VL1, .pointer vp1]) x1 n1 d1) (h' : IsRat W (.agg #[.bool x2, .int .u64 VA2, .int .u64 VL2, .pointer vp2]) x2 n2 d2) => rsub _ _ x1 x2 n1 d1 n2 d2 W h h' (nl_few6 i1.1) (nl_few6 i1.2) (nl_few6 i2.1) (nl_few6 i2.2)
  have cNq0 := fun (W : World) (h : IsRef W (.agg #[.bool x2, .slice o3 N2 m3, .slice o4 D2 m4]) x2 n2 d2) => rneg_any _ x2 n2 d2 W h po2
  have cRSub0 := fun (W : World) (v : Value) (h : IsRef W (.agg #[.bool x1, .slice o1 N1 m1, .slice o2 D1 m2]) x1 n1 d1) (h' : IsRef W v (!x2 && decide (n2 ≠ 0)) n2 d2) => radd_any _ v x1 _ n1 d1 n2 d2 W h h' po1 po2 (by omega) (by omega) (by omega) (by omega)
  have cMul0 := fun (W : World) (h : IsRat W (.agg #[.bool x1, .int .u64 VA1, .int .u64 VL1, .pointer vp1]) x1 n1 d1) (h' : IsRat W (.agg #[.bool x2, .int .u64 VA2, .int .u64 VL2, .pointer vp2]) x2 n2 d2) => rmul _ _ x1 x2 n1 d1 n2 d2 W h h' (Nat.le_trans (nl_few6 i1.1) (by omega)) (Nat.le_trans (nl_few6 i1.2) (by omega)) (Nat.le_trans (nl_few6 i2.1) (by omega)) (Nat.le_trans (nl_few6 i2.2) (by omega))
  have cRMul0 := fun (W : World) (h : IsRef W (.agg #[.bool x1, .slice o1 N1 m1, .slice o2 D1 m2]) x1 n1 d1) (h' : IsRef W (.agg #[.bool x2, .slice o3 N2 m3, .slice o4 D2 m4]) x2 n2 d2) => rmul_any _ _ x1 x2 n1 d1 n2 d2 W h h' po1 po2 (by omega) (by omega) (by omega) (by omega)
  have cNeg0 := fun (W : World) (h : IsRat W (.agg #[.bool x1, .int .u64 VA1, .int .u64 VL1, .pointer vp1]) x1 n1 d1) => neg_any _ x1 n1 d1 W h
  have cNp0 := fun (W : World) (h : IsRef W (.agg #[.bool x1, .slice o1 N1 m1, .slice o2 D1 m2]) x1 n1 d1) => rneg_any _ x1 n1 d1 W h po1
  have cSg := fun (W : World) (h : IsRat W (.agg #[.bool x1, .int .u64 VA1, .int .u64 VL1, .pointer vp1]) x1 n1 d1) => sign_any _ x1 n1 d1 W h
  have cRSg := fun (W : World) (h : IsRef W (.agg #[.bool x1, .slice o1 N1 m1, .slice o2 D1 m2]) x1 n1 d1) => rsign_any _ x1 n1 d1 W h hz1 (by omega)
  have cSum0 := fun (T : TypeId) (W : World) (h : IsRat W (.agg #[.bool x1, .int .u64 VA1, .int .u64 VL1, .pointer vp1]) x1 n1 d1) (h' : IsRat W (.agg #[.bool x2, .int .u64 VA2, .int .u64 VL2, .pointer vp2]) x2 n2 d2) => sum3 (T := T) h h' i1 i2
  have cZero : ∀ W : World, Calls Try.prog 30 #[.int .i64 0] W fun e w' => ∃ v, e = .returned v ∧ IsRef w' v false 0 1 ∧ Below W.heap.size W w' := fun W => rint_any 0 W (by omega) (by omega)
  simp only [neg_flag] at cNeg0
  have ba := sum_bits2 (F := (x1, n1, d1)) (e := (x2, n2, d2)) i1.1 i1.2 i2.1 i2.2
  have bu := sum_bits2 (F := (x1, n1, d1)) (e := ((!x2 && decide (n2 ≠ 0)), n2, d2)) i1.1 i1.2 i2.1 i2.2
  have bt3 := sum_bits2 (F := stepF (x1, n1, d1) (x2, n2, d2)) (e := (x1, n1, d1)) ba.1 ba.2 i1.1 i1.2
  have cRSum0 := fun (W : World) (v : Value) (h : IsRef W v (stepF (x1, n1, d1) (x2, n2, d2)).1 (stepF (x1, n1, d1) (x2, n2, d2)).2.1 (stepF (x1, n1, d1) (x2, n2, d2)).2.2) (h' : IsRef W (.agg #[.bool x1, .slice o1 N1 m1, .slice o2 D1 m2]) x1 n1 d1) => radd_any v _ _ x1 _ _ n1 d1 W h h' (Nat.pos_iff_ne_zero.1 (step_pos po1 po2)) po1 (Nat.le_trans ba.1 (by omega)) (Nat.le_trans ba.2 (by omega)) (by omega) (by omega)
  have bm1 : (nb (n1 * n2 / Nat.gcd (n1 * n2) (d1 * d2))).length ≤ 1000000 := Nat.le_trans (bits_div _ _ _ (mul_bits n1 n2 256 256 i1.1 i2.1)) (by omega)
  have bm2 : (nb (d1 * d2 / Nat.gcd (n1 * n2) (d1 * d2))).length ≤ 1000000 := Nat.le_trans (bits_div _ _ _ (mul_bits d1 d2 256 256 i1.2 i2.2)) (by omega)
  have LM0 : Hid ((nb (n1 * n2 / Nat.gcd (n1 * n2) (d1 * d2))).length ≤ 1000000 ∧ (nb (d1 * d2 / Nat.gcd (n1 * n2) (d1 * d2))).length ≤ 1000000) := ⟨bm1, bm2⟩
  clear bm1 bm2
  have LP : Hid ((nb n1).length ≤ 1000000 ∧ (nb d1).length ≤ 1000000) := ⟨by omega, by omega⟩
  have LZ : Hid ((nb 0).length ≤ 1000000 ∧ (nb 1).length ≤ 1000000) := ⟨by rw [nb_zero]; simp, Nat.le_trans (nb_lt 1 1 (by decide)) (by decide)⟩
  obtain ⟨⟨tb, tn, td⟩, eT⟩ : ∃ t, stepF (stepF (x1, n1, d1) (x2, n2, d2)) (x1, n1, d1) = t := ⟨_, rfl⟩
  have eT1 : addB (stepF (x1, n1, d1) (x2, n2, d2)).1 (stepF (x1, n1, d1) (x2, n2, d2)).2.1 (stepF (x1, n1, d1) (x2, n2, d2)).2.2 x1 n1 d1 = tb := congrArg (fun t => t.1) eT
  have eT2 : addN (stepF (x1, n1, d1) (x2, n2, d2)).1 (stepF (x1, n1, d1) (x2, n2, d2)).2.1 (stepF (x1, n1, d1) (x2, n2, d2)).2.2 x1 n1 d1 = tn := congrArg (fun t => t.2.1) eT
  have eT3 : addD (stepF (x1, n1, d1) (x2, n2, d2)).1 (stepF (x1, n1, d1) (x2, n2, d2)).2.1 (stepF (x1, n1, d1) (x2, n2, d2)).2.2 x1 n1 d1 = td := congrArg (fun t => t.2.2) eT
  have cSum : ∀ (T : TypeId) (W : World), IsRat W (.agg #[.bool x1, .int .u64 VA1, .int .u64 VL1, .pointer vp1]) x1 n1 d1 → IsRat W (.agg #[.bool x2, .int .u64 VA2, .int .u64 VL2, .pointer vp2]) x2 n2 d2 → Calls Try.prog 29 #[.slice (some ⟨W.heap.size, 0, none⟩) 3 3] (W.alloc (.cells #[.bool x1, .int .u64 VA1, .int .u64 VL1, .pointer vp1, .bool x2, .int .u64 VA2, .int .u64 VL2, .pointer vp2, .bool x1, .int .u64 VA1, .int .u64 VL1, .pointer vp1] T)) fun e w' => ∃ v, e = .returned v ∧ IsRat w' v tb tn td ∧ Below W.heap.size W w' := fun T W h h' => by
    have := cSum0 T W h h'
    rw [eT] at this
    exact this
  rw [eT] at bt3
  have LT : Hid ((nb tn).length ≤ 1000000 ∧ (nb td).length ≤ 1000000) := ⟨Nat.le_trans bt3.1 (by omega), Nat.le_trans bt3.2 (by omega)⟩
  simp only [eT1, eT2, eT3] at cRSum0
  obtain ⟨⟨ab, an, ad⟩, eA⟩ : ∃ t, stepF (x1, n1, d1) (x2, n2, d2) = t := ⟨_, rfl⟩
  have eA1 : addB x1 n1 d1 x2 n2 d2 = ab := congrArg (fun t => t.1) eA
  have eA2 : addN x1 n1 d1 x2 n2 d2 = an := congrArg (fun t => t.2.1) eA
  have eA3 : addD x1 n1 d1 x2 n2 d2 = ad := congrArg (fun t => t.2.2) eA
  simp only [eA1, eA2, eA3] at cAdd0 cRAdd0
  simp only [eA] at cRSum0
  rw [eA] at ba
  have LA : Hid ((nb an).length ≤ 1000000 ∧ (nb ad).length ≤ 1000000) := ⟨Nat.le_trans ba.1 (by omega), Nat.le_trans ba.2 (by omega)⟩
  obtain ⟨hb2', ehb⟩ : ∃ x, (!x2 && decide (n2 ≠ 0)) = x := ⟨_, rfl⟩
  simp only [ehb] at cSub0 cNq0 cRSub0 bu
  obtain ⟨⟨ub, un, ud⟩, eU⟩ : ∃ t, stepF (x1, n1, d1) (hb2', n2, d2) = t := ⟨_, rfl⟩
  have eU1 : addB x1 n1 d1 hb2' n2 d2 = ub := congrArg (fun t => t.1) eU
  have eU2 : addN x1 n1 d1 hb2' n2 d2 = un := congrArg (fun t => t.2.1) eU
  have eU3 : addD x1 n1 d1 hb2' n2 d2 = ud := congrArg (fun t => t.2.2) eU
  simp only [eU1, eU2, eU3] at cSub0 cRSub0
  rw [eU] at bu
  have LU : Hid ((nb un).length ≤ 1000000 ∧ (nb ud).length ≤ 1000000) := ⟨Nat.le_trans bu.1 (by omega), Nat.le_trans bu.2 (by omega)⟩
  obtain ⟨gb, egb⟩ : ∃ x, (!x1 && decide (n1 ≠ 0)) = x := ⟨_, rfl⟩
  simp only [egb] at cNeg0 cNp0
  generalize ((x1 != x2) && decide (n1 * n2 / Nat.gcd (n1 * n2) (d1 * d2) ≠ 0)) = mb at *
  generalize n1 * n2 / Nat.gcd (n1 * n2) (d1 * d2) = mn at *
  generalize d1 * d2 / Nat.gcd (n1 * n2) (d1 * d2) = md at *
  have LM := LM0
  have cAdd := cAdd0
  have cRAdd := cRAdd0
  have cSub := cSub0
  have cNq := cNq0
  have cRSub := cRSub0
  have cMul := cMul0
  have cRMul := cRMul0
  have cNeg := cNeg0
  have cNp := cNp0
  have cRSum := cRSum0
  clear cAdd0 cRAdd0 cSub0 cNq0 cRSub0 cMul0 cRMul0 cNeg0 cNp0 cSum0 cRSum0 LM0 eT eT1 eT2 eT3 eA eA1 eA2 eA3 eU eU1 eU2 eU3 ehb egb ba bu bt3 i1 i2 po1 po2 hz1
  generalize sgn x1 n1 = SG at *
  obtain ⟨u0, u1, u2⟩ := P2.out.cells
  go_upto_region 4 with fail
  obtain ⟨W3, eW3, B3, kz⟩ := one_new W2 (.cells #[.bool x1, .slice o1 (nb n1).length m1, .slice o2 (nb d1).length m2] 31)
  rw [eW3]
  have ne1 : gx ≠ W2.heap.size := by have := in_heap X2.out.box; omega
  have ne2 : gy ≠ W2.heap.size := by have := in_heap Y2.out.box; omega
  have ne3 : gx + 1 ≠ W2.heap.size := by have := in_heap P2.out.box; omega
  have ne4 : gy + 1 ≠ W2.heap.size := by have := in_heap Z2.out.box; omega
  have nw : w.heap.size ≤ W2.heap.size := C2.out.size
  have X3 := X2.out.kept B3
  have Y3 := Y2.out.kept B3
  have P3 := P2.out.kept B3
  have Q3 := Z2.out.kept B3
  have C3 := bt C2.out B3
  generalize W2.heap.size = gs at *
  have off := set1_off W3 gs 0 (.bool false)
  have X4 : Hid (RL (W3.setCell ⟨gs, 0, none⟩ (.bool false)) gx x1 n1 d1 VA1 VL1 vp1) := ⟨(off.1 gx ne1).trans X3.box, rat_off3 X3.is kz off.1 off.2⟩
  have Y4 : Hid (RL (W3.setCell ⟨gs, 0, none⟩ (.bool false)) gy x2 n2 d2 VA2 VL2 vp2) := ⟨(off.1 gy ne2).trans Y3.box, rat_off3 Y3.is kz off.1 off.2⟩
  have P4 : Hid (QL (W3.setCell ⟨gs, 0, none⟩ (.bool false)) (gx + 1) x1 n1 d1 o1 m1 o2 m2) := ⟨(off.1 _ ne3).trans P3.box, P3.is.off kz off.1⟩
  have Q4 : Hid (QL (W3.setCell ⟨gs, 0, none⟩ (.bool false)) (gy + 1) x2 n2 d2 o3 m3 o4 m4) := ⟨(off.1 _ ne4).trans Q3.box, Q3.is.off kz off.1⟩
  have Z4 : Hid (QL (W3.setCell ⟨gs, 0, none⟩ (.bool false)) gs false n1 d1 o1 m1 o2 m2) := by
    refine ⟨by rw [heap_setCell_same W3 gs 0 _ _ _ kz]; rfl, ?_⟩
    obtain ⟨q1, r1, q2, r2, e, h1, h2⟩ := P3.is.off kz off.1
    simp only [Value.agg.injEq, Array.mk.injEq, List.cons.injEq, Value.slice.injEq, and_true, true_and] at e
    obtain ⟨⟨rfl, rfl⟩, rfl, rfl⟩ := e
    exact ⟨_, _, _, _, rfl, h1, h2⟩
  have C4 : Hid (Below w.heap.size w (W3.setCell ⟨gs, 0, none⟩ (.bool false))) := C3.setCell nw _
  obtain ⟨z0, z1, z2⟩ := box3_cells kz
  have ff := box3F kz
  clear eW3 B3 kz X3 Y3 P3 Q3 C3 X2 Y2 P2 Z2 C2 off ne1 ne2 ne3 ne4 u0 u1 u2
  go_upto_region 5 with fail
  clear z0 z1 z2 ff
  generalize World.setCell _ _ _ = wz at *
  have Dz : Below wz.heap.size wz wz.drew := (Below.refl _ _).drew
  have s : wz.drew.cell? ⟨gx, 0, none⟩ = some (.bool x1) ∧ wz.drew.cell? ⟨gx, 1, none⟩ = some (.int .u64 VA1) ∧ wz.drew.cell? ⟨gx, 2, none⟩ = some (.int .u64 VL1) ∧ wz.drew.cell? ⟨gx, 3, none⟩ = some (.pointer vp1) ∧ wz.drew.cell? ⟨gy, 0, none⟩ = some (.bool x2) ∧ wz.drew.cell? ⟨gy, 1, none⟩ = some (.int .u64 VA2) ∧ wz.drew.cell? ⟨gy, 2, none⟩ = some (.int .u64 VL2) ∧ wz.drew.cell? ⟨gy, 3, none⟩ = some (.pointer vp2) ∧ wz.drew.cell? ⟨gx + 1, 0, none⟩ = some (.bool x1) ∧ wz.drew.cell? ⟨gx + 1, 1, none⟩ = some (.slice o1 N1 m1) ∧ wz.drew.cell? ⟨gx + 1, 2, none⟩ = some (.slice o2 D1 m2) ∧ wz.drew.cell? ⟨gy + 1, 0, none⟩ = some (.bool x2) ∧ wz.drew.cell? ⟨gy + 1, 1, none⟩ = some (.slice o3 N2 m3) ∧ wz.drew.cell? ⟨gy + 1, 2, none⟩ = some (.slice o4 D2 m4) ∧ wz.drew.cell? ⟨gs, 0, none⟩ = some (.bool false) ∧ wz.drew.cell? ⟨gs, 1, none⟩ = some (.slice o1 N1 m1) ∧ wz.drew.cell? ⟨gs, 2, none⟩ = some (.slice o2 D1 m2) := by
    rw [← eN1.out, ← eD1.out, ← eN2.out, ← eD2.out]
    obtain ⟨e1, e2, e3, e4⟩ := X4.out.cells
    obtain ⟨e5, e6, e7, e8⟩ := Y4.out.cells
    obtain ⟨e9, e10, e11⟩ := P4.out.cells
    obtain ⟨e12, e13, e14⟩ := Q4.out.cells
    obtain ⟨e15, e16, e17⟩ := Z4.out.cells
    exact ⟨e1, e2, e3, e4, e5, e6, e7, e8, e9, e10, e11, e12, e13, e14, e15, e16, e17⟩
  have HP : Hid (IsRat wz.drew (.agg #[.bool x1, .int .u64 VA1, .int .u64 VL1, .pointer vp1]) x1 n1 d1 ∧ IsRat wz.drew (.agg #[.bool x2, .int .u64 VA2, .int .u64 VL2, .pointer vp2]) x2 n2 d2 ∧ IsRef wz.drew (.agg #[.bool x1, .slice o1 N1 m1, .slice o2 D1 m2]) x1 n1 d1 ∧ IsRef wz.drew (.agg #[.bool x2, .slice o3 N2 m3, .slice o4 D2 m4]) x2 n2 d2 ∧ IsRef wz.drew (.agg #[.bool false, .slice o1 N1 m1, .slice o2 D1 m2]) false n1 d1) := by
    rw [← eN1.out, ← eD1.out, ← eN2.out, ← eD2.out]
    exact ⟨X4.out.is.below Dz, Y4.out.is.below Dz, P4.out.is.below Dz, Q4.out.is.below Dz, Z4.out.is.below Dz⟩
  have HC : Hid (Below w.heap.size w wz.drew) := C4.out.drew
  clear X4 Y4 P4 Q4 Z4 C4 Dz eN1 eD1 eN2 eD2 L1 L2 nw
  simp only [List.append_eq, List.cons_append, List.nil_append]
  have T2 : True := trivial
  have T6 : True := trivial
  have T19 : True := trivial
  have T3 : True := trivial
  have T7 : True := trivial
  have T10 : True := trivial
  have T13 : True := trivial
  have T15 : True := trivial
  have T21 : True := trivial
  have T5 : True := trivial
  have T18 : True := trivial
  go_region_held3 (fun w' => w'.cell? ⟨gx, 0, none⟩ = some (.bool x1) ∧ w'.cell? ⟨gx, 1, none⟩ = some (.int .u64 VA1) ∧ w'.cell? ⟨gx, 2, none⟩ = some (.int .u64 VL1) ∧ w'.cell? ⟨gx, 3, none⟩ = some (.pointer vp1) ∧ w'.cell? ⟨gy, 0, none⟩ = some (.bool x2) ∧ w'.cell? ⟨gy, 1, none⟩ = some (.int .u64 VA2) ∧ w'.cell? ⟨gy, 2, none⟩ = some (.int .u64 VL2) ∧ w'.cell? ⟨gy, 3, none⟩ = some (.pointer vp2) ∧ w'.cell? ⟨gx + 1, 0, none⟩ = some (.bool x1) ∧ w'.cell? ⟨gx + 1, 1, none⟩ = some (.slice o1 N1 m1) ∧ w'.cell? ⟨gx + 1, 2, none⟩ = some (.slice o2 D1 m2) ∧ w'.cell? ⟨gy + 1, 0, none⟩ = some (.bool x2) ∧ w'.cell? ⟨gy + 1, 1, none⟩ = some (.slice o3 N2 m3) ∧ w'.cell? ⟨gy + 1, 2, none⟩ = some (.slice o4 D2 m4) ∧ w'.cell? ⟨gs, 0, none⟩ = some (.bool false) ∧ w'.cell? ⟨gs, 1, none⟩ = some (.slice o1 N1 m1) ∧ w'.cell? ⟨gs, 2, none⟩ = some (.slice o2 D1 m2)) (first | with_reducible exact s | with_reducible exact s0 | with_reducible exact s1 | with_reducible exact s2 | with_reducible exact s3 | with_reducible exact s4 | with_reducible exact s5 | with_reducible exact s6 | with_reducible exact s7 | with_reducible exact s8 | with_reducible exact s9 | with_reducible exact s10 | with_reducible exact s11 | with_reducible exact s12 | with_reducible exact s13 | with_reducible exact s14 | with_reducible exact s15 | with_reducible exact s16 | with_reducible exact s17 | with_reducible exact s18 | with_reducible exact s19 | with_reducible exact s20 | with_reducible exact s21 | with_reducible exact s22 | with_reducible exact s23 | with_reducible exact s24 | with_reducible exact sA _) (first
    | (go_at_call 12; refine (awake5 _).mono ?_; rintro e w20 ⟨rfl, hb0⟩; have H0 := hb0; have s0 : w20.cell? ⟨gx, 0, none⟩ = some (.bool x1) ∧ w20.cell? ⟨gx, 1, none⟩ = some (.int .u64 VA1) ∧ w20.cell? ⟨gx, 2, none⟩ = some (.int .u64 VL1) ∧ w20.cell? ⟨gx, 3, none⟩ = some (.pointer vp1) ∧ w20.cell? ⟨gy, 0, none⟩ = some (.bool x2) ∧ w20.cell? ⟨gy, 1, none⟩ = some (.int .u64 VA2) ∧ w20.cell? ⟨gy, 2, none⟩ = some (.int .u64 VL2) ∧ w20.cell? ⟨gy, 3, none⟩ = some (.pointer vp2) ∧ w20.cell? ⟨gx + 1, 0, none⟩ = some (.bool x1) ∧ w20.cell? ⟨gx + 1, 1, none⟩ = some (.slice o1 N1 m1) ∧ w20.cell? ⟨gx + 1, 2, none⟩ = some (.slice o2 D1 m2) ∧ w20.cell? ⟨gy + 1, 0, none⟩ = some (.bool x2) ∧ w20.cell? ⟨gy + 1, 1, none⟩ = some (.slice o3 N2 m3) ∧ w20.cell? ⟨gy + 1, 2, none⟩ = some (.slice o4 D2 m4) ∧ w20.cell? ⟨gs, 0, none⟩ = some (.bool false) ∧ w20.cell? ⟨gs, 1, none⟩ = some (.slice o1 N1 m1) ∧ w20.cell? ⟨gs, 2, none⟩ = some (.slice o2 D1 m2) := by { have kc : ∀ {p : Addr} {v : Value}, wz.drew.cell? p = some v → w20.cell? p = some v := fun {p v} h => by { rw [hb0.cell (World.block_lt_of_cell? wz.drew p h)]; exact h }; exact ⟨kc s.1, kc s.2.1, kc s.2.2.1, kc s.2.2.2.1, kc s.2.2.2.2.1, kc s.2.2.2.2.2.1, kc s.2.2.2.2.2.2.1, kc s.2.2.2.2.2.2.2.1, kc s.2.2.2.2.2.2.2.2.1, kc s.2.2.2.2.2.2.2.2.2.1, kc s.2.2.2.2.2.2.2.2.2.2.1, kc s.2.2.2.2.2.2.2.2.2.2.2.1, kc s.2.2.2.2.2.2.2.2.2.2.2.2.1, kc s.2.2.2.2.2.2.2.2.2.2.2.2.2.1, kc s.2.2.2.2.2.2.2.2.2.2.2.2.2.2.1, kc s.2.2.2.2.2.2.2.2.2.2.2.2.2.2.2.1, kc s.2.2.2.2.2.2.2.2.2.2.2.2.2.2.2.2⟩ })
    | (go_at_call 19; refine (cAdd _ (HP.out.1.below H0) (HP.out.2.1.below H0)).mono ?_; rintro e w21 ⟨v1, rfl, R1, hb1⟩; have H1 := bt H0 hb1; have s1 : w21.cell? ⟨gx, 0, none⟩ = some (.bool x1) ∧ w21.cell? ⟨gx, 1, none⟩ = some (.int .u64 VA1) ∧ w21.cell? ⟨gx, 2, none⟩ = some (.int .u64 VL1) ∧ w21.cell? ⟨gx, 3, none⟩ = some (.pointer vp1) ∧ w21.cell? ⟨gy, 0, none⟩ = some (.bool x2) ∧ w21.cell? ⟨gy, 1, none⟩ = some (.int .u64 VA2) ∧ w21.cell? ⟨gy, 2, none⟩ = some (.int .u64 VL2) ∧ w21.cell? ⟨gy, 3, none⟩ = some (.pointer vp2) ∧ w21.cell? ⟨gx + 1, 0, none⟩ = some (.bool x1) ∧ w21.cell? ⟨gx + 1, 1, none⟩ = some (.slice o1 N1 m1) ∧ w21.cell? ⟨gx + 1, 2, none⟩ = some (.slice o2 D1 m2) ∧ w21.cell? ⟨gy + 1, 0, none⟩ = some (.bool x2) ∧ w21.cell? ⟨gy + 1, 1, none⟩ = some (.slice o3 N2 m3) ∧ w21.cell? ⟨gy + 1, 2, none⟩ = some (.slice o4 D2 m4) ∧ w21.cell? ⟨gs, 0, none⟩ = some (.bool false) ∧ w21.cell? ⟨gs, 1, none⟩ = some (.slice o1 N1 m1) ∧ w21.cell? ⟨gs, 2, none⟩ = some (.slice o2 D1 m2) := by { have kc : ∀ {p : Addr} {v : Value}, w20.cell? p = some v → w21.cell? p = some v := fun {p v} h => by { rw [hb1.cell (World.block_lt_of_cell? w20 p h)]; exact h }; exact ⟨kc s0.1, kc s0.2.1, kc s0.2.2.1, kc s0.2.2.2.1, kc s0.2.2.2.2.1, kc s0.2.2.2.2.2.1, kc s0.2.2.2.2.2.2.1, kc s0.2.2.2.2.2.2.2.1, kc s0.2.2.2.2.2.2.2.2.1, kc s0.2.2.2.2.2.2.2.2.2.1, kc s0.2.2.2.2.2.2.2.2.2.2.1, kc s0.2.2.2.2.2.2.2.2.2.2.2.1, kc s0.2.2.2.2.2.2.2.2.2.2.2.2.1, kc s0.2.2.2.2.2.2.2.2.2.2.2.2.2.1, kc s0.2.2.2.2.2.2.2.2.2.2.2.2.2.2.1, kc s0.2.2.2.2.2.2.2.2.2.2.2.2.2.2.2.1, kc s0.2.2.2.2.2.2.2.2.2.2.2.2.2.2.2.2⟩ })
    | (go_at_call 20; have _t := T2; clear _t T2; refine (cRAdd _ (HP.out.2.2.1.below H1) (HP.out.2.2.2.1.below H1)).mono ?_; rintro e w22 ⟨v2, rfl, R2, hb2⟩; have H2 := bt H1 hb2; have s2 : w22.cell? ⟨gx, 0, none⟩ = some (.bool x1) ∧ w22.cell? ⟨gx, 1, none⟩ = some (.int .u64 VA1) ∧ w22.cell? ⟨gx, 2, none⟩ = some (.int .u64 VL1) ∧ w22.cell? ⟨gx, 3, none⟩ = some (.pointer vp1) ∧ w22.cell? ⟨gy, 0, none⟩ = some (.bool x2) ∧ w22.cell? ⟨gy, 1, none⟩ = some (.int .u64 VA2) ∧ w22.cell? ⟨gy, 2, none⟩ = some (.int .u64 VL2) ∧ w22.cell? ⟨gy, 3, none⟩ = some (.pointer vp2) ∧ w22.cell? ⟨gx + 1, 0, none⟩ = some (.bool x1) ∧ w22.cell? ⟨gx + 1, 1, none⟩ = some (.slice o1 N1 m1) ∧ w22.cell? ⟨gx + 1, 2, none⟩ = some (.slice o2 D1 m2) ∧ w22.cell? ⟨gy + 1, 0, none⟩ = some (.bool x2) ∧ w22.cell? ⟨gy + 1, 1, none⟩ = some (.slice o3 N2 m3) ∧ w22.cell? ⟨gy + 1, 2, none⟩ = some (.slice o4 D2 m4) ∧ w22.cell? ⟨gs, 0, none⟩ = some (.bool false) ∧ w22.cell? ⟨gs, 1, none⟩ = some (.slice o1 N1 m1) ∧ w22.cell? ⟨gs, 2, none⟩ = some (.slice o2 D1 m2) := by { have kc : ∀ {p : Addr} {v : Value}, w21.cell? p = some v → w22.cell? p = some v := fun {p v} h => by { rw [hb2.cell (World.block_lt_of_cell? w21 p h)]; exact h }; exact ⟨kc s1.1, kc s1.2.1, kc s1.2.2.1, kc s1.2.2.2.1, kc s1.2.2.2.2.1, kc s1.2.2.2.2.2.1, kc s1.2.2.2.2.2.2.1, kc s1.2.2.2.2.2.2.2.1, kc s1.2.2.2.2.2.2.2.2.1, kc s1.2.2.2.2.2.2.2.2.2.1, kc s1.2.2.2.2.2.2.2.2.2.2.1, kc s1.2.2.2.2.2.2.2.2.2.2.2.1, kc s1.2.2.2.2.2.2.2.2.2.2.2.2.1, kc s1.2.2.2.2.2.2.2.2.2.2.2.2.2.1, kc s1.2.2.2.2.2.2.2.2.2.2.2.2.2.2.1, kc s1.2.2.2.2.2.2.2.2.2.2.2.2.2.2.2.1, kc s1.2.2.2.2.2.2.2.2.2.2.2.2.2.2.2.2⟩ })
    | (go_at_call 18; have _t := T3; clear _t T3; refine (is_yes _ _ ab an ad _ (R1.below hb2) R2 LA.out.1 LA.out.2).mono ?_; rintro e w23 ⟨rfl, hb3⟩; have H3 := bt H2 hb3; have s3 : w23.cell? ⟨gx, 0, none⟩ = some (.bool x1) ∧ w23.cell? ⟨gx, 1, none⟩ = some (.int .u64 VA1) ∧ w23.cell? ⟨gx, 2, none⟩ = some (.int .u64 VL1) ∧ w23.cell? ⟨gx, 3, none⟩ = some (.pointer vp1) ∧ w23.cell? ⟨gy, 0, none⟩ = some (.bool x2) ∧ w23.cell? ⟨gy, 1, none⟩ = some (.int .u64 VA2) ∧ w23.cell? ⟨gy, 2, none⟩ = some (.int .u64 VL2) ∧ w23.cell? ⟨gy, 3, none⟩ = some (.pointer vp2) ∧ w23.cell? ⟨gx + 1, 0, none⟩ = some (.bool x1) ∧ w23.cell? ⟨gx + 1, 1, none⟩ = some (.slice o1 N1 m1) ∧ w23.cell? ⟨gx + 1, 2, none⟩ = some (.slice o2 D1 m2) ∧ w23.cell? ⟨gy + 1, 0, none⟩ = some (.bool x2) ∧ w23.cell? ⟨gy + 1, 1, none⟩ = some (.slice o3 N2 m3) ∧ w23.cell? ⟨gy + 1, 2, none⟩ = some (.slice o4 D2 m4) ∧ w23.cell? ⟨gs, 0, none⟩ = some (.bool false) ∧ w23.cell? ⟨gs, 1, none⟩ = some (.slice o1 N1 m1) ∧ w23.cell? ⟨gs, 2, none⟩ = some (.slice o2 D1 m2) := by { have kc : ∀ {p : Addr} {v : Value}, w22.cell? p = some v → w23.cell? p = some v := fun {p v} h => by { rw [hb3.cell (World.block_lt_of_cell? w22 p h)]; exact h }; exact ⟨kc s2.1, kc s2.2.1, kc s2.2.2.1, kc s2.2.2.2.1, kc s2.2.2.2.2.1, kc s2.2.2.2.2.2.1, kc s2.2.2.2.2.2.2.1, kc s2.2.2.2.2.2.2.2.1, kc s2.2.2.2.2.2.2.2.2.1, kc s2.2.2.2.2.2.2.2.2.2.1, kc s2.2.2.2.2.2.2.2.2.2.2.1, kc s2.2.2.2.2.2.2.2.2.2.2.2.1, kc s2.2.2.2.2.2.2.2.2.2.2.2.2.1, kc s2.2.2.2.2.2.2.2.2.2.2.2.2.2.1, kc s2.2.2.2.2.2.2.2.2.2.2.2.2.2.2.1, kc s2.2.2.2.2.2.2.2.2.2.2.2.2.2.2.2.1, kc s2.2.2.2.2.2.2.2.2.2.2.2.2.2.2.2.2⟩ })
    | (go_at_call 21; refine (cSub _ (HP.out.1.below H3) (HP.out.2.1.below H3)).mono ?_; rintro e w24 ⟨v4, rfl, R4, hb4⟩; have H4 := bt H3 hb4; have s4 : w24.cell? ⟨gx, 0, none⟩ = some (.bool x1) ∧ w24.cell? ⟨gx, 1, none⟩ = some (.int .u64 VA1) ∧ w24.cell? ⟨gx, 2, none⟩ = some (.int .u64 VL1) ∧ w24.cell? ⟨gx, 3, none⟩ = some (.pointer vp1) ∧ w24.cell? ⟨gy, 0, none⟩ = some (.bool x2) ∧ w24.cell? ⟨gy, 1, none⟩ = some (.int .u64 VA2) ∧ w24.cell? ⟨gy, 2, none⟩ = some (.int .u64 VL2) ∧ w24.cell? ⟨gy, 3, none⟩ = some (.pointer vp2) ∧ w24.cell? ⟨gx + 1, 0, none⟩ = some (.bool x1) ∧ w24.cell? ⟨gx + 1, 1, none⟩ = some (.slice o1 N1 m1) ∧ w24.cell? ⟨gx + 1, 2, none⟩ = some (.slice o2 D1 m2) ∧ w24.cell? ⟨gy + 1, 0, none⟩ = some (.bool x2) ∧ w24.cell? ⟨gy + 1, 1, none⟩ = some (.slice o3 N2 m3) ∧ w24.cell? ⟨gy + 1, 2, none⟩ = some (.slice o4 D2 m4) ∧ w24.cell? ⟨gs, 0, none⟩ = some (.bool false) ∧ w24.cell? ⟨gs, 1, none⟩ = some (.slice o1 N1 m1) ∧ w24.cell? ⟨gs, 2, none⟩ = some (.slice o2 D1 m2) := by { have kc : ∀ {p : Addr} {v : Value}, w23.cell? p = some v → w24.cell? p = some v := fun {p v} h => by { rw [hb4.cell (World.block_lt_of_cell? w23 p h)]; exact h }; exact ⟨kc s3.1, kc s3.2.1, kc s3.2.2.1, kc s3.2.2.2.1, kc s3.2.2.2.2.1, kc s3.2.2.2.2.2.1, kc s3.2.2.2.2.2.2.1, kc s3.2.2.2.2.2.2.2.1, kc s3.2.2.2.2.2.2.2.2.1, kc s3.2.2.2.2.2.2.2.2.2.1, kc s3.2.2.2.2.2.2.2.2.2.2.1, kc s3.2.2.2.2.2.2.2.2.2.2.2.1, kc s3.2.2.2.2.2.2.2.2.2.2.2.2.1, kc s3.2.2.2.2.2.2.2.2.2.2.2.2.2.1, kc s3.2.2.2.2.2.2.2.2.2.2.2.2.2.2.1, kc s3.2.2.2.2.2.2.2.2.2.2.2.2.2.2.2.1, kc s3.2.2.2.2.2.2.2.2.2.2.2.2.2.2.2.2⟩ })
    | (go_at_call 22; have _t := T5; clear _t T5; refine (cNq _ (HP.out.2.2.2.1.below H4)).mono ?_; rintro e w25 ⟨v5, rfl, R5, hb5⟩; have H5 := bt H4 hb5; have s5 : w25.cell? ⟨gx, 0, none⟩ = some (.bool x1) ∧ w25.cell? ⟨gx, 1, none⟩ = some (.int .u64 VA1) ∧ w25.cell? ⟨gx, 2, none⟩ = some (.int .u64 VL1) ∧ w25.cell? ⟨gx, 3, none⟩ = some (.pointer vp1) ∧ w25.cell? ⟨gy, 0, none⟩ = some (.bool x2) ∧ w25.cell? ⟨gy, 1, none⟩ = some (.int .u64 VA2) ∧ w25.cell? ⟨gy, 2, none⟩ = some (.int .u64 VL2) ∧ w25.cell? ⟨gy, 3, none⟩ = some (.pointer vp2) ∧ w25.cell? ⟨gx + 1, 0, none⟩ = some (.bool x1) ∧ w25.cell? ⟨gx + 1, 1, none⟩ = some (.slice o1 N1 m1) ∧ w25.cell? ⟨gx + 1, 2, none⟩ = some (.slice o2 D1 m2) ∧ w25.cell? ⟨gy + 1, 0, none⟩ = some (.bool x2) ∧ w25.cell? ⟨gy + 1, 1, none⟩ = some (.slice o3 N2 m3) ∧ w25.cell? ⟨gy + 1, 2, none⟩ = some (.slice o4 D2 m4) ∧ w25.cell? ⟨gs, 0, none⟩ = some (.bool false) ∧ w25.cell? ⟨gs, 1, none⟩ = some (.slice o1 N1 m1) ∧ w25.cell? ⟨gs, 2, none⟩ = some (.slice o2 D1 m2) := by { have kc : ∀ {p : Addr} {v : Value}, w24.cell? p = some v → w25.cell? p = some v := fun {p v} h => by { rw [hb5.cell (World.block_lt_of_cell? w24 p h)]; exact h }; exact ⟨kc s4.1, kc s4.2.1, kc s4.2.2.1, kc s4.2.2.2.1, kc s4.2.2.2.2.1, kc s4.2.2.2.2.2.1, kc s4.2.2.2.2.2.2.1, kc s4.2.2.2.2.2.2.2.1, kc s4.2.2.2.2.2.2.2.2.1, kc s4.2.2.2.2.2.2.2.2.2.1, kc s4.2.2.2.2.2.2.2.2.2.2.1, kc s4.2.2.2.2.2.2.2.2.2.2.2.1, kc s4.2.2.2.2.2.2.2.2.2.2.2.2.1, kc s4.2.2.2.2.2.2.2.2.2.2.2.2.2.1, kc s4.2.2.2.2.2.2.2.2.2.2.2.2.2.2.1, kc s4.2.2.2.2.2.2.2.2.2.2.2.2.2.2.2.1, kc s4.2.2.2.2.2.2.2.2.2.2.2.2.2.2.2.2⟩ })
    | (go_at_call 20; have _t := T6; clear _t T6; refine (cRSub _ _ (HP.out.2.2.1.below H5) R5).mono ?_; rintro e w26 ⟨v6, rfl, R6, hb6⟩; have H6 := bt H5 hb6; have s6 : w26.cell? ⟨gx, 0, none⟩ = some (.bool x1) ∧ w26.cell? ⟨gx, 1, none⟩ = some (.int .u64 VA1) ∧ w26.cell? ⟨gx, 2, none⟩ = some (.int .u64 VL1) ∧ w26.cell? ⟨gx, 3, none⟩ = some (.pointer vp1) ∧ w26.cell? ⟨gy, 0, none⟩ = some (.bool x2) ∧ w26.cell? ⟨gy, 1, none⟩ = some (.int .u64 VA2) ∧ w26.cell? ⟨gy, 2, none⟩ = some (.int .u64 VL2) ∧ w26.cell? ⟨gy, 3, none⟩ = some (.pointer vp2) ∧ w26.cell? ⟨gx + 1, 0, none⟩ = some (.bool x1) ∧ w26.cell? ⟨gx + 1, 1, none⟩ = some (.slice o1 N1 m1) ∧ w26.cell? ⟨gx + 1, 2, none⟩ = some (.slice o2 D1 m2) ∧ w26.cell? ⟨gy + 1, 0, none⟩ = some (.bool x2) ∧ w26.cell? ⟨gy + 1, 1, none⟩ = some (.slice o3 N2 m3) ∧ w26.cell? ⟨gy + 1, 2, none⟩ = some (.slice o4 D2 m4) ∧ w26.cell? ⟨gs, 0, none⟩ = some (.bool false) ∧ w26.cell? ⟨gs, 1, none⟩ = some (.slice o1 N1 m1) ∧ w26.cell? ⟨gs, 2, none⟩ = some (.slice o2 D1 m2) := by { have kc : ∀ {p : Addr} {v : Value}, w25.cell? p = some v → w26.cell? p = some v := fun {p v} h => by { rw [hb6.cell (World.block_lt_of_cell? w25 p h)]; exact h }; exact ⟨kc s5.1, kc s5.2.1, kc s5.2.2.1, kc s5.2.2.2.1, kc s5.2.2.2.2.1, kc s5.2.2.2.2.2.1, kc s5.2.2.2.2.2.2.1, kc s5.2.2.2.2.2.2.2.1, kc s5.2.2.2.2.2.2.2.2.1, kc s5.2.2.2.2.2.2.2.2.2.1, kc s5.2.2.2.2.2.2.2.2.2.2.1, kc s5.2.2.2.2.2.2.2.2.2.2.2.1, kc s5.2.2.2.2.2.2.2.2.2.2.2.2.1, kc s5.2.2.2.2.2.2.2.2.2.2.2.2.2.1, kc s5.2.2.2.2.2.2.2.2.2.2.2.2.2.2.1, kc s5.2.2.2.2.2.2.2.2.2.2.2.2.2.2.2.1, kc s5.2.2.2.2.2.2.2.2.2.2.2.2.2.2.2.2⟩ })
    | (go_at_call 18; have _t := T7; clear _t T7; refine (is_yes _ _ ub un ud _ ((R4.below hb5).below hb6) R6 LU.out.1 LU.out.2).mono ?_; rintro e w27 ⟨rfl, hb7⟩; have H7 := bt H6 hb7; have s7 : w27.cell? ⟨gx, 0, none⟩ = some (.bool x1) ∧ w27.cell? ⟨gx, 1, none⟩ = some (.int .u64 VA1) ∧ w27.cell? ⟨gx, 2, none⟩ = some (.int .u64 VL1) ∧ w27.cell? ⟨gx, 3, none⟩ = some (.pointer vp1) ∧ w27.cell? ⟨gy, 0, none⟩ = some (.bool x2) ∧ w27.cell? ⟨gy, 1, none⟩ = some (.int .u64 VA2) ∧ w27.cell? ⟨gy, 2, none⟩ = some (.int .u64 VL2) ∧ w27.cell? ⟨gy, 3, none⟩ = some (.pointer vp2) ∧ w27.cell? ⟨gx + 1, 0, none⟩ = some (.bool x1) ∧ w27.cell? ⟨gx + 1, 1, none⟩ = some (.slice o1 N1 m1) ∧ w27.cell? ⟨gx + 1, 2, none⟩ = some (.slice o2 D1 m2) ∧ w27.cell? ⟨gy + 1, 0, none⟩ = some (.bool x2) ∧ w27.cell? ⟨gy + 1, 1, none⟩ = some (.slice o3 N2 m3) ∧ w27.cell? ⟨gy + 1, 2, none⟩ = some (.slice o4 D2 m4) ∧ w27.cell? ⟨gs, 0, none⟩ = some (.bool false) ∧ w27.cell? ⟨gs, 1, none⟩ = some (.slice o1 N1 m1) ∧ w27.cell? ⟨gs, 2, none⟩ = some (.slice o2 D1 m2) := by { have kc : ∀ {p : Addr} {v : Value}, w26.cell? p = some v → w27.cell? p = some v := fun {p v} h => by { rw [hb7.cell (World.block_lt_of_cell? w26 p h)]; exact h }; exact ⟨kc s6.1, kc s6.2.1, kc s6.2.2.1, kc s6.2.2.2.1, kc s6.2.2.2.2.1, kc s6.2.2.2.2.2.1, kc s6.2.2.2.2.2.2.1, kc s6.2.2.2.2.2.2.2.1, kc s6.2.2.2.2.2.2.2.2.1, kc s6.2.2.2.2.2.2.2.2.2.1, kc s6.2.2.2.2.2.2.2.2.2.2.1, kc s6.2.2.2.2.2.2.2.2.2.2.2.1, kc s6.2.2.2.2.2.2.2.2.2.2.2.2.1, kc s6.2.2.2.2.2.2.2.2.2.2.2.2.2.1, kc s6.2.2.2.2.2.2.2.2.2.2.2.2.2.2.1, kc s6.2.2.2.2.2.2.2.2.2.2.2.2.2.2.2.1, kc s6.2.2.2.2.2.2.2.2.2.2.2.2.2.2.2.2⟩ })
    | (go_at_call 23; refine (cMul _ (HP.out.1.below H7) (HP.out.2.1.below H7)).mono ?_; rintro e w28 ⟨v8, rfl, R8, hb8⟩; have H8 := bt H7 hb8; have s8 : w28.cell? ⟨gx, 0, none⟩ = some (.bool x1) ∧ w28.cell? ⟨gx, 1, none⟩ = some (.int .u64 VA1) ∧ w28.cell? ⟨gx, 2, none⟩ = some (.int .u64 VL1) ∧ w28.cell? ⟨gx, 3, none⟩ = some (.pointer vp1) ∧ w28.cell? ⟨gy, 0, none⟩ = some (.bool x2) ∧ w28.cell? ⟨gy, 1, none⟩ = some (.int .u64 VA2) ∧ w28.cell? ⟨gy, 2, none⟩ = some (.int .u64 VL2) ∧ w28.cell? ⟨gy, 3, none⟩ = some (.pointer vp2) ∧ w28.cell? ⟨gx + 1, 0, none⟩ = some (.bool x1) ∧ w28.cell? ⟨gx + 1, 1, none⟩ = some (.slice o1 N1 m1) ∧ w28.cell? ⟨gx + 1, 2, none⟩ = some (.slice o2 D1 m2) ∧ w28.cell? ⟨gy + 1, 0, none⟩ = some (.bool x2) ∧ w28.cell? ⟨gy + 1, 1, none⟩ = some (.slice o3 N2 m3) ∧ w28.cell? ⟨gy + 1, 2, none⟩ = some (.slice o4 D2 m4) ∧ w28.cell? ⟨gs, 0, none⟩ = some (.bool false) ∧ w28.cell? ⟨gs, 1, none⟩ = some (.slice o1 N1 m1) ∧ w28.cell? ⟨gs, 2, none⟩ = some (.slice o2 D1 m2) := by { have kc : ∀ {p : Addr} {v : Value}, w27.cell? p = some v → w28.cell? p = some v := fun {p v} h => by { rw [hb8.cell (World.block_lt_of_cell? w27 p h)]; exact h }; exact ⟨kc s7.1, kc s7.2.1, kc s7.2.2.1, kc s7.2.2.2.1, kc s7.2.2.2.2.1, kc s7.2.2.2.2.2.1, kc s7.2.2.2.2.2.2.1, kc s7.2.2.2.2.2.2.2.1, kc s7.2.2.2.2.2.2.2.2.1, kc s7.2.2.2.2.2.2.2.2.2.1, kc s7.2.2.2.2.2.2.2.2.2.2.1, kc s7.2.2.2.2.2.2.2.2.2.2.2.1, kc s7.2.2.2.2.2.2.2.2.2.2.2.2.1, kc s7.2.2.2.2.2.2.2.2.2.2.2.2.2.1, kc s7.2.2.2.2.2.2.2.2.2.2.2.2.2.2.1, kc s7.2.2.2.2.2.2.2.2.2.2.2.2.2.2.2.1, kc s7.2.2.2.2.2.2.2.2.2.2.2.2.2.2.2.2⟩ })
    | (go_at_call 24; refine (cRMul _ (HP.out.2.2.1.below H8) (HP.out.2.2.2.1.below H8)).mono ?_; rintro e w29 ⟨v9, rfl, R9, hb9⟩; have H9 := bt H8 hb9; have s9 : w29.cell? ⟨gx, 0, none⟩ = some (.bool x1) ∧ w29.cell? ⟨gx, 1, none⟩ = some (.int .u64 VA1) ∧ w29.cell? ⟨gx, 2, none⟩ = some (.int .u64 VL1) ∧ w29.cell? ⟨gx, 3, none⟩ = some (.pointer vp1) ∧ w29.cell? ⟨gy, 0, none⟩ = some (.bool x2) ∧ w29.cell? ⟨gy, 1, none⟩ = some (.int .u64 VA2) ∧ w29.cell? ⟨gy, 2, none⟩ = some (.int .u64 VL2) ∧ w29.cell? ⟨gy, 3, none⟩ = some (.pointer vp2) ∧ w29.cell? ⟨gx + 1, 0, none⟩ = some (.bool x1) ∧ w29.cell? ⟨gx + 1, 1, none⟩ = some (.slice o1 N1 m1) ∧ w29.cell? ⟨gx + 1, 2, none⟩ = some (.slice o2 D1 m2) ∧ w29.cell? ⟨gy + 1, 0, none⟩ = some (.bool x2) ∧ w29.cell? ⟨gy + 1, 1, none⟩ = some (.slice o3 N2 m3) ∧ w29.cell? ⟨gy + 1, 2, none⟩ = some (.slice o4 D2 m4) ∧ w29.cell? ⟨gs, 0, none⟩ = some (.bool false) ∧ w29.cell? ⟨gs, 1, none⟩ = some (.slice o1 N1 m1) ∧ w29.cell? ⟨gs, 2, none⟩ = some (.slice o2 D1 m2) := by { have kc : ∀ {p : Addr} {v : Value}, w28.cell? p = some v → w29.cell? p = some v := fun {p v} h => by { rw [hb9.cell (World.block_lt_of_cell? w28 p h)]; exact h }; exact ⟨kc s8.1, kc s8.2.1, kc s8.2.2.1, kc s8.2.2.2.1, kc s8.2.2.2.2.1, kc s8.2.2.2.2.2.1, kc s8.2.2.2.2.2.2.1, kc s8.2.2.2.2.2.2.2.1, kc s8.2.2.2.2.2.2.2.2.1, kc s8.2.2.2.2.2.2.2.2.2.1, kc s8.2.2.2.2.2.2.2.2.2.2.1, kc s8.2.2.2.2.2.2.2.2.2.2.2.1, kc s8.2.2.2.2.2.2.2.2.2.2.2.2.1, kc s8.2.2.2.2.2.2.2.2.2.2.2.2.2.1, kc s8.2.2.2.2.2.2.2.2.2.2.2.2.2.2.1, kc s8.2.2.2.2.2.2.2.2.2.2.2.2.2.2.2.1, kc s8.2.2.2.2.2.2.2.2.2.2.2.2.2.2.2.2⟩ })
    | (go_at_call 18; have _t := T10; clear _t T10; refine (is_yes _ _ mb mn md _ (R8.below hb9) R9 LM.out.1 LM.out.2).mono ?_; rintro e w30 ⟨rfl, hb10⟩; have H10 := bt H9 hb10; have s10 : w30.cell? ⟨gx, 0, none⟩ = some (.bool x1) ∧ w30.cell? ⟨gx, 1, none⟩ = some (.int .u64 VA1) ∧ w30.cell? ⟨gx, 2, none⟩ = some (.int .u64 VL1) ∧ w30.cell? ⟨gx, 3, none⟩ = some (.pointer vp1) ∧ w30.cell? ⟨gy, 0, none⟩ = some (.bool x2) ∧ w30.cell? ⟨gy, 1, none⟩ = some (.int .u64 VA2) ∧ w30.cell? ⟨gy, 2, none⟩ = some (.int .u64 VL2) ∧ w30.cell? ⟨gy, 3, none⟩ = some (.pointer vp2) ∧ w30.cell? ⟨gx + 1, 0, none⟩ = some (.bool x1) ∧ w30.cell? ⟨gx + 1, 1, none⟩ = some (.slice o1 N1 m1) ∧ w30.cell? ⟨gx + 1, 2, none⟩ = some (.slice o2 D1 m2) ∧ w30.cell? ⟨gy + 1, 0, none⟩ = some (.bool x2) ∧ w30.cell? ⟨gy + 1, 1, none⟩ = some (.slice o3 N2 m3) ∧ w30.cell? ⟨gy + 1, 2, none⟩ = some (.slice o4 D2 m4) ∧ w30.cell? ⟨gs, 0, none⟩ = some (.bool false) ∧ w30.cell? ⟨gs, 1, none⟩ = some (.slice o1 N1 m1) ∧ w30.cell? ⟨gs, 2, none⟩ = some (.slice o2 D1 m2) := by { have kc : ∀ {p : Addr} {v : Value}, w29.cell? p = some v → w30.cell? p = some v := fun {p v} h => by { rw [hb10.cell (World.block_lt_of_cell? w29 p h)]; exact h }; exact ⟨kc s9.1, kc s9.2.1, kc s9.2.2.1, kc s9.2.2.2.1, kc s9.2.2.2.2.1, kc s9.2.2.2.2.2.1, kc s9.2.2.2.2.2.2.1, kc s9.2.2.2.2.2.2.2.1, kc s9.2.2.2.2.2.2.2.2.1, kc s9.2.2.2.2.2.2.2.2.2.1, kc s9.2.2.2.2.2.2.2.2.2.2.1, kc s9.2.2.2.2.2.2.2.2.2.2.2.1, kc s9.2.2.2.2.2.2.2.2.2.2.2.2.1, kc s9.2.2.2.2.2.2.2.2.2.2.2.2.2.1, kc s9.2.2.2.2.2.2.2.2.2.2.2.2.2.2.1, kc s9.2.2.2.2.2.2.2.2.2.2.2.2.2.2.2.1, kc s9.2.2.2.2.2.2.2.2.2.2.2.2.2.2.2.2⟩ })
    | (go_at_call 25; refine (cNeg _ (HP.out.1.below H10)).mono ?_; rintro e w31 ⟨v11, rfl, R11, hb11⟩; have H11 := bt H10 hb11; have s11 : w31.cell? ⟨gx, 0, none⟩ = some (.bool x1) ∧ w31.cell? ⟨gx, 1, none⟩ = some (.int .u64 VA1) ∧ w31.cell? ⟨gx, 2, none⟩ = some (.int .u64 VL1) ∧ w31.cell? ⟨gx, 3, none⟩ = some (.pointer vp1) ∧ w31.cell? ⟨gy, 0, none⟩ = some (.bool x2) ∧ w31.cell? ⟨gy, 1, none⟩ = some (.int .u64 VA2) ∧ w31.cell? ⟨gy, 2, none⟩ = some (.int .u64 VL2) ∧ w31.cell? ⟨gy, 3, none⟩ = some (.pointer vp2) ∧ w31.cell? ⟨gx + 1, 0, none⟩ = some (.bool x1) ∧ w31.cell? ⟨gx + 1, 1, none⟩ = some (.slice o1 N1 m1) ∧ w31.cell? ⟨gx + 1, 2, none⟩ = some (.slice o2 D1 m2) ∧ w31.cell? ⟨gy + 1, 0, none⟩ = some (.bool x2) ∧ w31.cell? ⟨gy + 1, 1, none⟩ = some (.slice o3 N2 m3) ∧ w31.cell? ⟨gy + 1, 2, none⟩ = some (.slice o4 D2 m4) ∧ w31.cell? ⟨gs, 0, none⟩ = some (.bool false) ∧ w31.cell? ⟨gs, 1, none⟩ = some (.slice o1 N1 m1) ∧ w31.cell? ⟨gs, 2, none⟩ = some (.slice o2 D1 m2) := by { have kc : ∀ {p : Addr} {v : Value}, w30.cell? p = some v → w31.cell? p = some v := fun {p v} h => by { rw [hb11.cell (World.block_lt_of_cell? w30 p h)]; exact h }; exact ⟨kc s10.1, kc s10.2.1, kc s10.2.2.1, kc s10.2.2.2.1, kc s10.2.2.2.2.1, kc s10.2.2.2.2.2.1, kc s10.2.2.2.2.2.2.1, kc s10.2.2.2.2.2.2.2.1, kc s10.2.2.2.2.2.2.2.2.1, kc s10.2.2.2.2.2.2.2.2.2.1, kc s10.2.2.2.2.2.2.2.2.2.2.1, kc s10.2.2.2.2.2.2.2.2.2.2.2.1, kc s10.2.2.2.2.2.2.2.2.2.2.2.2.1, kc s10.2.2.2.2.2.2.2.2.2.2.2.2.2.1, kc s10.2.2.2.2.2.2.2.2.2.2.2.2.2.2.1, kc s10.2.2.2.2.2.2.2.2.2.2.2.2.2.2.2.1, kc s10.2.2.2.2.2.2.2.2.2.2.2.2.2.2.2.2⟩ })
    | (go_at_call 22; refine (cNp _ (HP.out.2.2.1.below H11)).mono ?_; rintro e w32 ⟨v12, rfl, R12, hb12⟩; have H12 := bt H11 hb12; have s12 : w32.cell? ⟨gx, 0, none⟩ = some (.bool x1) ∧ w32.cell? ⟨gx, 1, none⟩ = some (.int .u64 VA1) ∧ w32.cell? ⟨gx, 2, none⟩ = some (.int .u64 VL1) ∧ w32.cell? ⟨gx, 3, none⟩ = some (.pointer vp1) ∧ w32.cell? ⟨gy, 0, none⟩ = some (.bool x2) ∧ w32.cell? ⟨gy, 1, none⟩ = some (.int .u64 VA2) ∧ w32.cell? ⟨gy, 2, none⟩ = some (.int .u64 VL2) ∧ w32.cell? ⟨gy, 3, none⟩ = some (.pointer vp2) ∧ w32.cell? ⟨gx + 1, 0, none⟩ = some (.bool x1) ∧ w32.cell? ⟨gx + 1, 1, none⟩ = some (.slice o1 N1 m1) ∧ w32.cell? ⟨gx + 1, 2, none⟩ = some (.slice o2 D1 m2) ∧ w32.cell? ⟨gy + 1, 0, none⟩ = some (.bool x2) ∧ w32.cell? ⟨gy + 1, 1, none⟩ = some (.slice o3 N2 m3) ∧ w32.cell? ⟨gy + 1, 2, none⟩ = some (.slice o4 D2 m4) ∧ w32.cell? ⟨gs, 0, none⟩ = some (.bool false) ∧ w32.cell? ⟨gs, 1, none⟩ = some (.slice o1 N1 m1) ∧ w32.cell? ⟨gs, 2, none⟩ = some (.slice o2 D1 m2) := by { have kc : ∀ {p : Addr} {v : Value}, w31.cell? p = some v → w32.cell? p = some v := fun {p v} h => by { rw [hb12.cell (World.block_lt_of_cell? w31 p h)]; exact h }; exact ⟨kc s11.1, kc s11.2.1, kc s11.2.2.1, kc s11.2.2.2.1, kc s11.2.2.2.2.1, kc s11.2.2.2.2.2.1, kc s11.2.2.2.2.2.2.1, kc s11.2.2.2.2.2.2.2.1, kc s11.2.2.2.2.2.2.2.2.1, kc s11.2.2.2.2.2.2.2.2.2.1, kc s11.2.2.2.2.2.2.2.2.2.2.1, kc s11.2.2.2.2.2.2.2.2.2.2.2.1, kc s11.2.2.2.2.2.2.2.2.2.2.2.2.1, kc s11.2.2.2.2.2.2.2.2.2.2.2.2.2.1, kc s11.2.2.2.2.2.2.2.2.2.2.2.2.2.2.1, kc s11.2.2.2.2.2.2.2.2.2.2.2.2.2.2.2.1, kc s11.2.2.2.2.2.2.2.2.2.2.2.2.2.2.2.2⟩ })
    | (go_at_call 18; have _t := T13; clear _t T13; refine (is_yes _ _ gb n1 d1 _ (R11.below hb12) R12 LP.out.1 LP.out.2).mono ?_; rintro e w33 ⟨rfl, hb13⟩; have H13 := bt H12 hb13; have s13 : w33.cell? ⟨gx, 0, none⟩ = some (.bool x1) ∧ w33.cell? ⟨gx, 1, none⟩ = some (.int .u64 VA1) ∧ w33.cell? ⟨gx, 2, none⟩ = some (.int .u64 VL1) ∧ w33.cell? ⟨gx, 3, none⟩ = some (.pointer vp1) ∧ w33.cell? ⟨gy, 0, none⟩ = some (.bool x2) ∧ w33.cell? ⟨gy, 1, none⟩ = some (.int .u64 VA2) ∧ w33.cell? ⟨gy, 2, none⟩ = some (.int .u64 VL2) ∧ w33.cell? ⟨gy, 3, none⟩ = some (.pointer vp2) ∧ w33.cell? ⟨gx + 1, 0, none⟩ = some (.bool x1) ∧ w33.cell? ⟨gx + 1, 1, none⟩ = some (.slice o1 N1 m1) ∧ w33.cell? ⟨gx + 1, 2, none⟩ = some (.slice o2 D1 m2) ∧ w33.cell? ⟨gy + 1, 0, none⟩ = some (.bool x2) ∧ w33.cell? ⟨gy + 1, 1, none⟩ = some (.slice o3 N2 m3) ∧ w33.cell? ⟨gy + 1, 2, none⟩ = some (.slice o4 D2 m4) ∧ w33.cell? ⟨gs, 0, none⟩ = some (.bool false) ∧ w33.cell? ⟨gs, 1, none⟩ = some (.slice o1 N1 m1) ∧ w33.cell? ⟨gs, 2, none⟩ = some (.slice o2 D1 m2) := by { have kc : ∀ {p : Addr} {v : Value}, w32.cell? p = some v → w33.cell? p = some v := fun {p v} h => by { rw [hb13.cell (World.block_lt_of_cell? w32 p h)]; exact h }; exact ⟨kc s12.1, kc s12.2.1, kc s12.2.2.1, kc s12.2.2.2.1, kc s12.2.2.2.2.1, kc s12.2.2.2.2.2.1, kc s12.2.2.2.2.2.2.1, kc s12.2.2.2.2.2.2.2.1, kc s12.2.2.2.2.2.2.2.2.1, kc s12.2.2.2.2.2.2.2.2.2.1, kc s12.2.2.2.2.2.2.2.2.2.2.1, kc s12.2.2.2.2.2.2.2.2.2.2.2.1, kc s12.2.2.2.2.2.2.2.2.2.2.2.2.1, kc s12.2.2.2.2.2.2.2.2.2.2.2.2.2.1, kc s12.2.2.2.2.2.2.2.2.2.2.2.2.2.2.1, kc s12.2.2.2.2.2.2.2.2.2.2.2.2.2.2.2.1, kc s12.2.2.2.2.2.2.2.2.2.2.2.2.2.2.2.2⟩ })
    | (go_at_call 26; refine (abs_any _ x1 n1 d1 _ (HP.out.1.below H13)).mono ?_; rintro e w34 ⟨v14, rfl, R14, hb14⟩; have H14 := bt H13 hb14; have s14 : w34.cell? ⟨gx, 0, none⟩ = some (.bool x1) ∧ w34.cell? ⟨gx, 1, none⟩ = some (.int .u64 VA1) ∧ w34.cell? ⟨gx, 2, none⟩ = some (.int .u64 VL1) ∧ w34.cell? ⟨gx, 3, none⟩ = some (.pointer vp1) ∧ w34.cell? ⟨gy, 0, none⟩ = some (.bool x2) ∧ w34.cell? ⟨gy, 1, none⟩ = some (.int .u64 VA2) ∧ w34.cell? ⟨gy, 2, none⟩ = some (.int .u64 VL2) ∧ w34.cell? ⟨gy, 3, none⟩ = some (.pointer vp2) ∧ w34.cell? ⟨gx + 1, 0, none⟩ = some (.bool x1) ∧ w34.cell? ⟨gx + 1, 1, none⟩ = some (.slice o1 N1 m1) ∧ w34.cell? ⟨gx + 1, 2, none⟩ = some (.slice o2 D1 m2) ∧ w34.cell? ⟨gy + 1, 0, none⟩ = some (.bool x2) ∧ w34.cell? ⟨gy + 1, 1, none⟩ = some (.slice o3 N2 m3) ∧ w34.cell? ⟨gy + 1, 2, none⟩ = some (.slice o4 D2 m4) ∧ w34.cell? ⟨gs, 0, none⟩ = some (.bool false) ∧ w34.cell? ⟨gs, 1, none⟩ = some (.slice o1 N1 m1) ∧ w34.cell? ⟨gs, 2, none⟩ = some (.slice o2 D1 m2) := by { have kc : ∀ {p : Addr} {v : Value}, w33.cell? p = some v → w34.cell? p = some v := fun {p v} h => by { rw [hb14.cell (World.block_lt_of_cell? w33 p h)]; exact h }; exact ⟨kc s13.1, kc s13.2.1, kc s13.2.2.1, kc s13.2.2.2.1, kc s13.2.2.2.2.1, kc s13.2.2.2.2.2.1, kc s13.2.2.2.2.2.2.1, kc s13.2.2.2.2.2.2.2.1, kc s13.2.2.2.2.2.2.2.2.1, kc s13.2.2.2.2.2.2.2.2.2.1, kc s13.2.2.2.2.2.2.2.2.2.2.1, kc s13.2.2.2.2.2.2.2.2.2.2.2.1, kc s13.2.2.2.2.2.2.2.2.2.2.2.2.1, kc s13.2.2.2.2.2.2.2.2.2.2.2.2.2.1, kc s13.2.2.2.2.2.2.2.2.2.2.2.2.2.2.1, kc s13.2.2.2.2.2.2.2.2.2.2.2.2.2.2.2.1, kc s13.2.2.2.2.2.2.2.2.2.2.2.2.2.2.2.2⟩ })
    | (go_at_call 18; have _t := T15; clear _t T15; refine (is_yes _ _ false n1 d1 _ R14 (HP.out.2.2.2.2.below H14) LP.out.1 LP.out.2).mono ?_; rintro e w35 ⟨rfl, hb15⟩; have H15 := bt H14 hb15; have s15 : w35.cell? ⟨gx, 0, none⟩ = some (.bool x1) ∧ w35.cell? ⟨gx, 1, none⟩ = some (.int .u64 VA1) ∧ w35.cell? ⟨gx, 2, none⟩ = some (.int .u64 VL1) ∧ w35.cell? ⟨gx, 3, none⟩ = some (.pointer vp1) ∧ w35.cell? ⟨gy, 0, none⟩ = some (.bool x2) ∧ w35.cell? ⟨gy, 1, none⟩ = some (.int .u64 VA2) ∧ w35.cell? ⟨gy, 2, none⟩ = some (.int .u64 VL2) ∧ w35.cell? ⟨gy, 3, none⟩ = some (.pointer vp2) ∧ w35.cell? ⟨gx + 1, 0, none⟩ = some (.bool x1) ∧ w35.cell? ⟨gx + 1, 1, none⟩ = some (.slice o1 N1 m1) ∧ w35.cell? ⟨gx + 1, 2, none⟩ = some (.slice o2 D1 m2) ∧ w35.cell? ⟨gy + 1, 0, none⟩ = some (.bool x2) ∧ w35.cell? ⟨gy + 1, 1, none⟩ = some (.slice o3 N2 m3) ∧ w35.cell? ⟨gy + 1, 2, none⟩ = some (.slice o4 D2 m4) ∧ w35.cell? ⟨gs, 0, none⟩ = some (.bool false) ∧ w35.cell? ⟨gs, 1, none⟩ = some (.slice o1 N1 m1) ∧ w35.cell? ⟨gs, 2, none⟩ = some (.slice o2 D1 m2) := by { have kc : ∀ {p : Addr} {v : Value}, w34.cell? p = some v → w35.cell? p = some v := fun {p v} h => by { rw [hb15.cell (World.block_lt_of_cell? w34 p h)]; exact h }; exact ⟨kc s14.1, kc s14.2.1, kc s14.2.2.1, kc s14.2.2.2.1, kc s14.2.2.2.2.1, kc s14.2.2.2.2.2.1, kc s14.2.2.2.2.2.2.1, kc s14.2.2.2.2.2.2.2.1, kc s14.2.2.2.2.2.2.2.2.1, kc s14.2.2.2.2.2.2.2.2.2.1, kc s14.2.2.2.2.2.2.2.2.2.2.1, kc s14.2.2.2.2.2.2.2.2.2.2.2.1, kc s14.2.2.2.2.2.2.2.2.2.2.2.2.1, kc s14.2.2.2.2.2.2.2.2.2.2.2.2.2.1, kc s14.2.2.2.2.2.2.2.2.2.2.2.2.2.2.1, kc s14.2.2.2.2.2.2.2.2.2.2.2.2.2.2.2.1, kc s14.2.2.2.2.2.2.2.2.2.2.2.2.2.2.2.2⟩ })
    | (go_at_call 27; refine (cSg _ (HP.out.1.below H15)).mono ?_; rintro e w36 ⟨rfl, hb16⟩; have H16 := bt H15 hb16; have s16 : w36.cell? ⟨gx, 0, none⟩ = some (.bool x1) ∧ w36.cell? ⟨gx, 1, none⟩ = some (.int .u64 VA1) ∧ w36.cell? ⟨gx, 2, none⟩ = some (.int .u64 VL1) ∧ w36.cell? ⟨gx, 3, none⟩ = some (.pointer vp1) ∧ w36.cell? ⟨gy, 0, none⟩ = some (.bool x2) ∧ w36.cell? ⟨gy, 1, none⟩ = some (.int .u64 VA2) ∧ w36.cell? ⟨gy, 2, none⟩ = some (.int .u64 VL2) ∧ w36.cell? ⟨gy, 3, none⟩ = some (.pointer vp2) ∧ w36.cell? ⟨gx + 1, 0, none⟩ = some (.bool x1) ∧ w36.cell? ⟨gx + 1, 1, none⟩ = some (.slice o1 N1 m1) ∧ w36.cell? ⟨gx + 1, 2, none⟩ = some (.slice o2 D1 m2) ∧ w36.cell? ⟨gy + 1, 0, none⟩ = some (.bool x2) ∧ w36.cell? ⟨gy + 1, 1, none⟩ = some (.slice o3 N2 m3) ∧ w36.cell? ⟨gy + 1, 2, none⟩ = some (.slice o4 D2 m4) ∧ w36.cell? ⟨gs, 0, none⟩ = some (.bool false) ∧ w36.cell? ⟨gs, 1, none⟩ = some (.slice o1 N1 m1) ∧ w36.cell? ⟨gs, 2, none⟩ = some (.slice o2 D1 m2) := by { have kc : ∀ {p : Addr} {v : Value}, w35.cell? p = some v → w36.cell? p = some v := fun {p v} h => by { rw [hb16.cell (World.block_lt_of_cell? w35 p h)]; exact h }; exact ⟨kc s15.1, kc s15.2.1, kc s15.2.2.1, kc s15.2.2.2.1, kc s15.2.2.2.2.1, kc s15.2.2.2.2.2.1, kc s15.2.2.2.2.2.2.1, kc s15.2.2.2.2.2.2.2.1, kc s15.2.2.2.2.2.2.2.2.1, kc s15.2.2.2.2.2.2.2.2.2.1, kc s15.2.2.2.2.2.2.2.2.2.2.1, kc s15.2.2.2.2.2.2.2.2.2.2.2.1, kc s15.2.2.2.2.2.2.2.2.2.2.2.2.1, kc s15.2.2.2.2.2.2.2.2.2.2.2.2.2.1, kc s15.2.2.2.2.2.2.2.2.2.2.2.2.2.2.1, kc s15.2.2.2.2.2.2.2.2.2.2.2.2.2.2.2.1, kc s15.2.2.2.2.2.2.2.2.2.2.2.2.2.2.2.2⟩ })
    | (go_at_call 28; refine (cRSg _ (HP.out.2.2.1.below H16)).mono ?_; rintro e w37 ⟨rfl, hb17⟩; have H17 := bt H16 hb17; have s17 : w37.cell? ⟨gx, 0, none⟩ = some (.bool x1) ∧ w37.cell? ⟨gx, 1, none⟩ = some (.int .u64 VA1) ∧ w37.cell? ⟨gx, 2, none⟩ = some (.int .u64 VL1) ∧ w37.cell? ⟨gx, 3, none⟩ = some (.pointer vp1) ∧ w37.cell? ⟨gy, 0, none⟩ = some (.bool x2) ∧ w37.cell? ⟨gy, 1, none⟩ = some (.int .u64 VA2) ∧ w37.cell? ⟨gy, 2, none⟩ = some (.int .u64 VL2) ∧ w37.cell? ⟨gy, 3, none⟩ = some (.pointer vp2) ∧ w37.cell? ⟨gx + 1, 0, none⟩ = some (.bool x1) ∧ w37.cell? ⟨gx + 1, 1, none⟩ = some (.slice o1 N1 m1) ∧ w37.cell? ⟨gx + 1, 2, none⟩ = some (.slice o2 D1 m2) ∧ w37.cell? ⟨gy + 1, 0, none⟩ = some (.bool x2) ∧ w37.cell? ⟨gy + 1, 1, none⟩ = some (.slice o3 N2 m3) ∧ w37.cell? ⟨gy + 1, 2, none⟩ = some (.slice o4 D2 m4) ∧ w37.cell? ⟨gs, 0, none⟩ = some (.bool false) ∧ w37.cell? ⟨gs, 1, none⟩ = some (.slice o1 N1 m1) ∧ w37.cell? ⟨gs, 2, none⟩ = some (.slice o2 D1 m2) := by { have kc : ∀ {p : Addr} {v : Value}, w36.cell? p = some v → w37.cell? p = some v := fun {p v} h => by { rw [hb17.cell (World.block_lt_of_cell? w36 p h)]; exact h }; exact ⟨kc s16.1, kc s16.2.1, kc s16.2.2.1, kc s16.2.2.2.1, kc s16.2.2.2.2.1, kc s16.2.2.2.2.2.1, kc s16.2.2.2.2.2.2.1, kc s16.2.2.2.2.2.2.2.1, kc s16.2.2.2.2.2.2.2.2.1, kc s16.2.2.2.2.2.2.2.2.2.1, kc s16.2.2.2.2.2.2.2.2.2.2.1, kc s16.2.2.2.2.2.2.2.2.2.2.2.1, kc s16.2.2.2.2.2.2.2.2.2.2.2.2.1, kc s16.2.2.2.2.2.2.2.2.2.2.2.2.2.1, kc s16.2.2.2.2.2.2.2.2.2.2.2.2.2.2.1, kc s16.2.2.2.2.2.2.2.2.2.2.2.2.2.2.2.1, kc s16.2.2.2.2.2.2.2.2.2.2.2.2.2.2.2.2⟩ }; have sA : ∀ o : Obj, (w37.alloc o).cell? ⟨gx, 0, none⟩ = some (.bool x1) ∧ (w37.alloc o).cell? ⟨gx, 1, none⟩ = some (.int .u64 VA1) ∧ (w37.alloc o).cell? ⟨gx, 2, none⟩ = some (.int .u64 VL1) ∧ (w37.alloc o).cell? ⟨gx, 3, none⟩ = some (.pointer vp1) ∧ (w37.alloc o).cell? ⟨gy, 0, none⟩ = some (.bool x2) ∧ (w37.alloc o).cell? ⟨gy, 1, none⟩ = some (.int .u64 VA2) ∧ (w37.alloc o).cell? ⟨gy, 2, none⟩ = some (.int .u64 VL2) ∧ (w37.alloc o).cell? ⟨gy, 3, none⟩ = some (.pointer vp2) ∧ (w37.alloc o).cell? ⟨gx + 1, 0, none⟩ = some (.bool x1) ∧ (w37.alloc o).cell? ⟨gx + 1, 1, none⟩ = some (.slice o1 N1 m1) ∧ (w37.alloc o).cell? ⟨gx + 1, 2, none⟩ = some (.slice o2 D1 m2) ∧ (w37.alloc o).cell? ⟨gy + 1, 0, none⟩ = some (.bool x2) ∧ (w37.alloc o).cell? ⟨gy + 1, 1, none⟩ = some (.slice o3 N2 m3) ∧ (w37.alloc o).cell? ⟨gy + 1, 2, none⟩ = some (.slice o4 D2 m4) ∧ (w37.alloc o).cell? ⟨gs, 0, none⟩ = some (.bool false) ∧ (w37.alloc o).cell? ⟨gs, 1, none⟩ = some (.slice o1 N1 m1) ∧ (w37.alloc o).cell? ⟨gs, 2, none⟩ = some (.slice o2 D1 m2) := fun o => ⟨cell_al s17.1, cell_al s17.2.1, cell_al s17.2.2.1, cell_al s17.2.2.2.1, cell_al s17.2.2.2.2.1, cell_al s17.2.2.2.2.2.1, cell_al s17.2.2.2.2.2.2.1, cell_al s17.2.2.2.2.2.2.2.1, cell_al s17.2.2.2.2.2.2.2.2.1, cell_al s17.2.2.2.2.2.2.2.2.2.1, cell_al s17.2.2.2.2.2.2.2.2.2.2.1, cell_al s17.2.2.2.2.2.2.2.2.2.2.2.1, cell_al s17.2.2.2.2.2.2.2.2.2.2.2.2.1, cell_al s17.2.2.2.2.2.2.2.2.2.2.2.2.2.1, cell_al s17.2.2.2.2.2.2.2.2.2.2.2.2.2.2.1, cell_al s17.2.2.2.2.2.2.2.2.2.2.2.2.2.2.2.1, cell_al s17.2.2.2.2.2.2.2.2.2.2.2.2.2.2.2.2⟩)
    | (go_at_call 29; have _t := T18; clear _t T18; refine (cSum _ _ (HP.out.1.below H17) (HP.out.2.1.below H17)).mono ?_; rintro e w38 ⟨v18, rfl, R18, hb18⟩; have H18 := bt H17 hb18; have s18 : w38.cell? ⟨gx, 0, none⟩ = some (.bool x1) ∧ w38.cell? ⟨gx, 1, none⟩ = some (.int .u64 VA1) ∧ w38.cell? ⟨gx, 2, none⟩ = some (.int .u64 VL1) ∧ w38.cell? ⟨gx, 3, none⟩ = some (.pointer vp1) ∧ w38.cell? ⟨gy, 0, none⟩ = some (.bool x2) ∧ w38.cell? ⟨gy, 1, none⟩ = some (.int .u64 VA2) ∧ w38.cell? ⟨gy, 2, none⟩ = some (.int .u64 VL2) ∧ w38.cell? ⟨gy, 3, none⟩ = some (.pointer vp2) ∧ w38.cell? ⟨gx + 1, 0, none⟩ = some (.bool x1) ∧ w38.cell? ⟨gx + 1, 1, none⟩ = some (.slice o1 N1 m1) ∧ w38.cell? ⟨gx + 1, 2, none⟩ = some (.slice o2 D1 m2) ∧ w38.cell? ⟨gy + 1, 0, none⟩ = some (.bool x2) ∧ w38.cell? ⟨gy + 1, 1, none⟩ = some (.slice o3 N2 m3) ∧ w38.cell? ⟨gy + 1, 2, none⟩ = some (.slice o4 D2 m4) ∧ w38.cell? ⟨gs, 0, none⟩ = some (.bool false) ∧ w38.cell? ⟨gs, 1, none⟩ = some (.slice o1 N1 m1) ∧ w38.cell? ⟨gs, 2, none⟩ = some (.slice o2 D1 m2) := by { have kc : ∀ {p : Addr} {v : Value}, w37.cell? p = some v → w38.cell? p = some v := fun {p v} h => by { rw [hb18.cell (World.block_lt_of_cell? w37 p h)]; exact h }; exact ⟨kc s17.1, kc s17.2.1, kc s17.2.2.1, kc s17.2.2.2.1, kc s17.2.2.2.2.1, kc s17.2.2.2.2.2.1, kc s17.2.2.2.2.2.2.1, kc s17.2.2.2.2.2.2.2.1, kc s17.2.2.2.2.2.2.2.2.1, kc s17.2.2.2.2.2.2.2.2.2.1, kc s17.2.2.2.2.2.2.2.2.2.2.1, kc s17.2.2.2.2.2.2.2.2.2.2.2.1, kc s17.2.2.2.2.2.2.2.2.2.2.2.2.1, kc s17.2.2.2.2.2.2.2.2.2.2.2.2.2.1, kc s17.2.2.2.2.2.2.2.2.2.2.2.2.2.2.1, kc s17.2.2.2.2.2.2.2.2.2.2.2.2.2.2.2.1, kc s17.2.2.2.2.2.2.2.2.2.2.2.2.2.2.2.2⟩ })
    | (go_at_call 20; have _t := T19; clear _t T19; refine (cRAdd _ (HP.out.2.2.1.below H18) (HP.out.2.2.2.1.below H18)).mono ?_; rintro e w39 ⟨v19, rfl, R19, hb19⟩; have H19 := bt H18 hb19; have s19 : w39.cell? ⟨gx, 0, none⟩ = some (.bool x1) ∧ w39.cell? ⟨gx, 1, none⟩ = some (.int .u64 VA1) ∧ w39.cell? ⟨gx, 2, none⟩ = some (.int .u64 VL1) ∧ w39.cell? ⟨gx, 3, none⟩ = some (.pointer vp1) ∧ w39.cell? ⟨gy, 0, none⟩ = some (.bool x2) ∧ w39.cell? ⟨gy, 1, none⟩ = some (.int .u64 VA2) ∧ w39.cell? ⟨gy, 2, none⟩ = some (.int .u64 VL2) ∧ w39.cell? ⟨gy, 3, none⟩ = some (.pointer vp2) ∧ w39.cell? ⟨gx + 1, 0, none⟩ = some (.bool x1) ∧ w39.cell? ⟨gx + 1, 1, none⟩ = some (.slice o1 N1 m1) ∧ w39.cell? ⟨gx + 1, 2, none⟩ = some (.slice o2 D1 m2) ∧ w39.cell? ⟨gy + 1, 0, none⟩ = some (.bool x2) ∧ w39.cell? ⟨gy + 1, 1, none⟩ = some (.slice o3 N2 m3) ∧ w39.cell? ⟨gy + 1, 2, none⟩ = some (.slice o4 D2 m4) ∧ w39.cell? ⟨gs, 0, none⟩ = some (.bool false) ∧ w39.cell? ⟨gs, 1, none⟩ = some (.slice o1 N1 m1) ∧ w39.cell? ⟨gs, 2, none⟩ = some (.slice o2 D1 m2) := by { have kc : ∀ {p : Addr} {v : Value}, w38.cell? p = some v → w39.cell? p = some v := fun {p v} h => by { rw [hb19.cell (World.block_lt_of_cell? w38 p h)]; exact h }; exact ⟨kc s18.1, kc s18.2.1, kc s18.2.2.1, kc s18.2.2.2.1, kc s18.2.2.2.2.1, kc s18.2.2.2.2.2.1, kc s18.2.2.2.2.2.2.1, kc s18.2.2.2.2.2.2.2.1, kc s18.2.2.2.2.2.2.2.2.1, kc s18.2.2.2.2.2.2.2.2.2.1, kc s18.2.2.2.2.2.2.2.2.2.2.1, kc s18.2.2.2.2.2.2.2.2.2.2.2.1, kc s18.2.2.2.2.2.2.2.2.2.2.2.2.1, kc s18.2.2.2.2.2.2.2.2.2.2.2.2.2.1, kc s18.2.2.2.2.2.2.2.2.2.2.2.2.2.2.1, kc s18.2.2.2.2.2.2.2.2.2.2.2.2.2.2.2.1, kc s18.2.2.2.2.2.2.2.2.2.2.2.2.2.2.2.2⟩ })
    | (go_at_call 20; refine (cRSum _ _ R19 (HP.out.2.2.1.below H19)).mono ?_; rintro e w40 ⟨v20, rfl, R20, hb20⟩; have H20 := bt H19 hb20; have s20 : w40.cell? ⟨gx, 0, none⟩ = some (.bool x1) ∧ w40.cell? ⟨gx, 1, none⟩ = some (.int .u64 VA1) ∧ w40.cell? ⟨gx, 2, none⟩ = some (.int .u64 VL1) ∧ w40.cell? ⟨gx, 3, none⟩ = some (.pointer vp1) ∧ w40.cell? ⟨gy, 0, none⟩ = some (.bool x2) ∧ w40.cell? ⟨gy, 1, none⟩ = some (.int .u64 VA2) ∧ w40.cell? ⟨gy, 2, none⟩ = some (.int .u64 VL2) ∧ w40.cell? ⟨gy, 3, none⟩ = some (.pointer vp2) ∧ w40.cell? ⟨gx + 1, 0, none⟩ = some (.bool x1) ∧ w40.cell? ⟨gx + 1, 1, none⟩ = some (.slice o1 N1 m1) ∧ w40.cell? ⟨gx + 1, 2, none⟩ = some (.slice o2 D1 m2) ∧ w40.cell? ⟨gy + 1, 0, none⟩ = some (.bool x2) ∧ w40.cell? ⟨gy + 1, 1, none⟩ = some (.slice o3 N2 m3) ∧ w40.cell? ⟨gy + 1, 2, none⟩ = some (.slice o4 D2 m4) ∧ w40.cell? ⟨gs, 0, none⟩ = some (.bool false) ∧ w40.cell? ⟨gs, 1, none⟩ = some (.slice o1 N1 m1) ∧ w40.cell? ⟨gs, 2, none⟩ = some (.slice o2 D1 m2) := by { have kc : ∀ {p : Addr} {v : Value}, w39.cell? p = some v → w40.cell? p = some v := fun {p v} h => by { rw [hb20.cell (World.block_lt_of_cell? w39 p h)]; exact h }; exact ⟨kc s19.1, kc s19.2.1, kc s19.2.2.1, kc s19.2.2.2.1, kc s19.2.2.2.2.1, kc s19.2.2.2.2.2.1, kc s19.2.2.2.2.2.2.1, kc s19.2.2.2.2.2.2.2.1, kc s19.2.2.2.2.2.2.2.2.1, kc s19.2.2.2.2.2.2.2.2.2.1, kc s19.2.2.2.2.2.2.2.2.2.2.1, kc s19.2.2.2.2.2.2.2.2.2.2.2.1, kc s19.2.2.2.2.2.2.2.2.2.2.2.2.1, kc s19.2.2.2.2.2.2.2.2.2.2.2.2.2.1, kc s19.2.2.2.2.2.2.2.2.2.2.2.2.2.2.1, kc s19.2.2.2.2.2.2.2.2.2.2.2.2.2.2.2.1, kc s19.2.2.2.2.2.2.2.2.2.2.2.2.2.2.2.2⟩ })
    | (go_at_call 18; have _t := T21; clear _t T21; refine (is_yes _ _ tb tn td _ ((R18.below hb19).below hb20) R20 LT.out.1 LT.out.2).mono ?_; rintro e w41 ⟨rfl, hb21⟩; have H21 := bt H20 hb21; have s21 : w41.cell? ⟨gx, 0, none⟩ = some (.bool x1) ∧ w41.cell? ⟨gx, 1, none⟩ = some (.int .u64 VA1) ∧ w41.cell? ⟨gx, 2, none⟩ = some (.int .u64 VL1) ∧ w41.cell? ⟨gx, 3, none⟩ = some (.pointer vp1) ∧ w41.cell? ⟨gy, 0, none⟩ = some (.bool x2) ∧ w41.cell? ⟨gy, 1, none⟩ = some (.int .u64 VA2) ∧ w41.cell? ⟨gy, 2, none⟩ = some (.int .u64 VL2) ∧ w41.cell? ⟨gy, 3, none⟩ = some (.pointer vp2) ∧ w41.cell? ⟨gx + 1, 0, none⟩ = some (.bool x1) ∧ w41.cell? ⟨gx + 1, 1, none⟩ = some (.slice o1 N1 m1) ∧ w41.cell? ⟨gx + 1, 2, none⟩ = some (.slice o2 D1 m2) ∧ w41.cell? ⟨gy + 1, 0, none⟩ = some (.bool x2) ∧ w41.cell? ⟨gy + 1, 1, none⟩ = some (.slice o3 N2 m3) ∧ w41.cell? ⟨gy + 1, 2, none⟩ = some (.slice o4 D2 m4) ∧ w41.cell? ⟨gs, 0, none⟩ = some (.bool false) ∧ w41.cell? ⟨gs, 1, none⟩ = some (.slice o1 N1 m1) ∧ w41.cell? ⟨gs, 2, none⟩ = some (.slice o2 D1 m2) := by { have kc : ∀ {p : Addr} {v : Value}, w40.cell? p = some v → w41.cell? p = some v := fun {p v} h => by { rw [hb21.cell (World.block_lt_of_cell? w40 p h)]; exact h }; exact ⟨kc s20.1, kc s20.2.1, kc s20.2.2.1, kc s20.2.2.2.1, kc s20.2.2.2.2.1, kc s20.2.2.2.2.2.1, kc s20.2.2.2.2.2.2.1, kc s20.2.2.2.2.2.2.2.1, kc s20.2.2.2.2.2.2.2.2.1, kc s20.2.2.2.2.2.2.2.2.2.1, kc s20.2.2.2.2.2.2.2.2.2.2.1, kc s20.2.2.2.2.2.2.2.2.2.2.2.1, kc s20.2.2.2.2.2.2.2.2.2.2.2.2.1, kc s20.2.2.2.2.2.2.2.2.2.2.2.2.2.1, kc s20.2.2.2.2.2.2.2.2.2.2.2.2.2.2.1, kc s20.2.2.2.2.2.2.2.2.2.2.2.2.2.2.2.1, kc s20.2.2.2.2.2.2.2.2.2.2.2.2.2.2.2.2⟩ })
    | (go_at_call 29; refine (sum_nil _).mono ?_; rintro e w42 ⟨v22, rfl, R22, hb22⟩; have H22 := bt H21 hb22; have s22 : w42.cell? ⟨gx, 0, none⟩ = some (.bool x1) ∧ w42.cell? ⟨gx, 1, none⟩ = some (.int .u64 VA1) ∧ w42.cell? ⟨gx, 2, none⟩ = some (.int .u64 VL1) ∧ w42.cell? ⟨gx, 3, none⟩ = some (.pointer vp1) ∧ w42.cell? ⟨gy, 0, none⟩ = some (.bool x2) ∧ w42.cell? ⟨gy, 1, none⟩ = some (.int .u64 VA2) ∧ w42.cell? ⟨gy, 2, none⟩ = some (.int .u64 VL2) ∧ w42.cell? ⟨gy, 3, none⟩ = some (.pointer vp2) ∧ w42.cell? ⟨gx + 1, 0, none⟩ = some (.bool x1) ∧ w42.cell? ⟨gx + 1, 1, none⟩ = some (.slice o1 N1 m1) ∧ w42.cell? ⟨gx + 1, 2, none⟩ = some (.slice o2 D1 m2) ∧ w42.cell? ⟨gy + 1, 0, none⟩ = some (.bool x2) ∧ w42.cell? ⟨gy + 1, 1, none⟩ = some (.slice o3 N2 m3) ∧ w42.cell? ⟨gy + 1, 2, none⟩ = some (.slice o4 D2 m4) ∧ w42.cell? ⟨gs, 0, none⟩ = some (.bool false) ∧ w42.cell? ⟨gs, 1, none⟩ = some (.slice o1 N1 m1) ∧ w42.cell? ⟨gs, 2, none⟩ = some (.slice o2 D1 m2) := by { have kc : ∀ {p : Addr} {v : Value}, w41.cell? p = some v → w42.cell? p = some v := fun {p v} h => by { rw [hb22.cell (World.block_lt_of_cell? w41 p h)]; exact h }; exact ⟨kc s21.1, kc s21.2.1, kc s21.2.2.1, kc s21.2.2.2.1, kc s21.2.2.2.2.1, kc s21.2.2.2.2.2.1, kc s21.2.2.2.2.2.2.1, kc s21.2.2.2.2.2.2.2.1, kc s21.2.2.2.2.2.2.2.2.1, kc s21.2.2.2.2.2.2.2.2.2.1, kc s21.2.2.2.2.2.2.2.2.2.2.1, kc s21.2.2.2.2.2.2.2.2.2.2.2.1, kc s21.2.2.2.2.2.2.2.2.2.2.2.2.1, kc s21.2.2.2.2.2.2.2.2.2.2.2.2.2.1, kc s21.2.2.2.2.2.2.2.2.2.2.2.2.2.2.1, kc s21.2.2.2.2.2.2.2.2.2.2.2.2.2.2.2.1, kc s21.2.2.2.2.2.2.2.2.2.2.2.2.2.2.2.2⟩ })
    | (go_at_call 30; refine (cZero _).mono ?_; rintro e w43 ⟨v23, rfl, R23, hb23⟩; have H23 := bt H22 hb23; have s23 : w43.cell? ⟨gx, 0, none⟩ = some (.bool x1) ∧ w43.cell? ⟨gx, 1, none⟩ = some (.int .u64 VA1) ∧ w43.cell? ⟨gx, 2, none⟩ = some (.int .u64 VL1) ∧ w43.cell? ⟨gx, 3, none⟩ = some (.pointer vp1) ∧ w43.cell? ⟨gy, 0, none⟩ = some (.bool x2) ∧ w43.cell? ⟨gy, 1, none⟩ = some (.int .u64 VA2) ∧ w43.cell? ⟨gy, 2, none⟩ = some (.int .u64 VL2) ∧ w43.cell? ⟨gy, 3, none⟩ = some (.pointer vp2) ∧ w43.cell? ⟨gx + 1, 0, none⟩ = some (.bool x1) ∧ w43.cell? ⟨gx + 1, 1, none⟩ = some (.slice o1 N1 m1) ∧ w43.cell? ⟨gx + 1, 2, none⟩ = some (.slice o2 D1 m2) ∧ w43.cell? ⟨gy + 1, 0, none⟩ = some (.bool x2) ∧ w43.cell? ⟨gy + 1, 1, none⟩ = some (.slice o3 N2 m3) ∧ w43.cell? ⟨gy + 1, 2, none⟩ = some (.slice o4 D2 m4) ∧ w43.cell? ⟨gs, 0, none⟩ = some (.bool false) ∧ w43.cell? ⟨gs, 1, none⟩ = some (.slice o1 N1 m1) ∧ w43.cell? ⟨gs, 2, none⟩ = some (.slice o2 D1 m2) := by { have kc : ∀ {p : Addr} {v : Value}, w42.cell? p = some v → w43.cell? p = some v := fun {p v} h => by { rw [hb23.cell (World.block_lt_of_cell? w42 p h)]; exact h }; exact ⟨kc s22.1, kc s22.2.1, kc s22.2.2.1, kc s22.2.2.2.1, kc s22.2.2.2.2.1, kc s22.2.2.2.2.2.1, kc s22.2.2.2.2.2.2.1, kc s22.2.2.2.2.2.2.2.1, kc s22.2.2.2.2.2.2.2.2.1, kc s22.2.2.2.2.2.2.2.2.2.1, kc s22.2.2.2.2.2.2.2.2.2.2.1, kc s22.2.2.2.2.2.2.2.2.2.2.2.1, kc s22.2.2.2.2.2.2.2.2.2.2.2.2.1, kc s22.2.2.2.2.2.2.2.2.2.2.2.2.2.1, kc s22.2.2.2.2.2.2.2.2.2.2.2.2.2.2.1, kc s22.2.2.2.2.2.2.2.2.2.2.2.2.2.2.2.1, kc s22.2.2.2.2.2.2.2.2.2.2.2.2.2.2.2.2⟩ })
    | (go_at_call 18; refine (is_yes _ _ false 0 1 _ (R22.below hb23) R23 LZ.out.1 LZ.out.2).mono ?_; rintro e w44 ⟨rfl, hb24⟩; have H24 := bt H23 hb24; have s24 : w44.cell? ⟨gx, 0, none⟩ = some (.bool x1) ∧ w44.cell? ⟨gx, 1, none⟩ = some (.int .u64 VA1) ∧ w44.cell? ⟨gx, 2, none⟩ = some (.int .u64 VL1) ∧ w44.cell? ⟨gx, 3, none⟩ = some (.pointer vp1) ∧ w44.cell? ⟨gy, 0, none⟩ = some (.bool x2) ∧ w44.cell? ⟨gy, 1, none⟩ = some (.int .u64 VA2) ∧ w44.cell? ⟨gy, 2, none⟩ = some (.int .u64 VL2) ∧ w44.cell? ⟨gy, 3, none⟩ = some (.pointer vp2) ∧ w44.cell? ⟨gx + 1, 0, none⟩ = some (.bool x1) ∧ w44.cell? ⟨gx + 1, 1, none⟩ = some (.slice o1 N1 m1) ∧ w44.cell? ⟨gx + 1, 2, none⟩ = some (.slice o2 D1 m2) ∧ w44.cell? ⟨gy + 1, 0, none⟩ = some (.bool x2) ∧ w44.cell? ⟨gy + 1, 1, none⟩ = some (.slice o3 N2 m3) ∧ w44.cell? ⟨gy + 1, 2, none⟩ = some (.slice o4 D2 m4) ∧ w44.cell? ⟨gs, 0, none⟩ = some (.bool false) ∧ w44.cell? ⟨gs, 1, none⟩ = some (.slice o1 N1 m1) ∧ w44.cell? ⟨gs, 2, none⟩ = some (.slice o2 D1 m2) := by { have kc : ∀ {p : Addr} {v : Value}, w43.cell? p = some v → w44.cell? p = some v := fun {p v} h => by { rw [hb24.cell (World.block_lt_of_cell? w43 p h)]; exact h }; exact ⟨kc s23.1, kc s23.2.1, kc s23.2.2.1, kc s23.2.2.2.1, kc s23.2.2.2.2.1, kc s23.2.2.2.2.2.1, kc s23.2.2.2.2.2.2.1, kc s23.2.2.2.2.2.2.2.1, kc s23.2.2.2.2.2.2.2.2.1, kc s23.2.2.2.2.2.2.2.2.2.1, kc s23.2.2.2.2.2.2.2.2.2.2.1, kc s23.2.2.2.2.2.2.2.2.2.2.2.1, kc s23.2.2.2.2.2.2.2.2.2.2.2.2.1, kc s23.2.2.2.2.2.2.2.2.2.2.2.2.2.1, kc s23.2.2.2.2.2.2.2.2.2.2.2.2.2.2.1, kc s23.2.2.2.2.2.2.2.2.2.2.2.2.2.2.2.1, kc s23.2.2.2.2.2.2.2.2.2.2.2.2.2.2.2.2⟩ }))
  all_goals go_wp2
  all_goals go_ret
  all_goals exact ⟨rfl, bt HC.out H24⟩
end Go.Proofs.Ytfkaeehbnnhfoaa.SwW
