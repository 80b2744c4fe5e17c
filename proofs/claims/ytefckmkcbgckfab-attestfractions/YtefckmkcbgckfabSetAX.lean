/- Rational numbers, the program's: sums of words and of lists with their signs; Rational numbers, the program's: sums of numbers in words; Rational numbers, the program's: the sum of two numbers in words, where a word holds it; Rational numbers, the program's: the sum; Rational numbers, the program's: each call's answer as a quotient of two whole numbers, in lowest terms or not; Rational numbers, th. -/
import Derived.Shelf.Lay
import Derived.Shelf.LaySoft
import Derived.Shelf.Spec.BitsCarry
import Derived.Test.YtefckmkcbgckfabSetAW
import Derived.Test.YtefckmkcbgckfabSetAG
import Derived.Test.YtefckmkcbgckfabSetAU
import Derived.Test.YtefckmkcbgckfabSetAQ
import Derived.Test.YtefckmkcbgckfabSetAV
/- Rational numbers, the program's: sums of words and of lists with their signs. -/
namespace Go.Proofs
open Go.Shelf
shelf_lay Lays7.n25 Nm7 25 at Try as Try.lays25
theorem Try.bits_Add64 (x y : Int) (hx : 0 ≤ x) (hy : 0 ≤ y) (w : World) : (callFunc 82 #[.int .u64 x, .int .u64 y, .int .u64 0]).run Try.prog w =
    .ok (.value (.tuple #[.int .u64 ((x + y) % 18446744073709551616), .int .u64 ((x + y) / 18446744073709551616)])) w := by
  obtain ⟨x, rfl⟩ := Int.eq_ofNat_of_zero_le hx
  obtain ⟨y, rfl⟩ := Int.eq_ofNat_of_zero_le hy
  refine (Any7.bits_Add64 Try.lays25 x y 0 (by omega) w).trans ?_
  congr 5 <;> omega
end Go.Proofs
namespace Go.Proofs.Ytefckmkcbgckfab.JoinL
open Go.RowKit Mem LimbNum Limb1 Limb2 Limb4 NatL GcdA RatL RatM RatN RatF RatO MulN MulW MulL InvL QNum FloL AddN

set_option maxRecDepth 20000 in
set_option maxHeartbeats 1000000 in
theorem joinWords_any (a b : Bool) (x y : Nat) (w : World) (hx : x < 18446744073709551616) (hy : y < 18446744073709551616) :
    Calls Try.prog 61 #[.bool a, .int .u64 (x : Int), .bool b, .int .u64 (y : Int)] w fun e w' => e = .returned (.tuple #[.bool (sumB a b x y), .int .u64 ((sumV a b x y % 18446744073709551616 : Nat) : Int), .int .u64 ((sumV a b x y / 18446744073709551616 : Nat) : Int)]) ∧ w' = w := by
  by_cases hab : a = b
  · subst hab
    rw [show sumB a a x y = a by simp [sumB], show sumV a a x y = x + y by simp [sumV]]
    have hA := fun (W : World) => Try.bits_Add64 (x : Int) (y : Int) (by omega) (by omega) W
    rw [show (((x + y) % 18446744073709551616 : Nat) : Int) = ((x : Int) + y) % 18446744073709551616 by omega, show (((x + y) / 18446744073709551616 : Nat) : Int) = ((x : Int) + y) / 18446744073709551616 by omega]
    generalize ((x : Int) + y) % 18446744073709551616 = L at *
    generalize ((x : Int) + y) / 18446744073709551616 = H at *
    generalize (x : Int) = X at *
    generalize (y : Int) = Y at *
    clear hx hy
    cases a
    all_goals
      go_enter Try.func61, Try.ntmps61
      go_wp2_with (simp only [hA])
      go_ret3
      exact ⟨rfl, rfl⟩
  · by_cases hle : y ≤ x
    · rw [show sumB a b x y = a by simp [sumB, hab, hle], show sumV a b x y = x - y by simp [sumV, hab, hle]]
      rw [show (((x - y) % 18446744073709551616 : Nat) : Int) = (x : Int) - y by omega, show (((x - y) / 18446744073709551616 : Nat) : Int) = 0 by omega]
      have h1 : (y : Int) ≤ x := by omega
      have h2 : (x : Int) < 18446744073709551616 := by omega
      have h3 : (0 : Int) ≤ y := by omega
      generalize (x : Int) = X at *
      generalize (y : Int) = Y at *
      clear hx hy hle
      cases a <;> cases b <;> (try exact absurd rfl hab) <;> clear hab
      all_goals
        go_enter Try.func61, Try.ntmps61
        go_wp2
        go_ret3
        exact ⟨rfl, rfl⟩
    · rw [show sumB a b x y = b by simp [sumB, hab, hle], show sumV a b x y = y - x by simp [sumV, hab, hle]]
      rw [show (((y - x) % 18446744073709551616 : Nat) : Int) = (y : Int) - x by omega, show (((y - x) / 18446744073709551616 : Nat) : Int) = 0 by omega]
      have h1 : (x : Int) < y := by omega
      have h2 : (y : Int) < 18446744073709551616 := by omega
      have h3 : (0 : Int) ≤ x := by omega
      generalize (x : Int) = X at *
      generalize (y : Int) = Y at *
      clear hx hy hle
      cases a <;> cases b <;> (try exact absurd rfl hab) <;> clear hab
      all_goals
        go_enter Try.func61, Try.ntmps61
        go_wp2
        go_ret3
        exact ⟨rfl, rfl⟩
set_option maxRecDepth 20000 in
set_option maxHeartbeats 1000000 in
theorem join_any (a b : Bool) (x y : Nat) (o1 o2 : Option Addr) (c1 c2 : Nat) (w : World) (h1 : Lies w o1 c1 (ints .u32 (nl x))) (h2 : Lies w o2 c2 (ints .u32 (nl y))) (l1 : (nl x).length ≤ 35184372088832) (l2 : (nl y).length ≤ 35184372088832) :
    Calls Try.prog 29 #[.bool a, .slice o1 (nl x).length c1, .bool b, .slice o2 (nl y).length c2] w fun e w' => ∃ o c, e = .returned (.tuple #[.bool (sumB a b x y), .slice o (nl (sumV a b x y)).length c]) ∧ Lies w' o c (ints .u32 (nl (sumV a b x y))) ∧ Below w.heap.size w w' := by
  have cA := add_nl x y o1 o2 c1 c2 w h1 h2 l1 l2
  have cY := fun (h : y ≤ x) => sub_yes (nl x) (nl y) o1 o2 c1 c2 w h1 h2 (small_nl _) (small_nl _) (by rw [val_nl, val_nl]; exact h) (by omega)
  have cN := fun (h : x < y) => sub_no (nl x) (nl y) o1 o2 c1 c2 w h1 h2 (small_nl _) (small_nl _) (by rw [val_nl, val_nl]; exact h)
  have cT := fun (W : World) (hb : Below w.heap.size w W) (h : x ≤ y) => sub_yes (nl y) (nl x) o2 o1 c2 c1 W (h2.below hb (Nat.le_refl _)) (h1.below hb (Nat.le_refl _)) (small_nl _) (small_nl _) (by rw [val_nl, val_nl]; exact h) (by omega)
  simp only [val_nl] at cY cT
  clear h1 h2 l1 l2
  by_cases hab : a = b
  · subst hab
    rw [show sumB a a x y = a by simp [sumB], show sumV a a x y = x + y by simp [sumV]]
    clear cY cN cT
    generalize x + y = Z at *
    cases a
    all_goals
      go_enter Try.func29, Try.ntmps29
      go_wp2_with (go_at_call 35; refine cA.mono ?_; rintro e w1 ⟨o3, c3, rfl, hl, hb⟩)
      go_ret2
      exact ⟨_, _, rfl, hl, hb⟩
  · by_cases hle : y ≤ x
    · rw [show sumB a b x y = a by simp [sumB, hab, hle], show sumV a b x y = x - y by simp [sumV, hab, hle]]
      have cS := cY hle
      clear cA cY cN cT
      generalize x - y = Z at *
      cases a <;> cases b <;> (try exact absurd rfl hab) <;> clear hab
      all_goals
        go_enter Try.func29, Try.ntmps29
        go_wp2_with (go_at_call 63; refine cS.mono ?_; rintro e w1 ⟨o3, c3, rfl, hown, hb⟩)
        go_ret2
        exact ⟨_, _, rfl, lies_of_owns hown, hb⟩
    · rw [show sumB a b x y = b by simp [sumB, hab, hle], show sumV a b x y = y - x by simp [sumV, hab, hle]]
      have cS := cN (by omega)
      have cS2 := fun (W : World) (hb : Below w.heap.size w W) => cT W hb (by omega)
      have T1 : True := trivial
      clear cA cY cN cT
      generalize y - x = Z at *
      cases a <;> cases b <;> (try exact absurd rfl hab) <;> clear hab
      all_goals
        go_enter Try.func29, Try.ntmps29
        go_wp2_with (first
          | (go_at_call 63; have _t := T1; clear _t T1; refine cS.mono ?_; rintro e w1 ⟨rfl, hb⟩)
          | (go_at_call 63; refine (cS2 _ hb).mono ?_; rintro e w2 ⟨o3, c3, rfl, hown, hb2⟩))
        go_ret2
        exact ⟨_, _, rfl, lies_of_owns hown, bt hb hb2⟩
end Go.Proofs.Ytefckmkcbgckfab.JoinL

/- Rational numbers, the program's: sums of numbers in words. -/
namespace Go.Proofs.Ytefckmkcbgckfab.AddW
open Go.RowKit Mem LimbNum Limb1 Limb2 NatL GcdA RatL RatM RatN RatF RatO MulN MulW MulL InvL QNum RefZ FloL AddN JoinL

set_option maxRecDepth 20000 in
set_option maxHeartbeats 2000000 in
theorem words_over (b1 b2 nB : Bool) (N1 N2 D1 D2 G R S XH XL YH YL V VH : Int) (w : World)
    (cD1 : ∀ W : World, Calls Try.prog 59 #[.agg #[.bool b1, .int .u64 N1, .int .u64 (D1 - 1), .pointer none]] W fun e w' => e = .returned (.int .u64 D1) ∧ Below W.heap.size W w')
    (cD2 : ∀ W : World, Calls Try.prog 59 #[.agg #[.bool b2, .int .u64 N2, .int .u64 (D2 - 1), .pointer none]] W fun e w' => e = .returned (.int .u64 D2) ∧ Below W.heap.size W w')
    (cG : ∀ W : World, Calls Try.prog 58 #[.int .u64 D1, .int .u64 D2] W fun e w' => e = .returned (.int .u64 G) ∧ Below W.heap.size W w')
    (g0 : G ≠ 0) (et1 : D1.tdiv G = R) (u1 : IntKind.u64.wrap R = R) (et2 : D2.tdiv G = S) (u2 : IntKind.u64.wrap S = S)
    (cM1 : ∀ W : World, Calls Try.prog 60 #[.int .u64 N1, .int .u64 S] W fun e w' => e = .returned (.tuple #[.int .u64 XH, .int .u64 XL]) ∧ w' = W)
    (cM2 : ∀ W : World, Calls Try.prog 60 #[.int .u64 N2, .int .u64 R] W fun e w' => e = .returned (.tuple #[.int .u64 YH, .int .u64 YL]) ∧ w' = W)
    (cJ : ∀ W : World, Calls Try.prog 61 #[.bool b1, .int .u64 XL, .bool b2, .int .u64 YL] W fun e w' => e = .returned (.tuple #[.bool nB, .int .u64 V, .int .u64 VH]) ∧ w' = W)
    (hor : (bits BinOp.or IntKind.u64 (bits BinOp.or IntKind.u64 XH YH) VH == 0) = false) :
    Calls Try.prog 26 #[.agg #[.bool b1, .int .u64 N1, .int .u64 (D1 - 1), .pointer none], .agg #[.bool b2, .int .u64 N2, .int .u64 (D2 - 1), .pointer none]] w fun e w' => e = .returned (.tuple #[.agg #[.bool false, .int .u64 0, .int .u64 0, .pointer none], .bool false]) ∧ Below w.heap.size w w' := by
  have hor2 : (bits BinOp.or IntKind.u64 (bits BinOp.or IntKind.u64 XH YH) VH != 0) = true := by rw [bne, hor]; rfl
  have hor3 : ¬ bits BinOp.or IntKind.u64 (bits BinOp.or IntKind.u64 XH YH) VH = 0 := by simpa using hor
  obtain ⟨W0, eW0, hb0, hk0, hk1, hk2⟩ := three_new w (.cells #[.bool b1, .int .u64 N1, .int .u64 (D1 - 1), .pointer none] 28) (.cells #[.bool b2, .int .u64 N2, .int .u64 (D2 - 1), .pointer none] 28) (.cells #[.bool false, .int .u64 0, .int .u64 0, .pointer none] 28)
  have s0 : W0.drew.cell? ⟨w.heap.size, 0, none⟩ = some (.bool b1) ∧ W0.drew.cell? ⟨w.heap.size, 1, none⟩ = some (.int .u64 N1) ∧ W0.drew.cell? ⟨w.heap.size, 2, none⟩ = some (.int .u64 (D1 - 1)) ∧ W0.drew.cell? ⟨w.heap.size, 3, none⟩ = some (.pointer none) ∧ W0.drew.cell? ⟨w.heap.size + 1, 0, none⟩ = some (.bool b2) ∧ W0.drew.cell? ⟨w.heap.size + 1, 1, none⟩ = some (.int .u64 N2) ∧ W0.drew.cell? ⟨w.heap.size + 1, 2, none⟩ = some (.int .u64 (D2 - 1)) ∧ W0.drew.cell? ⟨w.heap.size + 1, 3, none⟩ = some (.pointer none) := by
    obtain ⟨a0, a1, a2, a3⟩ := box0 hk0
    obtain ⟨c0, c1, c2, c3⟩ := box0 hk1
    exact ⟨a0, a1, a2, a3, c0, c1, c2, c3⟩
  have hb0d := hb0.drew
  have D0 : Below W0.heap.size W0 W0.drew := (Below.refl _ _).drew
  have HK2 : Hid (W0.heap[w.heap.size + 1 + 1]? = some (.cells #[.bool false, .int .u64 0, .int .u64 0, .pointer none] 28)) := hk2
  have EW : Hid (_ = W0) := eW0
  clear eW0 hk0 hk1 hk2
  have T1 : True := trivial
  have cM1w : ∀ W : World, Calls Try.prog 60 #[.int .u64 N1, .int .u64 (IntKind.u64.wrap S)] W fun e w' => e = .returned (.tuple #[.int .u64 XH, .int .u64 XL]) ∧ w' = W := by rw [u2]; exact cM1
  go_enter Try.func26, Try.ntmps26
  go_wp2
  rw [EW.out]
  go_region_held3 (fun w' => w'.cell? ⟨w.heap.size, 0, none⟩ = some (.bool b1) ∧ w'.cell? ⟨w.heap.size, 1, none⟩ = some (.int .u64 N1) ∧ w'.cell? ⟨w.heap.size, 2, none⟩ = some (.int .u64 (D1 - 1)) ∧ w'.cell? ⟨w.heap.size, 3, none⟩ = some (.pointer none) ∧ w'.cell? ⟨w.heap.size + 1, 0, none⟩ = some (.bool b2) ∧ w'.cell? ⟨w.heap.size + 1, 1, none⟩ = some (.int .u64 N2) ∧ w'.cell? ⟨w.heap.size + 1, 2, none⟩ = some (.int .u64 (D2 - 1)) ∧ w'.cell? ⟨w.heap.size + 1, 3, none⟩ = some (.pointer none)) (first | with_reducible exact s0 | with_reducible exact s1 | with_reducible exact s2 | with_reducible exact s3) (first
    | (go_at_call 59; have _t := T1; clear _t T1; refine (cD1 _).mono ?_; rintro e w1 ⟨rfl, hb1⟩; have s1 := eight_kept hb1 s0)
    | (go_at_call 59; refine (cD2 _).mono ?_; rintro e w2 ⟨rfl, hb2⟩; have s2 := eight_kept hb2 s1)
    | (go_at_call 58; refine (cG _).mono ?_; rintro e w3 ⟨rfl, hb3⟩; have s3 := eight_kept hb3 s2))
  have E3 : Below W0.heap.size W0 w3 := bt D0 (bt hb1 (bt hb2 hb3))
  obtain ⟨v0, v1, v2, v3, v4, v5, v6, v7⟩ := id s3
  clear s0 s1 s2 hb1 hb2 hb3 D0 hb0d
  all_goals go_wp2_with (go_at_call 59; refine (cD1 _).mono ?_; rintro e w4 ⟨rfl, hb4⟩)
  have s4 := eight_kept hb4 s3
  have E4 := bt E3 hb4
  have s5 : w4.drew.cell? ⟨w.heap.size, 0, none⟩ = some (.bool b1) ∧ w4.drew.cell? ⟨w.heap.size, 1, none⟩ = some (.int .u64 N1) ∧ w4.drew.cell? ⟨w.heap.size, 2, none⟩ = some (.int .u64 (D1 - 1)) ∧ w4.drew.cell? ⟨w.heap.size, 3, none⟩ = some (.pointer none) ∧ w4.drew.cell? ⟨w.heap.size + 1, 0, none⟩ = some (.bool b2) ∧ w4.drew.cell? ⟨w.heap.size + 1, 1, none⟩ = some (.int .u64 N2) ∧ w4.drew.cell? ⟨w.heap.size + 1, 2, none⟩ = some (.int .u64 (D2 - 1)) ∧ w4.drew.cell? ⟨w.heap.size + 1, 3, none⟩ = some (.pointer none) := s4
  clear s3 v0 v1 v2 v3 v4 v5 v6 v7 hb4 E3
  go_region_held3 (fun w' => w'.cell? ⟨w.heap.size, 0, none⟩ = some (.bool b1) ∧ w'.cell? ⟨w.heap.size, 1, none⟩ = some (.int .u64 N1) ∧ w'.cell? ⟨w.heap.size, 2, none⟩ = some (.int .u64 (D1 - 1)) ∧ w'.cell? ⟨w.heap.size, 3, none⟩ = some (.pointer none) ∧ w'.cell? ⟨w.heap.size + 1, 0, none⟩ = some (.bool b2) ∧ w'.cell? ⟨w.heap.size + 1, 1, none⟩ = some (.int .u64 N2) ∧ w'.cell? ⟨w.heap.size + 1, 2, none⟩ = some (.int .u64 (D2 - 1)) ∧ w'.cell? ⟨w.heap.size + 1, 3, none⟩ = some (.pointer none)) (first | with_reducible exact s5 | with_reducible exact s6) (first
    | (go_at_call 59; refine (cD2 _).mono ?_; rintro e w6 ⟨rfl, hb6⟩; have s6 := eight_kept hb6 s5)
    | (go_at_call 60; (first | with_reducible refine (cM1 _).mono ?_ | with_reducible refine (cM1w _).mono ?_); rintro e w7 ⟨rfl, hw⟩; have hw2 := hw.symm; clear hw; subst hw2))
  have E6 := bt E4.drew hb6
  obtain ⟨v0, v1, v2, v3, v4, v5, v6, v7⟩ := id s6
  have HE6 : Hid (Below w.heap.size w w6) := bt hb0 E6
  have HK6 : Hid (w6.heap[w.heap.size + 1 + 1]? = some (.cells #[.bool false, .int .u64 0, .int .u64 0, .pointer none] 28)) := box_kept HK2.out E6 (in_heap HK2.out)
  clear s4 s5 s6 hb6 E4 hb0 cM1w E6
  have kr := HK6.out
  obtain ⟨d0, d1, d2, d3⟩ := box0 kr
  have ff := boxF kr
  clear kr
  all_goals go_wp2_with (first
    | (go_at_call 60; refine (cM2 _).mono ?_; rintro e w8 ⟨rfl, hw⟩; have hw2 := hw.symm; clear hw; subst hw2)
    | (go_at_call 61; refine (cJ _).mono ?_; rintro e w9 ⟨rfl, hw⟩; have hw2 := hw.symm; clear hw; subst hw2))
  have k2 := box_set HK6.out (.bool false) (.int .u64 0) (.int .u64 0) (.pointer none)
  have hB := box_below HE6.out (show w.heap.size ≤ w.heap.size + 1 + 1 by omega) (.bool false) (.int .u64 0) (.int .u64 0) (.pointer none)
  generalize World.setCell _ _ _ = W' at *
  obtain ⟨y0, y1, y2, y3⟩ := box0 k2
  refine bodyPost_ret (v := .tuple #[.agg #[.bool false, .int .u64 0, .int .u64 0, .pointer none], .bool false]) ?_ rfl ?_
  · simp [results, go_sem, y0, y1, y2, y3]
  · exact ⟨rfl, hB⟩
set_option maxRecDepth 20000 in
set_option maxHeartbeats 2000000 in
theorem words_fit (b1 b2 nB : Bool) (N1 N2 D1 D2 G R S XH XL YH YL V VH H T Q DH DL : Int) (P : Bool → Int → Prop) (w : World)
    (cD1 : ∀ W : World, Calls Try.prog 59 #[.agg #[.bool b1, .int .u64 N1, .int .u64 (D1 - 1), .pointer none]] W fun e w' => e = .returned (.int .u64 D1) ∧ Below W.heap.size W w')
    (cD2 : ∀ W : World, Calls Try.prog 59 #[.agg #[.bool b2, .int .u64 N2, .int .u64 (D2 - 1), .pointer none]] W fun e w' => e = .returned (.int .u64 D2) ∧ Below W.heap.size W w')
    (cG : ∀ W : World, Calls Try.prog 58 #[.int .u64 D1, .int .u64 D2] W fun e w' => e = .returned (.int .u64 G) ∧ Below W.heap.size W w')
    (g0 : G ≠ 0) (et1 : D1.tdiv G = R) (u1 : IntKind.u64.wrap R = R) (et2 : D2.tdiv G = S) (u2 : IntKind.u64.wrap S = S)
    (cM1 : ∀ W : World, Calls Try.prog 60 #[.int .u64 N1, .int .u64 S] W fun e w' => e = .returned (.tuple #[.int .u64 XH, .int .u64 XL]) ∧ w' = W)
    (cM2 : ∀ W : World, Calls Try.prog 60 #[.int .u64 N2, .int .u64 R] W fun e w' => e = .returned (.tuple #[.int .u64 YH, .int .u64 YL]) ∧ w' = W)
    (cJ : ∀ W : World, Calls Try.prog 61 #[.bool b1, .int .u64 XL, .bool b2, .int .u64 YL] W fun e w' => e = .returned (.tuple #[.bool nB, .int .u64 V, .int .u64 VH]) ∧ w' = W)
    (hor : (bits BinOp.or IntKind.u64 (bits BinOp.or IntKind.u64 XH YH) VH == 0) = true)
    (cH : ∀ W : World, Calls Try.prog 58 #[.int .u64 V, .int .u64 G] W fun e w' => e = .returned (.int .u64 H) ∧ Below W.heap.size W w')
    (h0 : H ≠ 0) (et3 : D2.tdiv H = T) (u3 : IntKind.u64.wrap T = T) (et4 : V.tdiv H = Q) (u4 : IntKind.u64.wrap Q = Q)
    (cM3 : ∀ W : World, Calls Try.prog 60 #[.int .u64 R, .int .u64 T] W fun e w' => e = .returned (.tuple #[.int .u64 DH, .int .u64 DL]) ∧ w' = W)
    (cS : ∀ W : World, Calls Try.prog 62 #[.bool nB, .int .u64 Q, .int .u64 DL] W fun e w' => (∃ x z, e = .returned (.agg #[.bool x, .int .u64 Q, .int .u64 z, .pointer none]) ∧ P x z) ∧ Below W.heap.size W w') :
    Calls Try.prog 26 #[.agg #[.bool b1, .int .u64 N1, .int .u64 (D1 - 1), .pointer none], .agg #[.bool b2, .int .u64 N2, .int .u64 (D2 - 1), .pointer none]] w fun e w' => (∃ x z, e = .returned (.tuple #[.agg #[.bool x, .int .u64 Q, .int .u64 z, .pointer none], .bool (DH == 0)]) ∧ P x z) ∧ Below w.heap.size w w' := by
  have hor3 : bits BinOp.or IntKind.u64 (bits BinOp.or IntKind.u64 XH YH) VH = 0 := by simpa using hor
  obtain ⟨W0, eW0, hb0, hk0, hk1, hk2⟩ := three_new w (.cells #[.bool b1, .int .u64 N1, .int .u64 (D1 - 1), .pointer none] 28) (.cells #[.bool b2, .int .u64 N2, .int .u64 (D2 - 1), .pointer none] 28) (.cells #[.bool false, .int .u64 0, .int .u64 0, .pointer none] 28)
  have s0 : W0.drew.cell? ⟨w.heap.size, 0, none⟩ = some (.bool b1) ∧ W0.drew.cell? ⟨w.heap.size, 1, none⟩ = some (.int .u64 N1) ∧ W0.drew.cell? ⟨w.heap.size, 2, none⟩ = some (.int .u64 (D1 - 1)) ∧ W0.drew.cell? ⟨w.heap.size, 3, none⟩ = some (.pointer none) ∧ W0.drew.cell? ⟨w.heap.size + 1, 0, none⟩ = some (.bool b2) ∧ W0.drew.cell? ⟨w.heap.size + 1, 1, none⟩ = some (.int .u64 N2) ∧ W0.drew.cell? ⟨w.heap.size + 1, 2, none⟩ = some (.int .u64 (D2 - 1)) ∧ W0.drew.cell? ⟨w.heap.size + 1, 3, none⟩ = some (.pointer none) := by
    obtain ⟨a0, a1, a2, a3⟩ := box0 hk0
    obtain ⟨c0, c1, c2, c3⟩ := box0 hk1
    exact ⟨a0, a1, a2, a3, c0, c1, c2, c3⟩
  have hb0d := hb0.drew
  have D0 : Below W0.heap.size W0 W0.drew := (Below.refl _ _).drew
  have HK2 : Hid (W0.heap[w.heap.size + 1 + 1]? = some (.cells #[.bool false, .int .u64 0, .int .u64 0, .pointer none] 28)) := hk2
  have EW : Hid (_ = W0) := eW0
  clear eW0 hk0 hk1 hk2
  have T1 : True := trivial
  have cM1w : ∀ W : World, Calls Try.prog 60 #[.int .u64 N1, .int .u64 (IntKind.u64.wrap S)] W fun e w' => e = .returned (.tuple #[.int .u64 XH, .int .u64 XL]) ∧ w' = W := by rw [u2]; exact cM1
  go_enter Try.func26, Try.ntmps26
  go_wp2
  rw [EW.out]
  go_region_held3 (fun w' => w'.cell? ⟨w.heap.size, 0, none⟩ = some (.bool b1) ∧ w'.cell? ⟨w.heap.size, 1, none⟩ = some (.int .u64 N1) ∧ w'.cell? ⟨w.heap.size, 2, none⟩ = some (.int .u64 (D1 - 1)) ∧ w'.cell? ⟨w.heap.size, 3, none⟩ = some (.pointer none) ∧ w'.cell? ⟨w.heap.size + 1, 0, none⟩ = some (.bool b2) ∧ w'.cell? ⟨w.heap.size + 1, 1, none⟩ = some (.int .u64 N2) ∧ w'.cell? ⟨w.heap.size + 1, 2, none⟩ = some (.int .u64 (D2 - 1)) ∧ w'.cell? ⟨w.heap.size + 1, 3, none⟩ = some (.pointer none)) (first | with_reducible exact s0 | with_reducible exact s1 | with_reducible exact s2 | with_reducible exact s3) (first
    | (go_at_call 59; have _t := T1; clear _t T1; refine (cD1 _).mono ?_; rintro e w1 ⟨rfl, hb1⟩; have s1 := eight_kept hb1 s0)
    | (go_at_call 59; refine (cD2 _).mono ?_; rintro e w2 ⟨rfl, hb2⟩; have s2 := eight_kept hb2 s1)
    | (go_at_call 58; refine (cG _).mono ?_; rintro e w3 ⟨rfl, hb3⟩; have s3 := eight_kept hb3 s2))
  have E3 : Below W0.heap.size W0 w3 := bt D0 (bt hb1 (bt hb2 hb3))
  obtain ⟨v0, v1, v2, v3, v4, v5, v6, v7⟩ := id s3
  clear s0 s1 s2 hb1 hb2 hb3 D0 hb0d
  all_goals go_wp2_with (go_at_call 59; refine (cD1 _).mono ?_; rintro e w4 ⟨rfl, hb4⟩)
  have s4 := eight_kept hb4 s3
  have E4 := bt E3 hb4
  have s5 : w4.drew.cell? ⟨w.heap.size, 0, none⟩ = some (.bool b1) ∧ w4.drew.cell? ⟨w.heap.size, 1, none⟩ = some (.int .u64 N1) ∧ w4.drew.cell? ⟨w.heap.size, 2, none⟩ = some (.int .u64 (D1 - 1)) ∧ w4.drew.cell? ⟨w.heap.size, 3, none⟩ = some (.pointer none) ∧ w4.drew.cell? ⟨w.heap.size + 1, 0, none⟩ = some (.bool b2) ∧ w4.drew.cell? ⟨w.heap.size + 1, 1, none⟩ = some (.int .u64 N2) ∧ w4.drew.cell? ⟨w.heap.size + 1, 2, none⟩ = some (.int .u64 (D2 - 1)) ∧ w4.drew.cell? ⟨w.heap.size + 1, 3, none⟩ = some (.pointer none) := s4
  clear s3 v0 v1 v2 v3 v4 v5 v6 v7 hb4 E3
  go_region_held3 (fun w' => w'.cell? ⟨w.heap.size, 0, none⟩ = some (.bool b1) ∧ w'.cell? ⟨w.heap.size, 1, none⟩ = some (.int .u64 N1) ∧ w'.cell? ⟨w.heap.size, 2, none⟩ = some (.int .u64 (D1 - 1)) ∧ w'.cell? ⟨w.heap.size, 3, none⟩ = some (.pointer none) ∧ w'.cell? ⟨w.heap.size + 1, 0, none⟩ = some (.bool b2) ∧ w'.cell? ⟨w.heap.size + 1, 1, none⟩ = some (.int .u64 N2) ∧ w'.cell? ⟨w.heap.size + 1, 2, none⟩ = some (.int .u64 (D2 - 1)) ∧ w'.cell? ⟨w.heap.size + 1, 3, none⟩ = some (.pointer none)) (first | with_reducible exact s5 | with_reducible exact s6) (first
    | (go_at_call 59; refine (cD2 _).mono ?_; rintro e w6 ⟨rfl, hb6⟩; have s6 := eight_kept hb6 s5)
    | (go_at_call 60; (first | with_reducible refine (cM1 _).mono ?_ | with_reducible refine (cM1w _).mono ?_); rintro e w7 ⟨rfl, hw⟩; have hw2 := hw.symm; clear hw; subst hw2))
  have E6 := bt E4.drew hb6
  obtain ⟨v0, v1, v2, v3, v4, v5, v6, v7⟩ := id s6
  have HE6 : Hid (Below w.heap.size w w6) := bt hb0 E6
  have HK6 : Hid (w6.heap[w.heap.size + 1 + 1]? = some (.cells #[.bool false, .int .u64 0, .int .u64 0, .pointer none] 28)) := box_kept HK2.out E6 (in_heap HK2.out)
  clear s4 s5 s6 hb6 E4 hb0 cM1w E6
  all_goals go_wp2_with (first
    | (go_at_call_of 60 (Value.int IntKind.u64 N2); refine (cM2 _).mono ?_; rintro e w8 ⟨rfl, hw⟩; have hw2 := hw.symm; clear hw; subst hw2)
    | (go_at_call 61; refine (cJ _).mono ?_; rintro e w9 ⟨rfl, hw⟩; have hw2 := hw.symm; clear hw; subst hw2)
    | (go_at_call 58; refine (cH _).mono ?_; rintro e w10 ⟨rfl, hb10⟩; obtain ⟨t0, t1, t2, t3, t4, t5, t6, t7⟩ := eight_kept hb10 ⟨v0, v1, v2, v3, v4, v5, v6, v7⟩)
    | (go_at_call 59; refine (cD2 _).mono ?_; rintro e w11 ⟨rfl, hb11⟩)
    | (go_at_call 60; refine (cM3 _).mono ?_; rintro e w12 ⟨rfl, hw⟩; have hw2 := hw.symm; clear hw; subst hw2)
    | (go_at_call 62; refine (cS _).mono ?_; rintro e w13 ⟨⟨x, z, rfl, hP⟩, hb13⟩; have HP : Hid (P x z) := hP; clear hP; have E13 := bt hb10 (bt hb11 hb13); have kr := box_kept HK6.out E13 (in_heap HK6.out); obtain ⟨d0, d1, d2, d3⟩ := box0 kr; have ff := boxF kr; have HKR : Hid (w13.heap[w.heap.size + 1 + 1]? = some (.cells #[.bool false, .int .u64 0, .int .u64 0, .pointer none] 28)) := kr; clear kr))
  have k2 := box_set HKR.out (.bool x) (.int .u64 Q) (.int .u64 z) (.pointer none)
  have hB := box_below (bt HE6.out E13) (show w.heap.size ≤ w.heap.size + 1 + 1 by omega) (.bool x) (.int .u64 Q) (.int .u64 z) (.pointer none)
  generalize World.setCell _ _ _ = W' at *
  obtain ⟨y0, y1, y2, y3⟩ := box0 k2
  refine bodyPost_ret (v := .tuple #[.agg #[.bool x, .int .u64 Q, .int .u64 z, .pointer none], .bool (DH == 0)]) ?_ rfl ?_
  · simp [results, go_sem, y0, y1, y2, y3]
  · exact ⟨⟨x, z, rfl, HP.out⟩, hB⟩
end Go.Proofs.Ytefckmkcbgckfab.AddW

/- Rational numbers, the program's: the sum of two numbers in words, where a word holds it. -/
namespace Go.Proofs.Ytefckmkcbgckfab.AddV
open Go.RowKit Mem LimbNum Limb1 Limb2 NatNum NatL GcdA RatL RatM RatN RatF RatO MulN MulW MulL InvL QNum RefZ FloL AddN JoinL AddW

theorem or3 (a b c : Nat) (ha : a < 18446744073709551616) (hb : b < 18446744073709551616) (hc : c < 18446744073709551616) :
    (bits BinOp.or IntKind.u64 (bits BinOp.or IntKind.u64 (a : Int) (b : Int)) (c : Int) == 0) = decide (a = 0 ∧ b = 0 ∧ c = 0) := by
  have e := or_zero a b ha hb
  rw [u64_or_nat a b ha hb] at e ⊢
  have hl : a ||| b < 18446744073709551616 := Nat.or_lt_two_pow (n := 64) ha hb
  rw [or_zero (a ||| b) c hl hc]
  have e2 : decide ((a ||| b) = 0) = (decide (a = 0) && decide (b = 0)) := by
    rw [← e, Bool.eq_iff_iff]; simp
  rw [e2, Bool.eq_iff_iff]
  simp only [Bool.and_eq_true, decide_eq_true_iff]
  omega
theorem addWords_any (b1 b2 : Bool) (n1 d1 n2 d2 : Nat) (w : World) (q1 : n1 < 18446744073709551616) (q2 : d1 < 18446744073709551616) (q3 : n2 < 18446744073709551616) (q4 : d2 < 18446744073709551616) (h1 : Nat.gcd n1 d1 = 1) (h2 : Nat.gcd n2 d2 = 1) (p1 : 1 ≤ d1) (p2 : 1 ≤ d2) :
    Calls Try.prog 26 #[.agg #[.bool b1, .int .u64 (n1 : Int), .int .u64 ((d1 : Int) - 1), .pointer none], .agg #[.bool b2, .int .u64 (n2 : Int), .int .u64 ((d2 : Int) - 1), .pointer none]] w fun e w' =>
      (∃ x A z ok, e = .returned (.tuple #[.agg #[.bool x, .int .u64 A, .int .u64 z, .pointer none], .bool ok]) ∧
        (ok = true → x = addB b1 n1 d1 b2 n2 d2 ∧ A = ((addN b1 n1 d1 b2 n2 d2 : Nat) : Int) ∧ z = ((addD b1 n1 d1 b2 n2 d2 : Nat) : Int) - 1 ∧ addN b1 n1 d1 b2 n2 d2 < 18446744073709551616 ∧ addD b1 n1 d1 b2 n2 d2 < 18446744073709551616)) ∧ Below w.heap.size w w' := by
  obtain ⟨eN, eD, eB, pD, _⟩ := sum_low b1 b2 h1 h2 p1 p2
  have g0 : 0 < Nat.gcd d1 d2 := Nat.gcd_pos_of_pos_right _ p2
  have gl : Nat.gcd d1 d2 ≤ d1 := Nat.gcd_le_left _ p1
  have eAB : addB b1 n1 d1 b2 n2 d2 = (sumB b1 b2 (n1 * d2) (n2 * d1) && decide (addN b1 n1 d1 b2 n2 d2 ≠ 0)) := rfl
  rw [eAB, eB]
  clear eAB eB
  have r1 := Nat.div_le_self d1 (Nat.gcd d1 d2)
  have r2 := Nat.div_le_self d2 (Nat.gcd d1 d2)
  have et1 := tdiv_nat d1 (Nat.gcd d1 d2)
  have et2 := tdiv_nat d2 (Nat.gcd d1 d2)
  have cG := fun (W : World) => common_any d1 d2 W q2 q4
  have cD1 := fun (W : World) => den_any b1 (n1 : Int) (d1 : Int) none W (by omega) (by omega)
  have cD2 := fun (W : World) => den_any b2 (n2 : Int) (d2 : Int) none W (by omega) (by omega)
  generalize hN : addN b1 n1 d1 b2 n2 d2 = N at *
  generalize hD : addD b1 n1 d1 b2 n2 d2 = D at *
  generalize Nat.gcd d1 d2 = g at *
  generalize d1 / g = r at *
  generalize d2 / g = s at *
  have u1 : IntKind.u64.wrap (r : Int) = r := by rw [IntKind.wrap_u64]; omega
  have u2 : IntKind.u64.wrap (s : Int) = s := by rw [IntKind.wrap_u64]; omega
  have cM1 := fun (W : World) => Try.bits_Mul64 n1 s q1 (by omega) W
  have cM2 := fun (W : World) => Try.bits_Mul64 n2 r q3 (by omega) W
  have lX : n1 * s < 18446744073709551616 * 18446744073709551616 := Nat.mul_lt_mul'' q1 (by omega)
  have lY : n2 * r < 18446744073709551616 * 18446744073709551616 := Nat.mul_lt_mul'' q3 (by omega)
  generalize n1 * s = X at *
  generalize n2 * r = Y at *
  have cJ := fun (W : World) => joinWords_any b1 b2 (X % 18446744073709551616) (Y % 18446744073709551616) W (by omega) (by omega)
  have lV : sumV b1 b2 (X % 18446744073709551616) (Y % 18446744073709551616) ≤ X % 18446744073709551616 + Y % 18446744073709551616 := sumV_le _ _ _ _
  have ho := or3 (X / 18446744073709551616) (Y / 18446744073709551616) (sumV b1 b2 (X % 18446744073709551616) (Y % 18446744073709551616) / 18446744073709551616) (by omega) (by omega) (by omega)
  by_cases hz : X / 18446744073709551616 = 0 ∧ Y / 18446744073709551616 = 0 ∧ sumV b1 b2 (X % 18446744073709551616) (Y % 18446744073709551616) / 18446744073709551616 = 0
  · rw [decide_eq_true hz] at ho
    obtain ⟨z1, z2, z3⟩ := hz
    have x1 : X % 18446744073709551616 = X := by omega
    have x2 : Y % 18446744073709551616 = Y := by omega
    rw [x1, x2] at z3 lV ho
    simp only [x1, x2] at cJ cM1 cM2
    have x3 : sumV b1 b2 X Y % 18446744073709551616 = sumV b1 b2 X Y := by omega
    simp only [x3] at cJ
    have lV2 : sumV b1 b2 X Y < 18446744073709551616 := by omega
    generalize sumV b1 b2 X Y = V at *
    generalize sumB b1 b2 X Y = nB at *
    have cH := fun (W : World) => common_any V g W lV2 (by omega)
    have h0 : 0 < Nat.gcd V g := Nat.gcd_pos_of_pos_right _ g0
    have hl : Nat.gcd V g ≤ g := Nat.gcd_le_right _ g0
    have et3 := tdiv_nat d2 (Nat.gcd V g)
    have et4 := tdiv_nat V (Nat.gcd V g)
    have r3 := Nat.div_le_self d2 (Nat.gcd V g)
    have r4 := Nat.div_le_self V (Nat.gcd V g)
    generalize Nat.gcd V g = h at *
    generalize d2 / h = T at *
    generalize V / h = Q at *
    have u3 : IntKind.u64.wrap (T : Int) = T := by rw [IntKind.wrap_u64]; omega
    have u4 : IntKind.u64.wrap (Q : Int) = Q := by rw [IntKind.wrap_u64]; omega
    have cM3 := fun (W : World) => Try.bits_Mul64 r T (by omega) (by omega) W
    have cS := fun (W : World) => short_wild nB Q (r * T % 18446744073709551616) W (by omega)
    have := words_fit b1 b2 nB (n1 : Int) (n2 : Int) (d1 : Int) (d2 : Int) (g : Int) (r : Int) (s : Int) _ _ _ _ (V : Int) _ (h : Int) (T : Int) (Q : Int) _ _ (fun x z => 1 ≤ r * T % 18446744073709551616 → x = (nB && decide (Q ≠ 0)) ∧ z = ((r * T % 18446744073709551616 : Nat) : Int) - 1) w
      cD1 cD2 cG (by omega) et1 u1 et2 u2 cM1 cM2 cJ ho cH (by omega) et3 u3 et4 u4 cM3 cS
    refine this.mono ?_
    rintro e w' ⟨⟨x, z, rfl, hP⟩, hb⟩
    refine ⟨⟨x, Q, z, _, rfl, fun hok => ?_⟩, hb⟩
    have hk : r * T / 18446744073709551616 = 0 := by
      have : ((r * T / 18446744073709551616 : Nat) : Int) = 0 := by simpa using hok
      omega
    have hm : r * T % 18446744073709551616 = r * T := by omega
    rw [hm] at hP
    obtain ⟨e1, e2⟩ := hP (by omega)
    subst eN eD
    exact ⟨e1, rfl, e2, by omega, by omega⟩
  · rw [decide_eq_false hz] at ho
    have := words_over b1 b2 _ (n1 : Int) (n2 : Int) (d1 : Int) (d2 : Int) (g : Int) (r : Int) (s : Int) _ _ _ _ _ _ w cD1 cD2 cG (by omega) et1 u1 et2 u2 cM1 cM2 cJ ho
    refine this.mono ?_
    rintro e w' ⟨rfl, hb⟩
    exact ⟨⟨_, _, _, _, rfl, fun h => by simp at h⟩, hb⟩
end Go.Proofs.Ytefckmkcbgckfab.AddV

/- Rational numbers, the program's: the sum. -/
namespace Go.Proofs.Ytefckmkcbgckfab.AddR
open Go.RowKit Mem LimbNum Limb1 NatL GcdA RatL RatM RatN RatF MulN MulW MulL QNum RefZ FloL AddN JoinL AddW AddV

theorem nl_mul (x y k l : Nat) (hx : (nl x).length ≤ k) (hy : (nl y).length ≤ l) : (nl (x * y)).length ≤ k + l := by
  apply nl_lt
  have h1 := val_lt (nl x) (small_nl x)
  have h2 := val_lt (nl y) (small_nl y)
  rw [val_nl] at h1 h2
  rw [Nat.pow_add]
  exact Nat.mul_lt_mul'' (Nat.lt_of_lt_of_le h1 (Nat.pow_le_pow_right (by omega) hx)) (Nat.lt_of_lt_of_le h2 (Nat.pow_le_pow_right (by omega) hy))
theorem nl_sum (a b : Bool) (x y k : Nat) (hx : (nl x).length ≤ k) (hy : (nl y).length ≤ k) : (nl (sumV a b x y)).length ≤ k + 1 := by
  refine Nat.le_trans (nl_mono _ _ (sumV_le a b x y)) ?_
  apply nl_lt
  have h1 := val_lt (nl x) (small_nl x)
  have h2 := val_lt (nl y) (small_nl y)
  rw [val_nl] at h1 h2
  have e1 := Nat.lt_of_lt_of_le h1 (Nat.pow_le_pow_right (show 0 < 4294967296 by omega) hx)
  have e2 := Nat.lt_of_lt_of_le h2 (Nat.pow_le_pow_right (show 0 < 4294967296 by omega) hy)
  rw [Nat.pow_succ]; omega
set_option maxRecDepth 20000 in
set_option maxHeartbeats 4000000 in
theorem radd (v1 v2 : Value) (b1 b2 : Bool) (n1 d1 n2 d2 : Nat) (w : World) (h1 : IsRat w v1 b1 n1 d1) (h2 : IsRat w v2 b2 n2 d2) (l1 : (nl n1).length ≤ 1000000) (l2 : (nl d1).length ≤ 1000000) (l3 : (nl n2).length ≤ 1000000) (l4 : (nl d2).length ≤ 1000000) :
    Calls Try.prog 7 #[v1, v2] w fun e w' => ∃ v', e = .returned v' ∧ IsRat w' v' (addB b1 n1 d1 b2 n2 d2) (addN b1 n1 d1 b2 n2 d2) (addD b1 n1 d1 b2 n2 d2) ∧ Below w.heap.size w w' := by
  obtain ⟨eN, eD, eB, pD, cG1⟩ := sum_low b1 b2 h1.1.one h2.1.one h1.1.pos h2.1.pos
  have pd1 := h1.1.pos
  have pd2 := h2.1.pos
  have o1' := h1.1.one
  have o2' := h2.1.one
  have eAB : addB b1 n1 d1 b2 n2 d2 = (sumB b1 b2 (n1 * d2) (n2 * d1) && decide (addN b1 n1 d1 b2 n2 d2 ≠ 0)) := rfl
  have g0 : 0 < Nat.gcd d1 d2 := Nat.gcd_pos_of_pos_right _ pd2
  have lg : (nl (Nat.gcd d1 d2)).length ≤ 1000000 := Nat.le_trans (nl_mono _ _ (Nat.gcd_le_left _ pd1)) l2
  have lr : (nl (d1 / Nat.gcd d1 d2)).length ≤ 1000000 := Nat.le_trans (nl_mono _ _ (Nat.div_le_self _ _)) l2
  have ls : (nl (d2 / Nat.gcd d1 d2)).length ≤ 1000000 := Nat.le_trans (nl_mono _ _ (Nat.div_le_self _ _)) l4
  have cG := fun (W : World) (o o' : Option Addr) (c c' : Nat) (h : Lies W o c (ints .u32 (nl d1))) (h' : Lies W o' c' (ints .u32 (nl d2))) => gcd_nl d1 d2 o o' c c' W h h' (by omega) (by omega)
  have cR := fun (W : World) (o o' : Option Addr) (c c' : Nat) (h : Lies W o c (ints .u32 (nl d1))) (h' : Lies W o' c' (ints .u32 (nl (Nat.gcd d1 d2)))) => part_nl d1 _ o o' c c' W h h' (by omega) (by omega) (by omega)
  have cT := fun (W : World) (o o' : Option Addr) (c c' : Nat) (h : Lies W o c (ints .u32 (nl d2))) (h' : Lies W o' c' (ints .u32 (nl (Nat.gcd d1 d2)))) => part_nl d2 _ o o' c c' W h h' (by omega) (by omega) (by omega)
  have cW := fun (W : World) (q1 : n1 < 18446744073709551616) (q2 : d1 < 18446744073709551616) (q3 : n2 < 18446744073709551616) (q4 : d2 < 18446744073709551616) => addWords_any b1 b2 n1 d1 n2 d2 W q1 q2 q3 q4 o1' o2' pd1 pd2
  rw [eAB, eB] at cW ⊢
  generalize hs : d2 / Nat.gcd d1 d2 = s at *
  generalize hr : d1 / Nat.gcd d1 d2 = r at *
  generalize hg : Nat.gcd d1 d2 = g at *
  have cX := fun (W : World) (o o' : Option Addr) (c c' : Nat) (h : Lies W o c (ints .u32 (nl n1))) (h' : Lies W o' c' (ints .u32 (nl s))) => mul_nl n1 s o o' c c' W h h' (by omega) (by omega)
  have cY := fun (W : World) (o o' : Option Addr) (c c' : Nat) (h : Lies W o c (ints .u32 (nl n2))) (h' : Lies W o' c' (ints .u32 (nl r))) => mul_nl n2 r o o' c c' W h h' (by omega) (by omega)
  have lX : (nl (n1 * s)).length ≤ 2000000 := nl_mul n1 s _ _ l1 ls
  have lY : (nl (n2 * r)).length ≤ 2000000 := nl_mul n2 r _ _ l3 lr
  generalize hX : n1 * s = X at *
  generalize hY : n2 * r = Y at *
  have cJ := fun (W : World) (o o' : Option Addr) (c c' : Nat) (h : Lies W o c (ints .u32 (nl X))) (h' : Lies W o' c' (ints .u32 (nl Y))) => join_any b1 b2 X Y o o' c c' W h h' (by omega) (by omega)
  have lV : (nl (sumV b1 b2 X Y)).length ≤ 2000001 := nl_sum b1 b2 X Y _ lX lY
  generalize hV : sumV b1 b2 X Y = V at *
  generalize hnB : sumB b1 b2 X Y = nB at *
  have cH := fun (W : World) (o o' : Option Addr) (c c' : Nat) (h : Lies W o c (ints .u32 (nl V))) (h' : Lies W o' c' (ints .u32 (nl g))) => gcd_nl V g o o' c c' W h h' (by omega) (by omega)
  have h0 : 0 < Nat.gcd V g := Nat.gcd_pos_of_pos_right _ g0
  have lh : (nl (Nat.gcd V g)).length ≤ 1000000 := Nat.le_trans (nl_mono _ _ (Nat.gcd_le_right _ g0)) lg
  have cQ := fun (W : World) (o o' : Option Addr) (c c' : Nat) (h : Lies W o c (ints .u32 (nl V))) (h' : Lies W o' c' (ints .u32 (nl (Nat.gcd V g)))) => part_nl V _ o o' c c' W h h' (by omega) (by omega) (by omega)
  have cU := fun (W : World) (o o' : Option Addr) (c c' : Nat) (h : Lies W o c (ints .u32 (nl d2))) (h' : Lies W o' c' (ints .u32 (nl (Nat.gcd V g)))) => part_nl d2 _ o o' c c' W h h' (by omega) (by omega) (by omega)
  have lT : (nl (d2 / Nat.gcd V g)).length ≤ 1000000 := Nat.le_trans (nl_mono _ _ (Nat.div_le_self _ _)) l4
  have cM := fun (W : World) (o o' : Option Addr) (c c' : Nat) (h : Lies W o c (ints .u32 (nl r))) (h' : Lies W o' c' (ints .u32 (nl (d2 / Nat.gcd V g)))) => mul_nl r _ o o' c c' W h h' (by omega) (by omega)
  rw [← eD] at cM
  rw [← eN] at cQ
  generalize hN : addN b1 n1 d1 b2 n2 d2 = N at *
  generalize hD : addD b1 n1 d1 b2 n2 d2 = D at *
  have cF := fun (W : World) (o o' : Option Addr) (c c' : Nat) (h : Lies W o c (ints .u32 (nl N))) (h' : Lies W o' c' (ints .u32 (nl D))) => fit_any nB N D o o' c c' W h h' pD cG1
  have HLow : Hid (Low (nB && decide (N ≠ 0)) N D) := Low.of_gcd pD cG1
  have cSp1 := fun (W : World) (hb : Below w.heap.size w W) => spread_any v1 b1 n1 d1 W (h1.below hb)
  have cSp2 := fun (W : World) (hb : Below w.heap.size w W) => spread_any v2 b2 n2 d2 W (h2.below hb)
  obtain ⟨A1, L1, p1, rfl⟩ := h1.shape
  obtain ⟨A2, L2, p2, rfl⟩ := h2.shape
  have HXY : Hid (1 ≤ D) := pD
  obtain ⟨b3, eb3⟩ : ∃ x, (nB && decide (N ≠ 0)) = x := ⟨_, rfl⟩
  rw [eb3] at HLow cF cW ⊢
  have EB : Hid ((nB && decide (N ≠ 0)) = b3) := eb3
  clear eb3
  have H1 : Hid (InWords (.agg #[.bool b1, .int .u64 A1, .int .u64 L1, .pointer p1]) b1 n1 d1 ∨ p1 ≠ none) := by
    rcases h1.2 with h | ⟨_, g, _, _, _, _, e, _⟩
    · exact .inl h
    · right; simp at e; rw [e.2.2]; simp
  have H2 : Hid (InWords (.agg #[.bool b2, .int .u64 A2, .int .u64 L2, .pointer p2]) b2 n2 d2 ∨ p2 ≠ none) := by
    rcases h2.2 with h | ⟨_, g, _, _, _, _, e, _⟩
    · exact .inl h
    · right; simp at e; rw [e.2.2]; simp
  clear hX hY hs hr hg hV hnB hN hD h1 h2 eN eD eB eAB pd1 pd2 g0 h0 lg lr ls lX lY lV lh lT l1 l2 l3 l4 o1' o2' pD cG1
  generalize d2 / Nat.gcd V g = T at *
  generalize Nat.gcd V g = h at *
  obtain ⟨W0, eW0⟩ : ∃ W0 : World, ((w.alloc (.cells #[.bool b1, .int .u64 A1, .int .u64 L1, .pointer p1] 28)).alloc (.cells #[.bool b2, .int .u64 A2, .int .u64 L2, .pointer p2] 28)).alloc (.cells #[.bool false, .int .u64 0, .int .u64 0, .pointer none] 28) = W0 := ⟨_, rfl⟩
  have hb0 : Below w.heap.size w W0 := by rw [← eW0]; exact (((Below.refl _ _).alloc (Nat.le_refl _) _).alloc (by simp) _).alloc (by simp; omega) _
  have z1 : (w.alloc (.cells #[.bool b1, .int .u64 A1, .int .u64 L1, .pointer p1] 28)).heap.size = w.heap.size + 1 := by simp
  have z2 : ((w.alloc (.cells #[.bool b1, .int .u64 A1, .int .u64 L1, .pointer p1] 28)).alloc (.cells #[.bool b2, .int .u64 A2, .int .u64 L2, .pointer p2] 28)).heap.size = w.heap.size + 1 + 1 := by simp
  have k0 : W0.heap[w.heap.size]? = some (box4 (.bool b1) (.int .u64 A1) (.int .u64 L1) (.pointer p1)) := by rw [← eW0, heap_alloc_old _ _ (by omega), heap_alloc_old _ _ (by omega)]; exact box_new _ _ _ _ _
  have k1 : W0.heap[w.heap.size + 1]? = some (box4 (.bool b2) (.int .u64 A2) (.int .u64 L2) (.pointer p2)) := by rw [← eW0, heap_alloc_old _ _ (by omega), ← z1]; exact box_new _ _ _ _ _
  have k2 : W0.heap[w.heap.size + 1 + 1]? = some (box4 (.bool false) (.int .u64 0) (.int .u64 0) (.pointer none)) := by rw [← eW0, ← z2]; exact box_new _ _ _ _ _
  have HK0 : Hid (W0.heap[w.heap.size]? = some (box4 (.bool b1) (.int .u64 A1) (.int .u64 L1) (.pointer p1))) := k0
  have HK1 : Hid (W0.heap[w.heap.size + 1]? = some (box4 (.bool b2) (.int .u64 A2) (.int .u64 L2) (.pointer p2))) := k1
  have HK2 : Hid (W0.heap[w.heap.size + 1 + 1]? = some (box4 (.bool false) (.int .u64 0) (.int .u64 0) (.pointer none))) := k2
  have EW : Hid (((w.alloc (.cells #[.bool b1, .int .u64 A1, .int .u64 L1, .pointer p1] 28)).alloc (.cells #[.bool b2, .int .u64 A2, .int .u64 L2, .pointer p2] 28)).alloc (.cells #[.bool false, .int .u64 0, .int .u64 0, .pointer none] 28) = W0) := eW0
  obtain ⟨a0, a1, a2, a3⟩ := box0 k0
  obtain ⟨e0, e1, e2, e3⟩ := box0 k1
  obtain ⟨r0, r1, r2, r3⟩ := box0 k2
  have rf := boxF k2
  clear eW0 z1 z2 k0 k1 k2
  go_enter Try.func7, Try.ntmps7
  go_upto_region 1 with fail
  rw [EW.out]
  go_cut [23] from 16 to 22 (fun v23 wx => v23 = .bool (p1.isNone && p2.isNone) ∧ wx = W0)
  case first =>
    cases p1 with
    | none =>
      cases p2 with
      | none =>
        go_wp2
        go_meet
        exact ⟨rfl, rfl⟩
      | some q =>
        go_wp2
        go_meet
        exact ⟨rfl, rfl⟩
    | some q =>
      go_wp2
      go_meet
      exact ⟨rfl, rfl⟩
  case rest =>
  obtain ⟨rfl, hw0⟩ := hcut
  have hw1 := hw0.symm
  clear hw0
  subst hw1
  go_upto_if 23 with fail
  go_cut [5, 6] from 16 to 31 (fun v5 v6 wx => Hid (Below W0.heap.size W0 wx))
  case first =>
    clear cF cSp1 cSp2 cG cR cT cX cY cJ cH cQ cU cM
    rcases H1.out with i1 | hp
    · rcases H2.out with i2 | hp
      · obtain ⟨q1, q2, e⟩ := i1
        simp only [Value.agg.injEq, Array.mk.injEq, List.cons.injEq, Value.int.injEq, Value.pointer.injEq, and_true, true_and] at e
        obtain ⟨rfl, rfl, rfl⟩ := e
        obtain ⟨q3, q4, e⟩ := i2
        simp only [Value.agg.injEq, Array.mk.injEq, List.cons.injEq, Value.int.injEq, Value.pointer.injEq, and_true, true_and] at e
        obtain ⟨rfl, rfl, rfl⟩ := e
        have cMW := cW W0 q1 q2 q3 q4
        clear cW q1 q2 q3 q4 EB
        generalize (n1 : Int) = N1 at *
        generalize (n2 : Int) = N2 at *
        generalize ((d1 : Int) - 1) = D1 at *
        generalize ((d2 : Int) - 1) = D2 at *
        go_upto_region 3 with (go_at_call 26; refine cMW.mono ?_; rintro e w2 ⟨⟨x, A, z, ok, rfl, hok⟩, hb2⟩; have HO : Hid (ok = true → x = b3 ∧ A = (N : Int) ∧ z = (D : Int) - 1 ∧ N < 18446744073709551616 ∧ D < 18446744073709551616) := hok; clear hok)
        cases ok with
        | false =>
          go_wp2
          go_meet
          exact (hb2.alloc hb2.size _)
        | true =>
          obtain ⟨ex, eA, ez, f1, f2⟩ := HO.out rfl
          subst ex
          have HA : Hid (A = (N : Int) ∧ z = (D : Int) - 1 ∧ N < 18446744073709551616 ∧ D < 18446744073709551616) := ⟨eA, ez, f1, f2⟩
          clear HO eA ez f1 f2
          have kk := box_kept HK2.out hb2 (in_heap HK2.out)
          have kk2 : (w2.alloc (.cells #[.bool x, .int .u64 A, .int .u64 z, .pointer none] 28)).heap[w.heap.size + 1 + 1]? = some (box4 (.bool false) (.int .u64 0) (.int .u64 0) (.pointer none)) := by rw [heap_alloc_old _ _ (in_heap kk)]; exact kk
          obtain ⟨c0, c1, c2, c3⟩ := box0 kk2
          have ff := boxF kk2
          have HKK : Hid ((w2.alloc (.cells #[.bool x, .int .u64 A, .int .u64 z, .pointer none] 28)).heap[w.heap.size + 1 + 1]? = some (box4 (.bool false) (.int .u64 0) (.int .u64 0) (.pointer none))) := kk2
          clear kk kk2
          go_wp2
          have bA : Below w2.heap.size w2 (w2.alloc (.cells #[.bool x, .int .u64 A, .int .u64 z, .pointer none] 28)) := (Below.refl _ _).alloc (Nat.le_refl _) _
          have k2 := box_set HKK.out (.bool x) (.int .u64 A) (.int .u64 z) (.pointer none)
          have hB := box_below (bt (bt hb0 hb2) bA) (show w.heap.size ≤ w.heap.size + 1 + 1 by omega) (.bool x) (.int .u64 A) (.int .u64 z) (.pointer none)
          generalize World.setCell _ _ _ = W' at *
          obtain ⟨g0, g1, g2, g3⟩ := box0 k2
          refine bodyPost_ret (v := .agg #[.bool x, .int .u64 A, .int .u64 z, .pointer none]) ?_ rfl ?_
          · simp [results, go_sem, g0, g1, g2, g3]
          · exact ⟨_, rfl, ⟨HLow.out, .inl ⟨HA.out.2.2.1, HA.out.2.2.2, by rw [HA.out.1, HA.out.2.1]⟩⟩, hB⟩
      · obtain ⟨q1, q2, e⟩ := i1
        simp only [Value.agg.injEq, Array.mk.injEq, List.cons.injEq, Value.int.injEq, Value.pointer.injEq, and_true, true_and] at e
        obtain ⟨rfl, rfl, rfl⟩ := e
        obtain ⟨q, rfl⟩ : ∃ q, p2 = some q := by cases p2 with | none => exact absurd rfl hp | some q => exact ⟨q, rfl⟩
        simp only [Option.isNone_none, Option.isNone_some, Bool.and_false]
        go_wp2
        go_meet
        exact Below.refl _ _
    · obtain ⟨q, rfl⟩ : ∃ q, p1 = some q := by cases p1 with | none => exact absurd rfl hp | some q => exact ⟨q, rfl⟩
      simp only [Option.isNone_some, Bool.false_and]
      go_wp2
      go_meet
      exact Below.refl _ _
  case rest =>
  obtain ⟨w3, ew3⟩ : ∃ W, W = wc := ⟨_, rfl⟩
  subst ew3
  have B3 := hcut.out
  have k0 := box_kept HK0.out B3 (in_heap HK0.out)
  have k1 := box_kept HK1.out B3 (in_heap HK1.out)
  have hb3 : Below w.heap.size w w3 := bt hb0 B3
  obtain ⟨a0, a1, a2, a3⟩ := box0 k0
  have HB3 : Hid (Below W0.heap.size W0 w3) := B3
  clear cW hcut B3 k0 H1 H2 r0 r1 r2 r3 rf
  have t1 : True := trivial
  go_upto_region 9 with (first
    | (go_at_call 27; have _t := t1; clear _t t1; refine (cSp1 _ hb3).mono ?_; rintro e w4 ⟨o1, c1, o2, c2, rfl, l1, l2, hb4⟩; have h34 := bt hb3 hb4; have kk1 := box_kept k1 hb4 (in_heap k1); obtain ⟨e0, e1, e2, e3⟩ := box0 kk1)
    | (go_at_call 27; refine (cSp2 _ h34).mono ?_; rintro e w5 ⟨o3, c3, o4, c4, rfl, l3, l4, hb5⟩; have l1' := l1.below hb5 (Nat.le_refl _); have l2' := l2.below hb5 (Nat.le_refl _))
    | (go_at_call 17; refine (cG _ _ _ _ _ l2' l4).mono ?_; rintro e w6 ⟨o5, c5, rfl, l5, hb6⟩)
    | (go_at_call 28; refine (cR _ _ _ _ _ (l2'.below hb6 (Nat.le_refl _)) l5).mono ?_; rintro e w7 ⟨o6, c6, rfl, l6, hb7⟩))
  have E7 : Below w3.heap.size w3 w7 := bt (bt (bt hb4 hb5) hb6) hb7
  have s0 : w7.drew.cell? ⟨w.heap.size, 0, none⟩ = some (.bool b1) ∧ w7.drew.cell? ⟨w.heap.size + 1, 0, none⟩ = some (.bool b2) := two_kept E7.drew ⟨a0, (box0 k1).1⟩
  have HK7 : Hid (w7.heap[w.heap.size + 1 + 1]? = some (box4 (.bool false) (.int .u64 0) (.int .u64 0) (.pointer none))) := box_kept (box_kept HK2.out HB3.out (in_heap HK2.out)) E7 (in_heap (box_kept HK2.out HB3.out (in_heap HK2.out)))
  have HB7 : Hid (Below w.heap.size w w7) := bt hb3 E7
  have d7 : Below w7.heap.size w7 w7.drew := (Below.refl _ _).drew
  have L1 : Lies w7.drew o1 c1 (ints .u32 (nl n1)) := (l1'.below (bt hb6 hb7) (Nat.le_refl _)).below d7 (Nat.le_refl _)
  have L3 : Lies w7.drew o3 c3 (ints .u32 (nl n2)) := (l3.below (bt hb6 hb7) (Nat.le_refl _)).below d7 (Nat.le_refl _)
  have L4 : Lies w7.drew o4 c4 (ints .u32 (nl d2)) := (l4.below (bt hb6 hb7) (Nat.le_refl _)).below d7 (Nat.le_refl _)
  have L5 : Lies w7.drew o5 c5 (ints .u32 (nl g)) := (l5.below hb7 (Nat.le_refl _)).below d7 (Nat.le_refl _)
  have L6 : Lies w7.drew o6 c6 (ints .u32 (nl r)) := l6.below d7 (Nat.le_refl _)
  have u1 : True := trivial
  have u2 : True := trivial
  clear cSp1 cSp2 cG cR l1 l2 l3 l4 l5 l6 l1' l2' hb4 hb5 hb6 hb7 k1 kk1 E7 h34 a0 a1 a2 a3 e0 e1 e2 e3 hb3 hb0
  go_region_held3 (fun w' => w'.cell? ⟨w.heap.size, 0, none⟩ = some (.bool b1) ∧ w'.cell? ⟨w.heap.size + 1, 0, none⟩ = some (.bool b2))
    (first | with_reducible exact s0 | with_reducible exact s1 | with_reducible exact s2 | with_reducible exact s3 | with_reducible exact s4) (first
    | (go_at_call 28; refine (cT _ _ _ _ _ L4 L5).mono ?_; rintro e w8 ⟨q1, f1, rfl, M1, hb8⟩; have s1 := two_kept hb8 s0)
    | (go_at_call 30; have _t := u1; clear _t u1; refine (cX _ _ _ _ _ (L1.below hb8 (Nat.le_refl _)) M1).mono ?_; rintro e w9 ⟨q2, f2, rfl, M2, hb9⟩; have s2 := two_kept hb9 s1; have C9 := bt hb8 hb9)
    | (go_at_call 30; refine (cY _ _ _ _ _ (L3.below C9 (Nat.le_refl _)) (L6.below C9 (Nat.le_refl _))).mono ?_; rintro e w10 ⟨q3, f3, rfl, M3, hb10⟩; have s3 := two_kept hb10 s2; have C10 := bt C9 hb10)
    | (go_at_call 29; refine (cJ _ _ _ _ _ (M2.below hb10 (Nat.le_refl _)) M3).mono ?_; rintro e w11 ⟨q4, f4, rfl, M4, hb11⟩; have s4 := two_kept hb11 s3; have C11 := bt C10 hb11))
  have N4 := L4.below C11 (Nat.le_refl _)
  have N5 := L5.below C11 (Nat.le_refl _)
  have N6 := L6.below C11 (Nat.le_refl _)
  have HC11 : Hid (Below w7.heap.size w7 w11) := bt d7 C11
  clear s0 s1 s2 s3 s4 L1 L3 L4 L5 L6 M1 M2 M3 C9 C10 C11 hb8 hb9 hb10 hb11 cT cX cY cJ d7
  all_goals go_wp2_with (first
    | (go_at_call 17; refine (cH _ _ _ _ _ M4 N5).mono ?_; rintro e w12 ⟨q5, f5, rfl, M5, hb12⟩)
    | (go_at_call 28; have _t := u2; clear _t u2; refine (cQ _ _ _ _ _ (M4.below hb12 (Nat.le_refl _)) M5).mono ?_; rintro e w13 ⟨q6, f6, rfl, M6, hb13⟩; have C13 := bt hb12 hb13)
    | (go_at_call 28; refine (cU _ _ _ _ _ (N4.below C13 (Nat.le_refl _)) (M5.below hb13 (Nat.le_refl _))).mono ?_; rintro e w14 ⟨q7, f7, rfl, M7, hb14⟩; have C14 := bt C13 hb14)
    | (go_at_call 30; refine (cM _ _ _ _ _ (N6.below C14 (Nat.le_refl _)) M7).mono ?_; rintro e w15 ⟨q8, f8, rfl, M8, hb15⟩)
    | (go_at_call 31; refine (cF _ _ _ _ _ (M6.below (bt hb14 hb15) (Nat.le_refl _)) M8).mono ?_; rintro e w16 ⟨v16, rfl, R16, hb16⟩; have C16 := bt HC11.out (bt C14 (bt hb15 hb16)); obtain ⟨VA, VL, vp, rfl⟩ := R16.shape; have kk := box_kept HK7.out C16 (in_heap HK7.out); obtain ⟨c0, c1, c2, c3⟩ := box0 kk; have ff := boxF kk; have HKK : Hid (w16.heap[w.heap.size + 1 + 1]? = some (box4 (.bool false) (.int .u64 0) (.int .u64 0) (.pointer none))) := kk; have HR16 : Hid (IsRat w16 (.agg #[.bool b3, .int .u64 VA, .int .u64 VL, .pointer vp]) b3 N D) := R16; have HC16 : Hid (Below w7.heap.size w7 w16) := C16; clear kk R16 C16))
  have k2 := box_set HKK.out (.bool b3) (.int .u64 VA) (.int .u64 VL) (.pointer vp)
  have hB := box_below (bt HB7.out HC16.out) (show w.heap.size ≤ w.heap.size + 1 + 1 by omega) (.bool b3) (.int .u64 VA) (.int .u64 VL) (.pointer vp)
  have hR2 := HR16.out.set4 HKK.out (.bool b3) (.int .u64 VA) (.int .u64 VL) (.pointer vp)
  generalize World.setCell _ _ _ = W' at *
  obtain ⟨g0, g1, g2, g3⟩ := box0 k2
  refine bodyPost_ret (v := .agg #[.bool b3, .int .u64 VA, .int .u64 VL, .pointer vp]) ?_ rfl ?_
  · simp [results, go_sem, g0, g1, g2, g3]
  · exact ⟨_, rfl, hR2, hB⟩
end Go.Proofs.Ytefckmkcbgckfab.AddR

/- Rational numbers, the program's: each call's answer as a quotient of two whole numbers, in lowest terms or not. -/
namespace Go.Proofs.Ytefckmkcbgckfab.FldL
open Go.RowKit Mem LimbNum Limb1 NatL GcdA RatL RatM RatN RatF RatO MulN MulW MulL RefR RefT RefU InvL DivL QNum CmpL CmqL RefX RefY RefZ FloL Mk5 AddN JoinL AddW AddV AddR

theorem nl_of_nb {n k : Nat} (h : (nb n).length ≤ k) : (nl n).length ≤ k := by
  apply nl_lt
  have h1 := fromL_lt (nb n)
  rw [fromL_nb] at h1
  exact Nat.lt_of_lt_of_le (Nat.lt_of_lt_of_le h1 (Nat.pow_le_pow_right (by omega) h)) (Nat.pow_le_pow_left (by omega) k)
theorem sv_flag (b : Bool) (n : Nat) : sv (b && decide (n ≠ 0)) n = sv b n := by
  unfold sv; by_cases h : n = 0
  · subst h; cases b <;> simp
  · simp [h]
theorem cmpI_mul (x y c : Int) (hc : 0 < c) : cmpI (x * c) (y * c) = cmpI x y := by
  unfold cmpI
  by_cases h : x < y
  · rw [if_pos h, if_pos (Int.mul_lt_mul_of_pos_right h hc)]
  · rw [if_neg h, if_neg (fun e => h (Int.lt_of_mul_lt_mul_right e (Int.le_of_lt hc)))]
    by_cases h2 : x = y
    · subst h2; simp
    · rw [if_neg h2, if_neg (fun e => h2 (Int.eq_of_mul_eq_mul_right (by omega) e))]
theorem add_val (b1 b2 : Bool) (n1 d1 n2 d2 : Nat) : ∃ g : Nat, sv (addB b1 n1 d1 b2 n2 d2) (addN b1 n1 d1 b2 n2 d2) * g = sv b1 n1 * d2 + sv b2 n2 * d1 ∧ addD b1 n1 d1 b2 n2 d2 * g = d1 * d2 := by
  refine ⟨Nat.gcd (sumV b1 b2 (n1 * d2) (n2 * d1)) (d1 * d2), ?_, ?_⟩
  · unfold addB addN
    rw [sv_flag, ← sv_mul, Nat.div_mul_cancel (Nat.gcd_dvd_left _ _), sum_sv, sv_mul, sv_mul]
  · unfold addD
    rw [Nat.div_mul_cancel (Nat.gcd_dvd_right _ _)]
theorem sv_ne (b1 b2 : Bool) (n1 n2 : Nat) : sv (b1 != b2) (n1 * n2) = sv b1 n1 * sv b2 n2 := by
  unfold sv; cases b1 <;> cases b2 <;> simp [Int.neg_mul, Int.mul_neg]
theorem mul_val (b1 b2 : Bool) (n1 d1 n2 d2 : Nat) : ∃ g : Nat, sv ((b1 != b2) && decide (n1 * n2 / Nat.gcd (n1 * n2) (d1 * d2) ≠ 0)) (n1 * n2 / Nat.gcd (n1 * n2) (d1 * d2)) * g = sv b1 n1 * sv b2 n2 ∧ d1 * d2 / Nat.gcd (n1 * n2) (d1 * d2) * g = d1 * d2 := by
  refine ⟨Nat.gcd (n1 * n2) (d1 * d2), ?_, Nat.div_mul_cancel (Nat.gcd_dvd_right _ _)⟩
  rw [sv_flag, ← sv_mul, Nat.div_mul_cancel (Nat.gcd_dvd_left _ _), sv_ne]
/-- The value v is P / Q; its two numbers have at most k bits. -/
def RV (w : World) (v : Value) (P Q : Int) (k : Nat) : Prop := 0 < Q ∧ ∃ b n d, IsRat w v b n d ∧ sv b n * Q = P * d ∧ (nb n).length ≤ k ∧ (nb d).length ≤ k
theorem RV.below {w w' : World} {v : Value} {P Q : Int} {k : Nat} (h : RV w v P Q k) (hb : Below w.heap.size w w') : RV w' v P Q k := by
  obtain ⟨h0, b, n, d, h1, h2, h3, h4⟩ := h
  exact ⟨h0, b, n, d, h1.below hb, h2, h3, h4⟩
theorem RV.of {w : World} {v : Value} {b : Bool} {n d k : Nat} (h : IsRat w v b n d) (h1 : (nb n).length ≤ k) (h2 : (nb d).length ≤ k) : RV w v (sv b n) d k :=
  ⟨by have := h.1.pos; omega, b, n, d, h, rfl, h1, h2⟩
theorem RV.more {w : World} {v : Value} {P Q : Int} {k l : Nat} (h : RV w v P Q k) (hl : k ≤ l) : RV w v P Q l := by
  obtain ⟨h0, b, n, d, h1, h2, h3, h4⟩ := h
  exact ⟨h0, b, n, d, h1, h2, by omega, by omega⟩
theorem ring_add {A g S1 S2 d1 d2 D P1 Q1 P2 Q2 : Int} (e1 : A * g = S1 * d2 + S2 * d1) (e2 : D * g = d1 * d2) (h1 : S1 * Q1 = P1 * d1) (h2 : S2 * Q2 = P2 * d2) (hg : g ≠ 0) : A * (Q1 * Q2) = (P1 * Q2 + P2 * Q1) * D := by
  apply Int.eq_of_mul_eq_mul_right hg
  have : A * (Q1 * Q2) * g = (A * g) * (Q1 * Q2) := by grind
  rw [this, e1]
  have : (P1 * Q2 + P2 * Q1) * D * g = (P1 * Q2 + P2 * Q1) * (D * g) := by grind
  rw [this, e2]
  have e3 : (S1 * d2 + S2 * d1) * (Q1 * Q2) = (S1 * Q1) * (d2 * Q2) + (S2 * Q2) * (d1 * Q1) := by grind
  rw [e3, h1, h2]
  grind
theorem ring_mul {A g S1 S2 d1 d2 D P1 Q1 P2 Q2 : Int} (e1 : A * g = S1 * S2) (e2 : D * g = d1 * d2) (h1 : S1 * Q1 = P1 * d1) (h2 : S2 * Q2 = P2 * d2) (hg : g ≠ 0) : A * (Q1 * Q2) = (P1 * P2) * D := by
  apply Int.eq_of_mul_eq_mul_right hg
  have : A * (Q1 * Q2) * g = (A * g) * (Q1 * Q2) := by grind
  rw [this, e1]
  have : (P1 * P2) * D * g = (P1 * P2) * (D * g) := by grind
  rw [this, e2]
  have e3 : S1 * S2 * (Q1 * Q2) = (S1 * Q1) * (S2 * Q2) := by grind
  rw [e3, h1, h2]
  grind
theorem rv_add {v1 v2 : Value} {P1 Q1 P2 Q2 : Int} {k : Nat} (hk : k ≤ 100000) {w : World} (h1 : RV w v1 P1 Q1 k) (h2 : RV w v2 P2 Q2 k) :
    Calls Try.prog 7 #[v1, v2] w fun e w' => ∃ v, e = .returned v ∧ RV w' v (P1 * Q2 + P2 * Q1) (Q1 * Q2) (2 * k + 1) ∧ Below w.heap.size w w' := by
  obtain ⟨q1, b1, n1, d1, r1, e1, l1, l2⟩ := h1
  obtain ⟨q2, b2, n2, d2, r2, e2, l3, l4⟩ := h2
  refine (radd v1 v2 b1 b2 n1 d1 n2 d2 w r1 r2 (Nat.le_trans (nl_of_nb l1) (by omega)) (Nat.le_trans (nl_of_nb l2) (by omega)) (Nat.le_trans (nl_of_nb l3) (by omega)) (Nat.le_trans (nl_of_nb l4) (by omega))).mono ?_
  rintro e w' ⟨v, rfl, R, hb⟩
  obtain ⟨g, f1, f2⟩ := add_val b1 b2 n1 d1 n2 d2
  have hg : (g : Int) ≠ 0 := by
    intro e
    have e : g = 0 := by omega
    rw [e] at f2
    have := Nat.mul_pos r1.1.pos r2.1.pos
    omega
  refine ⟨v, rfl, ⟨Int.mul_pos q1 q2, _, _, _, R, ring_add f1 (by exact_mod_cast f2) e1 e2 hg, ?_, ?_⟩, hb⟩
  · have bX := mul_bits n1 d2 _ _ l1 l4
    have bY := mul_bits n2 d1 _ _ l3 l2
    exact Nat.le_trans (bits_div _ _ _ (sumV_bits b1 b2 _ _ _ bX bY)) (by omega)
  · exact Nat.le_trans (bits_div _ _ _ (mul_bits d1 d2 _ _ l2 l4)) (by omega)
theorem rv_mul {v1 v2 : Value} {P1 Q1 P2 Q2 : Int} {k : Nat} (hk : k ≤ 100000) {w : World} (h1 : RV w v1 P1 Q1 k) (h2 : RV w v2 P2 Q2 k) :
    Calls Try.prog 9 #[v1, v2] w fun e w' => ∃ v, e = .returned v ∧ RV w' v (P1 * P2) (Q1 * Q2) (2 * k) ∧ Below w.heap.size w w' := by
  obtain ⟨q1, b1, n1, d1, r1, e1, l1, l2⟩ := h1
  obtain ⟨q2, b2, n2, d2, r2, e2, l3, l4⟩ := h2
  refine (rmul v1 v2 b1 b2 n1 d1 n2 d2 w r1 r2 (Nat.le_trans (nl_of_nb l1) (by omega)) (Nat.le_trans (nl_of_nb l2) (by omega)) (Nat.le_trans (nl_of_nb l3) (by omega)) (Nat.le_trans (nl_of_nb l4) (by omega))).mono ?_
  rintro e w' ⟨v, rfl, R, hb⟩
  obtain ⟨g, f1, f2⟩ := mul_val b1 b2 n1 d1 n2 d2
  have hg : (g : Int) ≠ 0 := by
    intro e
    have e : g = 0 := by omega
    rw [e] at f2
    have := Nat.mul_pos r1.1.pos r2.1.pos
    omega
  refine ⟨v, rfl, ⟨Int.mul_pos q1 q2, _, _, _, R, ring_mul f1 (by exact_mod_cast f2) e1 e2 hg, ?_, ?_⟩, hb⟩
  · exact Nat.le_trans (bits_div _ _ _ (mul_bits n1 n2 _ _ l1 l3)) (by omega)
  · exact Nat.le_trans (bits_div _ _ _ (mul_bits d1 d2 _ _ l2 l4)) (by omega)
theorem rv_cmp {v1 v2 : Value} {P1 Q1 P2 Q2 : Int} {k1 k2 : Nat} (hk1 : k1 ≤ 100000) (hk2 : k2 ≤ 100000) {w : World} (h1 : RV w v1 P1 Q1 k1) (h2 : RV w v2 P2 Q2 k2) :
    Calls Try.prog 40 #[v1, v2] w fun e w' => e = .returned (.int .i64 (cmpI (P1 * Q2) (P2 * Q1))) ∧ Below w.heap.size w w' := by
  obtain ⟨q1, b1, n1, d1, r1, e1, l1, l2⟩ := h1
  obtain ⟨q2, b2, n2, d2, r2, e2, l3, l4⟩ := h2
  have := cmp_q v1 v2 b1 b2 n1 d1 n2 d2 w r1 r2 (Nat.le_trans (nl_of_nb l1) (by omega)) (Nat.le_trans (nl_of_nb l2) (by omega)) (Nat.le_trans (nl_of_nb l3) (by omega)) (Nat.le_trans (nl_of_nb l4) (by omega))
  have p1 := r1.1.pos
  have p2 := r2.1.pos
  have e : cmpQ b1 n1 d1 b2 n2 d2 = cmpI (P1 * Q2) (P2 * Q1) := by
    unfold cmpQ
    rw [sv_mul, sv_mul, ← cmpI_mul _ _ (Q1 * Q2) (Int.mul_pos q1 q2), ← cmpI_mul (P1 * Q2) (P2 * Q1) ((d1 : Int) * d2) (Int.mul_pos (by omega) (by omega))]
    generalize sv b1 n1 = S1 at *
    generalize sv b2 n2 = S2 at *
    generalize (d1 : Int) = D1 at *
    generalize (d2 : Int) = D2 at *
    have f1 : S1 * D2 * (Q1 * Q2) = (S1 * Q1) * (D2 * Q2) := by grind
    have f2 : S2 * D1 * (Q1 * Q2) = (S2 * Q2) * (D1 * Q1) := by grind
    rw [f1, f2, e1, e2]
    congr 1 <;> grind
  rw [← e]
  exact this
theorem rv_sign {v : Value} {P Q : Int} {k : Nat} {w : World} (h : RV w v P Q k) : Calls Try.prog 33 #[v] w fun e w' => e = .returned (.int .i64 (cmpI P 0)) ∧ Below w.heap.size w w' := by
  obtain ⟨q, b, n, d, r, e, l1, l2⟩ := h
  have := sign_any v b n d w r
  have p := r.1.pos
  rw [sgn_sv, ← cmpI_mul _ _ Q q, e, Int.zero_mul, show (0 : Int) = 0 * (d : Int) by omega, cmpI_mul _ _ (d : Int) (by omega)] at this
  exact this
end Go.Proofs.Ytefckmkcbgckfab.FldL

/- Rational numbers, the program's: the difference. -/
namespace Go.Proofs.Ytefckmkcbgckfab.SubL
open Go.RowKit Mem LimbNum Limb1 NatL GcdA RatL RatM RatN RatF RatO MulN MulW MulL RefR RefT RefU InvL DivL QNum CmpL CmqL RefX RefY RefZ FloL Mk5 AddN JoinL AddW AddV AddR FldL

theorem neg_flag (b : Bool) (n : Nat) : decide (0 < sgn b n) = (!b && decide (n ≠ 0)) := by
  unfold sgn; by_cases h : n = 0
  · simp [h]
  · cases b <;> simp [h]
theorem cells_kept8 {W w5 : World} {g h : Nat} {a0 a1 a2 a3 b0 b1 b2 b3 : Value} (hg : w5.heap[g]? = W.heap[g]?) (hh : w5.heap[h]? = W.heap[h]?) (H : W.cell? ⟨g, 0, none⟩ = some a0 ∧ W.cell? ⟨g, 1, none⟩ = some a1 ∧ W.cell? ⟨g, 2, none⟩ = some a2 ∧ W.cell? ⟨g, 3, none⟩ = some a3 ∧ W.cell? ⟨h, 0, none⟩ = some b0 ∧ W.cell? ⟨h, 1, none⟩ = some b1 ∧ W.cell? ⟨h, 2, none⟩ = some b2 ∧ W.cell? ⟨h, 3, none⟩ = some b3) :
    w5.cell? ⟨g, 0, none⟩ = some a0 ∧ w5.cell? ⟨g, 1, none⟩ = some a1 ∧ w5.cell? ⟨g, 2, none⟩ = some a2 ∧ w5.cell? ⟨g, 3, none⟩ = some a3 ∧ w5.cell? ⟨h, 0, none⟩ = some b0 ∧ w5.cell? ⟨h, 1, none⟩ = some b1 ∧ w5.cell? ⟨h, 2, none⟩ = some b2 ∧ w5.cell? ⟨h, 3, none⟩ = some b3 := by
  simp only [World.cell?, hg, hh] at H ⊢
  exact H
set_option maxRecDepth 20000 in
set_option maxHeartbeats 2000000 in
theorem rsub (v1 v2 : Value) (b1 b2 : Bool) (n1 d1 n2 d2 : Nat) (w : World) (h1 : IsRat w v1 b1 n1 d1) (h2 : IsRat w v2 b2 n2 d2) (l1 : (nl n1).length ≤ 1000000) (l2 : (nl d1).length ≤ 1000000) (l3 : (nl n2).length ≤ 1000000) (l4 : (nl d2).length ≤ 1000000) :
    Calls Try.prog 8 #[v1, v2] w fun e w' => ∃ v', e = .returned v' ∧ IsRat w' v' (addB b1 n1 d1 (!b2 && decide (n2 ≠ 0)) n2 d2) (addN b1 n1 d1 (!b2 && decide (n2 ≠ 0)) n2 d2) (addD b1 n1 d1 (!b2 && decide (n2 ≠ 0)) n2 d2) ∧ Below w.heap.size w w' := by
  rw [← neg_flag]
  obtain ⟨b3, eb⟩ : ∃ x, decide (0 < sgn b2 n2) = x := ⟨_, rfl⟩
  have cN := fun (W : World) (hb : Below w.heap.size w W) => neg_any v2 b2 n2 d2 W (h2.below hb)
  simp only [eb] at cN
  rw [eb]
  have cA := fun (W : World) (v : Value) (hb : Below w.heap.size w W) (h : IsRat W v b3 n2 d2) => radd v1 v b1 b3 n1 d1 n2 d2 W (h1.below hb) h l1 l2 l3 l4
  generalize addB b1 n1 d1 b3 n2 d2 = rb at *
  generalize addN b1 n1 d1 b3 n2 d2 = rn at *
  generalize addD b1 n1 d1 b3 n2 d2 = rd at *
  obtain ⟨A1, L1, p1, rfl⟩ := h1.shape
  obtain ⟨A2, L2, p2, rfl⟩ := h2.shape
  clear h1 h2 l1 l2 l3 l4 eb
  obtain ⟨W0, eW0, hb0, hk0, hk1, hk2⟩ := three_new w (.cells #[.bool b1, .int .u64 A1, .int .u64 L1, .pointer p1] 28) (.cells #[.bool b2, .int .u64 A2, .int .u64 L2, .pointer p2] 28) (.cells #[.bool false, .int .u64 0, .int .u64 0, .pointer none] 28)
  have s0 : W0.drew.cell? ⟨w.heap.size, 0, none⟩ = some (.bool b1) ∧ W0.drew.cell? ⟨w.heap.size, 1, none⟩ = some (.int .u64 A1) ∧ W0.drew.cell? ⟨w.heap.size, 2, none⟩ = some (.int .u64 L1) ∧ W0.drew.cell? ⟨w.heap.size, 3, none⟩ = some (.pointer p1) ∧ W0.drew.cell? ⟨w.heap.size + 1, 0, none⟩ = some (.bool b2) ∧ W0.drew.cell? ⟨w.heap.size + 1, 1, none⟩ = some (.int .u64 A2) ∧ W0.drew.cell? ⟨w.heap.size + 1, 2, none⟩ = some (.int .u64 L2) ∧ W0.drew.cell? ⟨w.heap.size + 1, 3, none⟩ = some (.pointer p2) := by
    obtain ⟨a0, a1, a2, a3⟩ := box0 hk0
    obtain ⟨c0, c1, c2, c3⟩ := box0 hk1
    exact ⟨a0, a1, a2, a3, c0, c1, c2, c3⟩
  have hb0d := hb0.drew
  have HK2 : Hid (W0.drew.heap[w.heap.size + 1 + 1]? = some (.cells #[.bool false, .int .u64 0, .int .u64 0, .pointer none] 28)) := hk2
  have ne1 : w.heap.size ≠ w.heap.size + 1 + 1 := by omega
  have ne2 : w.heap.size + 1 ≠ w.heap.size + 1 + 1 := by omega
  have EW : Hid (_ = W0) := eW0
  clear eW0 hk0 hk1 hk2
  go_enter Try.func8, Try.ntmps8
  go_wp2
  rw [EW.out]
  go_region_held3 (fun w' => w'.cell? ⟨w.heap.size, 0, none⟩ = some (.bool b1) ∧ w'.cell? ⟨w.heap.size, 1, none⟩ = some (.int .u64 A1) ∧ w'.cell? ⟨w.heap.size, 2, none⟩ = some (.int .u64 L1) ∧ w'.cell? ⟨w.heap.size, 3, none⟩ = some (.pointer p1) ∧ w'.cell? ⟨w.heap.size + 1, 0, none⟩ = some (.bool b2) ∧ w'.cell? ⟨w.heap.size + 1, 1, none⟩ = some (.int .u64 A2) ∧ w'.cell? ⟨w.heap.size + 1, 2, none⟩ = some (.int .u64 L2) ∧ w'.cell? ⟨w.heap.size + 1, 3, none⟩ = some (.pointer p2)) (first | with_reducible exact s0 | with_reducible exact s1 | with_reducible exact s2 | with_reducible exact s3) (first
    | (go_at_call 10; refine (cN _ hb0d).mono ?_; rintro e w1 ⟨v3, rfl, R3, hb1⟩; have H1 := bt hb0d hb1; have s1 := eight_kept hb1 s0)
    | (go_at_call 7; refine (cA _ _ H1 R3).mono ?_; rintro e w2 ⟨v4, rfl, R4, hb2⟩; have H2 := bt H1 hb2; have s2 := eight_kept hb2 s1; obtain ⟨VA, VL, vp, rfl⟩ := R4.shape; have kk := box_kept HK2.out (bt hb1 hb2) (in_heap HK2.out); obtain ⟨d0, d1, d2, d3⟩ := box0 kk; have ff := boxF kk; have s3 := cells_kept8 ((set4_off w2 (w.heap.size + 1 + 1) (.bool rb) (.int .u64 VA) (.int .u64 VL) (.pointer vp)).1 _ ne1) ((set4_off w2 (w.heap.size + 1 + 1) (.bool rb) (.int .u64 VA) (.int .u64 VL) (.pointer vp)).1 _ ne2) s2; have HK : Hid (w2.heap[w.heap.size + 1 + 1]? = some (.cells #[.bool false, .int .u64 0, .int .u64 0, .pointer none] 28)) := kk; clear kk))
  all_goals go_wp2
  have k2 := box_set HK.out (.bool rb) (.int .u64 VA) (.int .u64 VL) (.pointer vp)
  have hB := box_below H2 (show w.heap.size ≤ w.heap.size + 1 + 1 by omega) (.bool rb) (.int .u64 VA) (.int .u64 VL) (.pointer vp)
  have hR := R4.set4 HK.out (.bool rb) (.int .u64 VA) (.int .u64 VL) (.pointer vp)
  generalize World.setCell _ _ _ = W' at *
  obtain ⟨g0, g1, g2, g3⟩ := box0 k2
  refine bodyPost_ret (v := .agg #[.bool rb, .int .u64 VA, .int .u64 VL, .pointer vp]) ?_ rfl ?_
  · simp [results, go_sem, g0, g1, g2, g3]
  · exact ⟨_, rfl, hR, hB⟩
theorem rv_sub {v1 v2 : Value} {P1 Q1 P2 Q2 : Int} {k : Nat} (hk : k ≤ 100000) {w : World} (h1 : RV w v1 P1 Q1 k) (h2 : RV w v2 P2 Q2 k) :
    Calls Try.prog 8 #[v1, v2] w fun e w' => ∃ v, e = .returned v ∧ RV w' v (P1 * Q2 - P2 * Q1) (Q1 * Q2) (2 * k + 1) ∧ Below w.heap.size w w' := by
  obtain ⟨q1, b1, n1, d1, r1, e1, l1, l2⟩ := h1
  obtain ⟨q2, b2, n2, d2, r2, e2, l3, l4⟩ := h2
  refine (rsub v1 v2 b1 b2 n1 d1 n2 d2 w r1 r2 (Nat.le_trans (nl_of_nb l1) (by omega)) (Nat.le_trans (nl_of_nb l2) (by omega)) (Nat.le_trans (nl_of_nb l3) (by omega)) (Nat.le_trans (nl_of_nb l4) (by omega))).mono ?_
  rintro e w' ⟨v, rfl, R, hb⟩
  obtain ⟨g, f1, f2⟩ := add_val b1 (!b2 && decide (n2 ≠ 0)) n1 d1 n2 d2
  have hg : (g : Int) ≠ 0 := by
    intro e
    have e : g = 0 := by omega
    rw [e] at f2
    have := Nat.mul_pos r1.1.pos r2.1.pos
    omega
  have e3 : sv (!b2 && decide (n2 ≠ 0)) n2 * Q2 = (-P2) * d2 := by rw [sv_not, Int.neg_mul, e2, Int.neg_mul]
  have := ring_add f1 (by rw [← Int.natCast_mul, f2, Int.natCast_mul]) e1 e3 hg
  rw [show P1 * Q2 + (-P2) * Q1 = P1 * Q2 - P2 * Q1 by rw [Int.neg_mul]; rfl] at this
  refine ⟨v, rfl, ⟨Int.mul_pos q1 q2, _, _, _, R, this, ?_, ?_⟩, hb⟩
  · have bX := mul_bits n1 d2 _ _ l1 l4
    have bY := mul_bits n2 d1 _ _ l3 l2
    exact Nat.le_trans (bits_div _ _ _ (sumV_bits b1 _ _ _ _ bX bY)) (by omega)
  · exact Nat.le_trans (bits_div _ _ _ (mul_bits d1 d2 _ _ l2 l4)) (by omega)
end Go.Proofs.Ytefckmkcbgckfab.SubL

/- Numbers as plain data (sign, above the bar, below it), what the calls of rat and of the reference make of them; what stays where a struct's cells are written. -/
namespace Go.Proofs.Ytefckmkcbgckfab.NmL
open Go.RowKit Mem LimbNum Limb1 NatL GcdA RatL RatM RatN RatF RatO MulN MulW MulL RefR RefT RefU RefI InvL DivL QNum CmpL CmqL RefX RefY RefZ FloL Mk5 AddN JoinL AddW AddV AddR FldL SubL Law5

/-- A number as plain data. -/
structure Nm where
  b : Bool
  n : Nat
  d : Nat
/-- The program's value v is the number p. -/
def IsR (w : World) (v : Value) (p : Nm) : Prop := IsRat w v p.b p.n p.d
/-- The reference's value v is the number p. -/
def IsQ (w : World) (v : Value) (p : Nm) : Prop := IsRef w v p.b p.n p.d
/-- Both parts have at most k bits, the lower one isn't nought. -/
def Fits (p : Nm) (k : Nat) : Prop := 0 < p.d ∧ (nb p.n).length ≤ k ∧ (nb p.d).length ≤ k
def addM (p q : Nm) : Nm := ⟨addB p.b p.n p.d q.b q.n q.d, addN p.b p.n p.d q.b q.n q.d, addD p.b p.n p.d q.b q.n q.d⟩
def negM (p : Nm) : Nm := ⟨!p.b && decide (p.n ≠ 0), p.n, p.d⟩
def mulM (p q : Nm) : Nm := ⟨(p.b != q.b) && decide (p.n * q.n / Nat.gcd (p.n * q.n) (p.d * q.d) ≠ 0), p.n * q.n / Nat.gcd (p.n * q.n) (p.d * q.d), p.d * q.d / Nat.gcd (p.n * q.n) (p.d * q.d)⟩
def intM (i : Int) : Nm := ⟨decide (i < 0), i.natAbs, 1⟩
def cmpM (p q : Nm) : Int := cmpQ p.b p.n p.d q.b q.n q.d
theorem IsR.below {w w' : World} {v : Value} {p : Nm} (h : IsR w v p) (hb : Below w.heap.size w w') : IsR w' v p := IsRat.below h hb
theorem IsQ.below {w w' : World} {v : Value} {p : Nm} (h : IsQ w v p) (hb : Below w.heap.size w w') : IsQ w' v p := IsRef.below h hb
theorem IsR.shape4 {w : World} {v : Value} {p : Nm} (h : IsR w v p) : ∃ (b : Bool) (A L : Int) (q : Option Addr), v = .agg #[.bool b, .int .u64 A, .int .u64 L, .pointer q] := by
  obtain ⟨A, L, q, e⟩ := IsRat.shape h
  exact ⟨_, A, L, q, e⟩
theorem IsQ.shape3 {w : World} {v : Value} {p : Nm} (h : IsQ w v p) : ∃ (b : Bool) (o1 : Option Addr) (l1 c1 : Nat) (o2 : Option Addr) (l2 c2 : Nat), v = .agg #[.bool b, .slice o1 l1 c1, .slice o2 l2 c2] := by
  obtain ⟨o1, c1, o2, c2, e, _⟩ := h
  exact ⟨_, o1, _, c1, o2, _, c2, e⟩
theorem Fits.more {p : Nm} {k l : Nat} (h : Fits p k) (hl : k ≤ l) : Fits p l := ⟨h.1, Nat.le_trans h.2.1 hl, Nat.le_trans h.2.2 hl⟩
theorem fits_neg {p : Nm} {k : Nat} (h : Fits p k) : Fits (negM p) k := h
theorem fits_int (i : Int) (h0 : -9223372036854775808 ≤ i) (h1 : i ≤ 9223372036854775807) : Fits (intM i) 64 := by
  have h2 : (nb i.natAbs).length ≤ 64 := nb_lt 64 _ (by omega)
  have h3 : (nb 1).length ≤ 64 := nb_lt 64 _ (by omega)
  exact ⟨by simp [intM], h2, h3⟩
theorem fits_add {p q : Nm} {k : Nat} (hp : Fits p k) (hq : Fits q k) : Fits (addM p q) (2 * k + 1) := by
  obtain ⟨p0, p1, p2⟩ := hp
  obtain ⟨q0, q1, q2⟩ := hq
  have hD : 0 < p.d * q.d := Nat.mul_pos p0 q0
  have bX := mul_bits p.n q.d _ _ p1 q2
  have bY := mul_bits q.n p.d _ _ q1 p2
  refine ⟨?_, ?_, ?_⟩
  · show 0 < addD _ _ _ _ _ _
    unfold addD
    exact Nat.div_pos (Nat.le_of_dvd hD (Nat.gcd_dvd_right _ _)) (Nat.gcd_pos_of_pos_right _ hD)
  · exact Nat.le_trans (bits_div _ _ _ (sumV_bits p.b q.b _ _ _ bX bY)) (by omega)
  · exact Nat.le_trans (bits_div _ _ _ (mul_bits p.d q.d _ _ p2 q2)) (by omega)
theorem fits_mul {p q : Nm} {k : Nat} (hp : Fits p k) (hq : Fits q k) : Fits (mulM p q) (2 * k) := by
  obtain ⟨p0, p1, p2⟩ := hp
  obtain ⟨q0, q1, q2⟩ := hq
  have hD : 0 < p.d * q.d := Nat.mul_pos p0 q0
  refine ⟨Nat.div_pos (Nat.le_of_dvd hD (Nat.gcd_dvd_right _ _)) (Nat.gcd_pos_of_pos_right _ hD), ?_, ?_⟩
  · exact Nat.le_trans (bits_div _ _ _ (mul_bits p.n q.n _ _ p1 q1)) (by omega)
  · exact Nat.le_trans (bits_div _ _ _ (mul_bits p.d q.d _ _ p2 q2)) (by omega)
theorem Fits.nl {p : Nm} {k : Nat} (h : Fits p k) (hk : k ≤ 1000000) : (nl p.n).length ≤ 1000000 ∧ (nl p.d).length ≤ 1000000 := ⟨Nat.le_trans (nl_of_nb h.2.1) hk, Nat.le_trans (nl_of_nb h.2.2) hk⟩
theorem Fits.pos {p : Nm} {k : Nat} (h : Fits p k) : p.d ≠ 0 := by have := h.1; omega
theorem a_add {v1 v2 : Value} {p q : Nm} {k : Nat} (hk : k ≤ 100000) {w : World} (h1 : IsR w v1 p) (h2 : IsR w v2 q) (f1 : Fits p k) (f2 : Fits q k) :
    Calls Try.prog 7 #[v1, v2] w fun e w' => ∃ v, e = .returned v ∧ IsR w' v (addM p q) ∧ Below w.heap.size w w' :=
  radd v1 v2 _ _ _ _ _ _ w h1 h2 (f1.nl (by omega)).1 (f1.nl (by omega)).2 (f2.nl (by omega)).1 (f2.nl (by omega)).2
theorem a_sub {v1 v2 : Value} {p q : Nm} {k : Nat} (hk : k ≤ 100000) {w : World} (h1 : IsR w v1 p) (h2 : IsR w v2 q) (f1 : Fits p k) (f2 : Fits q k) :
    Calls Try.prog 8 #[v1, v2] w fun e w' => ∃ v, e = .returned v ∧ IsR w' v (addM p (negM q)) ∧ Below w.heap.size w w' :=
  rsub v1 v2 _ _ _ _ _ _ w h1 h2 (f1.nl (by omega)).1 (f1.nl (by omega)).2 (f2.nl (by omega)).1 (f2.nl (by omega)).2
theorem a_mul {v1 v2 : Value} {p q : Nm} {k : Nat} (hk : k ≤ 100000) {w : World} (h1 : IsR w v1 p) (h2 : IsR w v2 q) (f1 : Fits p k) (f2 : Fits q k) :
    Calls Try.prog 9 #[v1, v2] w fun e w' => ∃ v, e = .returned v ∧ IsR w' v (mulM p q) ∧ Below w.heap.size w w' :=
  rmul v1 v2 _ _ _ _ _ _ w h1 h2 (Nat.le_trans (f1.nl (by omega)).1 (by omega)) (Nat.le_trans (f1.nl (by omega)).2 (by omega)) (Nat.le_trans (f2.nl (by omega)).1 (by omega)) (Nat.le_trans (f2.nl (by omega)).2 (by omega))
theorem a_neg {v : Value} {p : Nm} {w : World} (h : IsR w v p) :
    Calls Try.prog 10 #[v] w fun e w' => ∃ v', e = .returned v' ∧ IsR w' v' (negM p) ∧ Below w.heap.size w w' := by
  have := neg_any v _ _ _ w h
  rw [neg_flag] at this
  exact this
theorem a_int (i : Int) (w : World) (h0 : -9223372036854775808 ≤ i) (h1 : i ≤ 9223372036854775807) :
    Calls Try.prog 55 #[.int .i64 i] w fun e w' => ∃ v, e = .returned v ∧ IsR w' v (intM i) ∧ Below w.heap.size w w' := int_any i w h0 h1
theorem a_cmp {v1 v2 : Value} {p q : Nm} {k : Nat} (hk : k ≤ 100000) {w : World} (h1 : IsR w v1 p) (h2 : IsR w v2 q) (f1 : Fits p k) (f2 : Fits q k) :
    Calls Try.prog 40 #[v1, v2] w fun e w' => e = .returned (.int .i64 (cmpM p q)) ∧ Below w.heap.size w w' :=
  cmp_q v1 v2 _ _ _ _ _ _ w h1 h2 (f1.nl (by omega)).1 (f1.nl (by omega)).2 (f2.nl (by omega)).1 (f2.nl (by omega)).2
theorem q_int (i : Int) (w : World) (h0 : -9223372036854775808 ≤ i) (h1 : i ≤ 9223372036854775807) :
    Calls Try.prog 56 #[.int .i64 i] w fun e w' => ∃ v, e = .returned v ∧ IsQ w' v (intM i) ∧ Below w.heap.size w w' := rint_any i w h0 h1
/-- A block without what a number points to: limbs, or a pair of lists. -/
def Plain (w : World) (g : Nat) : Prop := ∀ i v, w.cell? ⟨g, i, none⟩ = some v → (∀ k z, v = .int k z → k = .u64) ∧ (i = 0 → ∀ o n c, v ≠ .slice o n c)
theorem lies_offP {w W : World} {g : Nat} {o : Option Addr} {c : Nat} {A : List Nat} (h : Lies w o c (ints .u32 A)) (hk : Plain w g)
    (hW : ∀ k, k ≠ g → W.heap[k]? = w.heap[k]?) (hs : W.heap.size = w.heap.size) : Lies W o c (ints .u32 A) := by
  obtain ⟨h1, h2, h3, h4⟩ := h
  refine ⟨h1, h2, h3, fun hp => ?_⟩
  obtain ⟨b, off, rfl, hlt, hc⟩ := h4 hp
  have hne : b ≠ g := by
    rintro rfl
    have h0 := hc 0 hp
    rw [ints_get _ _ _ (by rw [ints_length] at hp; exact hp)] at h0
    have := (hk _ _ h0).1 _ _ rfl
    simp at this
  refine ⟨b, off, rfl, by omega, fun i hi => ?_⟩
  rw [← hc i hi]
  simp only [World.cell?, hW b hne]
theorem IsR.offP {w W : World} {g : Nat} {v : Value} {p : Nm} (h : IsR w v p) (hk : Plain w g)
    (hW : ∀ k, k ≠ g → W.heap[k]? = w.heap[k]?) (hs : W.heap.size = w.heap.size) : IsR W v p := by
  obtain ⟨h1, h2 | ⟨h2, g2, o1, c1, o2, c2, e, h3, h4, h5, h6, h7⟩⟩ := h
  · exact ⟨h1, .inl h2⟩
  · have hne : g2 ≠ g := by
      rintro rfl
      exact (hk _ _ h4).2 rfl _ _ _ rfl
    refine ⟨h1, .inr ⟨h2, g2, o1, c1, o2, c2, e, by omega, ?_, ?_, lies_offP h6 hk hW hs, lies_offP h7 hk hW hs⟩⟩
    · rw [← h4]; simp only [World.cell?, hW g2 hne]
    · rw [← h5]; simp only [World.cell?, hW g2 hne]
theorem IsQ.offT {w W : World} {g : Nat} {v : Value} {p : Nm} {cs : Array Value} {t : TypeId} (h : IsQ w v p) (hk : w.heap[g]? = some (.cells cs t)) (hne : t ≠ 4)
    (hW : ∀ k, k ≠ g → W.heap[k]? = w.heap[k]?) : IsQ W v p := by
  obtain ⟨o1, c1, o2, c2, e, h1, h2⟩ := h
  exact ⟨o1, c1, o2, c2, e, own_off h1 hk hne hW, own_off h2 hk hne hW⟩
theorem cell_at {w : World} {g : Nat} {cs : Array Value} {T : TypeId} (h : w.heap[g]? = some (.cells cs T)) (i : Nat) (v : Value) (hv : cs[i]? = some v) : w.cell? ⟨g, i, none⟩ = some v := by
  simp [World.cell?, h, hv]
theorem cell_heap {w W : World} {g i : Nat} (h : W.heap[g]? = w.heap[g]?) : W.cell? ⟨g, i, none⟩ = w.cell? ⟨g, i, none⟩ := by
  simp only [World.cell?, h]
/-- The program's value v is the pair p, q. -/
def IsD (w : World) (v : Value) (p q : Nm) : Prop := ∃ (b1 : Bool) (A1 L1 : Int) (p1 : Option Addr) (b2 : Bool) (A2 L2 : Int) (p2 : Option Addr), v = .agg #[.bool b1, .int .u64 A1, .int .u64 L1, .pointer p1, .bool b2, .int .u64 A2, .int .u64 L2, .pointer p2] ∧
  IsR w (.agg #[.bool b1, .int .u64 A1, .int .u64 L1, .pointer p1]) p ∧ IsR w (.agg #[.bool b2, .int .u64 A2, .int .u64 L2, .pointer p2]) q
/-- The reference's value v is the pair p, q. -/
def IsE (w : World) (v : Value) (p q : Nm) : Prop := ∃ (b1 : Bool) (o1 : Option Addr) (l1 c1 : Nat) (o2 : Option Addr) (l2 c2 : Nat) (b2 : Bool) (o3 : Option Addr) (l3 c3 : Nat) (o4 : Option Addr) (l4 c4 : Nat), v = .agg #[.bool b1, .slice o1 l1 c1, .slice o2 l2 c2, .bool b2, .slice o3 l3 c3, .slice o4 l4 c4] ∧
  IsQ w (.agg #[.bool b1, .slice o1 l1 c1, .slice o2 l2 c2]) p ∧ IsQ w (.agg #[.bool b2, .slice o3 l3 c3, .slice o4 l4 c4]) q
theorem IsD.below {w w' : World} {v : Value} {p q : Nm} (h : IsD w v p q) (hb : Below w.heap.size w w') : IsD w' v p q := by
  obtain ⟨b1, A1, L1, p1, b2, A2, L2, p2, e, h1, h2⟩ := h
  exact ⟨b1, A1, L1, p1, b2, A2, L2, p2, e, h1.below hb, h2.below hb⟩
theorem IsE.below {w w' : World} {v : Value} {p q : Nm} (h : IsE w v p q) (hb : Below w.heap.size w w') : IsE w' v p q := by
  obtain ⟨b1, o1, l1, c1, o2, l2, c2, b2, o3, l3, c3, o4, l4, c4, e, h1, h2⟩ := h
  exact ⟨b1, o1, l1, c1, o2, l2, c2, b2, o3, l3, c3, o4, l4, c4, e, h1.below hb, h2.below hb⟩
theorem World.drew_at {w : World} {g : Nat} {o : Obj} (h : w.heap[g]? = some o) : w.drew.heap[g]? = some o := h
theorem sto4_off (w : World) (g : Nat) (a0 a1 a2 a3 : Value) : (∀ k, k ≠ g → ((((w.setCell ⟨g, 0, none⟩ a0).setCell ⟨g, 1, none⟩ a1).setCell ⟨g, 2, none⟩ a2).setCell ⟨g, 3, none⟩ a3).heap[k]? = w.heap[k]?) ∧ ((((w.setCell ⟨g, 0, none⟩ a0).setCell ⟨g, 1, none⟩ a1).setCell ⟨g, 2, none⟩ a2).setCell ⟨g, 3, none⟩ a3).heap.size = w.heap.size := by
  constructor
  · intro k hk
    rw [heap_setCell_other _ _ _ _ hk, heap_setCell_other _ _ _ _ hk, heap_setCell_other _ _ _ _ hk, heap_setCell_other _ _ _ _ hk]
  · simp [World.setCell]
theorem sto4_box {w : World} {g : Nat} {o0 o1 o2 o3 : Value} {T : TypeId} (h : w.heap[g]? = some (.cells #[o0, o1, o2, o3] T)) (a0 a1 a2 a3 : Value) : ((((w.setCell ⟨g, 0, none⟩ a0).setCell ⟨g, 1, none⟩ a1).setCell ⟨g, 2, none⟩ a2).setCell ⟨g, 3, none⟩ a3).heap[g]? = some (.cells #[a0, a1, a2, a3] T) := by
  have h0 : (w.setCell ⟨g, 0, none⟩ a0).heap[g]? = some (.cells #[a0, o1, o2, o3] T) := by rw [heap_setCell_same _ g 0 _ _ _ h]; rfl
  have h1 : ((w.setCell ⟨g, 0, none⟩ a0).setCell ⟨g, 1, none⟩ a1).heap[g]? = some (.cells #[a0, a1, o2, o3] T) := by rw [heap_setCell_same _ g 1 _ _ _ h0]; rfl
  have h2 : (((w.setCell ⟨g, 0, none⟩ a0).setCell ⟨g, 1, none⟩ a1).setCell ⟨g, 2, none⟩ a2).heap[g]? = some (.cells #[a0, a1, a2, o3] T) := by rw [heap_setCell_same _ g 2 _ _ _ h1]; rfl
  have h3 : ((((w.setCell ⟨g, 0, none⟩ a0).setCell ⟨g, 1, none⟩ a1).setCell ⟨g, 2, none⟩ a2).setCell ⟨g, 3, none⟩ a3).heap[g]? = some (.cells #[a0, a1, a2, a3] T) := by rw [heap_setCell_same _ g 3 _ _ _ h2]; rfl
  exact h3
theorem sto4_below {w W : World} {B g : Nat} (h : Below B w W) (hg : B ≤ g) (a0 a1 a2 a3 : Value) : Below B w ((((W.setCell ⟨g, 0, none⟩ a0).setCell ⟨g, 1, none⟩ a1).setCell ⟨g, 2, none⟩ a2).setCell ⟨g, 3, none⟩ a3) :=
  (((h.setCell hg _).setCell hg _).setCell hg _).setCell hg _
theorem sto4_cell (w : World) (g : Nat) (a0 a1 a2 a3 : Value) (k i : Nat) (hk : k ≠ g) : ((((w.setCell ⟨g, 0, none⟩ a0).setCell ⟨g, 1, none⟩ a1).setCell ⟨g, 2, none⟩ a2).setCell ⟨g, 3, none⟩ a3).cell? ⟨k, i, none⟩ = w.cell? ⟨k, i, none⟩ := cell_heap ((sto4_off w g a0 a1 a2 a3).1 k hk)
theorem sto8_off (w : World) (g : Nat) (a0 a1 a2 a3 a4 a5 a6 a7 : Value) : (∀ k, k ≠ g → ((((((((w.setCell ⟨g, 0, none⟩ a0).setCell ⟨g, 1, none⟩ a1).setCell ⟨g, 2, none⟩ a2).setCell ⟨g, 3, none⟩ a3).setCell ⟨g, 4, none⟩ a4).setCell ⟨g, 5, none⟩ a5).setCell ⟨g, 6, none⟩ a6).setCell ⟨g, 7, none⟩ a7).heap[k]? = w.heap[k]?) ∧ ((((((((w.setCell ⟨g, 0, none⟩ a0).setCell ⟨g, 1, none⟩ a1).setCell ⟨g, 2, none⟩ a2).setCell ⟨g, 3, none⟩ a3).setCell ⟨g, 4, none⟩ a4).setCell ⟨g, 5, none⟩ a5).setCell ⟨g, 6, none⟩ a6).setCell ⟨g, 7, none⟩ a7).heap.size = w.heap.size := by
  constructor
  · intro k hk
    rw [heap_setCell_other _ _ _ _ hk, heap_setCell_other _ _ _ _ hk, heap_setCell_other _ _ _ _ hk, heap_setCell_other _ _ _ _ hk, heap_setCell_other _ _ _ _ hk, heap_setCell_other _ _ _ _ hk, heap_setCell_other _ _ _ _ hk, heap_setCell_other _ _ _ _ hk]
  · simp [World.setCell]
theorem sto8_box {w : World} {g : Nat} {o0 o1 o2 o3 o4 o5 o6 o7 : Value} {T : TypeId} (h : w.heap[g]? = some (.cells #[o0, o1, o2, o3, o4, o5, o6, o7] T)) (a0 a1 a2 a3 a4 a5 a6 a7 : Value) : ((((((((w.setCell ⟨g, 0, none⟩ a0).setCell ⟨g, 1, none⟩ a1).setCell ⟨g, 2, none⟩ a2).setCell ⟨g, 3, none⟩ a3).setCell ⟨g, 4, none⟩ a4).setCell ⟨g, 5, none⟩ a5).setCell ⟨g, 6, none⟩ a6).setCell ⟨g, 7, none⟩ a7).heap[g]? = some (.cells #[a0, a1, a2, a3, a4, a5, a6, a7] T) := by
  have h0 : (w.setCell ⟨g, 0, none⟩ a0).heap[g]? = some (.cells #[a0, o1, o2, o3, o4, o5, o6, o7] T) := by rw [heap_setCell_same _ g 0 _ _ _ h]; rfl
  have h1 : ((w.setCell ⟨g, 0, none⟩ a0).setCell ⟨g, 1, none⟩ a1).heap[g]? = some (.cells #[a0, a1, o2, o3, o4, o5, o6, o7] T) := by rw [heap_setCell_same _ g 1 _ _ _ h0]; rfl
  have h2 : (((w.setCell ⟨g, 0, none⟩ a0).setCell ⟨g, 1, none⟩ a1).setCell ⟨g, 2, none⟩ a2).heap[g]? = some (.cells #[a0, a1, a2, o3, o4, o5, o6, o7] T) := by rw [heap_setCell_same _ g 2 _ _ _ h1]; rfl
  have h3 : ((((w.setCell ⟨g, 0, none⟩ a0).setCell ⟨g, 1, none⟩ a1).setCell ⟨g, 2, none⟩ a2).setCell ⟨g, 3, none⟩ a3).heap[g]? = some (.cells #[a0, a1, a2, a3, o4, o5, o6, o7] T) := by rw [heap_setCell_same _ g 3 _ _ _ h2]; rfl
  have h4 : (((((w.setCell ⟨g, 0, none⟩ a0).setCell ⟨g, 1, none⟩ a1).setCell ⟨g, 2, none⟩ a2).setCell ⟨g, 3, none⟩ a3).setCell ⟨g, 4, none⟩ a4).heap[g]? = some (.cells #[a0, a1, a2, a3, a4, o5, o6, o7] T) := by rw [heap_setCell_same _ g 4 _ _ _ h3]; rfl
  have h5 : ((((((w.setCell ⟨g, 0, none⟩ a0).setCell ⟨g, 1, none⟩ a1).setCell ⟨g, 2, none⟩ a2).setCell ⟨g, 3, none⟩ a3).setCell ⟨g, 4, none⟩ a4).setCell ⟨g, 5, none⟩ a5).heap[g]? = some (.cells #[a0, a1, a2, a3, a4, a5, o6, o7] T) := by rw [heap_setCell_same _ g 5 _ _ _ h4]; rfl
  have h6 : (((((((w.setCell ⟨g, 0, none⟩ a0).setCell ⟨g, 1, none⟩ a1).setCell ⟨g, 2, none⟩ a2).setCell ⟨g, 3, none⟩ a3).setCell ⟨g, 4, none⟩ a4).setCell ⟨g, 5, none⟩ a5).setCell ⟨g, 6, none⟩ a6).heap[g]? = some (.cells #[a0, a1, a2, a3, a4, a5, a6, o7] T) := by rw [heap_setCell_same _ g 6 _ _ _ h5]; rfl
  have h7 : ((((((((w.setCell ⟨g, 0, none⟩ a0).setCell ⟨g, 1, none⟩ a1).setCell ⟨g, 2, none⟩ a2).setCell ⟨g, 3, none⟩ a3).setCell ⟨g, 4, none⟩ a4).setCell ⟨g, 5, none⟩ a5).setCell ⟨g, 6, none⟩ a6).setCell ⟨g, 7, none⟩ a7).heap[g]? = some (.cells #[a0, a1, a2, a3, a4, a5, a6, a7] T) := by rw [heap_setCell_same _ g 7 _ _ _ h6]; rfl
  exact h7
theorem sto8_below {w W : World} {B g : Nat} (h : Below B w W) (hg : B ≤ g) (a0 a1 a2 a3 a4 a5 a6 a7 : Value) : Below B w ((((((((W.setCell ⟨g, 0, none⟩ a0).setCell ⟨g, 1, none⟩ a1).setCell ⟨g, 2, none⟩ a2).setCell ⟨g, 3, none⟩ a3).setCell ⟨g, 4, none⟩ a4).setCell ⟨g, 5, none⟩ a5).setCell ⟨g, 6, none⟩ a6).setCell ⟨g, 7, none⟩ a7) :=
  (((((((h.setCell hg _).setCell hg _).setCell hg _).setCell hg _).setCell hg _).setCell hg _).setCell hg _).setCell hg _
theorem sto8_cell (w : World) (g : Nat) (a0 a1 a2 a3 a4 a5 a6 a7 : Value) (k i : Nat) (hk : k ≠ g) : ((((((((w.setCell ⟨g, 0, none⟩ a0).setCell ⟨g, 1, none⟩ a1).setCell ⟨g, 2, none⟩ a2).setCell ⟨g, 3, none⟩ a3).setCell ⟨g, 4, none⟩ a4).setCell ⟨g, 5, none⟩ a5).setCell ⟨g, 6, none⟩ a6).setCell ⟨g, 7, none⟩ a7).cell? ⟨k, i, none⟩ = w.cell? ⟨k, i, none⟩ := cell_heap ((sto8_off w g a0 a1 a2 a3 a4 a5 a6 a7).1 k hk)
theorem sto6_off (w : World) (g : Nat) (a0 a1 a2 a3 a4 a5 : Value) : (∀ k, k ≠ g → ((((((w.setCell ⟨g, 0, none⟩ a0).setCell ⟨g, 1, none⟩ a1).setCell ⟨g, 2, none⟩ a2).setCell ⟨g, 3, none⟩ a3).setCell ⟨g, 4, none⟩ a4).setCell ⟨g, 5, none⟩ a5).heap[k]? = w.heap[k]?) ∧ ((((((w.setCell ⟨g, 0, none⟩ a0).setCell ⟨g, 1, none⟩ a1).setCell ⟨g, 2, none⟩ a2).setCell ⟨g, 3, none⟩ a3).setCell ⟨g, 4, none⟩ a4).setCell ⟨g, 5, none⟩ a5).heap.size = w.heap.size := by
  constructor
  · intro k hk
    rw [heap_setCell_other _ _ _ _ hk, heap_setCell_other _ _ _ _ hk, heap_setCell_other _ _ _ _ hk, heap_setCell_other _ _ _ _ hk, heap_setCell_other _ _ _ _ hk, heap_setCell_other _ _ _ _ hk]
  · simp [World.setCell]
theorem sto6_box {w : World} {g : Nat} {o0 o1 o2 o3 o4 o5 : Value} {T : TypeId} (h : w.heap[g]? = some (.cells #[o0, o1, o2, o3, o4, o5] T)) (a0 a1 a2 a3 a4 a5 : Value) : ((((((w.setCell ⟨g, 0, none⟩ a0).setCell ⟨g, 1, none⟩ a1).setCell ⟨g, 2, none⟩ a2).setCell ⟨g, 3, none⟩ a3).setCell ⟨g, 4, none⟩ a4).setCell ⟨g, 5, none⟩ a5).heap[g]? = some (.cells #[a0, a1, a2, a3, a4, a5] T) := by
  have h0 : (w.setCell ⟨g, 0, none⟩ a0).heap[g]? = some (.cells #[a0, o1, o2, o3, o4, o5] T) := by rw [heap_setCell_same _ g 0 _ _ _ h]; rfl
  have h1 : ((w.setCell ⟨g, 0, none⟩ a0).setCell ⟨g, 1, none⟩ a1).heap[g]? = some (.cells #[a0, a1, o2, o3, o4, o5] T) := by rw [heap_setCell_same _ g 1 _ _ _ h0]; rfl
  have h2 : (((w.setCell ⟨g, 0, none⟩ a0).setCell ⟨g, 1, none⟩ a1).setCell ⟨g, 2, none⟩ a2).heap[g]? = some (.cells #[a0, a1, a2, o3, o4, o5] T) := by rw [heap_setCell_same _ g 2 _ _ _ h1]; rfl
  have h3 : ((((w.setCell ⟨g, 0, none⟩ a0).setCell ⟨g, 1, none⟩ a1).setCell ⟨g, 2, none⟩ a2).setCell ⟨g, 3, none⟩ a3).heap[g]? = some (.cells #[a0, a1, a2, a3, o4, o5] T) := by rw [heap_setCell_same _ g 3 _ _ _ h2]; rfl
  have h4 : (((((w.setCell ⟨g, 0, none⟩ a0).setCell ⟨g, 1, none⟩ a1).setCell ⟨g, 2, none⟩ a2).setCell ⟨g, 3, none⟩ a3).setCell ⟨g, 4, none⟩ a4).heap[g]? = some (.cells #[a0, a1, a2, a3, a4, o5] T) := by rw [heap_setCell_same _ g 4 _ _ _ h3]; rfl
  have h5 : ((((((w.setCell ⟨g, 0, none⟩ a0).setCell ⟨g, 1, none⟩ a1).setCell ⟨g, 2, none⟩ a2).setCell ⟨g, 3, none⟩ a3).setCell ⟨g, 4, none⟩ a4).setCell ⟨g, 5, none⟩ a5).heap[g]? = some (.cells #[a0, a1, a2, a3, a4, a5] T) := by rw [heap_setCell_same _ g 5 _ _ _ h4]; rfl
  exact h5
theorem sto6_below {w W : World} {B g : Nat} (h : Below B w W) (hg : B ≤ g) (a0 a1 a2 a3 a4 a5 : Value) : Below B w ((((((W.setCell ⟨g, 0, none⟩ a0).setCell ⟨g, 1, none⟩ a1).setCell ⟨g, 2, none⟩ a2).setCell ⟨g, 3, none⟩ a3).setCell ⟨g, 4, none⟩ a4).setCell ⟨g, 5, none⟩ a5) :=
  (((((h.setCell hg _).setCell hg _).setCell hg _).setCell hg _).setCell hg _).setCell hg _
theorem sto6_cell (w : World) (g : Nat) (a0 a1 a2 a3 a4 a5 : Value) (k i : Nat) (hk : k ≠ g) : ((((((w.setCell ⟨g, 0, none⟩ a0).setCell ⟨g, 1, none⟩ a1).setCell ⟨g, 2, none⟩ a2).setCell ⟨g, 3, none⟩ a3).setCell ⟨g, 4, none⟩ a4).setCell ⟨g, 5, none⟩ a5).cell? ⟨k, i, none⟩ = w.cell? ⟨k, i, none⟩ := cell_heap ((sto6_off w g a0 a1 a2 a3 a4 a5).1 k hk)
theorem sto3_off (w : World) (g : Nat) (a0 a1 a2 : Value) : (∀ k, k ≠ g → (((w.setCell ⟨g, 0, none⟩ a0).setCell ⟨g, 1, none⟩ a1).setCell ⟨g, 2, none⟩ a2).heap[k]? = w.heap[k]?) ∧ (((w.setCell ⟨g, 0, none⟩ a0).setCell ⟨g, 1, none⟩ a1).setCell ⟨g, 2, none⟩ a2).heap.size = w.heap.size := by
  constructor
  · intro k hk
    rw [heap_setCell_other _ _ _ _ hk, heap_setCell_other _ _ _ _ hk, heap_setCell_other _ _ _ _ hk]
  · simp [World.setCell]
theorem sto3_box {w : World} {g : Nat} {o0 o1 o2 : Value} {T : TypeId} (h : w.heap[g]? = some (.cells #[o0, o1, o2] T)) (a0 a1 a2 : Value) : (((w.setCell ⟨g, 0, none⟩ a0).setCell ⟨g, 1, none⟩ a1).setCell ⟨g, 2, none⟩ a2).heap[g]? = some (.cells #[a0, a1, a2] T) := by
  have h0 : (w.setCell ⟨g, 0, none⟩ a0).heap[g]? = some (.cells #[a0, o1, o2] T) := by rw [heap_setCell_same _ g 0 _ _ _ h]; rfl
  have h1 : ((w.setCell ⟨g, 0, none⟩ a0).setCell ⟨g, 1, none⟩ a1).heap[g]? = some (.cells #[a0, a1, o2] T) := by rw [heap_setCell_same _ g 1 _ _ _ h0]; rfl
  have h2 : (((w.setCell ⟨g, 0, none⟩ a0).setCell ⟨g, 1, none⟩ a1).setCell ⟨g, 2, none⟩ a2).heap[g]? = some (.cells #[a0, a1, a2] T) := by rw [heap_setCell_same _ g 2 _ _ _ h1]; rfl
  exact h2
theorem sto3_below {w W : World} {B g : Nat} (h : Below B w W) (hg : B ≤ g) (a0 a1 a2 : Value) : Below B w (((W.setCell ⟨g, 0, none⟩ a0).setCell ⟨g, 1, none⟩ a1).setCell ⟨g, 2, none⟩ a2) :=
  ((h.setCell hg _).setCell hg _).setCell hg _
theorem sto3_cell (w : World) (g : Nat) (a0 a1 a2 : Value) (k i : Nat) (hk : k ≠ g) : (((w.setCell ⟨g, 0, none⟩ a0).setCell ⟨g, 1, none⟩ a1).setCell ⟨g, 2, none⟩ a2).cell? ⟨k, i, none⟩ = w.cell? ⟨k, i, none⟩ := cell_heap ((sto3_off w g a0 a1 a2).1 k hk)
theorem plain6 {w : World} {g : Nat} {b1 b2 : Bool} {o1 o2 o3 o4 : Option Addr} {l1 l2 l3 l4 c1 c2 c3 c4 : Nat} {T : TypeId} (hk : w.heap[g]? = some (.cells #[.bool b1, .slice o1 l1 c1, .slice o2 l2 c2, .bool b2, .slice o3 l3 c3, .slice o4 l4 c4] T)) : Plain w g := by
  intro i v h
  simp only [World.cell?, hk] at h
  match i, h with
  | 0, h => simp at h; subst h; exact ⟨fun k z e => by simp at e, fun _ o n c e => by simp at e⟩
  | 1, h => simp at h; subst h; exact ⟨fun k z e => by simp at e, fun e => by omega⟩
  | 2, h => simp at h; subst h; exact ⟨fun k z e => by simp at e, fun e => by omega⟩
  | 3, h => simp at h; subst h; exact ⟨fun k z e => by simp at e, fun _ o n c e => by simp at e⟩
  | 4, h => simp at h; subst h; exact ⟨fun k z e => by simp at e, fun e => by omega⟩
  | 5, h => simp at h; subst h; exact ⟨fun k z e => by simp at e, fun e => by omega⟩
  | (i + 6), h => simp at h
theorem plain4 {w : World} {g : Nat} {x0 : Bool} {A0 L0 : Int} {p0 : Option Addr} {T : TypeId} (hk : w.heap[g]? = some (.cells #[.bool x0, .int .u64 A0, .int .u64 L0, .pointer p0] T)) : Plain w g := by
  intro i v h
  simp only [World.cell?, hk] at h
  match i, h with
  | 0, h => simp at h; subst h; exact ⟨fun k z e => by simp at e, fun _ o n c e => by simp at e⟩
  | 1, h => simp at h; subst h; exact ⟨fun k z e => by simp at e; exact e.1.symm, fun _ o n c e => by simp at e⟩
  | 2, h => simp at h; subst h; exact ⟨fun k z e => by simp at e; exact e.1.symm, fun _ o n c e => by simp at e⟩
  | 3, h => simp at h; subst h; exact ⟨fun k z e => by simp at e, fun _ o n c e => by simp at e⟩
  | (i + 4), h => simp at h
theorem plain8 {w : World} {g : Nat} {x0 x1 : Bool} {A0 L0 A1 L1 : Int} {p0 p1 : Option Addr} {T : TypeId} (hk : w.heap[g]? = some (.cells #[.bool x0, .int .u64 A0, .int .u64 L0, .pointer p0, .bool x1, .int .u64 A1, .int .u64 L1, .pointer p1] T)) : Plain w g := by
  intro i v h
  simp only [World.cell?, hk] at h
  match i, h with
  | 0, h => simp at h; subst h; exact ⟨fun k z e => by simp at e, fun _ o n c e => by simp at e⟩
  | 1, h => simp at h; subst h; exact ⟨fun k z e => by simp at e; exact e.1.symm, fun _ o n c e => by simp at e⟩
  | 2, h => simp at h; subst h; exact ⟨fun k z e => by simp at e; exact e.1.symm, fun _ o n c e => by simp at e⟩
  | 3, h => simp at h; subst h; exact ⟨fun k z e => by simp at e, fun _ o n c e => by simp at e⟩
  | 4, h => simp at h; subst h; exact ⟨fun k z e => by simp at e, fun _ o n c e => by simp at e⟩
  | 5, h => simp at h; subst h; exact ⟨fun k z e => by simp at e; exact e.1.symm, fun _ o n c e => by simp at e⟩
  | 6, h => simp at h; subst h; exact ⟨fun k z e => by simp at e; exact e.1.symm, fun _ o n c e => by simp at e⟩
  | 7, h => simp at h; subst h; exact ⟨fun k z e => by simp at e, fun _ o n c e => by simp at e⟩
  | (i + 8), h => simp at h
theorem conj_3 {P0 P1 P2 : Prop} (a0 : P0) (a1 : P1) (a2 : P2) : P0 ∧ P1 ∧ P2 := ⟨a0, a1, a2⟩
theorem conj_4 {P0 P1 P2 P3 : Prop} (a0 : P0) (a1 : P1) (a2 : P2) (a3 : P3) : P0 ∧ P1 ∧ P2 ∧ P3 := ⟨a0, a1, a2, a3⟩
theorem conj_6 {P0 P1 P2 P3 P4 P5 : Prop} (a0 : P0) (a1 : P1) (a2 : P2) (a3 : P3) (a4 : P4) (a5 : P5) : P0 ∧ P1 ∧ P2 ∧ P3 ∧ P4 ∧ P5 := ⟨a0, a1, a2, a3, a4, a5⟩
theorem conj_7 {P0 P1 P2 P3 P4 P5 P6 : Prop} (a0 : P0) (a1 : P1) (a2 : P2) (a3 : P3) (a4 : P4) (a5 : P5) (a6 : P6) : P0 ∧ P1 ∧ P2 ∧ P3 ∧ P4 ∧ P5 ∧ P6 := ⟨a0, a1, a2, a3, a4, a5, a6⟩
theorem conj_8 {P0 P1 P2 P3 P4 P5 P6 P7 : Prop} (a0 : P0) (a1 : P1) (a2 : P2) (a3 : P3) (a4 : P4) (a5 : P5) (a6 : P6) (a7 : P7) : P0 ∧ P1 ∧ P2 ∧ P3 ∧ P4 ∧ P5 ∧ P6 ∧ P7 := ⟨a0, a1, a2, a3, a4, a5, a6, a7⟩
theorem conj_9 {P0 P1 P2 P3 P4 P5 P6 P7 P8 : Prop} (a0 : P0) (a1 : P1) (a2 : P2) (a3 : P3) (a4 : P4) (a5 : P5) (a6 : P6) (a7 : P7) (a8 : P8) : P0 ∧ P1 ∧ P2 ∧ P3 ∧ P4 ∧ P5 ∧ P6 ∧ P7 ∧ P8 := ⟨a0, a1, a2, a3, a4, a5, a6, a7, a8⟩
theorem conj_12 {P0 P1 P2 P3 P4 P5 P6 P7 P8 P9 P10 P11 : Prop} (a0 : P0) (a1 : P1) (a2 : P2) (a3 : P3) (a4 : P4) (a5 : P5) (a6 : P6) (a7 : P7) (a8 : P8) (a9 : P9) (a10 : P10) (a11 : P11) : P0 ∧ P1 ∧ P2 ∧ P3 ∧ P4 ∧ P5 ∧ P6 ∧ P7 ∧ P8 ∧ P9 ∧ P10 ∧ P11 := ⟨a0, a1, a2, a3, a4, a5, a6, a7, a8, a9, a10, a11⟩
theorem conj_16 {P0 P1 P2 P3 P4 P5 P6 P7 P8 P9 P10 P11 P12 P13 P14 P15 : Prop} (a0 : P0) (a1 : P1) (a2 : P2) (a3 : P3) (a4 : P4) (a5 : P5) (a6 : P6) (a7 : P7) (a8 : P8) (a9 : P9) (a10 : P10) (a11 : P11) (a12 : P12) (a13 : P13) (a14 : P14) (a15 : P15) : P0 ∧ P1 ∧ P2 ∧ P3 ∧ P4 ∧ P5 ∧ P6 ∧ P7 ∧ P8 ∧ P9 ∧ P10 ∧ P11 ∧ P12 ∧ P13 ∧ P14 ∧ P15 := ⟨a0, a1, a2, a3, a4, a5, a6, a7, a8, a9, a10, a11, a12, a13, a14, a15⟩
end Go.Proofs.Ytefckmkcbgckfab.NmL

/- Numbers as fractions, in Lean's own field (what HoN has, without layer 7). -/
namespace Go.Proofs.Ytefckmkcbgckfab.VqN
open Go.RowKit Mem LimbNum Limb1 NatL GcdA RatL RatM RatN RatF RatO MulN MulW MulL RefR RefT RefU InvL DivL QNum CmpL CmqL RefX RefY RefZ FloL Mk5 AddN JoinL AddW AddV AddR FldL SubL NmL Law5

theorem frac_eq {A D P Q g : Int} (h1 : A * g = P) (h2 : D * g = Q) (hQ : Q ≠ 0) : (A : Rat) / (D : Rat) = (P : Rat) / (Q : Rat) := by
  have hg : (g : Rat) ≠ 0 := by
    intro h; apply hQ; have : g = 0 := by exact_mod_cast h
    rw [← h2, this]; simp
  have hD : (D : Rat) ≠ 0 := by
    intro h; apply hQ; have : D = 0 := by exact_mod_cast h
    rw [← h2, this]; simp
  rw [← h1, ← h2]
  simp only [Rat.intCast_mul]
  grind
theorem f_add {a b c d : Rat} (hb : b ≠ 0) (hd : d ≠ 0) : a / b + c / d = (a * d + c * b) / (b * d) := by grind
theorem f_mul {a b c d : Rat} (hb : b ≠ 0) (hd : d ≠ 0) : a / b * (c / d) = (a * c) / (b * d) := by grind
theorem f_lt {a b c d : Rat} (hb : 0 < b) (hd : 0 < d) : a / b < c / d ↔ a * d < c * b := by
  have e1 : a = a / b * b := by grind
  have e2 : c = c / d * d := by grind
  generalize a / b = x at *
  generalize c / d = y at *
  subst e1 e2
  have h : 0 < b * d := Rat.mul_pos hb hd
  constructor
  · intro h1
    have := Rat.mul_lt_mul_of_pos_right h1 h
    grind
  · intro h1
    apply Rat.not_le.mp
    intro h2
    have := Rat.mul_le_mul_of_nonneg_right h2 (Rat.le_of_lt h)
    grind
/-- The number's value. -/
def vq (p : Nm) : Rat := ((sv p.b p.n : Int) : Rat) / (((p.d : Nat) : Int) : Rat)
theorem dpos {p : Nm} (h : 0 < p.d) : (0 : Rat) < (((p.d : Nat) : Int) : Rat) := by
  have : (0 : Int) < ((p.d : Nat) : Int) := by omega
  exact_mod_cast this
theorem dne {p : Nm} (h : 0 < p.d) : (((p.d : Nat) : Int) : Rat) ≠ 0 := by have := dpos h; grind
theorem vq_add {p q : Nm} (hp : 0 < p.d) (hq : 0 < q.d) : vq (addM p q) = vq p + vq q := by
  obtain ⟨g, e1, e2⟩ := add_val p.b q.b p.n p.d q.n q.d
  have e3 : (((addM p q).d : Nat) : Int) * (g : Int) = (p.d : Int) * (q.d : Int) := by
    rw [← Int.natCast_mul, ← Int.natCast_mul]; exact congrArg _ e2
  have e1' : sv (addM p q).b (addM p q).n * (g : Int) = sv p.b p.n * (q.d : Int) + sv q.b q.n * (p.d : Int) := e1
  unfold vq
  rw [f_add (dne hp) (dne hq), frac_eq e1' e3 (Int.ne_of_gt (Int.mul_pos (by omega) (by omega)))]
  simp only [Rat.intCast_mul, Rat.intCast_add]
theorem vq_mul {p q : Nm} (hp : 0 < p.d) (hq : 0 < q.d) : vq (mulM p q) = vq p * vq q := by
  obtain ⟨g, e1, e2⟩ := mul_val p.b q.b p.n p.d q.n q.d
  have e3 : (((mulM p q).d : Nat) : Int) * (g : Int) = (p.d : Int) * (q.d : Int) := by
    rw [← Int.natCast_mul, ← Int.natCast_mul]; exact congrArg _ e2
  have e1' : sv (mulM p q).b (mulM p q).n * (g : Int) = sv p.b p.n * sv q.b q.n := e1
  unfold vq
  rw [f_mul (dne hp) (dne hq), frac_eq e1' e3 (Int.ne_of_gt (Int.mul_pos (by omega) (by omega)))]
  simp only [Rat.intCast_mul]
theorem sv_negM (p : Nm) : sv (negM p).b (negM p).n = - sv p.b p.n := by
  unfold negM
  rw [sv_flag]
  unfold sv
  cases p.b <;> simp
theorem vq_neg (p : Nm) : vq (negM p) = - vq p := by
  unfold vq
  rw [sv_negM]
  show ((-sv p.b p.n : Int) : Rat) / (((p.d : Nat) : Int) : Rat) = _
  rw [Rat.intCast_neg]
  grind
theorem cmp_lt {p q : Nm} (hp : 0 < p.d) (hq : 0 < q.d) : 0 < cmpM p q ↔ vq q < vq p := by
  have e : cmpM p q = cmpI (sv p.b p.n * (q.d : Int)) (sv q.b q.n * (p.d : Int)) := by
    unfold cmpM cmpQ; rw [sv_mul, sv_mul]
  have l : vq q < vq p ↔ sv q.b q.n * (p.d : Int) < sv p.b p.n * (q.d : Int) := by
    unfold vq
    rw [f_lt (dpos hq) (dpos hp), ← Rat.intCast_mul, ← Rat.intCast_mul, Rat.intCast_lt_intCast]
  rw [e, l]
  unfold cmpI
  split
  · omega
  · split <;> omega
theorem cmp_eq {p q : Nm} (hp : 0 < p.d) (hq : 0 < q.d) : cmpM p q = 0 ↔ vq p = vq q := by
  have e : ∀ x y : Nm, cmpM x y = cmpI (sv x.b x.n * (y.d : Int)) (sv y.b y.n * (x.d : Int)) := by
    intro x y; unfold cmpM cmpQ; rw [sv_mul, sv_mul]
  have h1 := cmp_lt hp hq
  have h2 := cmp_lt hq hp
  rw [e] at h1 h2 ⊢
  have h3 : vq p = vq q ↔ ¬ vq q < vq p ∧ ¬ vq p < vq q := by
    constructor
    · intro h; grind
    · intro h; grind
  rw [h3, ← h1, ← h2]
  unfold cmpI
  split <;> split <;> (try split) <;> omega
def sgnM (p : Nm) : Int := sgn p.b p.n
theorem sgn_lt {p : Nm} (hp : 0 < p.d) : 0 < sgnM p ↔ 0 < vq p := by
  have l : (0 : Rat) < vq p ↔ 0 < sv p.b p.n := by
    have e0 : (0 : Rat) = ((0 : Int) : Rat) / ((1 : Int) : Rat) := by decide +kernel
    unfold vq
    rw [e0, f_lt (by decide +kernel) (dpos hp), ← Rat.intCast_mul, ← Rat.intCast_mul, Rat.intCast_lt_intCast]
    simp
  rw [l]
  unfold sgnM sgn sv
  split
  · simp_all
  · cases p.b <;> simp <;> omega
theorem d_add {p q : Nm} (hp : 0 < p.d) (hq : 0 < q.d) : 0 < (addM p q).d :=
  Nat.div_pos (Nat.le_of_dvd (Nat.mul_pos hp hq) (Nat.gcd_dvd_right _ _)) (Nat.gcd_pos_of_pos_right _ (Nat.mul_pos hp hq))
theorem d_mul {p q : Nm} (hp : 0 < p.d) (hq : 0 < q.d) : 0 < (mulM p q).d :=
  Nat.div_pos (Nat.le_of_dvd (Nat.mul_pos hp hq) (Nat.gcd_dvd_right _ _)) (Nat.gcd_pos_of_pos_right _ (Nat.mul_pos hp hq))
def absM (p : Nm) : Nm := ⟨false, p.n, p.d⟩
theorem vq_abs {p : Nm} (hp : 0 < p.d) : 0 ≤ vq (absM p) ∧ (p.n ≠ 0 → 0 < vq (absM p)) := by
  have h := sgn_lt (p := absM p) hp
  have e : sgnM (absM p) = if p.n = 0 then 0 else 1 := by unfold sgnM sgn absM; simp
  rw [e] at h
  by_cases hn : p.n = 0
  · refine ⟨?_, fun h2 => absurd hn h2⟩
    unfold vq absM sv
    simp only [hn]
    simp
    grind
  · rw [if_neg hn] at h
    have := h.mp (by decide)
    exact ⟨by grind, fun _ => this⟩
theorem low_same {p : Nm} (h : Low p.b p.n p.d) : (⟨p.b && decide (p.n / Nat.gcd p.n p.d ≠ 0), p.n / Nat.gcd p.n p.d, p.d / Nat.gcd p.n p.d⟩ : Nm) = p := by
  rw [h.one, Nat.div_one, Nat.div_one]
  have : (p.b && decide (p.n ≠ 0)) = p.b := by
    by_cases e : p.n = 0
    · rw [h.sg e]; rfl
    · simp [e]
  rw [this]
theorem sv_inj {b1 b2 : Bool} {n1 n2 : Nat} (h1 : n1 = 0 → b1 = false) (h2 : n2 = 0 → b2 = false) (h : sv b1 n1 = sv b2 n2) : b1 = b2 ∧ n1 = n2 := by
  unfold sv at h
  cases b1 <;> cases b2 <;> simp at h h1 h2 ⊢ <;> omega
/-- In lowest terms the same value is the same number. -/
theorem same_of {p q : Nm} (hp : Low p.b p.n p.d) (hq : Low q.b q.n q.d) (h : cmpM p q = 0) : p = q := by
  have e : cmpM p q = cmpI (sv p.b p.n * (q.d : Int)) (sv q.b q.n * (p.d : Int)) := by unfold cmpM cmpQ; rw [sv_mul, sv_mul]
  have h2 : sv p.b p.n * (q.d : Int) = sv q.b q.n * (p.d : Int) := by
    rw [e] at h
    unfold cmpI at h
    split at h
    · cases h
    · split at h
      · assumption
      · cases h
  have h3 : p.n * q.d = q.n * p.d := by
    have := congrArg Int.natAbs h2
    rw [Int.natAbs_mul, Int.natAbs_mul] at this
    have a1 : (sv p.b p.n).natAbs = p.n := by unfold sv; split <;> simp
    have a2 : (sv q.b q.n).natAbs = q.n := by unfold sv; split <;> simp
    rw [a1, a2] at this
    simpa using this
  have hd1 : p.d ∣ q.d := by
    have c : Nat.Coprime p.d p.n := by rw [Nat.coprime_comm]; exact hp.one
    exact Nat.Coprime.dvd_of_dvd_mul_left c ⟨q.n, by rw [h3, Nat.mul_comm]⟩
  have hd2 : q.d ∣ p.d := by
    have c : Nat.Coprime q.d q.n := by rw [Nat.coprime_comm]; exact hq.one
    exact Nat.Coprime.dvd_of_dvd_mul_left c ⟨p.n, by rw [← h3, Nat.mul_comm]⟩
  have hd : p.d = q.d := Nat.dvd_antisymm hd1 hd2
  have hpd := hp.pos
  rw [hd] at h2
  have h4 := Int.eq_of_mul_eq_mul_right (by have := hq.pos; omega) h2
  obtain ⟨e1, e2⟩ := sv_inj hp.sg hq.sg h4
  obtain ⟨pb, pn, pd⟩ := p
  obtain ⟨qb, qn, qd⟩ := q
  dsimp only at e1 e2 hd
  rw [e1, e2, hd]
theorem cmp_self (p : Nm) : cmpM p p = 0 := by
  have e : cmpM p p = cmpI (sv p.b p.n * (p.d : Int)) (sv p.b p.n * (p.d : Int)) := by unfold cmpM cmpQ; rw [sv_mul]
  rw [e]; unfold cmpI; simp
end Go.Proofs.Ytefckmkcbgckfab.VqN

/- Both of a number that came in, as plain data. -/
namespace Go.Proofs.Ytefckmkcbgckfab.BnL
open Go.RowKit Mem LimbNum NmL RatL RefR
theorem both_nm (b : Bool) (A B : List Nat) (ao bo : Option Addr) (cap1 cap2 : Nat) (w : World) (hl : Lies w ao cap1 (ints .u32 A)) (hl2 : Lies w bo cap2 (ints .u32 B)) (hA : Small A) (hB : Small B) :
    Calls Try.prog 25 #[.agg #[.bool b, .slice ao A.length cap1, .slice bo B.length cap2]] w fun e w' => ∃ v q p, e = .returned (.tuple #[v, q]) ∧ IsR w' v p ∧ IsQ w' q p ∧ Fits p 256 ∧ Below w.heap.size w w' := by
  refine (DvW.both_any b A B ao bo cap1 cap2 w hl hl2 hA hB).mono ?_
  rintro e w' ⟨v, q, b2, n, d, rfl, h1, h2, h3, hb⟩
  exact ⟨v, q, ⟨b2, n, d⟩, rfl, h1, h2, ⟨h1.1.pos, h3⟩, hb⟩
end Go.Proofs.Ytefckmkcbgckfab.BnL
