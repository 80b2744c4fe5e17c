/- The document's rational numbers: the sum, the order; Sums of fractions in lowest terms: only what the numbers below the bar have in common can be taken out of the sum; Rational numbers, the program's: which of two sizes is greater; order; Rational numbers, the program's: order, the lesser and the greater one; Rational numbers, the program's: the greatest whole number below; RatDivs: quotients and . -/
import Derived.Test.YtefckmkcbgckfaaGreatDoorSetAU
import Derived.Test.YtefckmkcbgckfaaGreatDoorSetAV
import Derived.Test.YtefckmkcbgckfaaGreatDoorSetAQ
import Derived.Test.YtefckmkcbgckfaaGreatDoorSetAF
/- The document's rational numbers: the sum, the order. -/
namespace Go.Proofs.YtefckmkcbgckfaaGreatDoor.RefZ
open Go.RowKit Mem LimbNum Limb1 Limb2 RefL RefA RefC RefS BitMul BitDiv RGcd Words RatL RatN RefR RefT RefU RefI InvL DivL MulL MulW QNum RefX RefY Mk5

theorem sum_bits (x y k : Nat) (hx : (nb x).length ≤ k) (hy : (nb y).length ≤ k) : (nb (x + y)).length ≤ k + 1 := by
  apply nb_lt
  have h1 := fromL_lt (nb x)
  have h2 := fromL_lt (nb y)
  rw [fromL_nb] at h1 h2
  have e1 : x < 2 ^ k := Nat.lt_of_lt_of_le h1 (Nat.pow_le_pow_right (by omega) hx)
  have e2 : y < 2 ^ k := Nat.lt_of_lt_of_le h2 (Nat.pow_le_pow_right (by omega) hy)
  rw [Nat.pow_succ]; omega
theorem sumV_le (a b : Bool) (x y : Nat) : sumV a b x y ≤ x + y := by unfold sumV; split <;> (try split) <;> omega
theorem sumV_bits (a b : Bool) (x y k : Nat) (hx : (nb x).length ≤ k) (hy : (nb y).length ≤ k) : (nb (sumV a b x y)).length ≤ k + 1 := Nat.le_trans (nb_mono _ _ (sumV_le a b x y)) (sum_bits x y k hx hy)
/-- The sum in lowest terms: its sign, what is above the bar, what is below. -/
def addN (b1 : Bool) (n1 d1 : Nat) (b2 : Bool) (n2 d2 : Nat) : Nat := sumV b1 b2 (n1 * d2) (n2 * d1) / Nat.gcd (sumV b1 b2 (n1 * d2) (n2 * d1)) (d1 * d2)
def addD (b1 : Bool) (n1 d1 : Nat) (b2 : Bool) (n2 d2 : Nat) : Nat := d1 * d2 / Nat.gcd (sumV b1 b2 (n1 * d2) (n2 * d1)) (d1 * d2)
def addB (b1 : Bool) (n1 d1 : Nat) (b2 : Bool) (n2 d2 : Nat) : Bool := sumB b1 b2 (n1 * d2) (n2 * d1) && decide (sumV b1 b2 (n1 * d2) (n2 * d1) / Nat.gcd (sumV b1 b2 (n1 * d2) (n2 * d1)) (d1 * d2) ≠ 0)
/-- The sign of a sum. -/
theorem sgn_add (b1 b2 : Bool) (n1 d1 n2 d2 : Nat) (hd1 : d1 ≠ 0) (hd2 : d2 ≠ 0) : sgn (addB b1 n1 d1 b2 n2 d2) (addN b1 n1 d1 b2 n2 d2) = cmpI (sv b1 (n1 * d2) + sv b2 (n2 * d1)) 0 := by
  have hD : d1 * d2 ≠ 0 := fun h => by rcases Nat.mul_eq_zero.1 h with h | h <;> contradiction
  have hg : Nat.gcd (sumV b1 b2 (n1 * d2) (n2 * d1)) (d1 * d2) ≠ 0 := fun h => hD (Nat.eq_zero_of_gcd_eq_zero_right h)
  unfold addB addN
  rw [sgn_flag, sgn_quot _ _ _ hg (Nat.gcd_dvd_left _ _), sgn_sv, sum_sv]
end Go.Proofs.YtefckmkcbgckfaaGreatDoor.RefZ

/- Sums of fractions in lowest terms: only what the numbers below the bar have in common can be taken out of the sum. -/
namespace Go.Proofs.YtefckmkcbgckfaaGreatDoor.AddN
open Mem LimbNum QNum RefZ

theorem sumV_dvd {a b : Bool} {x y c : Nat} (h1 : c ∣ sumV a b x y) (h2 : c ∣ y) : c ∣ x := by
  unfold sumV at h1
  split at h1
  · exact (Nat.dvd_add_left h2).1 h1
  · split at h1
    · rename_i h; have := Nat.dvd_add h1 h2; rwa [Nat.sub_add_cancel h] at this
    · rename_i h
      have h3 : y = (y - x) + x := by omega
      rw [h3] at h2
      exact (Nat.dvd_add_right h1).1 h2
theorem sumV_dvd2 {a b : Bool} {x y c : Nat} (h1 : c ∣ sumV a b x y) (h2 : c ∣ x) : c ∣ y := by
  unfold sumV at h1
  split at h1
  · exact (Nat.dvd_add_right h2).1 h1
  · split at h1
    · rename_i h
      have h3 : x = (x - y) + y := by omega
      rw [h3] at h2
      exact (Nat.dvd_add_right h1).1 h2
    · rename_i h; have := Nat.dvd_add h1 h2; rwa [Nat.sub_add_cancel (by omega)] at this
theorem sumV_mul (a b : Bool) (x y g : Nat) (hg : 0 < g) : sumV a b (g * x) (g * y) = g * sumV a b x y := by
  unfold sumV
  split
  · rw [Nat.mul_add]
  · by_cases h : y ≤ x
    · rw [if_pos h, if_pos (Nat.mul_le_mul_left g h), Nat.mul_sub]
    · rw [if_neg h, if_neg (fun e => h (Nat.le_of_mul_le_mul_left e hg)), Nat.mul_sub]
theorem sumB_mul (a b : Bool) (x y g : Nat) (hg : 0 < g) : sumB a b (g * x) (g * y) = sumB a b x y := by
  unfold sumB
  split
  · rfl
  · by_cases h : y ≤ x
    · rw [if_pos h, if_pos (Nat.mul_le_mul_left g h)]
    · rw [if_neg h, if_neg (fun e => h (Nat.le_of_mul_le_mul_left e hg))]
theorem co_of {a b : Nat} (h : ∀ c, c ∣ a → c ∣ b → c = 1) : Nat.Coprime a b := h _ (Nat.gcd_dvd_left _ _) (Nat.gcd_dvd_right _ _)
/-- The sum, by the small divisor. -/
theorem sum_low {n1 d1 n2 d2 : Nat} (b1 b2 : Bool) (h1 : Nat.gcd n1 d1 = 1) (h2 : Nat.gcd n2 d2 = 1) (p1 : 1 ≤ d1) (p2 : 1 ≤ d2) :
    addN b1 n1 d1 b2 n2 d2 = sumV b1 b2 (n1 * (d2 / Nat.gcd d1 d2)) (n2 * (d1 / Nat.gcd d1 d2)) / Nat.gcd (sumV b1 b2 (n1 * (d2 / Nat.gcd d1 d2)) (n2 * (d1 / Nat.gcd d1 d2))) (Nat.gcd d1 d2) ∧
    addD b1 n1 d1 b2 n2 d2 = d1 / Nat.gcd d1 d2 * (d2 / Nat.gcd (sumV b1 b2 (n1 * (d2 / Nat.gcd d1 d2)) (n2 * (d1 / Nat.gcd d1 d2))) (Nat.gcd d1 d2)) ∧
    sumB b1 b2 (n1 * d2) (n2 * d1) = sumB b1 b2 (n1 * (d2 / Nat.gcd d1 d2)) (n2 * (d1 / Nat.gcd d1 d2)) ∧
    1 ≤ addD b1 n1 d1 b2 n2 d2 ∧ Nat.gcd (addN b1 n1 d1 b2 n2 d2) (addD b1 n1 d1 b2 n2 d2) = 1 := by
  have g0 : 0 < Nat.gcd d1 d2 := Nat.gcd_pos_of_pos_right _ p2
  have e1 : d1 = Nat.gcd d1 d2 * (d1 / Nat.gcd d1 d2) := (Nat.mul_div_cancel' (Nat.gcd_dvd_left _ _)).symm
  have e2 : d2 = Nat.gcd d1 d2 * (d2 / Nat.gcd d1 d2) := (Nat.mul_div_cancel' (Nat.gcd_dvd_right _ _)).symm
  have cR : Nat.Coprime (d1 / Nat.gcd d1 d2) (d2 / Nat.gcd d1 d2) := Nat.coprime_div_gcd_div_gcd g0
  have c1 : Nat.Coprime n1 (d1 / Nat.gcd d1 d2) := Nat.Coprime.coprime_dvd_right (Nat.div_dvd_of_dvd (Nat.gcd_dvd_left _ _)) h1
  have c2 : Nat.Coprime n2 (d2 / Nat.gcd d1 d2) := Nat.Coprime.coprime_dvd_right (Nat.div_dvd_of_dvd (Nat.gcd_dvd_right _ _)) h2
  generalize hg : Nat.gcd d1 d2 = g at *
  generalize hr : d1 / g = r at *
  generalize hs : d2 / g = s at *
  -- num is coprime to r and to s
  generalize hx : n1 * s = x at *
  generalize hy : n2 * r = y at *
  have q1 : Nat.Coprime (sumV b1 b2 x y) r := co_of fun c ha hb => by
    have h3 : c ∣ y := by rw [← hy]; exact Nat.dvd_mul_left_of_dvd hb n2
    have h4 : c ∣ x := sumV_dvd ha h3
    rw [← hx] at h4
    have h5 : Nat.Coprime c (n1 * s) := Nat.Coprime.mul_right (Nat.Coprime.symm (Nat.Coprime.coprime_dvd_right hb c1)) (Nat.Coprime.coprime_dvd_left hb cR)
    exact Nat.Coprime.eq_one_of_dvd h5 h4
  have q2 : Nat.Coprime (sumV b1 b2 x y) s := co_of fun c ha hb => by
    have h3 : c ∣ x := by rw [← hx]; exact Nat.dvd_mul_left_of_dvd hb n1
    have h4 : c ∣ y := sumV_dvd2 ha h3
    rw [← hy] at h4
    have h5 : Nat.Coprime c (n2 * r) := Nat.Coprime.mul_right (Nat.Coprime.symm (Nat.Coprime.coprime_dvd_right hb c2)) (Nat.Coprime.symm (Nat.Coprime.coprime_dvd_right hb cR))
    exact Nat.Coprime.eq_one_of_dvd h5 h4
  have f1 : n1 * d2 = g * x := by rw [e2, ← hx]; grind
  have f2 : n2 * d1 = g * y := by rw [e1, ← hy]; grind
  have f3 : d1 * d2 = g * (r * d2) := by rw [e1]; grind
  have f4 : Nat.gcd (sumV b1 b2 x y) (r * d2) = Nat.gcd (sumV b1 b2 x y) g := by
    rw [e2, show r * (g * s) = (r * s) * g by grind]
    exact Nat.Coprime.gcd_mul_left_cancel_right g (Nat.Coprime.symm (Nat.Coprime.mul_right q1 q2))
  have hH : Nat.gcd (sumV b1 b2 x y) g ∣ d2 := Nat.dvd_trans (Nat.gcd_dvd_right _ _) ⟨s, e2⟩
  have hp : 0 < Nat.gcd (sumV b1 b2 x y) g := Nat.gcd_pos_of_pos_right _ g0
  have f5 : addN b1 n1 d1 b2 n2 d2 = sumV b1 b2 x y / Nat.gcd (sumV b1 b2 x y) g := by
    unfold addN
    rw [f1, f2, f3, sumV_mul _ _ _ _ _ g0, Nat.gcd_mul_left, f4, Nat.mul_div_mul_left _ _ g0]
  have f6 : addD b1 n1 d1 b2 n2 d2 = r * (d2 / Nat.gcd (sumV b1 b2 x y) g) := by
    unfold addD
    rw [f1, f2, f3, sumV_mul _ _ _ _ _ g0, Nat.gcd_mul_left, f4, Nat.mul_div_mul_left _ _ g0, Nat.mul_div_assoc _ hH]
  have hD : 0 < d1 * d2 := Nat.mul_pos p1 p2
  have hG : 0 < Nat.gcd (sumV b1 b2 (n1 * d2) (n2 * d1)) (d1 * d2) := Nat.gcd_pos_of_pos_right _ hD
  refine ⟨f5, f6, ?_, ?_, ?_⟩
  · rw [f1, f2, sumB_mul _ _ _ _ _ g0]
  · unfold addD
    exact (Nat.one_le_div_iff hG).2 (Nat.le_of_dvd hD (Nat.gcd_dvd_right _ _))
  · unfold addN addD
    exact Nat.coprime_div_gcd_div_gcd hG
end Go.Proofs.YtefckmkcbgckfaaGreatDoor.AddN

/- Rational numbers, the program's: which of two sizes is greater; order. -/
namespace Go.Proofs.YtefckmkcbgckfaaGreatDoor.CmpL
open Go.RowKit Mem LimbNum Limb1 Limb2 NatL GcdA RatL RatM RatN RatF RatO MulN MulW MulL QNum

/-- Two words each, the higher first. -/
theorem words_cmp (X Y : Nat) : (X / 18446744073709551616 < Y / 18446744073709551616 ∧ cmpV X Y = -1) ∨ (X / 18446744073709551616 = Y / 18446744073709551616 ∧ X % 18446744073709551616 < Y % 18446744073709551616 ∧ cmpV X Y = -1) ∨
    (X / 18446744073709551616 = Y / 18446744073709551616 ∧ X % 18446744073709551616 = Y % 18446744073709551616 ∧ cmpV X Y = 0) ∨ (X / 18446744073709551616 = Y / 18446744073709551616 ∧ Y % 18446744073709551616 < X % 18446744073709551616 ∧ cmpV X Y = 1) ∨ (Y / 18446744073709551616 < X / 18446744073709551616 ∧ cmpV X Y = 1) := by
  have e1 := Nat.div_add_mod X 18446744073709551616
  have e2 := Nat.div_add_mod Y 18446744073709551616
  have l1 := Nat.mod_lt X (show 18446744073709551616 > 0 by decide)
  have l2 := Nat.mod_lt Y (show 18446744073709551616 > 0 by decide)
  generalize X / 18446744073709551616 = a at *
  generalize Y / 18446744073709551616 = b at *
  generalize X % 18446744073709551616 = c at *
  generalize Y % 18446744073709551616 = d at *
  have hX : ∀ k : Int, (X < Y ∧ k = -1) ∨ (X = Y ∧ k = 0) ∨ (Y < X ∧ k = 1) → cmpV X Y = k := by
    rintro k (⟨h, rfl⟩ | ⟨h, rfl⟩ | ⟨h, rfl⟩)
    · simp [cmpV, h]
    · simp [cmpV, h]
    · unfold cmpV; rw [if_neg (by omega), if_neg (by omega)]
  rcases Nat.lt_trichotomy a b with h | h | h
  · exact .inl ⟨h, hX _ (.inl ⟨by omega, rfl⟩)⟩
  · subst h
    rcases Nat.lt_trichotomy c d with h2 | h2 | h2
    · exact .inr (.inl ⟨rfl, h2, hX _ (.inl ⟨by omega, rfl⟩)⟩)
    · exact .inr (.inr (.inl ⟨rfl, h2, hX _ (.inr (.inl ⟨by omega, rfl⟩))⟩))
    · exact .inr (.inr (.inr (.inl ⟨rfl, h2, hX _ (.inr (.inr ⟨by omega, rfl⟩))⟩)))
  · exact .inr (.inr (.inr (.inr ⟨h, hX _ (.inr (.inr ⟨by omega, rfl⟩))⟩)))
set_option maxRecDepth 20000 in
set_option maxHeartbeats 2000000 in
theorem sizes_words (b1 b2 : Bool) (n1 d1 n2 d2 : Nat) (w : World) (q1 : n1 < 18446744073709551616) (q2 : d1 < 18446744073709551616) (q3 : n2 < 18446744073709551616) (q4 : d2 < 18446744073709551616) (p1 : 1 ≤ d1) (p2 : 1 ≤ d2) :
    Calls Tryz.prog 35 #[.agg #[.bool b1, .int .u64 (n1 : Int), .int .u64 ((d1 : Int) - 1), .pointer none], .agg #[.bool b2, .int .u64 (n2 : Int), .int .u64 ((d2 : Int) - 1), .pointer none]] w fun e w' => e = .returned (.int .i64 (cmpV (n1 * d2) (n2 * d1))) ∧ Below w.heap.size w w' := by
  have cD1 := fun (W : World) => den_any b1 (n1 : Int) (d1 : Int) none W (by omega) (by omega)
  have cD2 := fun (W : World) => den_any b2 (n2 : Int) (d2 : Int) none W (by omega) (by omega)
  have cM1 := fun (W : World) => Tryz.bits_Mul64 n1 d2 q1 q4 W
  have cM2 := fun (W : World) => Tryz.bits_Mul64 n2 d1 q3 q2 W
  have hC := words_cmp (n1 * d2) (n2 * d1)
  obtain ⟨XH, eXH⟩ : ∃ x : Int, ((n1 * d2 / 18446744073709551616 : Nat) : Int) = x := ⟨_, rfl⟩
  obtain ⟨XL, eXL⟩ : ∃ x : Int, ((n1 * d2 % 18446744073709551616 : Nat) : Int) = x := ⟨_, rfl⟩
  obtain ⟨YH, eYH⟩ : ∃ x : Int, ((n2 * d1 / 18446744073709551616 : Nat) : Int) = x := ⟨_, rfl⟩
  obtain ⟨YL, eYL⟩ : ∃ x : Int, ((n2 * d1 % 18446744073709551616 : Nat) : Int) = x := ⟨_, rfl⟩
  rw [eXH, eXL] at cM1
  rw [eYH, eYL] at cM2
  have HC : Hid ((XH < YH ∧ cmpV (n1 * d2) (n2 * d1) = -1) ∨ (XH = YH ∧ XL < YL ∧ cmpV (n1 * d2) (n2 * d1) = -1) ∨ (XH = YH ∧ XL = YL ∧ cmpV (n1 * d2) (n2 * d1) = 0) ∨ (XH = YH ∧ YL < XL ∧ cmpV (n1 * d2) (n2 * d1) = 1) ∨ (YH < XH ∧ cmpV (n1 * d2) (n2 * d1) = 1)) := by
    rw [← eXH, ← eXL, ← eYH, ← eYL]
    unfold Hid
    rcases hC with ⟨h, h2⟩ | ⟨h, h1, h2⟩ | ⟨h, h1, h2⟩ | ⟨h, h1, h2⟩ | ⟨h, h2⟩
    · exact .inl ⟨by exact_mod_cast h, h2⟩
    · exact .inr (.inl ⟨by rw [h], by exact_mod_cast h1, h2⟩)
    · exact .inr (.inr (.inl ⟨by rw [h], by rw [h1], h2⟩))
    · exact .inr (.inr (.inr (.inl ⟨by rw [h], by exact_mod_cast h1, h2⟩)))
    · exact .inr (.inr (.inr (.inr ⟨by exact_mod_cast h, h2⟩)))
  clear hC eXH eXL eYH eYL q1 q2 q3 q4 p1 p2
  generalize cmpV (n1 * d2) (n2 * d1) = C at *
  generalize (n1 : Int) = N1 at *
  generalize (n2 : Int) = N2 at *
  generalize (d1 : Int) = D1 at *
  generalize (d2 : Int) = D2 at *
  obtain ⟨W0, eW0, hb0, hk0, hk1⟩ := two_new w (.cells #[.bool b1, .int .u64 N1, .int .u64 (D1 - 1), .pointer none] 28) (.cells #[.bool b2, .int .u64 N2, .int .u64 (D2 - 1), .pointer none] 28)
  have s0 : W0.drew.cell? ⟨w.heap.size, 0, none⟩ = some (.bool b1) ∧ W0.drew.cell? ⟨w.heap.size, 1, none⟩ = some (.int .u64 N1) ∧ W0.drew.cell? ⟨w.heap.size, 2, none⟩ = some (.int .u64 (D1 - 1)) ∧ W0.drew.cell? ⟨w.heap.size, 3, none⟩ = some (.pointer none) ∧ W0.drew.cell? ⟨w.heap.size + 1, 0, none⟩ = some (.bool b2) ∧ W0.drew.cell? ⟨w.heap.size + 1, 1, none⟩ = some (.int .u64 N2) ∧ W0.drew.cell? ⟨w.heap.size + 1, 2, none⟩ = some (.int .u64 (D2 - 1)) ∧ W0.drew.cell? ⟨w.heap.size + 1, 3, none⟩ = some (.pointer none) := by
    obtain ⟨a0, a1, a2, a3⟩ := box0 hk0
    obtain ⟨c0, c1, c2, c3⟩ := box0 hk1
    exact ⟨a0, a1, a2, a3, c0, c1, c2, c3⟩
  obtain ⟨u0, u1, u2, u3, u4, u5, u6, u7⟩ : W0.cell? ⟨w.heap.size, 0, none⟩ = some (.bool b1) ∧ W0.cell? ⟨w.heap.size, 1, none⟩ = some (.int .u64 N1) ∧ W0.cell? ⟨w.heap.size, 2, none⟩ = some (.int .u64 (D1 - 1)) ∧ W0.cell? ⟨w.heap.size, 3, none⟩ = some (.pointer none) ∧ W0.cell? ⟨w.heap.size + 1, 0, none⟩ = some (.bool b2) ∧ W0.cell? ⟨w.heap.size + 1, 1, none⟩ = some (.int .u64 N2) ∧ W0.cell? ⟨w.heap.size + 1, 2, none⟩ = some (.int .u64 (D2 - 1)) ∧ W0.cell? ⟨w.heap.size + 1, 3, none⟩ = some (.pointer none) := id s0
  have hb0d := hb0.drew
  have EW : Hid (_ = W0) := eW0
  clear eW0 hk0 hk1
  go_enter Tryz.func35, Tryz.ntmps35
  go_upto_region 1 with fail
  rw [EW.out]
  go_wp2
  go_region_held3 (fun w' => w'.cell? ⟨w.heap.size, 0, none⟩ = some (.bool b1) ∧ w'.cell? ⟨w.heap.size, 1, none⟩ = some (.int .u64 N1) ∧ w'.cell? ⟨w.heap.size, 2, none⟩ = some (.int .u64 (D1 - 1)) ∧ w'.cell? ⟨w.heap.size, 3, none⟩ = some (.pointer none) ∧ w'.cell? ⟨w.heap.size + 1, 0, none⟩ = some (.bool b2) ∧ w'.cell? ⟨w.heap.size + 1, 1, none⟩ = some (.int .u64 N2) ∧ w'.cell? ⟨w.heap.size + 1, 2, none⟩ = some (.int .u64 (D2 - 1)) ∧ w'.cell? ⟨w.heap.size + 1, 3, none⟩ = some (.pointer none)) (first | with_reducible exact s0 | with_reducible exact s1) (first
    | (go_at_call 66; refine (cD2 _).mono ?_; rintro e w1 ⟨rfl, hb1⟩; have s1 := eight_kept hb1 s0)
    | (go_at_call 65; refine (cM1 _).mono ?_; rintro e w2 ⟨rfl, hw⟩; have hw2 := hw.symm; clear hw; subst hw2))
  have H1 := (bt hb0d hb1).drew
  have s2 : w1.drew.cell? ⟨w.heap.size, 0, none⟩ = some (.bool b1) ∧ w1.drew.cell? ⟨w.heap.size, 1, none⟩ = some (.int .u64 N1) ∧ w1.drew.cell? ⟨w.heap.size, 2, none⟩ = some (.int .u64 (D1 - 1)) ∧ w1.drew.cell? ⟨w.heap.size, 3, none⟩ = some (.pointer none) ∧ w1.drew.cell? ⟨w.heap.size + 1, 0, none⟩ = some (.bool b2) ∧ w1.drew.cell? ⟨w.heap.size + 1, 1, none⟩ = some (.int .u64 N2) ∧ w1.drew.cell? ⟨w.heap.size + 1, 2, none⟩ = some (.int .u64 (D2 - 1)) ∧ w1.drew.cell? ⟨w.heap.size + 1, 3, none⟩ = some (.pointer none) := s1
  clear s0 s1 hb0d hb1 cM1 cD2
  clear u0 u1 u2 u3 u4 u5 u6 u7
  all_goals go_wp2
  go_region_held3 (fun w' => w'.cell? ⟨w.heap.size, 0, none⟩ = some (.bool b1) ∧ w'.cell? ⟨w.heap.size, 1, none⟩ = some (.int .u64 N1) ∧ w'.cell? ⟨w.heap.size, 2, none⟩ = some (.int .u64 (D1 - 1)) ∧ w'.cell? ⟨w.heap.size, 3, none⟩ = some (.pointer none) ∧ w'.cell? ⟨w.heap.size + 1, 0, none⟩ = some (.bool b2) ∧ w'.cell? ⟨w.heap.size + 1, 1, none⟩ = some (.int .u64 N2) ∧ w'.cell? ⟨w.heap.size + 1, 2, none⟩ = some (.int .u64 (D2 - 1)) ∧ w'.cell? ⟨w.heap.size + 1, 3, none⟩ = some (.pointer none)) (first | with_reducible exact s2 | with_reducible exact s3) (first
    | (go_at_call 66; refine (cD1 _).mono ?_; rintro e w3 ⟨rfl, hb3⟩; have s3 := eight_kept hb3 s2)
    | (go_at_call 65; refine (cM2 _).mono ?_; rintro e w4 ⟨rfl, hw⟩; have hw2 := hw.symm; clear hw; subst hw2))
  have H3 := bt H1 hb3
  clear s2 s3 H1 hb3 cM2 cD1
  rcases HC.out with ⟨h, rfl⟩ | ⟨rfl, h1, rfl⟩ | ⟨rfl, rfl, rfl⟩ | ⟨rfl, h1, rfl⟩ | ⟨h, rfl⟩
  · clear HC
    all_goals go_wp2
    go_ret
    exact ⟨rfl, H3⟩
  · clear HC
    all_goals go_wp2
    go_ret
    exact ⟨rfl, H3⟩
  · clear HC
    all_goals go_wp2
    go_ret
    exact ⟨rfl, H3⟩
  · clear HC
    have h2 : ¬ XL < YL := by omega
    have h3 : (XL == YL) = false := by rw [beq_eq_false_iff_ne]; omega
    all_goals go_wp2
    go_ret
    exact ⟨rfl, H3⟩
  · clear HC
    have h2 : ¬ XH < YH := by omega
    have h3 : (XH == YH) = false := by rw [beq_eq_false_iff_ne]; omega
    all_goals go_wp2
    go_ret
    exact ⟨rfl, H3⟩
set_option maxRecDepth 20000 in
set_option maxHeartbeats 2000000 in
theorem sizes_lists (b1 b2 : Bool) (n1 d1 n2 d2 : Nat) (A1 L1 A2 L2 : Int) (p1 p2 : Option Addr) (w : World) (h1 : IsRat w (.agg #[.bool b1, .int .u64 A1, .int .u64 L1, .pointer p1]) b1 n1 d1) (h2 : IsRat w (.agg #[.bool b2, .int .u64 A2, .int .u64 L2, .pointer p2]) b2 n2 d2) (hp : p1 ≠ none ∨ p1 = none ∧ p2 ≠ none)
    (l1 : (nl n1).length ≤ 1000000) (l2 : (nl d1).length ≤ 1000000) (l3 : (nl n2).length ≤ 1000000) (l4 : (nl d2).length ≤ 1000000) :
    Calls Tryz.prog 35 #[.agg #[.bool b1, .int .u64 A1, .int .u64 L1, .pointer p1], .agg #[.bool b2, .int .u64 A2, .int .u64 L2, .pointer p2]] w fun e w' => e = .returned (.int .i64 (cmpV (n1 * d2) (n2 * d1))) ∧ Below w.heap.size w w' := by
  have cSp1 := fun (W : World) (hb : Below w.heap.size w W) => spread_any _ b1 n1 d1 W (h1.below hb)
  have cSp2 := fun (W : World) (hb : Below w.heap.size w W) => spread_any _ b2 n2 d2 W (h2.below hb)
  have cM1 := fun (W : World) (o o' : Option Addr) (c c' : Nat) (h : Lies W o c (ints .u32 (nl n1))) (h' : Lies W o' c' (ints .u32 (nl d2))) => mul_nl n1 d2 o o' c c' W h h' (by omega) (by omega)
  have cM2 := fun (W : World) (o o' : Option Addr) (c c' : Nat) (h : Lies W o c (ints .u32 (nl n2))) (h' : Lies W o' c' (ints .u32 (nl d1))) => mul_nl n2 d1 o o' c c' W h h' (by omega) (by omega)
  have cC := fun (W : World) (o o' : Option Addr) (c c' : Nat) (h : Lies W o c (ints .u32 (nl (n1 * d2)))) (h' : Lies W o' c' (ints .u32 (nl (n2 * d1)))) => cmp_any (nl (n1 * d2)) (nl (n2 * d1)) o o' c c' W h h' (small_nl _) (small_nl _)
  simp only [val_nl] at cC
  generalize cmpV (n1 * d2) (n2 * d1) = C at *
  generalize n1 * d2 = X at *
  generalize n2 * d1 = Y at *
  clear h1 h2 l1 l2 l3 l4
  obtain ⟨W0, eW0, hb0, hk0, hk1⟩ := two_new w (.cells #[.bool b1, .int .u64 A1, .int .u64 L1, .pointer p1] 28) (.cells #[.bool b2, .int .u64 A2, .int .u64 L2, .pointer p2] 28)
  have EW : Hid (_ = W0) := eW0
  have HK1 : Hid (W0.heap[w.heap.size + 1]? = some (.cells #[.bool b2, .int .u64 A2, .int .u64 L2, .pointer p2] 28)) := hk1
  obtain ⟨a0, a1, a2, a3⟩ := box0 hk0
  obtain ⟨c0, c1, c2, c3⟩ := box0 hk1
  clear eW0 hk0 hk1
  have T1 : True := trivial
  have T2 : True := trivial
  rcases hp with hp | ⟨rfl, hp⟩
  · obtain ⟨q, rfl⟩ : ∃ q, p1 = some q := by cases p1 with | none => exact absurd rfl hp | some q => exact ⟨q, rfl⟩
    clear hp
    go_enter Tryz.func35, Tryz.ntmps35
    go_upto_region 1 with fail
    rw [EW.out]
    go_wp2_with (first
      | (go_at_call 45; have _t := T1; clear _t T1; refine (cSp1 _ hb0).mono ?_; rintro e w1 ⟨o1, k1, o2, k2, rfl, y1, y2, hb1⟩; have H1 := bt hb0 hb1; have kw := box_kept HK1.out hb1 (in_heap HK1.out); obtain ⟨x0, x1, x2, x3⟩ := box0 kw; clear kw)
      | (go_at_call 45; refine (cSp2 _ H1).mono ?_; rintro e w2 ⟨o3, k3, o4, k4, rfl, y3, y4, hb2⟩; have H2 := bt H1 hb2)
      | (go_at_call 52; have _t := T2; clear _t T2; refine (cM1 _ _ _ _ _ (y1.below hb2 (Nat.le_refl _)) y4).mono ?_; rintro e w3 ⟨o5, k5, rfl, y5, hb3⟩; have H3 := bt H2 hb3)
      | (go_at_call 52; refine (cM2 _ _ _ _ _ (y3.below hb3 (Nat.le_refl _)) ((y2.below hb2 (Nat.le_refl _)).below hb3 (Nat.le_refl _))).mono ?_; rintro e w4 ⟨o6, k6, rfl, y6, hb4⟩; have H4 := bt H3 hb4)
      | (go_at_call 64; refine (cC _ _ _ _ _ (y5.below hb4 (Nat.le_refl _)) y6).mono ?_; rintro e w5 ⟨rfl, hb5⟩; have H5 := bt H4 hb5))
    go_ret
    exact ⟨rfl, H5⟩
  · obtain ⟨q, rfl⟩ : ∃ q, p2 = some q := by cases p2 with | none => exact absurd rfl hp | some q => exact ⟨q, rfl⟩
    clear hp
    go_enter Tryz.func35, Tryz.ntmps35
    go_upto_region 1 with fail
    rw [EW.out]
    go_wp2_with (first
      | (go_at_call 45; have _t := T1; clear _t T1; refine (cSp1 _ hb0).mono ?_; rintro e w1 ⟨o1, k1, o2, k2, rfl, y1, y2, hb1⟩; have H1 := bt hb0 hb1; have kw := box_kept HK1.out hb1 (in_heap HK1.out); obtain ⟨x0, x1, x2, x3⟩ := box0 kw; clear kw)
      | (go_at_call 45; refine (cSp2 _ H1).mono ?_; rintro e w2 ⟨o3, k3, o4, k4, rfl, y3, y4, hb2⟩; have H2 := bt H1 hb2)
      | (go_at_call 52; have _t := T2; clear _t T2; refine (cM1 _ _ _ _ _ (y1.below hb2 (Nat.le_refl _)) y4).mono ?_; rintro e w3 ⟨o5, k5, rfl, y5, hb3⟩; have H3 := bt H2 hb3)
      | (go_at_call 52; refine (cM2 _ _ _ _ _ (y3.below hb3 (Nat.le_refl _)) ((y2.below hb2 (Nat.le_refl _)).below hb3 (Nat.le_refl _))).mono ?_; rintro e w4 ⟨o6, k6, rfl, y6, hb4⟩; have H4 := bt H3 hb4)
      | (go_at_call 64; refine (cC _ _ _ _ _ (y5.below hb4 (Nat.le_refl _)) y6).mono ?_; rintro e w5 ⟨rfl, hb5⟩; have H5 := bt H4 hb5))
    go_ret
    exact ⟨rfl, H5⟩
theorem sizes_any (v1 v2 : Value) (b1 b2 : Bool) (n1 d1 n2 d2 : Nat) (w : World) (h1 : IsRat w v1 b1 n1 d1) (h2 : IsRat w v2 b2 n2 d2) (l1 : (nl n1).length ≤ 1000000) (l2 : (nl d1).length ≤ 1000000) (l3 : (nl n2).length ≤ 1000000) (l4 : (nl d2).length ≤ 1000000) :
    Calls Tryz.prog 35 #[v1, v2] w fun e w' => e = .returned (.int .i64 (cmpV (n1 * d2) (n2 * d1))) ∧ Below w.heap.size w w' := by
  have h1' := h1
  have h2' := h2
  obtain ⟨lo1, ⟨q1, q2, rfl⟩ | ⟨_, g, _, _, _, _, rfl, _⟩⟩ := h1
  · obtain ⟨lo2, ⟨q3, q4, rfl⟩ | ⟨_, g, _, _, _, _, rfl, _⟩⟩ := h2
    · exact sizes_words b1 b2 n1 d1 n2 d2 w q1 q2 q3 q4 lo1.pos lo2.pos
    · exact sizes_lists b1 b2 n1 d1 n2 d2 _ _ _ _ _ _ w h1' h2' (.inr ⟨rfl, by simp⟩) l1 l2 l3 l4
  · obtain ⟨A2, L2, p2, rfl⟩ := h2'.shape
    exact sizes_lists b1 b2 n1 d1 n2 d2 _ _ _ _ _ _ w h1' h2' (.inl (by simp)) l1 l2 l3 l4
end Go.Proofs.YtefckmkcbgckfaaGreatDoor.CmpL

/- Rational numbers, the program's: order, the lesser and the greater one. -/
namespace Go.Proofs.YtefckmkcbgckfaaGreatDoor.CmqL
open Go.RowKit Mem LimbNum Limb1 Limb2 NatL GcdA RatL RatM RatN RatF RatO MulN MulW MulL InvL QNum CmpL

set_option maxRecDepth 20000 in
set_option maxHeartbeats 2000000 in
theorem cmp_q (v1 v2 : Value) (b1 b2 : Bool) (n1 d1 n2 d2 : Nat) (w : World) (h1 : IsRat w v1 b1 n1 d1) (h2 : IsRat w v2 b2 n2 d2) (l1 : (nl n1).length ≤ 1000000) (l2 : (nl d1).length ≤ 1000000) (l3 : (nl n2).length ≤ 1000000) (l4 : (nl d2).length ≤ 1000000) :
    Calls Tryz.prog 11 #[v1, v2] w fun e w' => e = .returned (.int .i64 (cmpQ b1 n1 d1 b2 n2 d2)) ∧ Below w.heap.size w w' := by
  rw [cmp_cases b1 b2 n1 d1 n2 d2 h1.1.sg h2.1.sg h1.1.pos h2.1.pos]
  have cS1 := fun (W : World) (hb : Below w.heap.size w W) => sign_any v1 b1 n1 d1 W (h1.below hb)
  have cS2 := fun (W : World) (hb : Below w.heap.size w W) => sign_any v2 b2 n2 d2 W (h2.below hb)
  have cZ1 := fun (W : World) (hb : Below w.heap.size w W) => sizes_any v1 v2 b1 b2 n1 d1 n2 d2 W (h1.below hb) (h2.below hb) l1 l2 l3 l4
  have cZ2 := fun (W : World) (hb : Below w.heap.size w W) => sizes_any v2 v1 b2 b1 n2 d2 n1 d1 W (h2.below hb) (h1.below hb) l3 l4 l1 l2
  obtain ⟨A1, L1, p1, rfl⟩ := h1.shape
  obtain ⟨A2, L2, p2, rfl⟩ := h2.shape
  clear h1 h2 l1 l2 l3 l4
  generalize cmpV (n1 * d2) (n2 * d1) = C1 at *
  generalize cmpV (n2 * d1) (n1 * d2) = C2 at *
  generalize sgn b1 n1 = S1 at *
  generalize sgn b2 n2 = S2 at *
  obtain ⟨W0, eW0, hb0, hk0, hk1⟩ := two_new w (.cells #[.bool b1, .int .u64 A1, .int .u64 L1, .pointer p1] 28) (.cells #[.bool b2, .int .u64 A2, .int .u64 L2, .pointer p2] 28)
  have s0 : W0.drew.cell? ⟨w.heap.size, 0, none⟩ = some (.bool b1) ∧ W0.drew.cell? ⟨w.heap.size, 1, none⟩ = some (.int .u64 A1) ∧ W0.drew.cell? ⟨w.heap.size, 2, none⟩ = some (.int .u64 L1) ∧ W0.drew.cell? ⟨w.heap.size, 3, none⟩ = some (.pointer p1) ∧ W0.drew.cell? ⟨w.heap.size + 1, 0, none⟩ = some (.bool b2) ∧ W0.drew.cell? ⟨w.heap.size + 1, 1, none⟩ = some (.int .u64 A2) ∧ W0.drew.cell? ⟨w.heap.size + 1, 2, none⟩ = some (.int .u64 L2) ∧ W0.drew.cell? ⟨w.heap.size + 1, 3, none⟩ = some (.pointer p2) := by
    obtain ⟨a0, a1, a2, a3⟩ := box0 hk0
    obtain ⟨c0, c1, c2, c3⟩ := box0 hk1
    exact ⟨a0, a1, a2, a3, c0, c1, c2, c3⟩
  have hb0d := hb0.drew
  have EW : Hid (_ = W0) := eW0
  clear eW0 hk0 hk1
  have T1 : True := trivial
  obtain ⟨R, eR⟩ : ∃ R, (if S1 < S2 then -1 else if S2 < S1 then 1 else if S1 < 0 then C2 else C1) = R := ⟨_, rfl⟩
  rw [eR]
  have ER : Hid ((if S1 < S2 then -1 else if S2 < S1 then 1 else if S1 < 0 then C2 else C1) = R) := eR
  clear eR
  go_enter Tryz.func11, Tryz.ntmps11
  go_wp2
  rw [EW.out]
  go_region_held3 (fun w' => w'.cell? ⟨w.heap.size, 0, none⟩ = some (.bool b1) ∧ w'.cell? ⟨w.heap.size, 1, none⟩ = some (.int .u64 A1) ∧ w'.cell? ⟨w.heap.size, 2, none⟩ = some (.int .u64 L1) ∧ w'.cell? ⟨w.heap.size, 3, none⟩ = some (.pointer p1) ∧ w'.cell? ⟨w.heap.size + 1, 0, none⟩ = some (.bool b2) ∧ w'.cell? ⟨w.heap.size + 1, 1, none⟩ = some (.int .u64 A2) ∧ w'.cell? ⟨w.heap.size + 1, 2, none⟩ = some (.int .u64 L2) ∧ w'.cell? ⟨w.heap.size + 1, 3, none⟩ = some (.pointer p2)) (first | with_reducible exact s0 | with_reducible exact s1 | with_reducible exact s2) (first
    | (go_at_call 34; have _t := T1; clear _t T1; refine (cS1 _ hb0d).mono ?_; rintro e w1 ⟨rfl, hb1⟩; have H1 := bt hb0d hb1; have s1 := eight_kept hb1 s0)
    | (go_at_call 34; refine (cS2 _ H1).mono ?_; rintro e w2 ⟨rfl, hb2⟩; have H2 := bt H1 hb2; have s2 := eight_kept hb2 s1))
  obtain ⟨u0, u1, u2, u3, u4, u5, u6, u7⟩ := s2
  clear s0 s1 hb0d hb1 hb2 H1 cS1 cS2
  by_cases h1 : S1 < S2
  · have e : -1 = R := by rw [← ER.out, if_pos h1]
    clear ER
    subst e
    all_goals go_wp2
    go_ret
    exact ⟨rfl, H2⟩
  · by_cases h2 : S2 < S1
    · have e : 1 = R := by rw [← ER.out, if_neg h1, if_pos h2]
      clear ER
      subst e
      all_goals go_wp2
      go_ret
      exact ⟨rfl, H2⟩
    · by_cases h3 : S1 < 0
      · have e : C2 = R := by rw [← ER.out, if_neg h1, if_neg h2, if_pos h3]
        clear ER
        subst e
        all_goals go_wp2_with (go_at_call 35; refine (cZ2 _ H2).mono ?_; rintro e w3 ⟨rfl, hb3⟩)
        go_ret
        exact ⟨rfl, bt H2 hb3⟩
      · have e : C1 = R := by rw [← ER.out, if_neg h1, if_neg h2, if_neg h3]
        clear ER
        subst e
        all_goals go_wp2_with (go_at_call 35; refine (cZ1 _ H2).mono ?_; rintro e w3 ⟨rfl, hb3⟩)
        go_ret
        exact ⟨rfl, bt H2 hb3⟩
end Go.Proofs.YtefckmkcbgckfaaGreatDoor.CmqL

/- Rational numbers, the program's: the greatest whole number below. -/
namespace Go.Proofs.YtefckmkcbgckfaaGreatDoor.FloL
open Go.RowKit Mem LimbNum Limb1 Limb2 Limb4 DivOne NatL GcdA DivAll Words AddL RatL RatM RatN RatF RatO RatW MulN MulW MulL InvL QNum CmpL CmqL

/-- The size of the greatest whole number that is at most n / d. -/
def floN (b : Bool) (n d : Nat) : Nat := if b = true ∧ n % d ≠ 0 then n / d + 1 else n / d
theorem flo_one (b : Bool) (n : Nat) : floN b n 1 = n := by unfold floN; rw [Nat.mod_one]; simp
theorem mod_low {n d : Nat} (h : Nat.gcd n d = 1) (hd : d ≠ 1) : n % d ≠ 0 := fun e => by
  have : d ∣ n := Nat.dvd_of_mod_eq_zero e
  have h2 := Nat.gcd_eq_right this
  omega
theorem flo_neg {n d : Nat} (h : Nat.gcd n d = 1) (hd : d ≠ 1) : floN true n d = n / d + 1 := by unfold floN; rw [if_pos ⟨rfl, mod_low h hd⟩]
theorem flo_pos (n d : Nat) : floN false n d = n / d := by unfold floN; simp
theorem add_nl (x y : Nat) (o1 o2 : Option Addr) (c1 c2 : Nat) (w : World) (h1 : Lies w o1 c1 (ints .u32 (nl x))) (h2 : Lies w o2 c2 (ints .u32 (nl y))) (l1 : (nl x).length ≤ 35184372088832) (l2 : (nl y).length ≤ 35184372088832) :
    Calls Tryz.prog 79 #[.slice o1 (nl x).length c1, .slice o2 (nl y).length c2] w fun e w' => ∃ o c, e = .returned (.slice o (nl (x + y)).length c) ∧ Lies w' o c (ints .u32 (nl (x + y))) ∧ Below w.heap.size w w' := by
  have := add_any (nl x) (nl y) o1 o2 c1 c2 w h1 h2 (small_nl _) (small_nl _) l1 l2
  rw [val_nl, val_nl] at this
  refine this.mono ?_
  rintro e w' ⟨o, c, rfl, ho, hb⟩
  exact ⟨o, c, rfl, lies_of_owns ho, hb⟩
theorem div_nl (x y : Nat) (o1 o2 : Option Addr) (c1 c2 : Nat) (w : World) (h1 : Lies w o1 c1 (ints .u32 (nl x))) (h2 : Lies w o2 c2 (ints .u32 (nl y))) (h0 : y ≠ 0) (l1 : (nl x).length ≤ 35184372088832) (l2 : (nl y).length ≤ 35184372088832) :
    Calls Tryz.prog 51 #[.slice o1 (nl x).length c1, .slice o2 (nl y).length c2] w fun e w' => ∃ o c o' c', e = .returned (.tuple #[.slice o (nl (x / y)).length c, .slice o' (nl (x % y)).length c', .bool true]) ∧ Lies w' o c (ints .u32 (nl (x / y))) ∧ Lies w' o' c' (ints .u32 (nl (x % y))) ∧ Below w.heap.size w w' := by
  have := divmod_any (nl x) (nl y) o1 o2 c1 c2 w h1 h2 (small_nl _) (small_nl _) (by rw [val_nl]; exact h0) (by omega) l2
  rw [val_nl, val_nl] at this
  refine this.mono ?_
  rintro e w' ⟨o, c, o', c', rfl, ho, ho', hb⟩
  exact ⟨o, c, o', c', rfl, lies_of_owns ho, lies_of_owns ho', hb⟩
theorem _root_.Go.Proofs.YtefckmkcbgckfaaGreatDoor.FloL.drewL {w w' : World} {o : Option Addr} {c : Nat} {xs : List Value} (h : Lies w o c xs) (hb : Below w.drew.heap.size w.drew w') : Lies w' o c xs :=
  (h.below (B := w.heap.size) (Below.refl _ _).drew (Nat.le_refl _)).below hb (Nat.le_refl _)
end Go.Proofs.YtefckmkcbgckfaaGreatDoor.FloL

/- RatDivs: quotients and inverses are exact, and dividing by 0 is refused: the walk. -/
namespace Go.Proofs.YtefckmkcbgckfaaGreatDoor.DvW
open Go.RowKit Mem LimbNum Limb1 RatL RatM RatN RatF RefR RefT RefU RefI Law5 Aw5 Mk5 Bo5 BoN BoZ MulW MulL InvL DivL

/-- Both, whatever came in. -/
theorem both_any (b : Bool) (A B : List Nat) (ao bo : Option Addr) (cap1 cap2 : Nat) (w : World) (hl : Lies w ao cap1 (ints .u32 A)) (hl2 : Lies w bo cap2 (ints .u32 B)) (hA : Small A) (hB : Small B) :
    Calls Tryz.prog 4 #[.agg #[.bool b, .slice ao A.length cap1, .slice bo B.length cap2]] w fun e w' => ∃ v q b2 n d, e = .returned (.tuple #[v, q]) ∧ IsRat w' v b2 n d ∧ IsRef w' q b2 n d ∧ ((nb n).length ≤ 256 ∧ (nb d).length ≤ 256) ∧ Below w.heap.size w w' := by
  have sA := small_take8 A hA
  have sB := small_take8 B hB
  have lA : (A.take 8).length ≤ 8 := by simp; omega
  have lB : (B.take 8).length ≤ 8 := by simp; omega
  have bP := bits8 _ sA lA
  have bQ := bits8 _ sB lB
  by_cases h : val (B.take 8) = 0
  · refine (both_z b A B [1] rfl ao bo cap1 cap2 w hl hl2 hA hB h).mono ?_
    rintro e w' ⟨v, q, rfl, h1, h2, hb⟩
    exact ⟨v, q, _, _, _, rfl, h1, h2, ⟨bits_div _ _ _ bP, bits_div _ _ _ (bits8 [1] (by intro x hx; simp at hx; omega) (by decide))⟩, hb⟩
  · refine (both_nz b A B ao bo cap1 cap2 w hl hl2 hA hB h).mono ?_
    rintro e w' ⟨v, q, rfl, h1, h2, hb⟩
    exact ⟨v, q, _, _, _, rfl, h1, h2, ⟨bits_div _ _ _ bP, bits_div _ _ _ bQ⟩, hb⟩
theorem nl_few {n : Nat} (h : (nb n).length ≤ 256) : (nl n).length ≤ 35184372088832 := by
  have h1 := fromL_lt (nb n)
  rw [fromL_nb] at h1
  have h2 : n < 4294967296 ^ 8 := Nat.lt_of_lt_of_le h1 (Nat.pow_le_pow_right (by omega) h)
  have := nl_lt 8 n h2
  omega
/-- One block more. -/
theorem one_new (w : World) (o : Obj) : ∃ W, w.alloc o = W ∧ Below w.heap.size w W ∧ W.heap[w.heap.size]? = some o := ⟨_, rfl, (Below.refl _ _).alloc (Nat.le_refl _) _, heap_alloc_new _ _⟩
/-- Two blocks more. -/
theorem two_new (w : World) (o o' : Obj) : ∃ W, (w.alloc o).alloc o' = W ∧ Below w.heap.size w W ∧ W.heap[w.heap.size]? = some o ∧ W.heap[w.heap.size + 1]? = some o' := by
  refine ⟨_, rfl, ((Below.refl _ _).alloc (Nat.le_refl _) _).alloc (by simp) _, ?_, ?_⟩
  · rw [heap_alloc_old _ _ (by simp)]; exact heap_alloc_new _ _
  · have z1 : (w.alloc o).heap.size = w.heap.size + 1 := by simp
    rw [← z1]; exact heap_alloc_new _ _
/-- A number of the program's that lies in the block g. -/
structure RL (W : World) (g : Nat) (b : Bool) (n d : Nat) (A L : Int) (p : Option Addr) : Prop where
  box : W.heap[g]? = some (.cells #[.bool b, .int .u64 A, .int .u64 L, .pointer p] 28)
  is : IsRat W (.agg #[.bool b, .int .u64 A, .int .u64 L, .pointer p]) b n d
theorem RL.kept {W W' : World} {g : Nat} {b : Bool} {n d : Nat} {A L : Int} {p : Option Addr} (h : RL W g b n d A L p) (hb : Below W.heap.size W W') : RL W' g b n d A L p :=
  ⟨box_kept h.box hb (in_heap h.box), h.is.below hb⟩
theorem RL.cells {W : World} {g : Nat} {b : Bool} {n d : Nat} {A L : Int} {p : Option Addr} (h : RL W g b n d A L p) : W.cell? ⟨g, 0, none⟩ = some (.bool b) ∧ W.cell? ⟨g, 1, none⟩ = some (.int .u64 A) ∧ W.cell? ⟨g, 2, none⟩ = some (.int .u64 L) ∧ W.cell? ⟨g, 3, none⟩ = some (.pointer p) := box0 h.box
/-- A number of the reference's that lies in the block g. -/
structure QL (W : World) (g : Nat) (b : Bool) (n d : Nat) (o1 : Option Addr) (c1 : Nat) (o2 : Option Addr) (c2 : Nat) : Prop where
  box : W.heap[g]? = some (.cells #[.bool b, .slice o1 (nb n).length c1, .slice o2 (nb d).length c2] 31)
  is : IsRef W (.agg #[.bool b, .slice o1 (nb n).length c1, .slice o2 (nb d).length c2]) b n d
theorem QL.kept {W W' : World} {g : Nat} {b : Bool} {n d : Nat} {o1 : Option Addr} {c1 : Nat} {o2 : Option Addr} {c2 : Nat} (h : QL W g b n d o1 c1 o2 c2) (hb : Below W.heap.size W W') : QL W' g b n d o1 c1 o2 c2 :=
  ⟨box_kept h.box hb (in_heap h.box), h.is.below hb⟩
theorem QL.cells {W : World} {g : Nat} {b : Bool} {n d : Nat} {o1 : Option Addr} {c1 : Nat} {o2 : Option Addr} {c2 : Nat} (h : QL W g b n d o1 c1 o2 c2) : W.cell? ⟨g, 0, none⟩ = some (.bool b) ∧ W.cell? ⟨g, 1, none⟩ = some (.slice o1 (nb n).length c1) ∧ W.cell? ⟨g, 2, none⟩ = some (.slice o2 (nb d).length c2) := box3_cells h.box
end Go.Proofs.YtefckmkcbgckfaaGreatDoor.DvW
