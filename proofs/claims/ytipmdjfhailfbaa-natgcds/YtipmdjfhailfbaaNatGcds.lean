/- For every input the law NatGcds returns true: greatest common divisors are right, and times the least common multiple they make the product. No condition. -/
import Derived.Test.YtipmdjfhailfbaaRows
import Derived.WalkKit
import Derived.ProofKit
import Derived.OpenShut
import Derived.ShutString
import Derived.ChangeOld
import Derived.Below
import Derived.Test.YtipmdjfhailfbaaLcmL
import Derived.Test.YtipmdjfhailfbaaRGcd
import Derived.Test.YtipmdjfhailfbaaFew3
namespace Go.Proofs.Ytipmdjfhailfbaa.natGcds
open Go.ChangeShapes Go.WideShapes Go.ChangeAt Go.RowKit
open Go.ChangeMaps (open_string shut_string)
set_option linter.unusedVariables false

theorem own : ownKnob Try.prog.godebug = none := by kernel_rfl
theorem laidOut : laidOutB Try.prog = true := by kernel_rfl

/-- WHAT THE WALK IS TOLD OF A SLICE OF INTEGERS THAT CAME IN: it is nil; or it leads to a row of 'cap' cells, the numbers 'zs' (the first 'len' are its elements, the rest its spare room), each fitting its kind. -/
def IsRow (k : IntKind) (w : World) (a : Option Addr) (len cap : Nat) (zs : List Int) : Prop :=
  (a = none ∧ len = 0 ∧ cap = 0 ∧ zs = []) ∨
  ∃ x, a = some x ∧ len ≤ cap ∧ cap ≤ maxLen ∧ zs.length = cap ∧ (∀ i, i < zs.length → w.cell? (x.add i) = some (.int k (zs.getD i 0))) ∧ ∀ n ∈ zs, (Lit.int k n).wf = true

open Mem LimbNum Limb1 Limb2 Limb4 RefL NatL DivOne DivMod DivAll BitMul BitDiv Words Few3 GcdA LcmL RGcd

set_option maxRecDepth 20000 in
set_option maxHeartbeats 4000000 in
theorem law_zx (A B : List Nat) (ao bo : Option Addr) (cap1 cap2 : Nat) (w : World) (hl : Lies w ao cap1 (ints .u32 A)) (hl2 : Lies w bo cap2 (ints .u32 B)) (hA : Small A) (hB : Small B) (h0 : val (A.take 30) = 0) :
    Calls Try.prog 3 #[.slice ao A.length cap1, .slice bo B.length cap2] w fun e w' => e = .returned (.bool true) ∧ Below w.heap.size w w' := by
  have cF1 := fun (W : World) (hb : Below w.heap.size w W) => few_any A 30 (by omega) ao cap1 W (hl.below hb (Nat.le_refl _))
  have cF2 := fun (W : World) (hb : Below w.heap.size w W) => few_any B 30 (by omega) bo cap2 W (hl2.below hb (Nat.le_refl _))
  have sA := small_take A 30 hA
  have sB := small_take B 30 hB
  have lA : (A.take 30).length ≤ 30 := by simp; omega
  have lB : (B.take 30).length ≤ 30 := by simp; omega
  clear hl hl2 hA hB
  generalize A.take 30 = P at *
  generalize B.take 30 = Q at *
  have cC1 := fun (W : World) (o : Option Addr) (c : Nat) (h : Lies W o c (ints .u32 P)) => copy_any P o c W h (by omega)
  have cC2 := fun (W : World) (o : Option Addr) (c : Nat) (h : Lies W o c (ints .u32 Q)) => copy_any Q o c W h (by omega)
  have cO1 := fun (W : World) (o : Option Addr) (c : Nat) (h : Lies W o c (ints .u32 P)) => of_any P o c W h sA (by omega)
  have cO2 := fun (W : World) (o : Option Addr) (c : Nat) (h : Lies W o c (ints .u32 Q)) => of_any Q o c W h sB (by omega)
  have b1 := bits_le P 30 sA lA
  have b2 := bits_le Q 30 sB lB
  have g1 : (nb (Nat.gcd (val P) (val Q))).length ≤ 960 := by
    rcases Nat.eq_zero_or_pos (val P) with h | h
    · rw [h, Nat.gcd_zero_left]; omega
    · exact Nat.le_trans (nb_mono _ _ (Nat.gcd_le_left _ h)) (by omega)
  have g2 : (nl (Nat.gcd (val P) (val Q))).length ≤ 30 := by
    have k1 := nl_len P sA
    have k2 := nl_len Q sB
    rcases Nat.eq_zero_or_pos (val P) with h | h
    · rw [h, Nat.gcd_zero_left]; omega
    · exact Nat.le_trans (nl_mono _ _ (Nat.gcd_le_left _ h)) (by omega)
  have cG := fun (W : World) (o1 o2 : Option Addr) (c1 c2 : Nat) (h1 : Lies W o1 c1 (ints .u32 P)) (h2 : Lies W o2 c2 (ints .u32 Q)) => gcd_any P Q o1 o2 c1 c2 W h1 h2 sA sB (by omega) (by omega)
  have cL := fun (W : World) (o1 o2 : Option Addr) (c1 c2 : Nat) (h1 : Lies W o1 c1 (ints .u32 P)) (h2 : Lies W o2 c2 (ints .u32 Q)) => lcm_any P Q o1 o2 c1 c2 W h1 h2 sA sB (by omega) (by omega)
  have cR := fun (W : World) (o1 o2 : Option Addr) (c1 c2 : Nat) (h1 : W.ownsRow 0 4 1 (.slice o1 (nb (val P)).length c1) (nb (val P)).length (bools (nb (val P)))) (h2 : W.ownsRow 0 4 1 (.slice o2 (nb (val Q)).length c2) (nb (val Q)).length (bools (nb (val Q)))) => rgcd_any (val P) (val Q) o1 o2 c1 c2 W h1 h2 (by omega) (by omega)
  have cT := fun (W : World) (o : Option Addr) (c : Nat) (h : Lies W o c (bools (nb (Nat.gcd (val P) (val Q))))) => to_any (nb (Nat.gcd (val P) (val Q))) o c W h (by omega)
  rw [fromL_nb] at cT
  have cS := fun (W : World) (o1 o2 : Option Addr) (c1 c2 : Nat) (h1 : Lies W o1 c1 (ints .u32 (nl (Nat.gcd (val P) (val Q))))) (h2 : Lies W o2 c2 (ints .u32 (nl (Nat.gcd (val P) (val Q))))) => same_any (nl (Nat.gcd (val P) (val Q))) (nl (Nat.gcd (val P) (val Q))) o1 o2 c1 c2 W h1 h2
  simp only [decide_true] at cS
  have z1 : (nl (val P / Nat.gcd (val P) (val Q) * val Q)) = [] := by rw [h0, Nat.zero_div, Nat.zero_mul, nl_zero]
  rw [z1] at cL
  simp only [List.length_nil] at cL
  have z2 : (nb (val P)) = [] := by rw [h0, nb_zero]
  rw [z2] at cO1 cR
  simp only [List.length_nil] at cO1 cR
  clear b1 b2 g1 g2 sA sB lA lB h0 z1 z2
  generalize nb (Nat.gcd (val P) (val Q)) = BG at *
  generalize nl (Nat.gcd (val P) (val Q)) = NG at *
  generalize nb (val Q) = Y at *
  have t1 : True := trivial
  have t2 : True := trivial
  have t3 : True := trivial
  have t4 : True := trivial
  have t5 : True := trivial
  have t6 : True := trivial
  have t7 : True := trivial
  have t8 : True := trivial
  have t9 : True := trivial
  have t10 : True := trivial
  have t11 : True := trivial
  have t12 : True := trivial
  have t13 : True := trivial
  have t14 : True := trivial
  go_enter Try.func3, Try.ntmps3
  go_wp2_with (first
    | (go_at_call 5; have _t := t1; clear _t t1; refine (cF1 _ (Below.refl _ _)).mono ?_; rintro e w1 ⟨o_a, p_a, rfl, R_a_1, hb1⟩; have H1 := hb1)
    | (go_at_call 5; have _t := t2; clear _t t2; refine (cF2 _ H1).mono ?_; rintro e w2 ⟨o_b, p_b, rfl, R_b_2, hb2⟩; have H2 := bt H1 hb2; have R_a_2 := keep R_a_1 hb2; clear R_a_1)
    | (go_at_call 7; have _t := t3; clear _t t3; refine (cC1 _ _ _ (lies_of_owns R_a_2)).mono ?_; rintro e w3 ⟨o_ca, p_ca, rfl, R_ca_3, hb3⟩; have H3 := bt H2 hb3; have R_a_3 := keep R_a_2 hb3; clear R_a_2; have R_b_3 := keep R_b_2 hb3; clear R_b_2)
    | (go_at_call 7; have _t := t4; clear _t t4; refine (cC2 _ _ _ (lies_of_owns R_b_3)).mono ?_; rintro e w4 ⟨o_cb, p_cb, rfl, R_cb_4, hb4⟩; have H4 := bt H3 hb4; have R_a_4 := keep R_a_3 hb4; clear R_a_3; have R_b_4 := keep R_b_3 hb4; clear R_b_3; have R_ca_4 := keep R_ca_3 hb4; clear R_ca_3)
    | (go_at_call 6; have _t := t5; clear _t t5; refine (cG _ _ _ _ _ (lies_of_owns R_ca_4) (lies_of_owns R_cb_4)).mono ?_; rintro e w5 ⟨o_g, p_g, rfl, R_g_5, hb5⟩; have H5 := bt H4 hb5; have R_a_5 := keep R_a_4 hb5; clear R_a_4; have R_b_5 := keep R_b_4 hb5; clear R_b_4)
    | (go_at_call 7; have _t := t6; clear _t t6; refine (cC1 _ _ _ (lies_of_owns R_a_5)).mono ?_; rintro e w6 ⟨o_da, p_da, rfl, R_da_6, hb6⟩; have H6 := bt H5 hb6; have R_a_6 := keep R_a_5 hb6; clear R_a_5; have R_b_6 := keep R_b_5 hb6; clear R_b_5; have R_g_6 := keep R_g_5 hb6; clear R_g_5)
    | (go_at_call 7; have _t := t7; clear _t t7; refine (cC2 _ _ _ (lies_of_owns R_b_6)).mono ?_; rintro e w7 ⟨o_db, p_db, rfl, R_db_7, hb7⟩; have H7 := bt H6 hb7; have R_a_7 := keep R_a_6 hb7; clear R_a_6; have R_b_7 := keep R_b_6 hb7; clear R_b_6; have R_g_7 := keep R_g_6 hb7; clear R_g_6; have R_da_7 := keep R_da_6 hb7; clear R_da_6)
    | (go_at_call 8; have _t := t8; clear _t t8; refine (cL _ _ _ _ _ (lies_of_owns R_da_7) (lies_of_owns R_db_7)).mono ?_; rintro e w8 ⟨o_l, p_l, rfl, R_l_8, hb8⟩; have H8 := bt H7 hb8; have R_a_8 := keep R_a_7 hb8; clear R_a_7; have R_b_8 := keep R_b_7 hb8; clear R_b_7; have R_g_8 := keep R_g_7 hb8; clear R_g_7)
    | (go_at_call 9; have _t := t9; clear _t t9; refine (cO1 _ _ _ (lies_of_owns R_a_8)).mono ?_; rintro e w9 ⟨o_x, p_x, rfl, R_x_9, hb9⟩; have H9 := bt H8 hb9; have R_b_9 := keep R_b_8 hb9; clear R_b_8; have R_g_9 := keep R_g_8 hb9; clear R_g_8)
    | (go_at_call 9; have _t := t10; clear _t t10; refine (cO2 _ _ _ (lies_of_owns R_b_9)).mono ?_; rintro e w10 ⟨o_y, p_y, rfl, R_y_10, hb10⟩; have H10 := bt H9 hb10; have R_g_10 := keep R_g_9 hb10; clear R_g_9; have R_x_10 := keep R_x_9 hb10; clear R_x_9)
    | (go_at_call 10; have _t := t11; clear _t t11; refine (awake3 _).mono ?_; rintro e w11 ⟨rfl, hb11⟩; have H11 := bt H10 hb11; have R_g_11 := keep R_g_10 hb11; clear R_g_10; have R_x_11 := keep R_x_10 hb11; clear R_x_10; have R_y_11 := keep R_y_10 hb11; clear R_y_10)
    | (go_at_call 13; have _t := t12; clear _t t12; refine (cR _ _ _ _ _ (owns_base R_x_11 (Nat.zero_le _)) (owns_base R_y_11 (Nat.zero_le _))).mono ?_; rintro e w12 ⟨o_r, p_r, rfl, R_r_12, hb12⟩; have H12 := bt H11 hb12; have R_g_12 := keep R_g_11 hb12; clear R_g_11)
    | (go_at_call 12; have _t := t13; clear _t t13; refine (cT _ _ _ (lies_of_owns R_r_12)).mono ?_; rintro e w13 ⟨o_t, p_t, rfl, R_t_13, hb13⟩; have H13 := bt H12 hb13; have R_g_13 := keep R_g_12 hb13; clear R_g_12)
    | (go_at_call 11; have _t := t14; clear _t t14; refine (cS _ _ _ _ _ (lies_of_owns R_g_13) (lies_of_owns R_t_13)).mono ?_; rintro e w14 ⟨rfl, hb14⟩; have H14 := bt H13 hb14))
  all_goals go_ret
  all_goals exact ⟨rfl, H14⟩

set_option maxRecDepth 20000 in
set_option maxHeartbeats 4000000 in
theorem law_zy (A B : List Nat) (ao bo : Option Addr) (cap1 cap2 : Nat) (w : World) (hl : Lies w ao cap1 (ints .u32 A)) (hl2 : Lies w bo cap2 (ints .u32 B)) (hA : Small A) (hB : Small B) (h1 : val (A.take 30) ≠ 0) (h0 : val (B.take 30) = 0) :
    Calls Try.prog 3 #[.slice ao A.length cap1, .slice bo B.length cap2] w fun e w' => e = .returned (.bool true) ∧ Below w.heap.size w w' := by
  have cF1 := fun (W : World) (hb : Below w.heap.size w W) => few_any A 30 (by omega) ao cap1 W (hl.below hb (Nat.le_refl _))
  have cF2 := fun (W : World) (hb : Below w.heap.size w W) => few_any B 30 (by omega) bo cap2 W (hl2.below hb (Nat.le_refl _))
  have sA := small_take A 30 hA
  have sB := small_take B 30 hB
  have lA : (A.take 30).length ≤ 30 := by simp; omega
  have lB : (B.take 30).length ≤ 30 := by simp; omega
  clear hl hl2 hA hB
  generalize A.take 30 = P at *
  generalize B.take 30 = Q at *
  have cC1 := fun (W : World) (o : Option Addr) (c : Nat) (h : Lies W o c (ints .u32 P)) => copy_any P o c W h (by omega)
  have cC2 := fun (W : World) (o : Option Addr) (c : Nat) (h : Lies W o c (ints .u32 Q)) => copy_any Q o c W h (by omega)
  have cO1 := fun (W : World) (o : Option Addr) (c : Nat) (h : Lies W o c (ints .u32 P)) => of_any P o c W h sA (by omega)
  have cO2 := fun (W : World) (o : Option Addr) (c : Nat) (h : Lies W o c (ints .u32 Q)) => of_any Q o c W h sB (by omega)
  have b1 := bits_le P 30 sA lA
  have b2 := bits_le Q 30 sB lB
  have g1 : (nb (Nat.gcd (val P) (val Q))).length ≤ 960 := by
    rcases Nat.eq_zero_or_pos (val P) with h | h
    · rw [h, Nat.gcd_zero_left]; omega
    · exact Nat.le_trans (nb_mono _ _ (Nat.gcd_le_left _ h)) (by omega)
  have g2 : (nl (Nat.gcd (val P) (val Q))).length ≤ 30 := by
    have k1 := nl_len P sA
    have k2 := nl_len Q sB
    rcases Nat.eq_zero_or_pos (val P) with h | h
    · rw [h, Nat.gcd_zero_left]; omega
    · exact Nat.le_trans (nl_mono _ _ (Nat.gcd_le_left _ h)) (by omega)
  have cG := fun (W : World) (o1 o2 : Option Addr) (c1 c2 : Nat) (h1 : Lies W o1 c1 (ints .u32 P)) (h2 : Lies W o2 c2 (ints .u32 Q)) => gcd_any P Q o1 o2 c1 c2 W h1 h2 sA sB (by omega) (by omega)
  have cL := fun (W : World) (o1 o2 : Option Addr) (c1 c2 : Nat) (h1 : Lies W o1 c1 (ints .u32 P)) (h2 : Lies W o2 c2 (ints .u32 Q)) => lcm_any P Q o1 o2 c1 c2 W h1 h2 sA sB (by omega) (by omega)
  have cR := fun (W : World) (o1 o2 : Option Addr) (c1 c2 : Nat) (h1 : W.ownsRow 0 4 1 (.slice o1 (nb (val P)).length c1) (nb (val P)).length (bools (nb (val P)))) (h2 : W.ownsRow 0 4 1 (.slice o2 (nb (val Q)).length c2) (nb (val Q)).length (bools (nb (val Q)))) => rgcd_any (val P) (val Q) o1 o2 c1 c2 W h1 h2 (by omega) (by omega)
  have cT := fun (W : World) (o : Option Addr) (c : Nat) (h : Lies W o c (bools (nb (Nat.gcd (val P) (val Q))))) => to_any (nb (Nat.gcd (val P) (val Q))) o c W h (by omega)
  rw [fromL_nb] at cT
  have cS := fun (W : World) (o1 o2 : Option Addr) (c1 c2 : Nat) (h1 : Lies W o1 c1 (ints .u32 (nl (Nat.gcd (val P) (val Q))))) (h2 : Lies W o2 c2 (ints .u32 (nl (Nat.gcd (val P) (val Q))))) => same_any (nl (Nat.gcd (val P) (val Q))) (nl (Nat.gcd (val P) (val Q))) o1 o2 c1 c2 W h1 h2
  simp only [decide_true] at cS
  have z1 : (nl (val P / Nat.gcd (val P) (val Q) * val Q)) = [] := by rw [h0, Nat.mul_zero, nl_zero]
  rw [z1] at cL
  simp only [List.length_nil] at cL
  have z2 : (nb (val Q)) = [] := by rw [h0, nb_zero]
  rw [z2] at cO2 cR
  simp only [List.length_nil] at cO2 cR
  have z3 : 0 < (nb (val P)).length := by rw [nb_pos h1]; simp
  clear b1 b2 g1 g2 sA sB lA lB h0 h1 z1 z2
  generalize nb (Nat.gcd (val P) (val Q)) = BG at *
  generalize nl (Nat.gcd (val P) (val Q)) = NG at *
  generalize nb (val P) = X at *
  have z4 : ((X.length : Int) == 0) = false := by rw [beq_eq_false_iff_ne]; omega
  have t1 : True := trivial
  have t2 : True := trivial
  have t3 : True := trivial
  have t4 : True := trivial
  have t5 : True := trivial
  have t6 : True := trivial
  have t7 : True := trivial
  have t8 : True := trivial
  have t9 : True := trivial
  have t10 : True := trivial
  have t11 : True := trivial
  have t12 : True := trivial
  have t13 : True := trivial
  have t14 : True := trivial
  go_enter Try.func3, Try.ntmps3
  go_wp2_with (first
    | (go_at_call 5; have _t := t1; clear _t t1; refine (cF1 _ (Below.refl _ _)).mono ?_; rintro e w1 ⟨o_a, p_a, rfl, R_a_1, hb1⟩; have H1 := hb1)
    | (go_at_call 5; have _t := t2; clear _t t2; refine (cF2 _ H1).mono ?_; rintro e w2 ⟨o_b, p_b, rfl, R_b_2, hb2⟩; have H2 := bt H1 hb2; have R_a_2 := keep R_a_1 hb2; clear R_a_1)
    | (go_at_call 7; have _t := t3; clear _t t3; refine (cC1 _ _ _ (lies_of_owns R_a_2)).mono ?_; rintro e w3 ⟨o_ca, p_ca, rfl, R_ca_3, hb3⟩; have H3 := bt H2 hb3; have R_a_3 := keep R_a_2 hb3; clear R_a_2; have R_b_3 := keep R_b_2 hb3; clear R_b_2)
    | (go_at_call 7; have _t := t4; clear _t t4; refine (cC2 _ _ _ (lies_of_owns R_b_3)).mono ?_; rintro e w4 ⟨o_cb, p_cb, rfl, R_cb_4, hb4⟩; have H4 := bt H3 hb4; have R_a_4 := keep R_a_3 hb4; clear R_a_3; have R_b_4 := keep R_b_3 hb4; clear R_b_3; have R_ca_4 := keep R_ca_3 hb4; clear R_ca_3)
    | (go_at_call 6; have _t := t5; clear _t t5; refine (cG _ _ _ _ _ (lies_of_owns R_ca_4) (lies_of_owns R_cb_4)).mono ?_; rintro e w5 ⟨o_g, p_g, rfl, R_g_5, hb5⟩; have H5 := bt H4 hb5; have R_a_5 := keep R_a_4 hb5; clear R_a_4; have R_b_5 := keep R_b_4 hb5; clear R_b_4)
    | (go_at_call 7; have _t := t6; clear _t t6; refine (cC1 _ _ _ (lies_of_owns R_a_5)).mono ?_; rintro e w6 ⟨o_da, p_da, rfl, R_da_6, hb6⟩; have H6 := bt H5 hb6; have R_a_6 := keep R_a_5 hb6; clear R_a_5; have R_b_6 := keep R_b_5 hb6; clear R_b_5; have R_g_6 := keep R_g_5 hb6; clear R_g_5)
    | (go_at_call 7; have _t := t7; clear _t t7; refine (cC2 _ _ _ (lies_of_owns R_b_6)).mono ?_; rintro e w7 ⟨o_db, p_db, rfl, R_db_7, hb7⟩; have H7 := bt H6 hb7; have R_a_7 := keep R_a_6 hb7; clear R_a_6; have R_b_7 := keep R_b_6 hb7; clear R_b_6; have R_g_7 := keep R_g_6 hb7; clear R_g_6; have R_da_7 := keep R_da_6 hb7; clear R_da_6)
    | (go_at_call 8; have _t := t8; clear _t t8; refine (cL _ _ _ _ _ (lies_of_owns R_da_7) (lies_of_owns R_db_7)).mono ?_; rintro e w8 ⟨o_l, p_l, rfl, R_l_8, hb8⟩; have H8 := bt H7 hb8; have R_a_8 := keep R_a_7 hb8; clear R_a_7; have R_b_8 := keep R_b_7 hb8; clear R_b_7; have R_g_8 := keep R_g_7 hb8; clear R_g_7)
    | (go_at_call 9; have _t := t9; clear _t t9; refine (cO1 _ _ _ (lies_of_owns R_a_8)).mono ?_; rintro e w9 ⟨o_x, p_x, rfl, R_x_9, hb9⟩; have H9 := bt H8 hb9; have R_b_9 := keep R_b_8 hb9; clear R_b_8; have R_g_9 := keep R_g_8 hb9; clear R_g_8)
    | (go_at_call 9; have _t := t10; clear _t t10; refine (cO2 _ _ _ (lies_of_owns R_b_9)).mono ?_; rintro e w10 ⟨o_y, p_y, rfl, R_y_10, hb10⟩; have H10 := bt H9 hb10; have R_g_10 := keep R_g_9 hb10; clear R_g_9; have R_x_10 := keep R_x_9 hb10; clear R_x_9)
    | (go_at_call 10; have _t := t11; clear _t t11; refine (awake3 _).mono ?_; rintro e w11 ⟨rfl, hb11⟩; have H11 := bt H10 hb11; have R_g_11 := keep R_g_10 hb11; clear R_g_10; have R_x_11 := keep R_x_10 hb11; clear R_x_10; have R_y_11 := keep R_y_10 hb11; clear R_y_10)
    | (go_at_call 13; have _t := t12; clear _t t12; refine (cR _ _ _ _ _ (owns_base R_x_11 (Nat.zero_le _)) (owns_base R_y_11 (Nat.zero_le _))).mono ?_; rintro e w12 ⟨o_r, p_r, rfl, R_r_12, hb12⟩; have H12 := bt H11 hb12; have R_g_12 := keep R_g_11 hb12; clear R_g_11)
    | (go_at_call 12; have _t := t13; clear _t t13; refine (cT _ _ _ (lies_of_owns R_r_12)).mono ?_; rintro e w13 ⟨o_t, p_t, rfl, R_t_13, hb13⟩; have H13 := bt H12 hb13; have R_g_13 := keep R_g_12 hb13; clear R_g_12)
    | (go_at_call 11; have _t := t14; clear _t t14; refine (cS _ _ _ _ _ (lies_of_owns R_g_13) (lies_of_owns R_t_13)).mono ?_; rintro e w14 ⟨rfl, hb14⟩; have H14 := bt H13 hb14))
  all_goals go_ret
  all_goals exact ⟨rfl, H14⟩

set_option maxRecDepth 20000 in
set_option maxHeartbeats 4000000 in
theorem law_nz (A B : List Nat) (ao bo : Option Addr) (cap1 cap2 : Nat) (w : World) (hl : Lies w ao cap1 (ints .u32 A)) (hl2 : Lies w bo cap2 (ints .u32 B)) (hA : Small A) (hB : Small B) (h1 : val (A.take 30) ≠ 0) (h2 : val (B.take 30) ≠ 0) :
    Calls Try.prog 3 #[.slice ao A.length cap1, .slice bo B.length cap2] w fun e w' => e = .returned (.bool true) ∧ Below w.heap.size w w' := by
  have cF1 := fun (W : World) (hb : Below w.heap.size w W) => few_any A 30 (by omega) ao cap1 W (hl.below hb (Nat.le_refl _))
  have cF2 := fun (W : World) (hb : Below w.heap.size w W) => few_any B 30 (by omega) bo cap2 W (hl2.below hb (Nat.le_refl _))
  have sA := small_take A 30 hA
  have sB := small_take B 30 hB
  have lA : (A.take 30).length ≤ 30 := by simp; omega
  have lB : (B.take 30).length ≤ 30 := by simp; omega
  clear hl hl2 hA hB
  generalize A.take 30 = P at *
  generalize B.take 30 = Q at *
  have cC1 := fun (W : World) (o : Option Addr) (c : Nat) (h : Lies W o c (ints .u32 P)) => copy_any P o c W h (by omega)
  have cC2 := fun (W : World) (o : Option Addr) (c : Nat) (h : Lies W o c (ints .u32 Q)) => copy_any Q o c W h (by omega)
  have cO1 := fun (W : World) (o : Option Addr) (c : Nat) (h : Lies W o c (ints .u32 P)) => of_any P o c W h sA (by omega)
  have cO2 := fun (W : World) (o : Option Addr) (c : Nat) (h : Lies W o c (ints .u32 Q)) => of_any Q o c W h sB (by omega)
  have b1 := bits_le P 30 sA lA
  have b2 := bits_le Q 30 sB lB
  have g1 : (nb (Nat.gcd (val P) (val Q))).length ≤ 960 := by
    rcases Nat.eq_zero_or_pos (val P) with h | h
    · rw [h, Nat.gcd_zero_left]; omega
    · exact Nat.le_trans (nb_mono _ _ (Nat.gcd_le_left _ h)) (by omega)
  have g2 : (nl (Nat.gcd (val P) (val Q))).length ≤ 30 := by
    have k1 := nl_len P sA
    have k2 := nl_len Q sB
    rcases Nat.eq_zero_or_pos (val P) with h | h
    · rw [h, Nat.gcd_zero_left]; omega
    · exact Nat.le_trans (nl_mono _ _ (Nat.gcd_le_left _ h)) (by omega)
  have cG := fun (W : World) (o1 o2 : Option Addr) (c1 c2 : Nat) (h1 : Lies W o1 c1 (ints .u32 P)) (h2 : Lies W o2 c2 (ints .u32 Q)) => gcd_any P Q o1 o2 c1 c2 W h1 h2 sA sB (by omega) (by omega)
  have cL := fun (W : World) (o1 o2 : Option Addr) (c1 c2 : Nat) (h1 : Lies W o1 c1 (ints .u32 P)) (h2 : Lies W o2 c2 (ints .u32 Q)) => lcm_any P Q o1 o2 c1 c2 W h1 h2 sA sB (by omega) (by omega)
  have cR := fun (W : World) (o1 o2 : Option Addr) (c1 c2 : Nat) (h1 : W.ownsRow 0 4 1 (.slice o1 (nb (val P)).length c1) (nb (val P)).length (bools (nb (val P)))) (h2 : W.ownsRow 0 4 1 (.slice o2 (nb (val Q)).length c2) (nb (val Q)).length (bools (nb (val Q)))) => rgcd_any (val P) (val Q) o1 o2 c1 c2 W h1 h2 (by omega) (by omega)
  have cT := fun (W : World) (o : Option Addr) (c : Nat) (h : Lies W o c (bools (nb (Nat.gcd (val P) (val Q))))) => to_any (nb (Nat.gcd (val P) (val Q))) o c W h (by omega)
  rw [fromL_nb] at cT
  have cS := fun (W : World) (o1 o2 : Option Addr) (c1 c2 : Nat) (h1 : Lies W o1 c1 (ints .u32 (nl (Nat.gcd (val P) (val Q))))) (h2 : Lies W o2 c2 (ints .u32 (nl (Nat.gcd (val P) (val Q))))) => same_any (nl (Nat.gcd (val P) (val Q))) (nl (Nat.gcd (val P) (val Q))) o1 o2 c1 c2 W h1 h2
  simp only [decide_true] at cS
  have z3 : 0 < (nb (val P)).length := by rw [nb_pos h1]; simp
  have z5 : 0 < (nb (val Q)).length := by rw [nb_pos h2]; simp
  have eLM := lcm_mul (val P) (val Q)
  have nL := lcm_ne h1 h2
  have lenL : (nl (val P / Nat.gcd (val P) (val Q) * val Q)).length ≤ 60 := by
    apply nl_lt
    have a1 := val_lt P sA
    have a2 := val_lt Q sB
    have a3 : val P / Nat.gcd (val P) (val Q) * val Q ≤ val P * val Q := Nat.mul_le_mul_right _ (Nat.div_le_self _ _)
    have a4 : val P * val Q < 4294967296 ^ P.length * 4294967296 ^ Q.length := Nat.mul_lt_mul'' a1 a2
    rw [← Nat.pow_add] at a4
    exact Nat.lt_of_le_of_lt a3 (Nat.lt_of_lt_of_le a4 (Nat.pow_le_pow_right (by omega) (by omega)))
  obtain ⟨n1, n2⟩ := nl_last _ nL
  have cCg := fun (W : World) (o : Option Addr) (c : Nat) (h : Lies W o c (ints .u32 (nl (Nat.gcd (val P) (val Q))))) => copy_any (nl (Nat.gcd (val P) (val Q))) o c W h (by omega)
  have cCl := fun (W : World) (o : Option Addr) (c : Nat) (h : Lies W o c (ints .u32 (nl (val P / Nat.gcd (val P) (val Q) * val Q)))) => copy_any (nl (val P / Nat.gcd (val P) (val Q) * val Q)) o c W h (by omega)
  have cM1 := fun (W : World) (o1 o2 : Option Addr) (c1 c2 : Nat) (h1 : Lies W o1 c1 (ints .u32 (nl (Nat.gcd (val P) (val Q))))) (h2 : Lies W o2 c2 (ints .u32 (nl (val P / Nat.gcd (val P) (val Q) * val Q)))) => mul_any (nl (Nat.gcd (val P) (val Q))) (nl (val P / Nat.gcd (val P) (val Q) * val Q)) o1 o2 c1 c2 W h1 h2 (small_nl _) (small_nl _) (by omega)
  rw [val_nl, val_nl, eLM] at cM1
  have cM2 := fun (W : World) (o1 o2 : Option Addr) (c1 c2 : Nat) (h1 : Lies W o1 c1 (ints .u32 P)) (h2 : Lies W o2 c2 (ints .u32 Q)) => mul_any P Q o1 o2 c1 c2 W h1 h2 sA sB (by omega)
  have cK := fun (W : World) (o1 o2 : Option Addr) (c1 c2 : Nat) (h1 : Lies W o1 c1 (ints .u32 (nl (val P * val Q)))) (h2 : Lies W o2 c2 (ints .u32 (nl (val P * val Q)))) => cmp_any (nl (val P * val Q)) (nl (val P * val Q)) o1 o2 c1 c2 W h1 h2 (small_nl _) (small_nl _)
  have e0 : cmpV (val P * val Q) (val P * val Q) = 0 := by simp [cmpV]
  rw [val_nl, e0] at cK
  clear b1 b2 g1 g2 sA sB lA lB h1 h2 eLM nL e0
  generalize nb (Nat.gcd (val P) (val Q)) = BG at *
  generalize nl (Nat.gcd (val P) (val Q)) = NG at *
  generalize nl (val P / Nat.gcd (val P) (val Q) * val Q) = NL at *
  generalize nl (val P * val Q) = NM at *
  generalize nb (val P) = X at *
  generalize nb (val Q) = Y at *
  have z4 : ((X.length : Int) == 0) = false := by rw [beq_eq_false_iff_ne]; omega
  have z6 : ((Y.length : Int) == 0) = false := by rw [beq_eq_false_iff_ne]; omega
  have z7 : (0 : Int) < (NL.length : Int) := by omega
  have z8 : (1 : Int) ≤ (NL.length : Int) := by omega
  obtain ⟨LI, eLI⟩ : ∃ x : Int, ((NL.getD (NL.length - 1) 0 : Nat) : Int) = x := ⟨_, rfl⟩
  have z9 : (LI == 0) = false := by rw [beq_eq_false_iff_ne]; omega
  have z10 : (LI != 0) = true := by rw [bne, z9]; rfl
  have ELI : Hid (((NL.getD (NL.length - 1) 0 : Nat) : Int) = LI) := eLI
  clear eLI
  clear n2
  have t1 : True := trivial
  have t2 : True := trivial
  have t3 : True := trivial
  have t4 : True := trivial
  have t5 : True := trivial
  have t6 : True := trivial
  have t7 : True := trivial
  have t8 : True := trivial
  have t9 : True := trivial
  have t10 : True := trivial
  have t11 : True := trivial
  have t12 : True := trivial
  have t13 : True := trivial
  have t14 : True := trivial
  have t15 : True := trivial
  have t16 : True := trivial
  have t17 : True := trivial
  have t18 : True := trivial
  have t19 : True := trivial
  have t20 : True := trivial
  have t21 : True := trivial
  go_enter Try.func3, Try.ntmps3
  go_wp2_with (first
    | (go_at_call 5; have _t := t1; clear _t t1; refine (cF1 _ (Below.refl _ _)).mono ?_; rintro e w1 ⟨o_a, p_a, rfl, R_a_1, hb1⟩; have H1 := hb1)
    | (go_at_call 5; have _t := t2; clear _t t2; refine (cF2 _ H1).mono ?_; rintro e w2 ⟨o_b, p_b, rfl, R_b_2, hb2⟩; have H2 := bt H1 hb2; have R_a_2 := keep R_a_1 hb2; clear R_a_1)
    | (go_at_call 7; have _t := t3; clear _t t3; refine (cC1 _ _ _ (lies_of_owns R_a_2)).mono ?_; rintro e w3 ⟨o_ca, p_ca, rfl, R_ca_3, hb3⟩; have H3 := bt H2 hb3; have R_a_3 := keep R_a_2 hb3; clear R_a_2; have R_b_3 := keep R_b_2 hb3; clear R_b_2)
    | (go_at_call 7; have _t := t4; clear _t t4; refine (cC2 _ _ _ (lies_of_owns R_b_3)).mono ?_; rintro e w4 ⟨o_cb, p_cb, rfl, R_cb_4, hb4⟩; have H4 := bt H3 hb4; have R_a_4 := keep R_a_3 hb4; clear R_a_3; have R_b_4 := keep R_b_3 hb4; clear R_b_3; have R_ca_4 := keep R_ca_3 hb4; clear R_ca_3)
    | (go_at_call 6; have _t := t5; clear _t t5; refine (cG _ _ _ _ _ (lies_of_owns R_ca_4) (lies_of_owns R_cb_4)).mono ?_; rintro e w5 ⟨o_g, p_g, rfl, R_g_5, hb5⟩; have H5 := bt H4 hb5; have R_a_5 := keep R_a_4 hb5; clear R_a_4; have R_b_5 := keep R_b_4 hb5; clear R_b_4)
    | (go_at_call 7; have _t := t6; clear _t t6; refine (cC1 _ _ _ (lies_of_owns R_a_5)).mono ?_; rintro e w6 ⟨o_da, p_da, rfl, R_da_6, hb6⟩; have H6 := bt H5 hb6; have R_a_6 := keep R_a_5 hb6; clear R_a_5; have R_b_6 := keep R_b_5 hb6; clear R_b_5; have R_g_6 := keep R_g_5 hb6; clear R_g_5)
    | (go_at_call 7; have _t := t7; clear _t t7; refine (cC2 _ _ _ (lies_of_owns R_b_6)).mono ?_; rintro e w7 ⟨o_db, p_db, rfl, R_db_7, hb7⟩; have H7 := bt H6 hb7; have R_a_7 := keep R_a_6 hb7; clear R_a_6; have R_b_7 := keep R_b_6 hb7; clear R_b_6; have R_g_7 := keep R_g_6 hb7; clear R_g_6; have R_da_7 := keep R_da_6 hb7; clear R_da_6)
    | (go_at_call 8; have _t := t8; clear _t t8; refine (cL _ _ _ _ _ (lies_of_owns R_da_7) (lies_of_owns R_db_7)).mono ?_; rintro e w8 ⟨o_l, p_l, rfl, R_l_8, hb8⟩; have H8 := bt H7 hb8; have R_a_8 := keep R_a_7 hb8; clear R_a_7; have R_b_8 := keep R_b_7 hb8; clear R_b_7; have R_g_8 := keep R_g_7 hb8; clear R_g_7)
    | (go_at_call 9; have _t := t9; clear _t t9; refine (cO1 _ _ _ (lies_of_owns R_a_8)).mono ?_; rintro e w9 ⟨o_x, p_x, rfl, R_x_9, hb9⟩; have H9 := bt H8 hb9; have R_a_9 := keep R_a_8 hb9; clear R_a_8; have R_b_9 := keep R_b_8 hb9; clear R_b_8; have R_g_9 := keep R_g_8 hb9; clear R_g_8; have R_l_9 := keep R_l_8 hb9; clear R_l_8)
    | (go_at_call 9; have _t := t10; clear _t t10; refine (cO2 _ _ _ (lies_of_owns R_b_9)).mono ?_; rintro e w10 ⟨o_y, p_y, rfl, R_y_10, hb10⟩; have H10 := bt H9 hb10; have R_a_10 := keep R_a_9 hb10; clear R_a_9; have R_b_10 := keep R_b_9 hb10; clear R_b_9; have R_g_10 := keep R_g_9 hb10; clear R_g_9; have R_l_10 := keep R_l_9 hb10; clear R_l_9; have R_x_10 := keep R_x_9 hb10; clear R_x_9)
    | (go_at_call 10; have _t := t11; clear _t t11; refine (awake3 _).mono ?_; rintro e w11 ⟨rfl, hb11⟩; have H11 := bt H10 hb11; have R_a_11 := keep R_a_10 hb11; clear R_a_10; have R_b_11 := keep R_b_10 hb11; clear R_b_10; have R_g_11 := keep R_g_10 hb11; clear R_g_10; have R_l_11 := keep R_l_10 hb11; clear R_l_10; have R_x_11 := keep R_x_10 hb11; clear R_x_10; have R_y_11 := keep R_y_10 hb11; clear R_y_10)
    | (go_at_call 13; have _t := t12; clear _t t12; refine (cR _ _ _ _ _ (owns_base R_x_11 (Nat.zero_le _)) (owns_base R_y_11 (Nat.zero_le _))).mono ?_; rintro e w12 ⟨o_r, p_r, rfl, R_r_12, hb12⟩; have H12 := bt H11 hb12; have R_a_12 := keep R_a_11 hb12; clear R_a_11; have R_b_12 := keep R_b_11 hb12; clear R_b_11; have R_g_12 := keep R_g_11 hb12; clear R_g_11; have R_l_12 := keep R_l_11 hb12; clear R_l_11)
    | (go_at_call 12; have _t := t13; clear _t t13; refine (cT _ _ _ (lies_of_owns R_r_12)).mono ?_; rintro e w13 ⟨o_t, p_t, rfl, R_t_13, hb13⟩; have H13 := bt H12 hb13; have R_a_13 := keep R_a_12 hb13; clear R_a_12; have R_b_13 := keep R_b_12 hb13; clear R_b_12; have R_g_13 := keep R_g_12 hb13; clear R_g_12; have R_l_13 := keep R_l_12 hb13; clear R_l_12)
    | (go_at_call 11; have _t := t14; clear _t t14; refine (cS _ _ _ _ _ (lies_of_owns R_g_13) (lies_of_owns R_t_13)).mono ?_; rintro e w14 ⟨rfl, hb14⟩; have H14 := bt H13 hb14; have R_a_14 := keep R_a_13 hb14; clear R_a_13; have R_b_14 := keep R_b_13 hb14; clear R_b_13; have R_g_14 := keep R_g_13 hb14; clear R_g_13; have R_l_14 := keep R_l_13 hb14; clear R_l_13)
    | (go_at_call 7; have _t := t15; clear _t t15; refine (cCg _ _ _ (lies_of_owns R_g_14)).mono ?_; rintro e w15 ⟨o_cg, p_cg, rfl, R_cg_15, hb15⟩; have H15 := bt H14 hb15; have R_a_15 := keep R_a_14 hb15; clear R_a_14; have R_b_15 := keep R_b_14 hb15; clear R_b_14; have R_l_15 := keep R_l_14 hb15; clear R_l_14)
    | (go_at_call 7; have _t := t16; clear _t t16; refine (cCl _ _ _ (lies_of_owns R_l_15)).mono ?_; rintro e w16 ⟨o_cl, p_cl, rfl, R_cl_16, hb16⟩; have H16 := bt H15 hb16; have R_a_16 := keep R_a_15 hb16; clear R_a_15; have R_b_16 := keep R_b_15 hb16; clear R_b_15; have R_l_16 := keep R_l_15 hb16; clear R_l_15; have R_cg_16 := keep R_cg_15 hb16; clear R_cg_15)
    | (go_at_call 15; have _t := t17; clear _t t17; refine (cM1 _ _ _ _ _ (lies_of_owns R_cg_16) (lies_of_owns R_cl_16)).mono ?_; rintro e w17 ⟨o_m, p_m, rfl, R_m_17, hb17⟩; have H17 := bt H16 hb17; have R_a_17 := keep R_a_16 hb17; clear R_a_16; have R_b_17 := keep R_b_16 hb17; clear R_b_16; have R_l_17 := keep R_l_16 hb17; clear R_l_16)
    | (go_at_call 7; have _t := t18; clear _t t18; refine (cC1 _ _ _ (lies_of_owns R_a_17)).mono ?_; rintro e w18 ⟨o_ea, p_ea, rfl, R_ea_18, hb18⟩; have H18 := bt H17 hb18; have R_b_18 := keep R_b_17 hb18; clear R_b_17; have R_l_18 := keep R_l_17 hb18; clear R_l_17; have R_m_18 := keep R_m_17 hb18; clear R_m_17)
    | (go_at_call 7; have _t := t19; clear _t t19; refine (cC2 _ _ _ (lies_of_owns R_b_18)).mono ?_; rintro e w19 ⟨o_eb, p_eb, rfl, R_eb_19, hb19⟩; have H19 := bt H18 hb19; have R_l_19 := keep R_l_18 hb19; clear R_l_18; have R_m_19 := keep R_m_18 hb19; clear R_m_18; have R_ea_19 := keep R_ea_18 hb19; clear R_ea_18)
    | (go_at_call 15; have _t := t20; clear _t t20; refine (cM2 _ _ _ _ _ (lies_of_owns R_ea_19) (lies_of_owns R_eb_19)).mono ?_; rintro e w20 ⟨o_n, p_n, rfl, R_n_20, hb20⟩; have H20 := bt H19 hb20; have R_l_20 := keep R_l_19 hb20; clear R_l_19; have R_m_20 := keep R_m_19 hb20; clear R_m_19)
    | (go_at_call 14; have _t := t21; clear _t t21; refine (cK _ _ _ _ _ (lies_of_owns R_m_20) (lies_of_owns R_n_20)).mono ?_; rintro e w21 ⟨rfl, hb21⟩; have H21 := bt H20 hb21; have Ll := lies_of_owns (keep R_l_20 hb21); obtain ⟨bl, ol, hbl, _, hcl⟩ := Ll.2.2.2 (by rw [ints_length]; omega); subst hbl; have dl := hcl (NL.length - 1) (by rw [ints_length]; omega); rw [ints_get _ _ _ (by omega), ELI.out] at dl; clear hcl Ll))
  all_goals go_ret
  all_goals exact ⟨rfl, H21⟩

theorem walk (a0 : Option Addr) (len0 cap0 : Nat) (z0 : List Int) (a1 : Option Addr) (len1 cap1 : Nat) (z1 : List Int) (w : World) (w0 : IsRow .u32 w a0 len0 cap0 z0) (w1 : IsRow .u32 w a1 len1 cap1 z1) :
    Calls Try.prog 3 #[.slice a0 len0 cap0, .slice a1 len1 cap1] w fun e w' => e = .returned (.bool true) ∧ Below w.heap.size w w' := by
  obtain ⟨A, rfl, hl, hA⟩ := lies_of_row nonneg_u32 w0
  obtain ⟨B, rfl, hl2, hB⟩ := lies_of_row nonneg_u32 w1
  have sA : Small A := fun x hx => by have := (bounds_u32 (hA x hx)).2; omega
  have sB : Small B := fun x hx => by have := (bounds_u32 (hB x hx)).2; omega
  by_cases h1 : val (A.take 30) = 0
  · exact law_zx A B a0 a1 cap0 cap1 w hl hl2 sA sB h1
  · by_cases h2 : val (B.take 30) = 0
    · exact law_zy A B a0 a1 cap0 cap1 w hl hl2 sA sB h1 h2
    · exact law_nz A B a0 a1 cap0 cap1 w hl hl2 sA sB h1 h2

/-! ### THE ROW's STEP: WRITTEN OUT: LEAVE IT -/
set_option maxRecDepth 100000 in
theorem lifted (os : Os) (started : os.Started) (H : Type) (enc : TypeId × Value → H) :
    ReturnsInHanded {} Try.checked os 3 .any (Rows.natGcdsSpec.pre6 enc Try.prog Try.f3 Rows.natGcdsRow.domain false) (Rows.natGcdsSpec.post enc Try.prog Try.f3 false true false false) := by
  refine returnsInHanded_of_change (C := Try.checked) own started (by kernel_rfl) Try.func3
    (ChangeSpec.witness6 (enc := enc) (C := Try.checked) false ⟨#[], #[.slice none 0 0, .slice none 0 0], []⟩ 8 (by kernel_rfl) (by kernel_rfl) (by kernel_rfl) (by kernel_rfl)) ?_
  intro W base args ds gs before hval0 hW hcnd _
  have hval : ∀ (j : Nat) t v, Try.f3.params[j]? = some t → args[j]? = some v → Value.okWide Try.prog W .any base t v := hval0
  have hW' := hW
  obtain ⟨p, q, hA0, hV, rfl, hfz, hnd⟩ := hW
  have hA : DataW.TrodAll enc Try.prog W 0 (fun _ => true) true Try.f3.params.toList args.toList ds p := hA0
  rw [Try.params3] at hA hval
  obtain ⟨v0, vs0, d0, ds0, p0, q0, hargs, rfl, rfl, h0, r0⟩ := trodAll_cons hA
  obtain ⟨v1, vs1, d1, ds1, p1, q1, rfl, rfl, rfl, h1, r1⟩ := trodAll_cons r0
  obtain ⟨rfl, rfl, rfl⟩ := trodAll_nil r1
  obtain rfl : args = #[v0, v1] := by cases args; simp_all
  obtain ⟨rfl, rfl⟩ := trodVars_none hV
  obtain ⟨a0, len0, cap0, rfl⟩ := okWide_slice Try.underlying22 (hval 0 22 v0 rfl rfl)
  have k0 := h0
  have lt0 : ∀ x ∈ p0, x.block < W.heap.size := by obtain ⟨m, hm⟩ := k0; exact DataW.trod_lt m _ _ _ hm
  obtain ⟨z0, w0⟩ : ∃ zs, IsRow .u32 W a0 len0 cap0 zs := by
    obtain ⟨fuel, hf⟩ := h0
    rcases open_ints Try.underlying22 Try.underlying33 (by kernel_rfl) hf with ⟨hcs, _⟩ | ⟨x, l, c, zs, hcs, _, hl, hm, hz, _, hcell, hwz⟩
    · simp [Value.cells] at hcs
      obtain ⟨rfl, rfl, rfl⟩ := hcs
      exact ⟨[], .inl ⟨rfl, rfl, rfl, rfl⟩⟩
    · simp [Value.cells] at hcs
      obtain ⟨rfl, rfl, rfl⟩ := hcs
      exact ⟨zs, .inr ⟨_, rfl, hl, hm, by simpa using hz, hcell, hwz⟩⟩
  obtain ⟨a1, len1, cap1, rfl⟩ := okWide_slice Try.underlying22 (hval 1 22 v1 rfl rfl)
  have k1 := h1
  have lt1 : ∀ x ∈ p1, x.block < W.heap.size := by obtain ⟨m, hm⟩ := k1; exact DataW.trod_lt m _ _ _ hm
  obtain ⟨z1, w1⟩ : ∃ zs, IsRow .u32 W a1 len1 cap1 zs := by
    obtain ⟨fuel, hf⟩ := h1
    rcases open_ints Try.underlying22 Try.underlying33 (by kernel_rfl) hf with ⟨hcs, _⟩ | ⟨x, l, c, zs, hcs, _, hl, hm, hz, _, hcell, hwz⟩
    · simp [Value.cells] at hcs
      obtain ⟨rfl, rfl, rfl⟩ := hcs
      exact ⟨[], .inl ⟨rfl, rfl, rfl, rfl⟩⟩
    · simp [Value.cells] at hcs
      obtain ⟨rfl, rfl, rfl⟩ := hcs
      exact ⟨zs, .inr ⟨_, rfl, hl, hm, by simpa using hz, hcell, hwz⟩⟩
  clear hA0 hval0
  refine (walk a0 len0 cap0 z0 a1 len1 cap1 z1 W w0 w1).mono fun e W' ⟨he, bel⟩ => ?_
  subst he
  exact ⟨_, rfl, _, _, _, [], _, [], hW', trodAll_mk1 (shut_bool Try.underlying4 _), (trodAll_cons_mk (Below.trod laidOut (by kernel_rfl) (of_decide_eq_true (by kernel_rfl)) k0 bel lt0) (trodAll_cons_mk (Below.trod laidOut (by kernel_rfl) (of_decide_eq_true (by kernel_rfl)) k1 bel lt1) trodAll_mk0)), rfl, bel.frame _, fun h => by cases h⟩

theorem over : Rows.natGcdsRow.holds Try.pinned (OpenSpec.ofChange Rows.natGcdsSpec) :=
  OpenClaim.holds_of_wide 3 Try.f3 rfl rfl rfl rfl rfl rfl rfl ⟨rfl, rfl, rfl, rfl, rfl⟩ rfl rfl rfl rfl rfl (by kernel_rfl) Try.func3 (by kernel_rfl)
    (of_decide_eq_true (by kernel_rfl)) (by unfold Func.isWrapper; first | (rw [if_pos (by decide +kernel)]; kernel_rfl) | (rw [if_neg (by decide +kernel)]; exact ⟨rfl, rfl⟩))
    (fun os started H enc _ => lifted os started H enc)

/-- ████ THE STATEMENT ████ -/
theorem proved : Rows.NatGcdsSaid := over
end Go.Proofs.Ytipmdjfhailfbaa.natGcds
namespace Go.Proofs.Ytipmdjfhailfbaa
/-- THE STATEMENT. -/
theorem natGcds_holds : Rows.NatGcdsSaid := natGcds.proved
#print axioms natGcds_holds
end Go.Proofs.Ytipmdjfhailfbaa
