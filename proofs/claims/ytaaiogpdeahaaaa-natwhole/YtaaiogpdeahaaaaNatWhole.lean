/- For every input the law NatWhole returns true: a quotient times its divisor, and the remainder, make the whole again; a product divided by a factor is the other factor. No condition. -/
import Derived.Test.YtaaiogpdeahaaaaRows
import Derived.WalkKit
import Derived.ProofKit
import Derived.OpenShut
import Derived.ShutString
import Derived.ChangeOld
import Derived.Below
import Derived.Test.YtaaiogpdeahaaaaDivAll
import Derived.Test.YtaaiogpdeahaaaaAddL
import Derived.SizedLaws
namespace Go.Proofs.Ytaaiogpdeahaaaa.natWhole
open Go.ChangeShapes Go.WideShapes Go.ChangeAt Go.RowKit
open Go.ChangeMaps (open_string shut_string)
set_option linter.unusedVariables false

theorem own : ownKnob Try.prog.godebug = none := by kernel_rfl
theorem laidOut : laidOutB Try.prog = true := by kernel_rfl

/-- WHAT THE WALK IS TOLD OF A SLICE OF INTEGERS THAT CAME IN: it is nil; or it leads to a row of 'cap' cells, the numbers 'zs' (the first 'len' are its elements, the rest its spare room), each fitting its kind. -/
def IsRow (k : IntKind) (w : World) (a : Option Addr) (len cap : Nat) (zs : List Int) : Prop :=
  (a = none ∧ len = 0 ∧ cap = 0 ∧ zs = []) ∨
  ∃ x, a = some x ∧ len ≤ cap ∧ cap ≤ maxLen ∧ zs.length = cap ∧ (∀ i, i < zs.length → w.cell? (x.add i) = some (.int k (zs.getD i 0))) ∧ ∀ n ∈ zs, (Lit.int k n).wf = true

open Mem LimbNum Limb1 Limb2 Limb3 Limb4 NatL DivOne DivMod DivAll AddL

theorem mul_limbs (A B : List Nat) (hA : Small A) (hB : Small B) : (nl (val A * val B)).length ≤ A.length + B.length := by
  apply nl_lt
  rw [Nat.pow_add]
  exact Nat.mul_lt_mul'' (val_lt A hA) (val_lt B hB)
set_option maxRecDepth 20000 in
set_option maxHeartbeats 1000000 in
theorem law_zero (A B : List Nat) (ao bo : Option Addr) (cap1 cap2 : Nat) (w : World) (hl : Lies w ao cap1 (ints .u32 A)) (hl2 : Lies w bo cap2 (ints .u32 B)) (hA : Small A) (hB : Small B) (lA : A.length ≤ 35184372087808) (lB : B.length ≤ 35184372087808) (h0 : val B = 0) :
    Calls Try.prog 7 #[.slice ao A.length cap1, .slice bo B.length cap2] w fun e w' => e = .returned (.bool true) ∧ Below w.heap.size w w' := by
  have cA := fun (W : World) (hb : Below w.heap.size w W) => copy_any A ao cap1 W (hl.below hb (Nat.le_refl _)) (by omega)
  have cB := fun (W : World) (hb : Below w.heap.size w W) => copy_any B bo cap2 W (hl2.below hb (Nat.le_refl _)) (by omega)
  have cBits := fun (W : World) (o : Option Addr) (c : Nat) (h : Lies W o c (ints .u32 B)) => bits_any B o c W h hB (by omega)
  have cDz := fun (W : World) (o1 o2 : Option Addr) (c1 c2 : Nat) (h1 : Lies W o1 c1 (ints .u32 A)) (h2 : Lies W o2 c2 (ints .u32 B)) => divmod_zero A B o1 o2 c1 c2 W h1 h2 hA hB h0
  have eb : bitLen (val B) = 0 := by rw [h0]; rfl
  rw [eb] at cBits
  clear hl hl2 hA hB lA lB h0 eb
  have t1 : True := trivial
  have t2 : True := trivial
  have t3 : True := trivial
  have t4 : True := trivial
  have t5 : True := trivial
  have t6 : True := trivial
  go_enter Try.func7, Try.ntmps7
  go_wp2_with (first
    | (go_at_call 9; have _t := t1; clear _t t1; refine (cA _ (Below.refl _ _)).mono ?_; rintro e w1 ⟨o_a1, p_a1, rfl, R_a1_1, hb1⟩; have H1 := hb1)
    | (go_at_call 9; have _t := t2; clear _t t2; refine (cB _ H1).mono ?_; rintro e w2 ⟨o_b1, p_b1, rfl, R_b1_2, hb2⟩; have H2 := bt H1 hb2; have R_a1_2 := keep R_a1_1 hb2; clear R_a1_1)
    | (go_at_call 25; have _t := t3; clear _t t3; refine (cDz _ _ _ _ _ (lies_of_owns R_a1_2) (lies_of_owns R_b1_2)).mono ?_; rintro e w3 ⟨rfl, hw⟩; have hw2 := hw.symm; clear hw; subst hw2; have H3 := H2)
    | (go_at_call 9; have _t := t4; clear _t t4; refine (cB _ H3).mono ?_; rintro e w4 ⟨o_b2, p_b2, rfl, R_b2_4, hb4⟩; have H4 := bt H3 hb4)
    | (go_at_call 30; have _t := t5; clear _t t5; refine (cBits _ _ _ (lies_of_owns R_b2_4)).mono ?_; rintro e w5 ⟨rfl, hw⟩; have hw2 := hw.symm; clear hw; subst hw2; have H5 := H4)
    | (go_at_call 22; have _t := t6; clear _t t6; refine (awake3 _).mono ?_; rintro e w6 ⟨rfl, hb6⟩; have H6 := bt H5 hb6))
  all_goals go_ret
  all_goals exact ⟨rfl, H6⟩

set_option maxRecDepth 20000 in
set_option maxHeartbeats 4000000 in
theorem law_any (A B : List Nat) (ao bo : Option Addr) (cap1 cap2 : Nat) (w : World) (hl : Lies w ao cap1 (ints .u32 A)) (hl2 : Lies w bo cap2 (ints .u32 B)) (hA : Small A) (hB : Small B) (lA : A.length ≤ 35184372087808) (lB : B.length ≤ 35184372087808) (h0 : val B ≠ 0) :
    Calls Try.prog 7 #[.slice ao A.length cap1, .slice bo B.length cap2] w fun e w' => e = .returned (.bool true) ∧ Below w.heap.size w w' := by
  have cA := fun (W : World) (hb : Below w.heap.size w W) => copy_any A ao cap1 W (hl.below hb (Nat.le_refl _)) (by omega)
  have cB := fun (W : World) (hb : Below w.heap.size w W) => copy_any B bo cap2 W (hl2.below hb (Nat.le_refl _)) (by omega)
  have cBits := fun (W : World) (o : Option Addr) (c : Nat) (h : Lies W o c (ints .u32 B)) => bits_any B o c W h hB (by omega)
  have kA := nl_len A hA
  have q1 := nl_mono _ _ (Nat.div_le_self (val A) (val B))
  have q2 := nl_mono _ _ (Nat.mod_le (val A) (val B))
  have q3 := mul_limbs A B hA hB
  have hpos := Nat.pos_of_ne_zero h0
  have cD := fun (W : World) (o1 o2 : Option Addr) (c1 c2 : Nat) (h1 : Lies W o1 c1 (ints .u32 A)) (h2 : Lies W o2 c2 (ints .u32 B)) => divmod_any A B o1 o2 c1 c2 W h1 h2 hA hB h0 (by omega) (by omega)
  have cQ := fun (W : World) (o : Option Addr) (c : Nat) (h : Lies W o c (ints .u32 (nl (val A / val B)))) => copy_any (nl (val A / val B)) o c W h (by omega)
  have cR := fun (W : World) (o : Option Addr) (c : Nat) (h : Lies W o c (ints .u32 (nl (val A % val B)))) => copy_any (nl (val A % val B)) o c W h (by omega)
  have mQB := fun (W : World) (o1 o2 : Option Addr) (c1 c2 : Nat) (h1 : Lies W o1 c1 (ints .u32 (nl (val A / val B)))) (h2 : Lies W o2 c2 (ints .u32 B)) => mul_any (nl (val A / val B)) B o1 o2 c1 c2 W h1 h2 (small_nl _) hB (by omega)
  rw [val_nl] at mQB
  have q4 := nl_mono _ _ (Nat.div_mul_le_self (val A) (val B))
  have aMR := fun (W : World) (o1 o2 : Option Addr) (c1 c2 : Nat) (h1 : Lies W o1 c1 (ints .u32 (nl (val A / val B * val B)))) (h2 : Lies W o2 c2 (ints .u32 (nl (val A % val B)))) => add_any (nl (val A / val B * val B)) (nl (val A % val B)) o1 o2 c1 c2 W h1 h2 (small_nl _) (small_nl _) (by omega) (by omega)
  rw [val_nl, val_nl, Nat.mul_comm (val A / val B) (val B), Nat.div_add_mod] at aMR
  rw [Nat.mul_comm (val A / val B) (val B)] at mQB
  have k1 := fun (W : World) (o1 o2 : Option Addr) (c1 c2 : Nat) (h1 : Lies W o1 c1 (ints .u32 (nl (val A)))) (h2 : Lies W o2 c2 (ints .u32 A)) => cmp_any (nl (val A)) A o1 o2 c1 c2 W h1 h2 (small_nl _) hA
  have e0 : cmpV (val A) (val A) = 0 := by simp [cmpV]
  rw [val_nl, e0] at k1
  have k2 := fun (W : World) (o1 o2 : Option Addr) (c1 c2 : Nat) (h1 : Lies W o1 c1 (ints .u32 (nl (val A % val B)))) (h2 : Lies W o2 c2 (ints .u32 B)) => cmp_any (nl (val A % val B)) B o1 o2 c1 c2 W h1 h2 (small_nl _) hB
  have e1 : cmpV (val A % val B) (val B) = -1 := by unfold cmpV; rw [if_pos (Nat.mod_lt _ hpos)]
  rw [val_nl, e1] at k2
  have mAB := fun (W : World) (o1 o2 : Option Addr) (c1 c2 : Nat) (h1 : Lies W o1 c1 (ints .u32 A)) (h2 : Lies W o2 c2 (ints .u32 B)) => mul_any A B o1 o2 c1 c2 W h1 h2 hA hB (by omega)
  have cD2 := fun (W : World) (o1 o2 : Option Addr) (c1 c2 : Nat) (h1 : Lies W o1 c1 (ints .u32 (nl (val A * val B)))) (h2 : Lies W o2 c2 (ints .u32 B)) => divmod_any (nl (val A * val B)) B o1 o2 c1 c2 W h1 h2 (small_nl _) hB h0 (by omega) (by omega)
  rw [val_nl, Nat.mul_div_cancel _ hpos, Nat.mul_mod_left, nl_zero] at cD2
  simp only [List.length_nil] at cD2
  have k3 := fun (W : World) (o1 o2 : Option Addr) (c1 c2 : Nat) (h1 : Lies W o1 c1 (ints .u32 (nl (val A)))) (h2 : Lies W o2 c2 (ints .u32 A)) => cmp_any (nl (val A)) A o1 o2 c1 c2 W h1 h2 (small_nl _) hA
  rw [val_nl, e0] at k3
  have hbl : 1 ≤ (bitLen (val B) : Int) := by unfold bitLen; rw [if_neg h0]; omega
  clear hl hl2 hA hB lA lB h0 e0 e1 kA q1 q2 q3 q4 hpos
  generalize nl (val A / val B) = NQ at *
  generalize nl (val A % val B) = NR at *
  generalize nl (val B * (val A / val B)) = NM at *
  generalize nl (val A * val B) = NAB at *
  generalize nl (val A) = NA at *
  generalize bitLen (val B) = BL at *
  have t1 : True := trivial
  have t2 : True := trivial
  have t3 : True := trivial
  have t4 : True := trivial
  have t5 : True := trivial
  have t6 : True := trivial
  have t7 : True := trivial
  have t8 : True := trivial
  have t9 : True := trivial
  have t10 : True := trivial
  have t11 : True := trivial
  have t12 : True := trivial
  have t13 : True := trivial
  have t14 : True := trivial
  have t15 : True := trivial
  have t16 : True := trivial
  have t17 : True := trivial
  have t18 : True := trivial
  have t19 : True := trivial
  have t20 : True := trivial
  have t21 : True := trivial
  have t22 : True := trivial
  have t23 : True := trivial
  go_enter Try.func7, Try.ntmps7
  go_wp2_with (first
    | (go_at_call 9; have _t := t1; clear _t t1; refine (cA _ (Below.refl _ _)).mono ?_; rintro e w1 ⟨o_a1, p_a1, rfl, R_a1_1, hb1⟩; have H1 := hb1)
    | (go_at_call 9; have _t := t2; clear _t t2; refine (cB _ H1).mono ?_; rintro e w2 ⟨o_b1, p_b1, rfl, R_b1_2, hb2⟩; have H2 := bt H1 hb2; have R_a1_2 := keep R_a1_1 hb2; clear R_a1_1)
    | (go_at_call 25; have _t := t3; clear _t t3; refine (cD _ _ _ _ _ (lies_of_owns R_a1_2) (lies_of_owns R_b1_2)).mono ?_; rintro e w3 ⟨o_q, p_q, o_r, p_r, rfl, R_q_3, R_r_3, hb3⟩; have H3 := bt H2 hb3)
    | (go_at_call 9; have _t := t4; clear _t t4; refine (cB _ H3).mono ?_; rintro e w4 ⟨o_b2, p_b2, rfl, R_b2_4, hb4⟩; have H4 := bt H3 hb4; have R_q_4 := keep R_q_3 hb4; clear R_q_3; have R_r_4 := keep R_r_3 hb4; clear R_r_3)
    | (go_at_call 30; have _t := t5; clear _t t5; refine (cBits _ _ _ (lies_of_owns R_b2_4)).mono ?_; rintro e w5 ⟨rfl, hw⟩; have hw2 := hw.symm; clear hw; subst hw2; have H5 := H4; have R_q_5 := R_q_4; clear R_q_4; have R_r_5 := R_r_4; clear R_r_4)
    | (go_at_call 22; have _t := t6; clear _t t6; refine (awake3 _).mono ?_; rintro e w6 ⟨rfl, hb6⟩; have H6 := bt H5 hb6; have R_q_6 := keep R_q_5 hb6; clear R_q_5; have R_r_6 := keep R_r_5 hb6; clear R_r_5)
    | (go_at_call 9; have _t := t7; clear _t t7; refine (cQ _ _ _ (lies_of_owns R_q_6)).mono ?_; rintro e w7 ⟨o_q2, p_q2, rfl, R_q2_7, hb7⟩; have H7 := bt H6 hb7; have R_r_7 := keep R_r_6 hb7; clear R_r_6)
    | (go_at_call 9; have _t := t8; clear _t t8; refine (cB _ H7).mono ?_; rintro e w8 ⟨o_b3, p_b3, rfl, R_b3_8, hb8⟩; have H8 := bt H7 hb8; have R_r_8 := keep R_r_7 hb8; clear R_r_7; have R_q2_8 := keep R_q2_7 hb8; clear R_q2_7)
    | (go_at_call 23; have _t := t9; clear _t t9; refine (mQB _ _ _ _ _ (lies_of_owns R_q2_8) (lies_of_owns R_b3_8)).mono ?_; rintro e w9 ⟨o_m, p_m, rfl, R_m_9, hb9⟩; have H9 := bt H8 hb9; have R_r_9 := keep R_r_8 hb9; clear R_r_8)
    | (go_at_call 9; have _t := t10; clear _t t10; refine (cR _ _ _ (lies_of_owns R_r_9)).mono ?_; rintro e w10 ⟨o_r2, p_r2, rfl, R_r2_10, hb10⟩; have H10 := bt H9 hb10; have R_r_10 := keep R_r_9 hb10; clear R_r_9; have R_m_10 := keep R_m_9 hb10; clear R_m_9)
    | (go_at_call 16; have _t := t11; clear _t t11; refine (aMR _ _ _ _ _ (lies_of_owns R_m_10) (lies_of_owns R_r2_10)).mono ?_; rintro e w11 ⟨o_s, p_s, rfl, R_s_11, hb11⟩; have H11 := bt H10 hb11; have R_r_11 := keep R_r_10 hb11; clear R_r_10)
    | (go_at_call 9; have _t := t12; clear _t t12; refine (cA _ H11).mono ?_; rintro e w12 ⟨o_a2, p_a2, rfl, R_a2_12, hb12⟩; have H12 := bt H11 hb12; have R_r_12 := keep R_r_11 hb12; clear R_r_11; have R_s_12 := keep R_s_11 hb12; clear R_s_11)
    | (go_at_call 31; have _t := t13; clear _t t13; refine (k1 _ _ _ _ _ (lies_of_owns R_s_12) (lies_of_owns R_a2_12)).mono ?_; rintro e w13 ⟨rfl, hb13⟩; have H13 := bt H12 hb13; have R_r_13 := keep R_r_12 hb13; clear R_r_12)
    | (go_at_call 9; have _t := t14; clear _t t14; refine (cR _ _ _ (lies_of_owns R_r_13)).mono ?_; rintro e w14 ⟨o_r3, p_r3, rfl, R_r3_14, hb14⟩; have H14 := bt H13 hb14)
    | (go_at_call 9; have _t := t15; clear _t t15; refine (cB _ H14).mono ?_; rintro e w15 ⟨o_b4, p_b4, rfl, R_b4_15, hb15⟩; have H15 := bt H14 hb15; have R_r3_15 := keep R_r3_14 hb15; clear R_r3_14)
    | (go_at_call 31; have _t := t16; clear _t t16; refine (k2 _ _ _ _ _ (lies_of_owns R_r3_15) (lies_of_owns R_b4_15)).mono ?_; rintro e w16 ⟨rfl, hb16⟩; have H16 := bt H15 hb16)
    | (go_at_call 9; have _t := t17; clear _t t17; refine (cA _ H16).mono ?_; rintro e w17 ⟨o_a3, p_a3, rfl, R_a3_17, hb17⟩; have H17 := bt H16 hb17)
    | (go_at_call 9; have _t := t18; clear _t t18; refine (cB _ H17).mono ?_; rintro e w18 ⟨o_b5, p_b5, rfl, R_b5_18, hb18⟩; have H18 := bt H17 hb18; have R_a3_18 := keep R_a3_17 hb18; clear R_a3_17)
    | (go_at_call 23; have _t := t19; clear _t t19; refine (mAB _ _ _ _ _ (lies_of_owns R_a3_18) (lies_of_owns R_b5_18)).mono ?_; rintro e w19 ⟨o_ab, p_ab, rfl, R_ab_19, hb19⟩; have H19 := bt H18 hb19)
    | (go_at_call 9; have _t := t20; clear _t t20; refine (cB _ H19).mono ?_; rintro e w20 ⟨o_b6, p_b6, rfl, R_b6_20, hb20⟩; have H20 := bt H19 hb20; have R_ab_20 := keep R_ab_19 hb20; clear R_ab_19)
    | (go_at_call 25; have _t := t21; clear _t t21; refine (cD2 _ _ _ _ _ (lies_of_owns R_ab_20) (lies_of_owns R_b6_20)).mono ?_; rintro e w21 ⟨o_bk, p_bk, o_rs, p_rs, rfl, R_bk_21, R_rs_21, hb21⟩; have H21 := bt H20 hb21)
    | (go_at_call 9; have _t := t22; clear _t t22; refine (cA _ H21).mono ?_; rintro e w22 ⟨o_a4, p_a4, rfl, R_a4_22, hb22⟩; have H22 := bt H21 hb22; have R_bk_22 := keep R_bk_21 hb22; clear R_bk_21)
    | (go_at_call 31; have _t := t23; clear _t t23; refine (k3 _ _ _ _ _ (lies_of_owns R_bk_22) (lies_of_owns R_a4_22)).mono ?_; rintro e w23 ⟨rfl, hb23⟩; have H23 := bt H22 hb23))
  all_goals go_ret
  all_goals exact ⟨rfl, H23⟩

theorem walk (a0 : Option Addr) (len0 cap0 : Nat) (z0 : List Int) (a1 : Option Addr) (len1 cap1 : Nat) (z1 : List Int) (w : World) (w0 : IsRow .u32 w a0 len0 cap0 z0) (w1 : IsRow .u32 w a1 len1 cap1 z1) (r0 : cap0 * 4 ≤ 140737488351232) (r1 : cap1 * 4 ≤ 140737488351232) :
    Calls Try.prog 7 #[.slice a0 len0 cap0, .slice a1 len1 cap1] w fun e w' => e = .returned (.bool true) ∧ Below w.heap.size w w' := by
  obtain ⟨A, rfl, hl, hA⟩ := lies_of_row nonneg_u32 w0
  obtain ⟨B, rfl, hl2, hB⟩ := lies_of_row nonneg_u32 w1
  have sA : Small A := fun x hx => by have := (bounds_u32 (hA x hx)).2; omega
  have sB : Small B := fun x hx => by have := (bounds_u32 (hB x hx)).2; omega
  have e1 := hl.1
  have e2 := hl2.1
  rw [ints_length] at e1 e2
  by_cases h0 : val B = 0
  · exact law_zero A B a0 a1 cap0 cap1 w hl hl2 sA sB (by omega) (by omega) h0
  · exact law_any A B a0 a1 cap0 cap1 w hl hl2 sA sB (by omega) (by omega) h0

/-! ### THE ROW's STEP: WRITTEN OUT: LEAVE IT -/
set_option maxRecDepth 100000 in
theorem lifted (os : Os) (started : os.Started) (H : Type) (enc : TypeId × Value → H) :
    ReturnsInHanded {} Try.checked os 7 .any (Rows.natWholeSpec.pre6 enc Try.prog Try.f7 Rows.natWholeRow.domain false) (Rows.natWholeSpec.post enc Try.prog Try.f7 false true false false) := by
  refine returnsInHanded_of_change_sized (C := Try.checked) own started (by kernel_rfl) Try.func7
    (ChangeSpec.witness6 (enc := enc) (C := Try.checked) false ⟨#[], #[.slice none 0 0, .slice none 0 0], []⟩ 8 (by kernel_rfl) (by kernel_rfl) (by kernel_rfl) (by kernel_rfl)) ?_
  intro W base args ds gs before hval0 hW hcnd hsz0 _
  have hval : ∀ (j : Nat) t v, Try.f7.params[j]? = some t → args[j]? = some v → Value.okWide Try.prog W .any base t v := hval0
  have hW' := hW
  obtain ⟨p, q, hA0, hV, rfl, hfz, hnd⟩ := hW
  have hA : DataW.TrodAll enc Try.prog W 0 (fun _ => true) true Try.f7.params.toList args.toList ds p := hA0
  have hsz : (DataW.weightsEach Try.prog (Try.f7.params.toList ++ Rows.natWholeSpec.plain.varTypes Try.prog) (ds ++ gs)).all (· ≤ reachBytes) = true := hsz0
  rw [Try.params7] at hA hval hsz
  obtain ⟨v0, vs0, d0, ds0, p0, q0, hargs, rfl, rfl, h0, r0⟩ := trodAll_cons hA
  obtain ⟨v1, vs1, d1, ds1, p1, q1, rfl, rfl, rfl, h1, r1⟩ := trodAll_cons r0
  obtain ⟨rfl, rfl, rfl⟩ := trodAll_nil r1
  obtain rfl : args = #[v0, v1] := by cases args; simp_all
  obtain ⟨rfl, rfl⟩ := trodVars_none hV
  obtain ⟨a0, len0, cap0, rfl⟩ := okWide_slice Try.underlying22 (hval 0 22 v0 rfl rfl)
  have k0 := h0
  have lt0 : ∀ x ∈ p0, x.block < W.heap.size := by obtain ⟨m, hm⟩ := k0; exact DataW.trod_lt m _ _ _ hm
  obtain ⟨z0, w0, rz0⟩ : ∃ zs, IsRow .u32 W a0 len0 cap0 zs ∧ cap0 * 4 ≤ 140737488351232 := by
    obtain ⟨fuel, hf⟩ := h0
    rcases open_ints Try.underlying22 Try.underlying34 (by kernel_rfl) hf with ⟨hcs, _⟩ | ⟨x, l, c, zs, hcs, _, hl, hm, hz, hx, hcell, hwz⟩
    · simp [Value.cells] at hcs
      obtain ⟨rfl, rfl, rfl⟩ := hcs
      exact ⟨[], .inl ⟨rfl, rfl, rfl, rfl⟩, by decide⟩
    · simp [Value.cells] at hcs
      obtain ⟨rfl, rfl, rfl⟩ := hcs
      have hz2 : zs.length = cap0 := by simpa using hz
      simp only [Prod.mk.injEq] at hx
      obtain ⟨rfl, _⟩ := hx
      have hre := sized_slice hsz (j := 0) (t := 22) (e := 34) rfl rfl Try.underlying22
      rw [show Try.prog.bytesOf 34 = 4 by kernel_rfl] at hre
      simp only [lits, List.length_map, List.length_take, List.length_drop, reachBytes] at hre
      exact ⟨zs, .inr ⟨_, rfl, hl, hm, hz2, hcell, hwz⟩, by omega⟩
  obtain ⟨a1, len1, cap1, rfl⟩ := okWide_slice Try.underlying22 (hval 1 22 v1 rfl rfl)
  have k1 := h1
  have lt1 : ∀ x ∈ p1, x.block < W.heap.size := by obtain ⟨m, hm⟩ := k1; exact DataW.trod_lt m _ _ _ hm
  obtain ⟨z1, w1, rz1⟩ : ∃ zs, IsRow .u32 W a1 len1 cap1 zs ∧ cap1 * 4 ≤ 140737488351232 := by
    obtain ⟨fuel, hf⟩ := h1
    rcases open_ints Try.underlying22 Try.underlying34 (by kernel_rfl) hf with ⟨hcs, _⟩ | ⟨x, l, c, zs, hcs, _, hl, hm, hz, hx, hcell, hwz⟩
    · simp [Value.cells] at hcs
      obtain ⟨rfl, rfl, rfl⟩ := hcs
      exact ⟨[], .inl ⟨rfl, rfl, rfl, rfl⟩, by decide⟩
    · simp [Value.cells] at hcs
      obtain ⟨rfl, rfl, rfl⟩ := hcs
      have hz2 : zs.length = cap1 := by simpa using hz
      simp only [Prod.mk.injEq] at hx
      obtain ⟨rfl, _⟩ := hx
      have hre := sized_slice hsz (j := 1) (t := 22) (e := 34) rfl rfl Try.underlying22
      rw [show Try.prog.bytesOf 34 = 4 by kernel_rfl] at hre
      simp only [lits, List.length_map, List.length_take, List.length_drop, reachBytes] at hre
      exact ⟨zs, .inr ⟨_, rfl, hl, hm, hz2, hcell, hwz⟩, by omega⟩
  clear hA0 hval0
  refine (walk a0 len0 cap0 z0 a1 len1 cap1 z1 W w0 w1 rz0 rz1).mono fun e W' ⟨he, bel⟩ => ?_
  subst he
  exact ⟨_, rfl, _, _, _, [], _, [], hW', trodAll_mk1 (shut_bool Try.underlying4 _), (trodAll_cons_mk (Below.trod laidOut (by kernel_rfl) (of_decide_eq_true (by kernel_rfl)) k0 bel lt0) (trodAll_cons_mk (Below.trod laidOut (by kernel_rfl) (of_decide_eq_true (by kernel_rfl)) k1 bel lt1) trodAll_mk0)), rfl, bel.frame _, fun h => by cases h⟩

theorem over : Rows.natWholeRow.holds Try.pinned (OpenSpec.ofChange Rows.natWholeSpec) :=
  OpenClaim.holds_of_wide 7 Try.f7 rfl rfl rfl rfl rfl rfl rfl ⟨rfl, rfl, rfl, rfl, rfl⟩ rfl rfl rfl rfl rfl (by kernel_rfl) Try.func7 (by kernel_rfl)
    (of_decide_eq_true (by kernel_rfl)) (by unfold Func.isWrapper; first | (rw [if_pos (by decide +kernel)]; kernel_rfl) | (rw [if_neg (by decide +kernel)]; exact ⟨rfl, rfl⟩))
    (fun os started H enc _ => lifted os started H enc)

/-- ████ THE STATEMENT ████ -/
theorem proved : Rows.NatWholeSaid := over
end Go.Proofs.Ytaaiogpdeahaaaa.natWhole
namespace Go.Proofs.Ytaaiogpdeahaaaa
/-- THE STATEMENT. -/
theorem natWhole_holds : Rows.NatWholeSaid := natWhole.proved
#print axioms natWhole_holds
end Go.Proofs.Ytaaiogpdeahaaaa
