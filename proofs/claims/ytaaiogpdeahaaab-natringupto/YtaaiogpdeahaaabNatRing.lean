/- For every input the law NatRing returns true: products may be taken in any order and spread over sums. The lists have together at most 1048576 places. -/
import Derived.Test.YtaaiogpdeahaaabRows
import Derived.WalkKit
import Derived.ProofKit
import Derived.OpenShut
import Derived.ShutString
import Derived.ChangeOld
import Derived.Below
import Derived.Test.YtaaiogpdeahaaabDivOne
import Derived.Test.YtaaiogpdeahaaabAddL
import Derived.JoinedCond
namespace Go.Proofs.Ytaaiogpdeahaaab.natRing
open Go.ChangeShapes Go.WideShapes Go.ChangeAt Go.RowKit
open Go.ChangeMaps (open_string shut_string)
set_option linter.unusedVariables false

theorem own : ownKnob Try.prog.godebug = none := by kernel_rfl
theorem laidOut : laidOutB Try.prog = true := by kernel_rfl

/-- WHAT THE WALK IS TOLD OF A SLICE OF INTEGERS THAT CAME IN: it is nil; or it leads to a row of 'cap' cells, the numbers 'zs' (the first 'len' are its elements, the rest its spare room), each fitting its kind. -/
def IsRow (k : IntKind) (w : World) (a : Option Addr) (len cap : Nat) (zs : List Int) : Prop :=
  (a = none ∧ len = 0 ∧ cap = 0 ∧ zs = []) ∨
  ∃ x, a = some x ∧ len ≤ cap ∧ cap ≤ maxLen ∧ zs.length = cap ∧ (∀ i, i < zs.length → w.cell? (x.add i) = some (.int k (zs.getD i 0))) ∧ ∀ n ∈ zs, (Lit.int k n).wf = true

open Mem LimbNum Limb1 Limb2 Limb4 NatL DivOne AddL

theorem mul_limbs (A B : List Nat) (hA : Small A) (hB : Small B) : (nl (val A * val B)).length ≤ A.length + B.length := by
  apply nl_lt
  rw [Nat.pow_add]
  exact Nat.mul_lt_mul'' (val_lt A hA) (val_lt B hB)
theorem sum_limbs (A B : List Nat) (m : Nat) (hA : Small A) (hB : Small B) (h1 : A.length ≤ m) (h2 : B.length ≤ m) : (nl (val A + val B)).length ≤ m + 1 := by
  have k1 := val_lt A hA
  have k2 := val_lt B hB
  have k3 : (4294967296 : Nat) ^ A.length ≤ 4294967296 ^ m := Nat.pow_le_pow_right (by omega) h1
  have k4 : (4294967296 : Nat) ^ B.length ≤ 4294967296 ^ m := Nat.pow_le_pow_right (by omega) h2
  apply nl_lt
  rw [Nat.pow_succ]
  generalize (4294967296 : Nat) ^ m = M at *
  omega

set_option maxRecDepth 20000 in
set_option maxHeartbeats 4000000 in
theorem law_any (A B C : List Nat) (ao bo co : Option Addr) (cap1 cap2 cap3 : Nat) (w : World) (hl : Lies w ao cap1 (ints .u32 A)) (hl2 : Lies w bo cap2 (ints .u32 B)) (hl3 : Lies w co cap3 (ints .u32 C)) (hA : Small A) (hB : Small B) (hC : Small C) (lA : A.length ≤ 1048576) (lB : B.length ≤ 1048576) (lC : C.length ≤ 1048576) :
    Calls Try.prog 5 #[.slice ao A.length cap1, .slice bo B.length cap2, .slice co C.length cap3] w fun e w' => e = .returned (.bool true) ∧ Below w.heap.size w w' := by
  have k1 := mul_limbs A B hA hB
  have k2 := mul_limbs B C hB hC
  have k3 := mul_limbs A C hA hC
  have k4 := sum_limbs B C 1048576 hB hC lB lC
  have cA := fun (W : World) (hb : Below w.heap.size w W) => copy_any A ao cap1 W (hl.below hb (Nat.le_refl _)) (by omega)
  have cB := fun (W : World) (hb : Below w.heap.size w W) => copy_any B bo cap2 W (hl2.below hb (Nat.le_refl _)) (by omega)
  have cC := fun (W : World) (hb : Below w.heap.size w W) => copy_any C co cap3 W (hl3.below hb (Nat.le_refl _)) (by omega)
  have cAB := fun (W : World) (o : Option Addr) (c : Nat) (h : Lies W o c (ints .u32 (nl (val A * val B)))) => copy_any (nl (val A * val B)) o c W h (by omega)
  have mAB := fun (W : World) (o1 o2 : Option Addr) (c1 c2 : Nat) (h1 : Lies W o1 c1 (ints .u32 A)) (h2 : Lies W o2 c2 (ints .u32 B)) => mul_any A B o1 o2 c1 c2 W h1 h2 hA hB (by omega)
  have mBA := fun (W : World) (o1 o2 : Option Addr) (c1 c2 : Nat) (h1 : Lies W o1 c1 (ints .u32 B)) (h2 : Lies W o2 c2 (ints .u32 A)) => mul_any B A o1 o2 c1 c2 W h1 h2 hB hA (by omega)
  have mABC := fun (W : World) (o1 o2 : Option Addr) (c1 c2 : Nat) (h1 : Lies W o1 c1 (ints .u32 (nl (val A * val B)))) (h2 : Lies W o2 c2 (ints .u32 C)) => mul_any (nl (val A * val B)) C o1 o2 c1 c2 W h1 h2 (small_nl _) hC (by omega)
  have mBC := fun (W : World) (o1 o2 : Option Addr) (c1 c2 : Nat) (h1 : Lies W o1 c1 (ints .u32 B)) (h2 : Lies W o2 c2 (ints .u32 C)) => mul_any B C o1 o2 c1 c2 W h1 h2 hB hC (by omega)
  have mAC := fun (W : World) (o1 o2 : Option Addr) (c1 c2 : Nat) (h1 : Lies W o1 c1 (ints .u32 A)) (h2 : Lies W o2 c2 (ints .u32 C)) => mul_any A C o1 o2 c1 c2 W h1 h2 hA hC (by omega)
  have mA_BC := fun (W : World) (o1 o2 : Option Addr) (c1 c2 : Nat) (h1 : Lies W o1 c1 (ints .u32 A)) (h2 : Lies W o2 c2 (ints .u32 (nl (val B * val C)))) => mul_any A (nl (val B * val C)) o1 o2 c1 c2 W h1 h2 hA (small_nl _) (by omega)
  have aBC := fun (W : World) (o1 o2 : Option Addr) (c1 c2 : Nat) (h1 : Lies W o1 c1 (ints .u32 B)) (h2 : Lies W o2 c2 (ints .u32 C)) => add_any B C o1 o2 c1 c2 W h1 h2 hB hC (by omega) (by omega)
  have mAS := fun (W : World) (o1 o2 : Option Addr) (c1 c2 : Nat) (h1 : Lies W o1 c1 (ints .u32 A)) (h2 : Lies W o2 c2 (ints .u32 (nl (val B + val C)))) => mul_any A (nl (val B + val C)) o1 o2 c1 c2 W h1 h2 hA (small_nl _) (by omega)
  have aE := fun (W : World) (o1 o2 : Option Addr) (c1 c2 : Nat) (h1 : Lies W o1 c1 (ints .u32 (nl (val A * val B)))) (h2 : Lies W o2 c2 (ints .u32 (nl (val A * val C)))) => add_any (nl (val A * val B)) (nl (val A * val C)) o1 o2 c1 c2 W h1 h2 (small_nl _) (small_nl _) (by omega) (by omega)
  rw [Nat.mul_comm (val B) (val A)] at mBA
  rw [val_nl] at mABC mA_BC mAS aE
  rw [val_nl] at aE
  rw [← Nat.mul_assoc] at mA_BC
  rw [Nat.mul_add] at mAS
  have cS := fun (X : List Nat) (W : World) (o1 o2 : Option Addr) (c1 c2 : Nat) (h1 : Lies W o1 c1 (ints .u32 X)) (h2 : Lies W o2 c2 (ints .u32 X)) => same_any X X o1 o2 c1 c2 W h1 h2
  simp only [decide_true] at cS
  have cS1 := cS (nl (val A * val B))
  have cS2 := cS (nl (val A * val B * val C))
  have cS3 := cS (nl (val A * val B + val A * val C))
  clear cS hl hl2 hl3 hA hB hC lA lB lC k1 k2 k3 k4
  generalize nl (val A * val B * val C) = NABC at *
  generalize nl (val A * val B + val A * val C) = NS at *
  generalize nl (val A * val B) = NAB at *
  generalize nl (val B * val C) = NBC at *
  generalize nl (val A * val C) = NAC at *
  generalize nl (val B + val C) = NB at *
  have t1 : True := trivial
  have t2 : True := trivial
  have t3 : True := trivial
  have t4 : True := trivial
  have t5 : True := trivial
  have t6 : True := trivial
  have t7 : True := trivial
  have t8 : True := trivial
  have t9 : True := trivial
  have t10 : True := trivial
  have t11 : True := trivial
  have t12 : True := trivial
  have t13 : True := trivial
  have t14 : True := trivial
  have t15 : True := trivial
  have t16 : True := trivial
  have t17 : True := trivial
  have t18 : True := trivial
  have t19 : True := trivial
  have t20 : True := trivial
  have t21 : True := trivial
  have t22 : True := trivial
  have t23 : True := trivial
  have t24 : True := trivial
  have t25 : True := trivial
  have t26 : True := trivial
  have t27 : True := trivial
  have t28 : True := trivial
  go_enter Try.func5, Try.ntmps5
  go_wp2_with (first
    | (go_at_call 11; have _t := t1; clear _t t1; refine (cA _ (Below.refl _ _)).mono ?_; rintro e w1 ⟨o1, p1, rfl, hown1, hb1⟩; have H1 := hb1; have R1_1 := hown1)
    | (go_at_call 11; have _t := t2; clear _t t2; refine (cB _ H1).mono ?_; rintro e w2 ⟨o2, p2, rfl, hown2, hb2⟩; have H2 := bt H1 hb2; have R1_2 := keep R1_1 hb2; have L1_2 := lies_of_owns R1_2; clear R1_1; have R2_2 := hown2; have L2_2 := lies_of_owns R2_2)
    | (go_at_call 19; have _t := t3; clear _t t3; refine (mAB _ _ _ _ _ L1_2 L2_2).mono ?_; rintro e w3 ⟨o3, p3, rfl, hown3, hb3⟩; have H3 := bt H2 hb3; have R3_3 := hown3)
    | (go_at_call 14; have _t := t4; clear _t t4; refine (awake3 _).mono ?_; rintro e w4 ⟨rfl, hb4⟩; have H4 := bt H3 hb4; have R3_4 := keep R3_3 hb4; clear R3_3)
    | (go_at_call 11; have _t := t5; clear _t t5; refine (cB _ H4).mono ?_; rintro e w5 ⟨o5, p5, rfl, hown5, hb5⟩; have H5 := bt H4 hb5; have R5_5 := hown5; have R3_5 := keep R3_4 hb5; clear R3_4)
    | (go_at_call 11; have _t := t6; clear _t t6; refine (cA _ H5).mono ?_; rintro e w6 ⟨o6, p6, rfl, hown6, hb6⟩; have H6 := bt H5 hb6; have R5_6 := keep R5_5 hb6; have L5_6 := lies_of_owns R5_6; clear R5_5; have R6_6 := hown6; have L6_6 := lies_of_owns R6_6; have R3_6 := keep R3_5 hb6; clear R3_5)
    | (go_at_call 19; have _t := t7; clear _t t7; refine (mBA _ _ _ _ _ L5_6 L6_6).mono ?_; rintro e w7 ⟨o7, p7, rfl, hown7, hb7⟩; have H7 := bt H6 hb7; have R3_7 := keep R3_6 hb7; have L3_7 := lies_of_owns R3_7; clear R3_6; have R7_7 := hown7; have L7_7 := lies_of_owns R7_7)
    | (go_at_call 15; have _t := t8; clear _t t8; refine (cS1 _ _ _ _ _ L3_7 L7_7).mono ?_; rintro e w8 ⟨rfl, hb8⟩; have H8 := bt H7 hb8; have R3_8 := keep R3_7 hb8; have L3_8 := lies_of_owns R3_8; clear R3_7)
    | (go_at_call 11; have _t := t9; clear _t t9; refine (cAB _ _ _ L3_8).mono ?_; rintro e w9 ⟨o9, p9, rfl, hown9, hb9⟩; have H9 := bt H8 hb9; have R3_9 := keep R3_8 hb9; clear R3_8; have R9_9 := hown9)
    | (go_at_call 11; have _t := t10; clear _t t10; refine (cC _ H9).mono ?_; rintro e w10 ⟨o10, p10, rfl, hown10, hb10⟩; have H10 := bt H9 hb10; have R3_10 := keep R3_9 hb10; clear R3_9; have R9_10 := keep R9_9 hb10; have L9_10 := lies_of_owns R9_10; clear R9_9; have R10_10 := hown10; have L10_10 := lies_of_owns R10_10)
    | (go_at_call 19; have _t := t11; clear _t t11; refine (mABC _ _ _ _ _ L9_10 L10_10).mono ?_; rintro e w11 ⟨o11, p11, rfl, hown11, hb11⟩; have H11 := bt H10 hb11; have R3_11 := keep R3_10 hb11; clear R3_10; have R11_11 := hown11)
    | (go_at_call 11; have _t := t12; clear _t t12; refine (cA _ H11).mono ?_; rintro e w12 ⟨o12, p12, rfl, hown12, hb12⟩; have H12 := bt H11 hb12; have R3_12 := keep R3_11 hb12; clear R3_11; have R12_12 := hown12; have R11_12 := keep R11_11 hb12; clear R11_11)
    | (go_at_call 11; have _t := t13; clear _t t13; refine (cB _ H12).mono ?_; rintro e w13 ⟨o13, p13, rfl, hown13, hb13⟩; have H13 := bt H12 hb13; have R3_13 := keep R3_12 hb13; clear R3_12; have R13_13 := hown13; have R12_13 := keep R12_12 hb13; clear R12_12; have R11_13 := keep R11_12 hb13; clear R11_12)
    | (go_at_call 11; have _t := t14; clear _t t14; refine (cC _ H13).mono ?_; rintro e w14 ⟨o14, p14, rfl, hown14, hb14⟩; have H14 := bt H13 hb14; have R3_14 := keep R3_13 hb14; clear R3_13; have R13_14 := keep R13_13 hb14; have L13_14 := lies_of_owns R13_14; clear R13_13; have R14_14 := hown14; have L14_14 := lies_of_owns R14_14; have R12_14 := keep R12_13 hb14; clear R12_13; have R11_14 := keep R11_13 hb14; clear R11_13)
    | (go_at_call 19; have _t := t15; clear _t t15; refine (mBC _ _ _ _ _ L13_14 L14_14).mono ?_; rintro e w15 ⟨o15, p15, rfl, hown15, hb15⟩; have H15 := bt H14 hb15; have R3_15 := keep R3_14 hb15; clear R3_14; have R12_15 := keep R12_14 hb15; have L12_15 := lies_of_owns R12_15; clear R12_14; have R15_15 := hown15; have L15_15 := lies_of_owns R15_15; have R11_15 := keep R11_14 hb15; clear R11_14)
    | (go_at_call 19; have _t := t16; clear _t t16; refine (mA_BC _ _ _ _ _ L12_15 L15_15).mono ?_; rintro e w16 ⟨o16, p16, rfl, hown16, hb16⟩; have H16 := bt H15 hb16; have R3_16 := keep R3_15 hb16; clear R3_15; have R11_16 := keep R11_15 hb16; have L11_16 := lies_of_owns R11_16; clear R11_15; have R16_16 := hown16; have L16_16 := lies_of_owns R16_16)
    | (go_at_call 15; have _t := t17; clear _t t17; refine (cS2 _ _ _ _ _ L11_16 L16_16).mono ?_; rintro e w17 ⟨rfl, hb17⟩; have H17 := bt H16 hb17; have R3_17 := keep R3_16 hb17; clear R3_16)
    | (go_at_call 11; have _t := t18; clear _t t18; refine (cA _ H17).mono ?_; rintro e w18 ⟨o18, p18, rfl, hown18, hb18⟩; have H18 := bt H17 hb18; have R3_18 := keep R3_17 hb18; clear R3_17; have R18_18 := hown18)
    | (go_at_call 11; have _t := t19; clear _t t19; refine (cB _ H18).mono ?_; rintro e w19 ⟨o19, p19, rfl, hown19, hb19⟩; have H19 := bt H18 hb19; have R3_19 := keep R3_18 hb19; clear R3_18; have R19_19 := hown19; have R18_19 := keep R18_18 hb19; clear R18_18)
    | (go_at_call 11; have _t := t20; clear _t t20; refine (cC _ H19).mono ?_; rintro e w20 ⟨o20, p20, rfl, hown20, hb20⟩; have H20 := bt H19 hb20; have R3_20 := keep R3_19 hb20; clear R3_19; have R19_20 := keep R19_19 hb20; have L19_20 := lies_of_owns R19_20; clear R19_19; have R20_20 := hown20; have L20_20 := lies_of_owns R20_20; have R18_20 := keep R18_19 hb20; clear R18_19)
    | (go_at_call 22; have _t := t21; clear _t t21; refine (aBC _ _ _ _ _ L19_20 L20_20).mono ?_; rintro e w21 ⟨o21, p21, rfl, hown21, hb21⟩; have H21 := bt H20 hb21; have R3_21 := keep R3_20 hb21; clear R3_20; have R18_21 := keep R18_20 hb21; have L18_21 := lies_of_owns R18_21; clear R18_20; have R21_21 := hown21; have L21_21 := lies_of_owns R21_21)
    | (go_at_call 19; have _t := t22; clear _t t22; refine (mAS _ _ _ _ _ L18_21 L21_21).mono ?_; rintro e w22 ⟨o22, p22, rfl, hown22, hb22⟩; have H22 := bt H21 hb22; have R3_22 := keep R3_21 hb22; have L3_22 := lies_of_owns R3_22; clear R3_21; have R22_22 := hown22)
    | (go_at_call 11; have _t := t23; clear _t t23; refine (cAB _ _ _ L3_22).mono ?_; rintro e w23 ⟨o23, p23, rfl, hown23, hb23⟩; have H23 := bt H22 hb23; have R23_23 := hown23; have R22_23 := keep R22_22 hb23; clear R22_22)
    | (go_at_call 11; have _t := t24; clear _t t24; refine (cA _ H23).mono ?_; rintro e w24 ⟨o24, p24, rfl, hown24, hb24⟩; have H24 := bt H23 hb24; have R24_24 := hown24; have R23_24 := keep R23_23 hb24; clear R23_23; have R22_24 := keep R22_23 hb24; clear R22_23)
    | (go_at_call 11; have _t := t25; clear _t t25; refine (cC _ H24).mono ?_; rintro e w25 ⟨o25, p25, rfl, hown25, hb25⟩; have H25 := bt H24 hb25; have R24_25 := keep R24_24 hb25; have L24_25 := lies_of_owns R24_25; clear R24_24; have R25_25 := hown25; have L25_25 := lies_of_owns R25_25; have R23_25 := keep R23_24 hb25; clear R23_24; have R22_25 := keep R22_24 hb25; clear R22_24)
    | (go_at_call 19; have _t := t26; clear _t t26; refine (mAC _ _ _ _ _ L24_25 L25_25).mono ?_; rintro e w26 ⟨o26, p26, rfl, hown26, hb26⟩; have H26 := bt H25 hb26; have R23_26 := keep R23_25 hb26; have L23_26 := lies_of_owns R23_26; clear R23_25; have R26_26 := hown26; have L26_26 := lies_of_owns R26_26; have R22_26 := keep R22_25 hb26; clear R22_25)
    | (go_at_call 22; have _t := t27; clear _t t27; refine (aE _ _ _ _ _ L23_26 L26_26).mono ?_; rintro e w27 ⟨o27, p27, rfl, hown27, hb27⟩; have H27 := bt H26 hb27; have R22_27 := keep R22_26 hb27; have L22_27 := lies_of_owns R22_27; clear R22_26; have R27_27 := hown27; have L27_27 := lies_of_owns R27_27)
    | (go_at_call 15; have _t := t28; clear _t t28; refine (cS3 _ _ _ _ _ L22_27 L27_27).mono ?_; rintro e w28 ⟨rfl, hb28⟩; have H28 := bt H27 hb28))
  all_goals go_ret
  all_goals exact ⟨rfl, H28⟩

theorem walk (a0 : Option Addr) (len0 cap0 : Nat) (z0 : List Int) (a1 : Option Addr) (len1 cap1 : Nat) (z1 : List Int) (a2 : Option Addr) (len2 cap2 : Nat) (z2 : List Int) (w : World) (w0 : IsRow .u32 w a0 len0 cap0 z0) (w1 : IsRow .u32 w a1 len1 cap1 z1) (w2 : IsRow .u32 w a2 len2 cap2 z2) (u : cap0 + cap1 + cap2 ≤ 1048576) :
    Calls Try.prog 5 #[.slice a0 len0 cap0, .slice a1 len1 cap1, .slice a2 len2 cap2] w fun e w' => e = .returned (.bool true) ∧ Below w.heap.size w w' := by
  obtain ⟨A, rfl, hl, hA⟩ := lies_of_row nonneg_u32 w0
  obtain ⟨B, rfl, hl2, hB⟩ := lies_of_row nonneg_u32 w1
  obtain ⟨C, rfl, hl3, hC⟩ := lies_of_row nonneg_u32 w2
  have sA : Small A := fun x hx => by have := (bounds_u32 (hA x hx)).2; omega
  have sB : Small B := fun x hx => by have := (bounds_u32 (hB x hx)).2; omega
  have sC : Small C := fun x hx => by have := (bounds_u32 (hC x hx)).2; omega
  have e1 := hl.1
  have e2 := hl2.1
  have e3 := hl3.1
  rw [ints_length] at e1 e2 e3
  exact law_any A B C a0 a1 a2 cap0 cap1 cap2 w hl hl2 hl3 sA sB sC (by omega) (by omega) (by omega)

/-! ### THE ROW's STEP: WRITTEN OUT: LEAVE IT -/
set_option maxRecDepth 100000 in
theorem lifted (os : Os) (started : os.Started) (H : Type) (enc : TypeId × Value → H) (F : Stop.Interp) :
    ReturnsInHanded {} Try.checked os 5 .any ((Rows.OpenSpec.upto Rows.natRingSpec).pre6 enc Try.prog Try.f5 Rows.natRingUptoRow.domain false) (((Rows.OpenSpec.upto Rows.natRingSpec).at F).post enc Try.prog Try.f5 false true false false) := by
  refine returnsInHanded_of_cond (C := Try.checked) (s := Rows.OpenSpec.upto Rows.natRingSpec) (k := Rows.uptoSmall) rfl own started (by kernel_rfl) Try.func5
    (OpenSpec.witness (enc := enc) (C := Try.checked) (s := Rows.OpenSpec.upto Rows.natRingSpec) (k := Rows.uptoSmall) rfl false ⟨#[], #[.slice none 0 0, .slice none 0 0, .slice none 0 0], []⟩ 8 (by kernel_rfl) (by kernel_rfl) (by kernel_rfl)
      (x := ([.nil, .nil, .nil], [], [])) (by kernel_rfl) rfl (by kernel_rfl)) ?_
  intro W base args ds gs before hval0 hW hcnd hk _
  have hval : ∀ (j : Nat) t v, Try.f5.params[j]? = some t → args[j]? = some v → Value.okWide Try.prog W .any base t v := hval0
  have hW' := hW
  obtain ⟨p, q, hA0, hV, rfl, hfz, hnd⟩ := hW
  have hA : DataW.TrodAll enc Try.prog W 0 (fun _ => true) true Try.f5.params.toList args.toList ds p := hA0
  rw [Try.params5] at hA hval
  obtain ⟨v0, vs0, d0, ds0, p0, q0, hargs, rfl, rfl, h0, r0⟩ := trodAll_cons hA
  obtain ⟨v1, vs1, d1, ds1, p1, q1, rfl, rfl, rfl, h1, r1⟩ := trodAll_cons r0
  obtain ⟨v2, vs2, d2, ds2, p2, q2, rfl, rfl, rfl, h2, r2⟩ := trodAll_cons r1
  obtain ⟨rfl, rfl, rfl⟩ := trodAll_nil r2
  obtain rfl : args = #[v0, v1, v2] := by cases args; simp_all
  obtain ⟨rfl, rfl⟩ := trodVars_none hV
  obtain ⟨a0, len0, cap0, rfl⟩ := okWide_slice Try.underlying22 (hval 0 22 v0 rfl rfl)
  have k0 := h0
  have lt0 : ∀ x ∈ p0, x.block < W.heap.size := by obtain ⟨m, hm⟩ := k0; exact DataW.trod_lt m _ _ _ hm
  obtain ⟨z0, w0, rz0⟩ : ∃ zs, IsRow .u32 W a0 len0 cap0 zs ∧ cap0 ≤ Rows.uptoBulk d0 := by
    obtain ⟨fuel, hf⟩ := h0
    rcases open_ints Try.underlying22 Try.underlying33 (by kernel_rfl) hf with ⟨hcs, _⟩ | ⟨x, l, c, zs, hcs, _, hl, hm, hz, hx, hcell, hwz⟩
    · simp [Value.cells] at hcs
      obtain ⟨rfl, rfl, rfl⟩ := hcs
      exact ⟨[], .inl ⟨rfl, rfl, rfl, rfl⟩, Nat.zero_le _⟩
    · simp [Value.cells] at hcs
      obtain ⟨rfl, rfl, rfl⟩ := hcs
      have hz2 : zs.length = cap0 := by simpa using hz
      simp only [Prod.mk.injEq] at hx
      obtain ⟨rfl, _⟩ := hx
      refine ⟨zs, .inr ⟨_, rfl, hl, hm, hz2, hcell, hwz⟩, ?_⟩
      simp only [Rows.uptoBulk, bulk_lits, List.length_take, List.length_drop]
      omega
  obtain ⟨a1, len1, cap1, rfl⟩ := okWide_slice Try.underlying22 (hval 1 22 v1 rfl rfl)
  have k1 := h1
  have lt1 : ∀ x ∈ p1, x.block < W.heap.size := by obtain ⟨m, hm⟩ := k1; exact DataW.trod_lt m _ _ _ hm
  obtain ⟨z1, w1, rz1⟩ : ∃ zs, IsRow .u32 W a1 len1 cap1 zs ∧ cap1 ≤ Rows.uptoBulk d1 := by
    obtain ⟨fuel, hf⟩ := h1
    rcases open_ints Try.underlying22 Try.underlying33 (by kernel_rfl) hf with ⟨hcs, _⟩ | ⟨x, l, c, zs, hcs, _, hl, hm, hz, hx, hcell, hwz⟩
    · simp [Value.cells] at hcs
      obtain ⟨rfl, rfl, rfl⟩ := hcs
      exact ⟨[], .inl ⟨rfl, rfl, rfl, rfl⟩, Nat.zero_le _⟩
    · simp [Value.cells] at hcs
      obtain ⟨rfl, rfl, rfl⟩ := hcs
      have hz2 : zs.length = cap1 := by simpa using hz
      simp only [Prod.mk.injEq] at hx
      obtain ⟨rfl, _⟩ := hx
      refine ⟨zs, .inr ⟨_, rfl, hl, hm, hz2, hcell, hwz⟩, ?_⟩
      simp only [Rows.uptoBulk, bulk_lits, List.length_take, List.length_drop]
      omega
  obtain ⟨a2, len2, cap2, rfl⟩ := okWide_slice Try.underlying22 (hval 2 22 v2 rfl rfl)
  have k2 := h2
  have lt2 : ∀ x ∈ p2, x.block < W.heap.size := by obtain ⟨m, hm⟩ := k2; exact DataW.trod_lt m _ _ _ hm
  obtain ⟨z2, w2, rz2⟩ : ∃ zs, IsRow .u32 W a2 len2 cap2 zs ∧ cap2 ≤ Rows.uptoBulk d2 := by
    obtain ⟨fuel, hf⟩ := h2
    rcases open_ints Try.underlying22 Try.underlying33 (by kernel_rfl) hf with ⟨hcs, _⟩ | ⟨x, l, c, zs, hcs, _, hl, hm, hz, hx, hcell, hwz⟩
    · simp [Value.cells] at hcs
      obtain ⟨rfl, rfl, rfl⟩ := hcs
      exact ⟨[], .inl ⟨rfl, rfl, rfl, rfl⟩, Nat.zero_le _⟩
    · simp [Value.cells] at hcs
      obtain ⟨rfl, rfl, rfl⟩ := hcs
      have hz2 : zs.length = cap2 := by simpa using hz
      simp only [Prod.mk.injEq] at hx
      obtain ⟨rfl, _⟩ := hx
      refine ⟨zs, .inr ⟨_, rfl, hl, hm, hz2, hcell, hwz⟩, ?_⟩
      simp only [Rows.uptoBulk, bulk_lits, List.length_take, List.length_drop]
      omega
  simp only [List.append_nil] at hk
  have hB : Rows.uptoBulkAll _ ≤ 1048576 := of_decide_eq_true hk
  simp only [Rows.uptoBulkAll] at hB
  have hU : cap0 + cap1 + cap2 ≤ 1048576 := by omega
  clear hA0 hval0
  refine (walk a0 len0 cap0 z0 a1 len1 cap1 z1 a2 len2 cap2 z2 W w0 w1 w2 hU).mono fun e W' ⟨he, bel⟩ => ?_
  subst he
  exact ⟨_, rfl, _, _, _, [], _, [], hW', trodAll_mk1 (shut_bool Try.underlying4 _), (trodAll_cons_mk (Below.trod laidOut (by kernel_rfl) (of_decide_eq_true (by kernel_rfl)) k0 bel lt0) (trodAll_cons_mk (Below.trod laidOut (by kernel_rfl) (of_decide_eq_true (by kernel_rfl)) k1 bel lt1) (trodAll_cons_mk (Below.trod laidOut (by kernel_rfl) (of_decide_eq_true (by kernel_rfl)) k2 bel lt2) trodAll_mk0))), rfl, bel.frame _, fun h => by cases h⟩

theorem over : Rows.natRingUptoRow.holds Try.pinned (Rows.OpenSpec.upto Rows.natRingSpec) :=
  OpenClaim.holds_of_cond 5 Try.f5 rfl rfl rfl rfl rfl rfl rfl ⟨rfl, rfl, rfl, rfl, rfl⟩ rfl rfl rfl rfl rfl (by kernel_rfl) Try.func5 (by kernel_rfl)
    (of_decide_eq_true (by kernel_rfl)) (by unfold Func.isWrapper; first | (rw [if_pos (by decide +kernel)]; kernel_rfl) | (rw [if_neg (by decide +kernel)]; exact ⟨rfl, rfl⟩))
    (fun os started H enc _ F => lifted os started H enc F)

/-- ████ THE STATEMENT ████ -/
theorem proved : Rows.NatRingUptoSaid := over
end Go.Proofs.Ytaaiogpdeahaaab.natRing
namespace Go.Proofs.Ytaaiogpdeahaaab
/-- THE STATEMENT. -/
theorem natRingUpto_holds : Rows.NatRingUptoSaid := natRing.proved
#print axioms natRingUpto_holds
end Go.Proofs.Ytaaiogpdeahaaab
