/- For every input the law NatDivs returns true: quotients and remainders of naturals are exact, by one limb and by many; dividing by nought is refused. No condition. -/
import Derived.Test.YtaaiogpdeahaaaaRows
import Derived.WalkKit
import Derived.ProofKit
import Derived.OpenShut
import Derived.ShutString
import Derived.ChangeOld
import Derived.Below
import Derived.Test.YtaaiogpdeahaaaaDivAll
import Derived.Test.YtaaiogpdeahaaaaBitDiv
import Derived.Test.YtaaiogpdeahaaaaFew3
namespace Go.Proofs.Ytaaiogpdeahaaaa.natDivs
open Go.ChangeShapes Go.WideShapes Go.ChangeAt Go.RowKit
open Go.ChangeMaps (open_string shut_string)
set_option linter.unusedVariables false

theorem own : ownKnob Try.prog.godebug = none := by kernel_rfl
theorem laidOut : laidOutB Try.prog = true := by kernel_rfl

/-- WHAT THE WALK IS TOLD OF A SLICE OF INTEGERS THAT CAME IN: it is nil; or it leads to a row of 'cap' cells, the numbers 'zs' (the first 'len' are its elements, the rest its spare room), each fitting its kind. -/
def IsRow (k : IntKind) (w : World) (a : Option Addr) (len cap : Nat) (zs : List Int) : Prop :=
  (a = none ∧ len = 0 ∧ cap = 0 ∧ zs = []) ∨
  ∃ x, a = some x ∧ len ≤ cap ∧ cap ≤ maxLen ∧ zs.length = cap ∧ (∀ i, i < zs.length → w.cell? (x.add i) = some (.int k (zs.getD i 0))) ∧ ∀ n ∈ zs, (Lit.int k n).wf = true

open Mem LimbNum Limb1 Limb2 Limb4 RefL NatL DivW DivOne DivMod DivAll BitMul BitDiv Words Few3

theorem qlen (N M m : Nat) (h : (nb N).length ≤ m) : (nb (N / M)).length ≤ m := Nat.le_trans (nb_mono _ _ (Nat.div_le_self _ _)) h
theorem rlen (N M m : Nat) (h : (nb N).length ≤ m) : (nb (N % M)).length ≤ m := Nat.le_trans (nb_mono _ _ (Nat.mod_le _ _)) h
set_option maxRecDepth 20000 in
set_option maxHeartbeats 4000000 in
theorem law_zz (A B : List Nat) (ao bo : Option Addr) (cap1 cap2 : Nat) (w : World) (hl : Lies w ao cap1 (ints .u32 A)) (hl2 : Lies w bo cap2 (ints .u32 B)) (hA : Small A) (hB : Small B) (h0 : val (B.take 60) = 0) :
    Calls Try.prog 6 #[.slice ao A.length cap1, .slice bo B.length cap2, .int .u32 0] w fun e w' => e = .returned (.bool true) ∧ Below w.heap.size w w' := by
  have cF1 := fun (W : World) (hb : Below w.heap.size w W) => few_any A 60 (by omega) ao cap1 W (hl.below hb (Nat.le_refl _))
  have cF2 := fun (W : World) (hb : Below w.heap.size w W) => few_any B 60 (by omega) bo cap2 W (hl2.below hb (Nat.le_refl _))
  have sA := small_take A 60 hA
  have sB := small_take B 60 hB
  have lA : (A.take 60).length ≤ 60 := by simp; omega
  have lB : (B.take 60).length ≤ 60 := by simp; omega
  clear hl hl2 hA hB
  generalize A.take 60 = P at *
  generalize B.take 60 = Q at *
  have cC1 := fun (W : World) (o : Option Addr) (c : Nat) (h : Lies W o c (ints .u32 P)) => copy_any P o c W h (by omega)
  have cC2 := fun (W : World) (o : Option Addr) (c : Nat) (h : Lies W o c (ints .u32 Q)) => copy_any Q o c W h (by omega)
  have cO1 := fun (W : World) (o : Option Addr) (c : Nat) (h : Lies W o c (ints .u32 P)) => of_any P o c W h sA (by omega)
  have cO2 := fun (W : World) (o : Option Addr) (c : Nat) (h : Lies W o c (ints .u32 Q)) => of_any Q o c W h sB (by omega)
  have b1 := bits_le P 60 sA lA
  have cDz := fun (W : World) (o1 o2 : Option Addr) (c1 c2 : Nat) (h1 : Lies W o1 c1 (ints .u32 P)) (h2 : Lies W o2 c2 (ints .u32 Q)) => divmod_zero P Q o1 o2 c1 c2 W h1 h2 sA sB h0
  rw [h0, nb_zero] at cO2
  simp only [List.length_nil] at cO2
  have cWz := fun (W : World) (o : Option Addr) (c : Nat) => divword_zero P o c W
  clear b1 sA sB lA lB h0
  generalize nb (val P) = X at *
  have t1 : True := trivial
  have t2 : True := trivial
  have t3 : True := trivial
  have t4 : True := trivial
  have t5 : True := trivial
  have t6 : True := trivial
  have t7 : True := trivial
  have t8 : True := trivial
  have t9 : True := trivial
  have t10 : True := trivial
  go_enter Try.func6, Try.ntmps6
  go_wp2_with (first
    | (go_at_call 21; have _t := t1; clear _t t1; refine (cF1 _ (Below.refl _ _)).mono ?_; rintro e w1 ⟨o_a, p_a, rfl, R_a_1, hb1⟩; have H1 := hb1)
    | (go_at_call 21; have _t := t2; clear _t t2; refine (cF2 _ H1).mono ?_; rintro e w2 ⟨o_b, p_b, rfl, R_b_2, hb2⟩; have H2 := bt H1 hb2; have R_a_2 := keep R_a_1 hb2; clear R_a_1)
    | (go_at_call 9; have _t := t3; clear _t t3; refine (cC1 _ _ _ (lies_of_owns R_a_2)).mono ?_; rintro e w3 ⟨o_ca, p_ca, rfl, R_ca_3, hb3⟩; have H3 := bt H2 hb3; have R_a_3 := keep R_a_2 hb3; clear R_a_2; have R_b_3 := keep R_b_2 hb3; clear R_b_2)
    | (go_at_call 9; have _t := t4; clear _t t4; refine (cC2 _ _ _ (lies_of_owns R_b_3)).mono ?_; rintro e w4 ⟨o_cb, p_cb, rfl, R_cb_4, hb4⟩; have H4 := bt H3 hb4; have R_a_4 := keep R_a_3 hb4; clear R_a_3; have R_b_4 := keep R_b_3 hb4; clear R_b_3; have R_ca_4 := keep R_ca_3 hb4; clear R_ca_3)
    | (go_at_call 25; have _t := t5; clear _t t5; refine (cDz _ _ _ _ _ (lies_of_owns R_ca_4) (lies_of_owns R_cb_4)).mono ?_; rintro e w5 ⟨rfl, hw⟩; have hw2 := hw.symm; clear hw; subst hw2; have H5 := H4; have R_a_5 := R_a_4; clear R_a_4; have R_b_5 := R_b_4; clear R_b_4)
    | (go_at_call 10; have _t := t6; clear _t t6; refine (cO1 _ _ _ (lies_of_owns R_a_5)).mono ?_; rintro e w6 ⟨o_x, p_x, rfl, R_x_6, hb6⟩; have H6 := bt H5 hb6; have R_a_6 := keep R_a_5 hb6; clear R_a_5; have R_b_6 := keep R_b_5 hb6; clear R_b_5)
    | (go_at_call 10; have _t := t7; clear _t t7; refine (cO2 _ _ _ (lies_of_owns R_b_6)).mono ?_; rintro e w7 ⟨o_y, p_y, rfl, R_y_7, hb7⟩; have H7 := bt H6 hb7; have R_a_7 := keep R_a_6 hb7; clear R_a_6)
    | (go_at_call 9; have _t := t8; clear _t t8; refine (cC1 _ _ _ (lies_of_owns R_a_7)).mono ?_; rintro e w8 ⟨o_ca2, p_ca2, rfl, R_ca2_8, hb8⟩; have H8 := bt H7 hb8)
    | (go_at_call 27; have _t := t9; clear _t t9; refine (cWz _ _ _).mono ?_; rintro e w9 ⟨rfl, hw⟩; have hw2 := hw.symm; clear hw; subst hw2; have H9 := H8)
    | (go_at_call 22; have _t := t10; clear _t t10; refine (awake3 _).mono ?_; rintro e w10 ⟨rfl, hb10⟩; have H10 := bt H9 hb10))
  all_goals go_ret
  all_goals exact ⟨rfl, H10⟩

set_option maxRecDepth 20000 in
set_option maxHeartbeats 4000000 in
theorem law_zn (A B : List Nat) (v : Nat) (ao bo : Option Addr) (cap1 cap2 : Nat) (w : World) (hl : Lies w ao cap1 (ints .u32 A)) (hl2 : Lies w bo cap2 (ints .u32 B)) (hA : Small A) (hB : Small B) (h0 : val (B.take 60) = 0) (hv0 : 0 < v) (hv : v < 4294967296) :
    Calls Try.prog 6 #[.slice ao A.length cap1, .slice bo B.length cap2, .int .u32 (v : Int)] w fun e w' => e = .returned (.bool true) ∧ Below w.heap.size w w' := by
  have cF1 := fun (W : World) (hb : Below w.heap.size w W) => few_any A 60 (by omega) ao cap1 W (hl.below hb (Nat.le_refl _))
  have cF2 := fun (W : World) (hb : Below w.heap.size w W) => few_any B 60 (by omega) bo cap2 W (hl2.below hb (Nat.le_refl _))
  have sA := small_take A 60 hA
  have sB := small_take B 60 hB
  have lA : (A.take 60).length ≤ 60 := by simp; omega
  have lB : (B.take 60).length ≤ 60 := by simp; omega
  clear hl hl2 hA hB
  generalize A.take 60 = P at *
  generalize B.take 60 = Q at *
  have cC1 := fun (W : World) (o : Option Addr) (c : Nat) (h : Lies W o c (ints .u32 P)) => copy_any P o c W h (by omega)
  have cC2 := fun (W : World) (o : Option Addr) (c : Nat) (h : Lies W o c (ints .u32 Q)) => copy_any Q o c W h (by omega)
  have cO1 := fun (W : World) (o : Option Addr) (c : Nat) (h : Lies W o c (ints .u32 P)) => of_any P o c W h sA (by omega)
  have cO2 := fun (W : World) (o : Option Addr) (c : Nat) (h : Lies W o c (ints .u32 Q)) => of_any Q o c W h sB (by omega)
  have b1 := bits_le P 60 sA lA
  have cDz := fun (W : World) (o1 o2 : Option Addr) (c1 c2 : Nat) (h1 : Lies W o1 c1 (ints .u32 P)) (h2 : Lies W o2 c2 (ints .u32 Q)) => divmod_zero P Q o1 o2 c1 c2 W h1 h2 sA sB h0
  rw [h0, nb_zero] at cO2
  simp only [List.length_nil] at cO2
  have cW := fun (W : World) (o : Option Addr) (c : Nat) (h : Lies W o c (ints .u32 P)) => divword_any P v o c W h sA hv0 hv (by omega)
  have cRW := fun (W : World) => rword_any v W (by omega)
  have cR2 := fun (W : World) (o1 o2 : Option Addr) (c1 c2 : Nat) (h1 : Lies W o1 c1 (bools (nb (val P)))) (h2 : Lies W o2 c2 (bools (nb v))) => rdiv_core (nb (val P)) v (val P / v) (val P % v) (by unfold Hid; rw [fromL_nb]) (by unfold Hid; rw [fromL_nb]) hv0 o1 o2 c1 c2 W h1 h2 (by omega)
  have b4 := qlen (val P) v _ b1
  have cTp := fun (W : World) (o : Option Addr) (c : Nat) (h : Lies W o c (bools (nb (val P / v)))) => to_any (nb (val P / v)) o c W h (by omega)
  rw [fromL_nb] at cTp
  have cSp := fun (W : World) (o1 o2 : Option Addr) (c1 c2 : Nat) (h1 : Lies W o1 c1 (ints .u32 (nl (val P / v)))) (h2 : Lies W o2 c2 (ints .u32 (nl (val P / v)))) => same_any (nl (val P / v)) (nl (val P / v)) o1 o2 c1 c2 W h1 h2
  simp only [decide_true] at cSp
  have hm := Nat.mod_lt (val P) hv0
  have b5 : (nb (val P % v)).length ≤ 64 := nb_lt _ _ (by omega)
  have cLow := fun (W : World) (o : Option Addr) (c : Nat) (h : Lies W o c (bools (nb (val P % v)))) => rlow_any (nb (val P % v)) o c W h
  rw [List.take_of_length_le b5, fromL_nb] at cLow
  have hmi : ((val P % v : Nat) : Int) < 4294967296 := by omega
  have hmi0 : 0 ≤ ((val P % v : Nat) : Int) := Int.natCast_nonneg _
  obtain ⟨VI, eV⟩ : ∃ x : Int, x = (v : Int) := ⟨_, rfl⟩
  rw [← eV] at cW cRW
  rw [← eV]
  have hV0 : 1 ≤ VI := by omega
  have hV1 : VI < 4294967296 := by omega
  clear b4 b5 eV hv hv0 hm
  generalize nl (val P / v) = NP at *
  generalize nb (val P / v) = BP at *
  generalize nb (val P % v) = BS at *
  generalize ((val P % v : Nat) : Int) = RI at *
  generalize nb v = BV at *
  clear b1 sA sB lA lB h0
  generalize nb (val P) = X at *
  have t1 : True := trivial
  have t2 : True := trivial
  have t3 : True := trivial
  have t4 : True := trivial
  have t5 : True := trivial
  have t6 : True := trivial
  have t7 : True := trivial
  have t8 : True := trivial
  have t9 : True := trivial
  have t10 : True := trivial
  have t11 : True := trivial
  have t12 : True := trivial
  have t13 : True := trivial
  have t14 : True := trivial
  have t15 : True := trivial
  go_enter Try.func6, Try.ntmps6
  go_wp2_with (first
    | (go_at_call 21; have _t := t1; clear _t t1; refine (cF1 _ (Below.refl _ _)).mono ?_; rintro e w1 ⟨o_a, p_a, rfl, R_a_1, hb1⟩; have H1 := hb1)
    | (go_at_call 21; have _t := t2; clear _t t2; refine (cF2 _ H1).mono ?_; rintro e w2 ⟨o_b, p_b, rfl, R_b_2, hb2⟩; have H2 := bt H1 hb2; have R_a_2 := keep R_a_1 hb2; clear R_a_1)
    | (go_at_call 9; have _t := t3; clear _t t3; refine (cC1 _ _ _ (lies_of_owns R_a_2)).mono ?_; rintro e w3 ⟨o_ca, p_ca, rfl, R_ca_3, hb3⟩; have H3 := bt H2 hb3; have R_a_3 := keep R_a_2 hb3; clear R_a_2; have R_b_3 := keep R_b_2 hb3; clear R_b_2)
    | (go_at_call 9; have _t := t4; clear _t t4; refine (cC2 _ _ _ (lies_of_owns R_b_3)).mono ?_; rintro e w4 ⟨o_cb, p_cb, rfl, R_cb_4, hb4⟩; have H4 := bt H3 hb4; have R_a_4 := keep R_a_3 hb4; clear R_a_3; have R_b_4 := keep R_b_3 hb4; clear R_b_3; have R_ca_4 := keep R_ca_3 hb4; clear R_ca_3)
    | (go_at_call 25; have _t := t5; clear _t t5; refine (cDz _ _ _ _ _ (lies_of_owns R_ca_4) (lies_of_owns R_cb_4)).mono ?_; rintro e w5 ⟨rfl, hw⟩; have hw2 := hw.symm; clear hw; subst hw2; have H5 := H4; have R_a_5 := R_a_4; clear R_a_4; have R_b_5 := R_b_4; clear R_b_4)
    | (go_at_call 10; have _t := t6; clear _t t6; refine (cO1 _ _ _ (lies_of_owns R_a_5)).mono ?_; rintro e w6 ⟨o_x, p_x, rfl, R_x_6, hb6⟩; have H6 := bt H5 hb6; have R_a_6 := keep R_a_5 hb6; clear R_a_5; have R_b_6 := keep R_b_5 hb6; clear R_b_5)
    | (go_at_call 10; have _t := t7; clear _t t7; refine (cO2 _ _ _ (lies_of_owns R_b_6)).mono ?_; rintro e w7 ⟨o_y, p_y, rfl, R_y_7, hb7⟩; have H7 := bt H6 hb7; have R_a_7 := keep R_a_6 hb7; clear R_a_6; have R_x_7 := keep R_x_6 hb7; clear R_x_6)
    | (go_at_call 9; have _t := t8; clear _t t8; refine (cC1 _ _ _ (lies_of_owns R_a_7)).mono ?_; rintro e w8 ⟨o_ca2, p_ca2, rfl, R_ca2_8, hb8⟩; have H8 := bt H7 hb8; have R_x_8 := keep R_x_7 hb8; clear R_x_7)
    | (go_at_call 27; have _t := t9; clear _t t9; refine (cW _ _ _ (lies_of_owns R_ca2_8)).mono ?_; rintro e w9 ⟨o_p, p_p, rfl, R_p_9, hb9⟩; have H9 := bt H8 hb9; have R_x_9 := keep R_x_8 hb9; clear R_x_8)
    | (go_at_call 28; have _t := t10; clear _t t10; refine (cRW _).mono ?_; rintro e w10 ⟨o_yw, p_yw, rfl, R_yw_10, hb10⟩; have H10 := bt H9 hb10; have R_x_10 := keep R_x_9 hb10; clear R_x_9; have R_p_10 := keep R_p_9 hb10; clear R_p_9)
    | (go_at_call 26; have _t := t11; clear _t t11; refine (cR2 _ _ _ _ _ (lies_of_owns R_x_10) (lies_of_owns R_yw_10)).mono ?_; rintro e w11 ⟨o_vq, p_vq, o_vr, p_vr, rfl, R_vq_11, R_vr_11, hb11⟩; have H11 := bt H10 hb11; have R_p_11 := keep R_p_10 hb11; clear R_p_10)
    | (go_at_call 22; have _t := t12; clear _t t12; refine (awake3 _).mono ?_; rintro e w12 ⟨rfl, hb12⟩; have H12 := bt H11 hb12; have R_p_12 := keep R_p_11 hb12; clear R_p_11; have R_vq_12 := keep R_vq_11 hb12; clear R_vq_11; have R_vr_12 := keep R_vr_11 hb12; clear R_vr_11)
    | (go_at_call 14; have _t := t13; clear _t t13; refine (cTp _ _ _ (lies_of_owns R_vq_12)).mono ?_; rintro e w13 ⟨o_tp, p_tp, rfl, R_tp_13, hb13⟩; have H13 := bt H12 hb13; have R_p_13 := keep R_p_12 hb13; clear R_p_12; have R_vr_13 := keep R_vr_12 hb13; clear R_vr_12)
    | (go_at_call 12; have _t := t14; clear _t t14; refine (cSp _ _ _ _ _ (lies_of_owns R_p_13) (lies_of_owns R_tp_13)).mono ?_; rintro e w14 ⟨rfl, hb14⟩; have H14 := bt H13 hb14; have R_vr_14 := keep R_vr_13 hb14; clear R_vr_13)
    | (go_at_call 29; have _t := t15; clear _t t15; refine (cLow _ _ _ (lies_of_owns R_vr_14)).mono ?_; rintro e w15 ⟨rfl, hw⟩; have hw2 := hw.symm; clear hw; subst hw2; have H15 := H14))
  all_goals go_ret
  all_goals exact ⟨rfl, H15⟩

set_option maxRecDepth 20000 in
set_option maxHeartbeats 4000000 in
theorem law_nz (A B : List Nat) (ao bo : Option Addr) (cap1 cap2 : Nat) (w : World) (hl : Lies w ao cap1 (ints .u32 A)) (hl2 : Lies w bo cap2 (ints .u32 B)) (hA : Small A) (hB : Small B) (h0 : val (B.take 60) ≠ 0) :
    Calls Try.prog 6 #[.slice ao A.length cap1, .slice bo B.length cap2, .int .u32 0] w fun e w' => e = .returned (.bool true) ∧ Below w.heap.size w w' := by
  have cF1 := fun (W : World) (hb : Below w.heap.size w W) => few_any A 60 (by omega) ao cap1 W (hl.below hb (Nat.le_refl _))
  have cF2 := fun (W : World) (hb : Below w.heap.size w W) => few_any B 60 (by omega) bo cap2 W (hl2.below hb (Nat.le_refl _))
  have sA := small_take A 60 hA
  have sB := small_take B 60 hB
  have lA : (A.take 60).length ≤ 60 := by simp; omega
  have lB : (B.take 60).length ≤ 60 := by simp; omega
  clear hl hl2 hA hB
  generalize A.take 60 = P at *
  generalize B.take 60 = Q at *
  have cC1 := fun (W : World) (o : Option Addr) (c : Nat) (h : Lies W o c (ints .u32 P)) => copy_any P o c W h (by omega)
  have cC2 := fun (W : World) (o : Option Addr) (c : Nat) (h : Lies W o c (ints .u32 Q)) => copy_any Q o c W h (by omega)
  have cO1 := fun (W : World) (o : Option Addr) (c : Nat) (h : Lies W o c (ints .u32 P)) => of_any P o c W h sA (by omega)
  have cO2 := fun (W : World) (o : Option Addr) (c : Nat) (h : Lies W o c (ints .u32 Q)) => of_any Q o c W h sB (by omega)
  have b1 := bits_le P 60 sA lA
  have cD := fun (W : World) (o1 o2 : Option Addr) (c1 c2 : Nat) (h1 : Lies W o1 c1 (ints .u32 P)) (h2 : Lies W o2 c2 (ints .u32 Q)) => divmod_any P Q o1 o2 c1 c2 W h1 h2 sA sB h0 (by omega)
  have cR := fun (W : World) (o1 o2 : Option Addr) (c1 c2 : Nat) (h1 : Lies W o1 c1 (bools (nb (val P)))) (h2 : Lies W o2 c2 (bools (nb (val Q)))) => rdiv_core (nb (val P)) (val Q) (val P / val Q) (val P % val Q) (by unfold Hid; rw [fromL_nb]) (by unfold Hid; rw [fromL_nb]) (Nat.pos_of_ne_zero h0) o1 o2 c1 c2 W h1 h2 (by omega)
  have b2 := qlen (val P) (val Q) _ b1
  have b3 := rlen (val P) (val Q) _ b1
  have cTq := fun (W : World) (o : Option Addr) (c : Nat) (h : Lies W o c (bools (nb (val P / val Q)))) => to_any (nb (val P / val Q)) o c W h (by omega)
  have cTr := fun (W : World) (o : Option Addr) (c : Nat) (h : Lies W o c (bools (nb (val P % val Q)))) => to_any (nb (val P % val Q)) o c W h (by omega)
  rw [fromL_nb] at cTq cTr
  have cSq := fun (W : World) (o1 o2 : Option Addr) (c1 c2 : Nat) (h1 : Lies W o1 c1 (ints .u32 (nl (val P / val Q)))) (h2 : Lies W o2 c2 (ints .u32 (nl (val P / val Q)))) => same_any (nl (val P / val Q)) (nl (val P / val Q)) o1 o2 c1 c2 W h1 h2
  have cSr := fun (W : World) (o1 o2 : Option Addr) (c1 c2 : Nat) (h1 : Lies W o1 c1 (ints .u32 (nl (val P % val Q)))) (h2 : Lies W o2 c2 (ints .u32 (nl (val P % val Q)))) => same_any (nl (val P % val Q)) (nl (val P % val Q)) o1 o2 c1 c2 W h1 h2
  simp only [decide_true] at cSq cSr
  have hy : 1 ≤ ((nb (val Q)).length : Int) := by
    rw [nb_pos h0]; simp; omega
  clear b2 b3
  generalize nl (val P / val Q) = NQ at *
  generalize nl (val P % val Q) = NR at *
  generalize nb (val P / val Q) = BQ at *
  generalize nb (val P % val Q) = BR at *
  have cWz := fun (W : World) (o : Option Addr) (c : Nat) => divword_zero P o c W
  clear b1 sA sB lA lB h0
  generalize nb (val P) = X at *
  generalize nb (val Q) = Y at *
  have t1 : True := trivial
  have t2 : True := trivial
  have t3 : True := trivial
  have t4 : True := trivial
  have t5 : True := trivial
  have t6 : True := trivial
  have t7 : True := trivial
  have t8 : True := trivial
  have t9 : True := trivial
  have t10 : True := trivial
  have t11 : True := trivial
  have t12 : True := trivial
  have t13 : True := trivial
  have t14 : True := trivial
  have t15 : True := trivial
  go_enter Try.func6, Try.ntmps6
  go_wp2_with (first
    | (go_at_call 21; have _t := t1; clear _t t1; refine (cF1 _ (Below.refl _ _)).mono ?_; rintro e w1 ⟨o_a, p_a, rfl, R_a_1, hb1⟩; have H1 := hb1)
    | (go_at_call 21; have _t := t2; clear _t t2; refine (cF2 _ H1).mono ?_; rintro e w2 ⟨o_b, p_b, rfl, R_b_2, hb2⟩; have H2 := bt H1 hb2; have R_a_2 := keep R_a_1 hb2; clear R_a_1)
    | (go_at_call 9; have _t := t3; clear _t t3; refine (cC1 _ _ _ (lies_of_owns R_a_2)).mono ?_; rintro e w3 ⟨o_ca, p_ca, rfl, R_ca_3, hb3⟩; have H3 := bt H2 hb3; have R_a_3 := keep R_a_2 hb3; clear R_a_2; have R_b_3 := keep R_b_2 hb3; clear R_b_2)
    | (go_at_call 9; have _t := t4; clear _t t4; refine (cC2 _ _ _ (lies_of_owns R_b_3)).mono ?_; rintro e w4 ⟨o_cb, p_cb, rfl, R_cb_4, hb4⟩; have H4 := bt H3 hb4; have R_a_4 := keep R_a_3 hb4; clear R_a_3; have R_b_4 := keep R_b_3 hb4; clear R_b_3; have R_ca_4 := keep R_ca_3 hb4; clear R_ca_3)
    | (go_at_call 25; have _t := t5; clear _t t5; refine (cD _ _ _ _ _ (lies_of_owns R_ca_4) (lies_of_owns R_cb_4)).mono ?_; rintro e w5 ⟨o_q, p_q, o_r, p_r, rfl, R_q_5, R_r_5, hb5⟩; have H5 := bt H4 hb5; have R_a_5 := keep R_a_4 hb5; clear R_a_4; have R_b_5 := keep R_b_4 hb5; clear R_b_4)
    | (go_at_call 10; have _t := t6; clear _t t6; refine (cO1 _ _ _ (lies_of_owns R_a_5)).mono ?_; rintro e w6 ⟨o_x, p_x, rfl, R_x_6, hb6⟩; have H6 := bt H5 hb6; have R_a_6 := keep R_a_5 hb6; clear R_a_5; have R_b_6 := keep R_b_5 hb6; clear R_b_5; have R_q_6 := keep R_q_5 hb6; clear R_q_5; have R_r_6 := keep R_r_5 hb6; clear R_r_5)
    | (go_at_call 10; have _t := t7; clear _t t7; refine (cO2 _ _ _ (lies_of_owns R_b_6)).mono ?_; rintro e w7 ⟨o_y, p_y, rfl, R_y_7, hb7⟩; have H7 := bt H6 hb7; have R_a_7 := keep R_a_6 hb7; clear R_a_6; have R_q_7 := keep R_q_6 hb7; clear R_q_6; have R_r_7 := keep R_r_6 hb7; clear R_r_6; have R_x_7 := keep R_x_6 hb7; clear R_x_6)
    | (go_at_call 26; have _t := t8; clear _t t8; refine (cR _ _ _ _ _ (lies_of_owns R_x_7) (lies_of_owns R_y_7)).mono ?_; rintro e w8 ⟨o_wq, p_wq, o_wr, p_wr, rfl, R_wq_8, R_wr_8, hb8⟩; have H8 := bt H7 hb8; have R_a_8 := keep R_a_7 hb8; clear R_a_7; have R_q_8 := keep R_q_7 hb8; clear R_q_7; have R_r_8 := keep R_r_7 hb8; clear R_r_7)
    | (go_at_call 14; have _t := t9; clear _t t9; refine (cTq _ _ _ (lies_of_owns R_wq_8)).mono ?_; rintro e w9 ⟨o_tq, p_tq, rfl, R_tq_9, hb9⟩; have H9 := bt H8 hb9; have R_a_9 := keep R_a_8 hb9; clear R_a_8; have R_q_9 := keep R_q_8 hb9; clear R_q_8; have R_r_9 := keep R_r_8 hb9; clear R_r_8; have R_wr_9 := keep R_wr_8 hb9; clear R_wr_8)
    | (go_at_call 12; have _t := t10; clear _t t10; refine (cSq _ _ _ _ _ (lies_of_owns R_q_9) (lies_of_owns R_tq_9)).mono ?_; rintro e w10 ⟨rfl, hb10⟩; have H10 := bt H9 hb10; have R_a_10 := keep R_a_9 hb10; clear R_a_9; have R_r_10 := keep R_r_9 hb10; clear R_r_9; have R_wr_10 := keep R_wr_9 hb10; clear R_wr_9)
    | (go_at_call 14; have _t := t11; clear _t t11; refine (cTr _ _ _ (lies_of_owns R_wr_10)).mono ?_; rintro e w11 ⟨o_tr, p_tr, rfl, R_tr_11, hb11⟩; have H11 := bt H10 hb11; have R_a_11 := keep R_a_10 hb11; clear R_a_10; have R_r_11 := keep R_r_10 hb11; clear R_r_10)
    | (go_at_call 12; have _t := t12; clear _t t12; refine (cSr _ _ _ _ _ (lies_of_owns R_r_11) (lies_of_owns R_tr_11)).mono ?_; rintro e w12 ⟨rfl, hb12⟩; have H12 := bt H11 hb12; have R_a_12 := keep R_a_11 hb12; clear R_a_11)
    | (go_at_call 9; have _t := t13; clear _t t13; refine (cC1 _ _ _ (lies_of_owns R_a_12)).mono ?_; rintro e w13 ⟨o_ca2, p_ca2, rfl, R_ca2_13, hb13⟩; have H13 := bt H12 hb13)
    | (go_at_call 27; have _t := t14; clear _t t14; refine (cWz _ _ _).mono ?_; rintro e w14 ⟨rfl, hw⟩; have hw2 := hw.symm; clear hw; subst hw2; have H14 := H13)
    | (go_at_call 22; have _t := t15; clear _t t15; refine (awake3 _).mono ?_; rintro e w15 ⟨rfl, hb15⟩; have H15 := bt H14 hb15))
  all_goals go_ret
  all_goals exact ⟨rfl, H15⟩

set_option maxRecDepth 20000 in
set_option maxHeartbeats 4000000 in
theorem law_nn (A B : List Nat) (v : Nat) (ao bo : Option Addr) (cap1 cap2 : Nat) (w : World) (hl : Lies w ao cap1 (ints .u32 A)) (hl2 : Lies w bo cap2 (ints .u32 B)) (hA : Small A) (hB : Small B) (h0 : val (B.take 60) ≠ 0) (hv0 : 0 < v) (hv : v < 4294967296) :
    Calls Try.prog 6 #[.slice ao A.length cap1, .slice bo B.length cap2, .int .u32 (v : Int)] w fun e w' => e = .returned (.bool true) ∧ Below w.heap.size w w' := by
  have cF1 := fun (W : World) (hb : Below w.heap.size w W) => few_any A 60 (by omega) ao cap1 W (hl.below hb (Nat.le_refl _))
  have cF2 := fun (W : World) (hb : Below w.heap.size w W) => few_any B 60 (by omega) bo cap2 W (hl2.below hb (Nat.le_refl _))
  have sA := small_take A 60 hA
  have sB := small_take B 60 hB
  have lA : (A.take 60).length ≤ 60 := by simp; omega
  have lB : (B.take 60).length ≤ 60 := by simp; omega
  clear hl hl2 hA hB
  generalize A.take 60 = P at *
  generalize B.take 60 = Q at *
  have cC1 := fun (W : World) (o : Option Addr) (c : Nat) (h : Lies W o c (ints .u32 P)) => copy_any P o c W h (by omega)
  have cC2 := fun (W : World) (o : Option Addr) (c : Nat) (h : Lies W o c (ints .u32 Q)) => copy_any Q o c W h (by omega)
  have cO1 := fun (W : World) (o : Option Addr) (c : Nat) (h : Lies W o c (ints .u32 P)) => of_any P o c W h sA (by omega)
  have cO2 := fun (W : World) (o : Option Addr) (c : Nat) (h : Lies W o c (ints .u32 Q)) => of_any Q o c W h sB (by omega)
  have b1 := bits_le P 60 sA lA
  have cD := fun (W : World) (o1 o2 : Option Addr) (c1 c2 : Nat) (h1 : Lies W o1 c1 (ints .u32 P)) (h2 : Lies W o2 c2 (ints .u32 Q)) => divmod_any P Q o1 o2 c1 c2 W h1 h2 sA sB h0 (by omega)
  have cR := fun (W : World) (o1 o2 : Option Addr) (c1 c2 : Nat) (h1 : Lies W o1 c1 (bools (nb (val P)))) (h2 : Lies W o2 c2 (bools (nb (val Q)))) => rdiv_core (nb (val P)) (val Q) (val P / val Q) (val P % val Q) (by unfold Hid; rw [fromL_nb]) (by unfold Hid; rw [fromL_nb]) (Nat.pos_of_ne_zero h0) o1 o2 c1 c2 W h1 h2 (by omega)
  have b2 := qlen (val P) (val Q) _ b1
  have b3 := rlen (val P) (val Q) _ b1
  have cTq := fun (W : World) (o : Option Addr) (c : Nat) (h : Lies W o c (bools (nb (val P / val Q)))) => to_any (nb (val P / val Q)) o c W h (by omega)
  have cTr := fun (W : World) (o : Option Addr) (c : Nat) (h : Lies W o c (bools (nb (val P % val Q)))) => to_any (nb (val P % val Q)) o c W h (by omega)
  rw [fromL_nb] at cTq cTr
  have cSq := fun (W : World) (o1 o2 : Option Addr) (c1 c2 : Nat) (h1 : Lies W o1 c1 (ints .u32 (nl (val P / val Q)))) (h2 : Lies W o2 c2 (ints .u32 (nl (val P / val Q)))) => same_any (nl (val P / val Q)) (nl (val P / val Q)) o1 o2 c1 c2 W h1 h2
  have cSr := fun (W : World) (o1 o2 : Option Addr) (c1 c2 : Nat) (h1 : Lies W o1 c1 (ints .u32 (nl (val P % val Q)))) (h2 : Lies W o2 c2 (ints .u32 (nl (val P % val Q)))) => same_any (nl (val P % val Q)) (nl (val P % val Q)) o1 o2 c1 c2 W h1 h2
  simp only [decide_true] at cSq cSr
  have hy : 1 ≤ ((nb (val Q)).length : Int) := by
    rw [nb_pos h0]; simp; omega
  clear b2 b3
  generalize nl (val P / val Q) = NQ at *
  generalize nl (val P % val Q) = NR at *
  generalize nb (val P / val Q) = BQ at *
  generalize nb (val P % val Q) = BR at *
  have cW := fun (W : World) (o : Option Addr) (c : Nat) (h : Lies W o c (ints .u32 P)) => divword_any P v o c W h sA hv0 hv (by omega)
  have cRW := fun (W : World) => rword_any v W (by omega)
  have cR2 := fun (W : World) (o1 o2 : Option Addr) (c1 c2 : Nat) (h1 : Lies W o1 c1 (bools (nb (val P)))) (h2 : Lies W o2 c2 (bools (nb v))) => rdiv_core (nb (val P)) v (val P / v) (val P % v) (by unfold Hid; rw [fromL_nb]) (by unfold Hid; rw [fromL_nb]) hv0 o1 o2 c1 c2 W h1 h2 (by omega)
  have b4 := qlen (val P) v _ b1
  have cTp := fun (W : World) (o : Option Addr) (c : Nat) (h : Lies W o c (bools (nb (val P / v)))) => to_any (nb (val P / v)) o c W h (by omega)
  rw [fromL_nb] at cTp
  have cSp := fun (W : World) (o1 o2 : Option Addr) (c1 c2 : Nat) (h1 : Lies W o1 c1 (ints .u32 (nl (val P / v)))) (h2 : Lies W o2 c2 (ints .u32 (nl (val P / v)))) => same_any (nl (val P / v)) (nl (val P / v)) o1 o2 c1 c2 W h1 h2
  simp only [decide_true] at cSp
  have hm := Nat.mod_lt (val P) hv0
  have b5 : (nb (val P % v)).length ≤ 64 := nb_lt _ _ (by omega)
  have cLow := fun (W : World) (o : Option Addr) (c : Nat) (h : Lies W o c (bools (nb (val P % v)))) => rlow_any (nb (val P % v)) o c W h
  rw [List.take_of_length_le b5, fromL_nb] at cLow
  have hmi : ((val P % v : Nat) : Int) < 4294967296 := by omega
  have hmi0 : 0 ≤ ((val P % v : Nat) : Int) := Int.natCast_nonneg _
  obtain ⟨VI, eV⟩ : ∃ x : Int, x = (v : Int) := ⟨_, rfl⟩
  rw [← eV] at cW cRW
  rw [← eV]
  have hV0 : 1 ≤ VI := by omega
  have hV1 : VI < 4294967296 := by omega
  clear b4 b5 eV hv hv0 hm
  generalize nl (val P / v) = NP at *
  generalize nb (val P / v) = BP at *
  generalize nb (val P % v) = BS at *
  generalize ((val P % v : Nat) : Int) = RI at *
  generalize nb v = BV at *
  clear b1 sA sB lA lB h0
  generalize nb (val P) = X at *
  generalize nb (val Q) = Y at *
  have t1 : True := trivial
  have t2 : True := trivial
  have t3 : True := trivial
  have t4 : True := trivial
  have t5 : True := trivial
  have t6 : True := trivial
  have t7 : True := trivial
  have t8 : True := trivial
  have t9 : True := trivial
  have t10 : True := trivial
  have t11 : True := trivial
  have t12 : True := trivial
  have t13 : True := trivial
  have t14 : True := trivial
  have t15 : True := trivial
  have t16 : True := trivial
  have t17 : True := trivial
  have t18 : True := trivial
  have t19 : True := trivial
  have t20 : True := trivial
  go_enter Try.func6, Try.ntmps6
  go_wp2_with (first
    | (go_at_call 21; have _t := t1; clear _t t1; refine (cF1 _ (Below.refl _ _)).mono ?_; rintro e w1 ⟨o_a, p_a, rfl, R_a_1, hb1⟩; have H1 := hb1)
    | (go_at_call 21; have _t := t2; clear _t t2; refine (cF2 _ H1).mono ?_; rintro e w2 ⟨o_b, p_b, rfl, R_b_2, hb2⟩; have H2 := bt H1 hb2; have R_a_2 := keep R_a_1 hb2; clear R_a_1)
    | (go_at_call 9; have _t := t3; clear _t t3; refine (cC1 _ _ _ (lies_of_owns R_a_2)).mono ?_; rintro e w3 ⟨o_ca, p_ca, rfl, R_ca_3, hb3⟩; have H3 := bt H2 hb3; have R_a_3 := keep R_a_2 hb3; clear R_a_2; have R_b_3 := keep R_b_2 hb3; clear R_b_2)
    | (go_at_call 9; have _t := t4; clear _t t4; refine (cC2 _ _ _ (lies_of_owns R_b_3)).mono ?_; rintro e w4 ⟨o_cb, p_cb, rfl, R_cb_4, hb4⟩; have H4 := bt H3 hb4; have R_a_4 := keep R_a_3 hb4; clear R_a_3; have R_b_4 := keep R_b_3 hb4; clear R_b_3; have R_ca_4 := keep R_ca_3 hb4; clear R_ca_3)
    | (go_at_call 25; have _t := t5; clear _t t5; refine (cD _ _ _ _ _ (lies_of_owns R_ca_4) (lies_of_owns R_cb_4)).mono ?_; rintro e w5 ⟨o_q, p_q, o_r, p_r, rfl, R_q_5, R_r_5, hb5⟩; have H5 := bt H4 hb5; have R_a_5 := keep R_a_4 hb5; clear R_a_4; have R_b_5 := keep R_b_4 hb5; clear R_b_4)
    | (go_at_call 10; have _t := t6; clear _t t6; refine (cO1 _ _ _ (lies_of_owns R_a_5)).mono ?_; rintro e w6 ⟨o_x, p_x, rfl, R_x_6, hb6⟩; have H6 := bt H5 hb6; have R_a_6 := keep R_a_5 hb6; clear R_a_5; have R_b_6 := keep R_b_5 hb6; clear R_b_5; have R_q_6 := keep R_q_5 hb6; clear R_q_5; have R_r_6 := keep R_r_5 hb6; clear R_r_5)
    | (go_at_call 10; have _t := t7; clear _t t7; refine (cO2 _ _ _ (lies_of_owns R_b_6)).mono ?_; rintro e w7 ⟨o_y, p_y, rfl, R_y_7, hb7⟩; have H7 := bt H6 hb7; have R_a_7 := keep R_a_6 hb7; clear R_a_6; have R_q_7 := keep R_q_6 hb7; clear R_q_6; have R_r_7 := keep R_r_6 hb7; clear R_r_6; have R_x_7 := keep R_x_6 hb7; clear R_x_6)
    | (go_at_call 26; have _t := t8; clear _t t8; refine (cR _ _ _ _ _ (lies_of_owns R_x_7) (lies_of_owns R_y_7)).mono ?_; rintro e w8 ⟨o_wq, p_wq, o_wr, p_wr, rfl, R_wq_8, R_wr_8, hb8⟩; have H8 := bt H7 hb8; have R_a_8 := keep R_a_7 hb8; clear R_a_7; have R_q_8 := keep R_q_7 hb8; clear R_q_7; have R_r_8 := keep R_r_7 hb8; clear R_r_7; have R_x_8 := keep R_x_7 hb8; clear R_x_7)
    | (go_at_call 14; have _t := t9; clear _t t9; refine (cTq _ _ _ (lies_of_owns R_wq_8)).mono ?_; rintro e w9 ⟨o_tq, p_tq, rfl, R_tq_9, hb9⟩; have H9 := bt H8 hb9; have R_a_9 := keep R_a_8 hb9; clear R_a_8; have R_q_9 := keep R_q_8 hb9; clear R_q_8; have R_r_9 := keep R_r_8 hb9; clear R_r_8; have R_x_9 := keep R_x_8 hb9; clear R_x_8; have R_wr_9 := keep R_wr_8 hb9; clear R_wr_8)
    | (go_at_call 12; have _t := t10; clear _t t10; refine (cSq _ _ _ _ _ (lies_of_owns R_q_9) (lies_of_owns R_tq_9)).mono ?_; rintro e w10 ⟨rfl, hb10⟩; have H10 := bt H9 hb10; have R_a_10 := keep R_a_9 hb10; clear R_a_9; have R_r_10 := keep R_r_9 hb10; clear R_r_9; have R_x_10 := keep R_x_9 hb10; clear R_x_9; have R_wr_10 := keep R_wr_9 hb10; clear R_wr_9)
    | (go_at_call 14; have _t := t11; clear _t t11; refine (cTr _ _ _ (lies_of_owns R_wr_10)).mono ?_; rintro e w11 ⟨o_tr, p_tr, rfl, R_tr_11, hb11⟩; have H11 := bt H10 hb11; have R_a_11 := keep R_a_10 hb11; clear R_a_10; have R_r_11 := keep R_r_10 hb11; clear R_r_10; have R_x_11 := keep R_x_10 hb11; clear R_x_10)
    | (go_at_call 12; have _t := t12; clear _t t12; refine (cSr _ _ _ _ _ (lies_of_owns R_r_11) (lies_of_owns R_tr_11)).mono ?_; rintro e w12 ⟨rfl, hb12⟩; have H12 := bt H11 hb12; have R_a_12 := keep R_a_11 hb12; clear R_a_11; have R_x_12 := keep R_x_11 hb12; clear R_x_11)
    | (go_at_call 9; have _t := t13; clear _t t13; refine (cC1 _ _ _ (lies_of_owns R_a_12)).mono ?_; rintro e w13 ⟨o_ca2, p_ca2, rfl, R_ca2_13, hb13⟩; have H13 := bt H12 hb13; have R_x_13 := keep R_x_12 hb13; clear R_x_12)
    | (go_at_call 27; have _t := t14; clear _t t14; refine (cW _ _ _ (lies_of_owns R_ca2_13)).mono ?_; rintro e w14 ⟨o_p, p_p, rfl, R_p_14, hb14⟩; have H14 := bt H13 hb14; have R_x_14 := keep R_x_13 hb14; clear R_x_13)
    | (go_at_call 28; have _t := t15; clear _t t15; refine (cRW _).mono ?_; rintro e w15 ⟨o_yw, p_yw, rfl, R_yw_15, hb15⟩; have H15 := bt H14 hb15; have R_x_15 := keep R_x_14 hb15; clear R_x_14; have R_p_15 := keep R_p_14 hb15; clear R_p_14)
    | (go_at_call 26; have _t := t16; clear _t t16; refine (cR2 _ _ _ _ _ (lies_of_owns R_x_15) (lies_of_owns R_yw_15)).mono ?_; rintro e w16 ⟨o_vq, p_vq, o_vr, p_vr, rfl, R_vq_16, R_vr_16, hb16⟩; have H16 := bt H15 hb16; have R_p_16 := keep R_p_15 hb16; clear R_p_15)
    | (go_at_call 22; have _t := t17; clear _t t17; refine (awake3 _).mono ?_; rintro e w17 ⟨rfl, hb17⟩; have H17 := bt H16 hb17; have R_p_17 := keep R_p_16 hb17; clear R_p_16; have R_vq_17 := keep R_vq_16 hb17; clear R_vq_16; have R_vr_17 := keep R_vr_16 hb17; clear R_vr_16)
    | (go_at_call 14; have _t := t18; clear _t t18; refine (cTp _ _ _ (lies_of_owns R_vq_17)).mono ?_; rintro e w18 ⟨o_tp, p_tp, rfl, R_tp_18, hb18⟩; have H18 := bt H17 hb18; have R_p_18 := keep R_p_17 hb18; clear R_p_17; have R_vr_18 := keep R_vr_17 hb18; clear R_vr_17)
    | (go_at_call 12; have _t := t19; clear _t t19; refine (cSp _ _ _ _ _ (lies_of_owns R_p_18) (lies_of_owns R_tp_18)).mono ?_; rintro e w19 ⟨rfl, hb19⟩; have H19 := bt H18 hb19; have R_vr_19 := keep R_vr_18 hb19; clear R_vr_18)
    | (go_at_call 29; have _t := t20; clear _t t20; refine (cLow _ _ _ (lies_of_owns R_vr_19)).mono ?_; rintro e w20 ⟨rfl, hw⟩; have hw2 := hw.symm; clear hw; subst hw2; have H20 := H19))
  all_goals go_ret
  all_goals exact ⟨rfl, H20⟩

theorem walk (a0 : Option Addr) (len0 cap0 : Nat) (z0 : List Int) (a1 : Option Addr) (len1 cap1 : Nat) (z1 : List Int) (a2 : Int) (w : World) (w0 : IsRow .u32 w a0 len0 cap0 z0) (w1 : IsRow .u32 w a1 len1 cap1 z1) (w2 : (Lit.int .u32 a2).wf = true) :
    Calls Try.prog 6 #[.slice a0 len0 cap0, .slice a1 len1 cap1, .int .u32 a2] w fun e w' => e = .returned (.bool true) ∧ Below w.heap.size w w' := by
  obtain ⟨A, rfl, hl, hA⟩ := lies_of_row nonneg_u32 w0
  obtain ⟨B, rfl, hl2, hB⟩ := lies_of_row nonneg_u32 w1
  have sA : Small A := fun x hx => by have := (bounds_u32 (hA x hx)).2; omega
  have sB : Small B := fun x hx => by have := (bounds_u32 (hB x hx)).2; omega
  have b2 := bounds_u32 w2
  obtain ⟨v, rfl⟩ := Int.eq_ofNat_of_zero_le b2.1
  by_cases h0 : val (B.take 60) = 0
  · rcases Nat.eq_zero_or_pos v with rfl | hv
    · exact law_zz A B a0 a1 cap0 cap1 w hl hl2 sA sB h0
    · exact law_zn A B v a0 a1 cap0 cap1 w hl hl2 sA sB h0 hv (by omega)
  · rcases Nat.eq_zero_or_pos v with rfl | hv
    · exact law_nz A B a0 a1 cap0 cap1 w hl hl2 sA sB h0
    · exact law_nn A B v a0 a1 cap0 cap1 w hl hl2 sA sB h0 hv (by omega)

/-! ### THE ROW's STEP: WRITTEN OUT: LEAVE IT -/
set_option maxRecDepth 100000 in
theorem lifted (os : Os) (started : os.Started) (H : Type) (enc : TypeId × Value → H) :
    ReturnsInHanded {} Try.checked os 6 .any (Rows.natDivsSpec.pre6 enc Try.prog Try.f6 Rows.natDivsRow.domain false) (Rows.natDivsSpec.post enc Try.prog Try.f6 false true false false) := by
  refine returnsInHanded_of_change (C := Try.checked) own started (by kernel_rfl) Try.func6
    (ChangeSpec.witness6 (enc := enc) (C := Try.checked) false ⟨#[], #[.slice none 0 0, .slice none 0 0, .int .u32 0], []⟩ 8 (by kernel_rfl) (by kernel_rfl) (by kernel_rfl) (by kernel_rfl)) ?_
  intro W base args ds gs before hval0 hW hcnd _
  have hval : ∀ (j : Nat) t v, Try.f6.params[j]? = some t → args[j]? = some v → Value.okWide Try.prog W .any base t v := hval0
  have hW' := hW
  obtain ⟨p, q, hA0, hV, rfl, hfz, hnd⟩ := hW
  have hA : DataW.TrodAll enc Try.prog W 0 (fun _ => true) true Try.f6.params.toList args.toList ds p := hA0
  rw [Try.params6] at hA hval
  obtain ⟨v0, vs0, d0, ds0, p0, q0, hargs, rfl, rfl, h0, r0⟩ := trodAll_cons hA
  obtain ⟨v1, vs1, d1, ds1, p1, q1, rfl, rfl, rfl, h1, r1⟩ := trodAll_cons r0
  obtain ⟨v2, vs2, d2, ds2, p2, q2, rfl, rfl, rfl, h2, r2⟩ := trodAll_cons r1
  obtain ⟨rfl, rfl, rfl⟩ := trodAll_nil r2
  obtain rfl : args = #[v0, v1, v2] := by cases args; simp_all
  obtain ⟨rfl, rfl⟩ := trodVars_none hV
  obtain ⟨a0, len0, cap0, rfl⟩ := okWide_slice Try.underlying22 (hval 0 22 v0 rfl rfl)
  have k0 := h0
  have lt0 : ∀ x ∈ p0, x.block < W.heap.size := by obtain ⟨m, hm⟩ := k0; exact DataW.trod_lt m _ _ _ hm
  obtain ⟨z0, w0⟩ : ∃ zs, IsRow .u32 W a0 len0 cap0 zs := by
    obtain ⟨fuel, hf⟩ := h0
    rcases open_ints Try.underlying22 Try.underlying34 (by kernel_rfl) hf with ⟨hcs, _⟩ | ⟨x, l, c, zs, hcs, _, hl, hm, hz, _, hcell, hwz⟩
    · simp [Value.cells] at hcs
      obtain ⟨rfl, rfl, rfl⟩ := hcs
      exact ⟨[], .inl ⟨rfl, rfl, rfl, rfl⟩⟩
    · simp [Value.cells] at hcs
      obtain ⟨rfl, rfl, rfl⟩ := hcs
      exact ⟨zs, .inr ⟨_, rfl, hl, hm, by simpa using hz, hcell, hwz⟩⟩
  obtain ⟨a1, len1, cap1, rfl⟩ := okWide_slice Try.underlying22 (hval 1 22 v1 rfl rfl)
  have k1 := h1
  have lt1 : ∀ x ∈ p1, x.block < W.heap.size := by obtain ⟨m, hm⟩ := k1; exact DataW.trod_lt m _ _ _ hm
  obtain ⟨z1, w1⟩ : ∃ zs, IsRow .u32 W a1 len1 cap1 zs := by
    obtain ⟨fuel, hf⟩ := h1
    rcases open_ints Try.underlying22 Try.underlying34 (by kernel_rfl) hf with ⟨hcs, _⟩ | ⟨x, l, c, zs, hcs, _, hl, hm, hz, _, hcell, hwz⟩
    · simp [Value.cells] at hcs
      obtain ⟨rfl, rfl, rfl⟩ := hcs
      exact ⟨[], .inl ⟨rfl, rfl, rfl, rfl⟩⟩
    · simp [Value.cells] at hcs
      obtain ⟨rfl, rfl, rfl⟩ := hcs
      exact ⟨zs, .inr ⟨_, rfl, hl, hm, by simpa using hz, hcell, hwz⟩⟩
  obtain ⟨a2, rfl, rfl, rfl, w2⟩ := open_int Try.underlying34 (hval 2 34 v2 rfl rfl) h2
  clear hA0 hval0
  refine (walk a0 len0 cap0 z0 a1 len1 cap1 z1 a2 W w0 w1 w2).mono fun e W' ⟨he, bel⟩ => ?_
  subst he
  exact ⟨_, rfl, _, _, _, [], _, [], hW', trodAll_mk1 (shut_bool Try.underlying4 _), (trodAll_cons_mk (Below.trod laidOut (by kernel_rfl) (of_decide_eq_true (by kernel_rfl)) k0 bel lt0) (trodAll_cons_mk (Below.trod laidOut (by kernel_rfl) (of_decide_eq_true (by kernel_rfl)) k1 bel lt1) (trodAll_cons_mk (shut_int Try.underlying34 w2) trodAll_mk0))), rfl, bel.frame _, fun h => by cases h⟩

theorem over : Rows.natDivsRow.holds Try.pinned (OpenSpec.ofChange Rows.natDivsSpec) :=
  OpenClaim.holds_of_wide 6 Try.f6 rfl rfl rfl rfl rfl rfl rfl ⟨rfl, rfl, rfl, rfl, rfl⟩ rfl rfl rfl rfl rfl (by kernel_rfl) Try.func6 (by kernel_rfl)
    (of_decide_eq_true (by kernel_rfl)) (by unfold Func.isWrapper; first | (rw [if_pos (by decide +kernel)]; kernel_rfl) | (rw [if_neg (by decide +kernel)]; exact ⟨rfl, rfl⟩))
    (fun os started H enc _ => lifted os started H enc)

/-- ████ THE STATEMENT ████ -/
theorem proved : Rows.NatDivsSaid := over
end Go.Proofs.Ytaaiogpdeahaaaa.natDivs
namespace Go.Proofs.Ytaaiogpdeahaaaa
/-- THE STATEMENT. -/
theorem natDivs_holds : Rows.NatDivsSaid := natDivs.proved
#print axioms natDivs_holds
end Go.Proofs.Ytaaiogpdeahaaaa
