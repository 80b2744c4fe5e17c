/- For every input the law LimbLaws returns true: a sum taken apart gives back its parts, a shift back undoes a shift, and order goes with sums. No condition. -/
import Derived.Test.YtgboapmnimnojacRows
import Derived.WalkKit
import Derived.ProofKit
import Derived.OpenShut
import Derived.ShutString
import Derived.ChangeOld
import Derived.Below
import Derived.Test.YtgboapmnimnojacAddL
import Derived.Test.YtgboapmnimnojacShiftL
import Derived.SizedLaws
namespace Go.Proofs.Ytgboapmnimnojac.limbLaws
open Go.ChangeShapes Go.WideShapes Go.ChangeAt Go.RowKit
open Go.ChangeMaps (open_string shut_string)
set_option linter.unusedVariables false

theorem own : ownKnob Try.prog.godebug = none := by kernel_rfl
theorem laidOut : laidOutB Try.prog = true := by kernel_rfl

/-- WHAT THE WALK IS TOLD OF A SLICE OF INTEGERS THAT CAME IN: it is nil; or it leads to a row of 'cap' cells, the numbers 'zs' (the first 'len' are its elements, the rest its spare room), each fitting its kind. -/
def IsRow (k : IntKind) (w : World) (a : Option Addr) (len cap : Nat) (zs : List Int) : Prop :=
  (a = none ∧ len = 0 ∧ cap = 0 ∧ zs = []) ∨
  ∃ x, a = some x ∧ len ≤ cap ∧ cap ≤ maxLen ∧ zs.length = cap ∧ (∀ i, i < zs.length → w.cell? (x.add i) = some (.int k (zs.getD i 0))) ∧ ∀ n ∈ zs, (Lit.int k n).wf = true

open Mem LimbNum Limb1 Limb2 Limb3 Limb4 AddL ShiftL

theorem sum_limbs (A B : List Nat) (m : Nat) (hA : Small A) (hB : Small B) (h1 : A.length ≤ m) (h2 : B.length ≤ m) : (nl (val A + val B)).length ≤ m + 1 := by
  have k1 := val_lt A hA
  have k2 := val_lt B hB
  have k3 : (4294967296 : Nat) ^ A.length ≤ 4294967296 ^ m := Nat.pow_le_pow_right (by omega) h1
  have k4 : (4294967296 : Nat) ^ B.length ≤ 4294967296 ^ m := Nat.pow_le_pow_right (by omega) h2
  apply nl_lt
  rw [Nat.pow_succ]
  generalize (4294967296 : Nat) ^ m = M at *
  omega
theorem shl_limbs (A B : List Nat) (m M q : Nat) (hA : Small A) (hB : Small B) (h1 : A.length ≤ m) (h2 : B.length ≤ m) (hM : M ≤ 32 * q) : (nl ((val A + val B) * 2 ^ M)).length ≤ m + 1 + q := by
  have k1 := val_lt A hA
  have k2 := val_lt B hB
  have k3 : (4294967296 : Nat) ^ A.length ≤ 4294967296 ^ m := Nat.pow_le_pow_right (by omega) h1
  have k4 : (4294967296 : Nat) ^ B.length ≤ 4294967296 ^ m := Nat.pow_le_pow_right (by omega) h2
  have k5 : (2 : Nat) ^ M ≤ 2 ^ (32 * q) := Nat.pow_le_pow_right (by omega) hM
  apply nl_lt
  have k6 : val A + val B < 4294967296 ^ (m + 1) := by
    rw [Nat.pow_succ]
    generalize (4294967296 : Nat) ^ m = M at *
    omega
  rw [Nat.pow_add, ← pow32 q]
  exact Nat.lt_of_lt_of_le (Nat.mul_lt_mul_of_pos_right k6 (Nat.two_pow_pos M)) (Nat.mul_le_mul_left _ k5)

set_option maxRecDepth 20000 in
set_option maxHeartbeats 1500000 in
theorem law_zero (A B : List Nat) (n mm : Int) (ao bo : Option Addr) (cap1 cap2 : Nat) (w : World) (hl : Lies w ao cap1 (ints .u32 A)) (hl2 : Lies w bo cap2 (ints .u32 B)) (hA : Small A) (hB : Small B) (hlen : A.length ≤ 35184372087808) (hlen2 : B.length ≤ 35184372087808)
    (hn : (0 ≤ n ∧ n % 500 = mm ∧ 0 ≤ mm) ∨ (n < 0 ∧ n.tmod 500 = -mm ∧ 1 ≤ mm) ∨ (n < 0 ∧ n.tmod 500 = mm ∧ 0 ≤ mm ∧ mm ≤ 0)) (hm : mm < 500) (hS : val A + val B = 0) :
    Calls Try.prog 4 #[.slice ao A.length cap1, .slice bo B.length cap2, .int .i64 n] w fun e w' => e = .returned (.bool true) ∧ Below w.heap.size w w' := by
  have hm0 : 0 ≤ mm := by omega
  have hm1 : mm ≤ 100000 := by omega
  have k1 := sum_limbs A B 35184372087808 hA hB hlen hlen2
  have k2 := shl_limbs A B 35184372087808 mm.toNat 16 hA hB hlen hlen2 (by omega)
  have k3 := nl_len B hB
  have cCA := fun (W : World) (hb : Below w.heap.size w W) => copy_any A ao cap1 W (hl.below hb (Nat.le_refl _)) (by omega)
  have cCB := fun (W : World) (hb : Below w.heap.size w W) => copy_any B bo cap2 W (hl2.below hb (Nat.le_refl _)) (by omega)
  have cCS := fun (W : World) (o : Option Addr) (cp : Nat) (h : Lies W o cp (ints .u32 (nl (val A + val B)))) => copy_any (nl (val A + val B)) o cp W h (by omega)
  have cCL := fun (W : World) (o : Option Addr) (cp : Nat) (h : Lies W o cp (ints .u32 (nl ((val A + val B) * 2 ^ mm.toNat)))) => copy_any (nl ((val A + val B) * 2 ^ mm.toNat)) o cp W h (by omega)
  have cAd := fun (W : World) (o1 o2 : Option Addr) (c1 c2 : Nat) (h1 : Lies W o1 c1 (ints .u32 A)) (h2 : Lies W o2 c2 (ints .u32 B)) => add_any A B o1 o2 c1 c2 W h1 h2 hA hB (by omega) (by omega)
  have cSu := fun (W : World) (o1 o2 : Option Addr) (c1 c2 : Nat) (h1 : Lies W o1 c1 (ints .u32 (nl (val A + val B)))) (h2 : Lies W o2 c2 (ints .u32 A)) => sub_yes (nl (val A + val B)) A o1 o2 c1 c2 W h1 h2 (small_nl _) hA (by rw [val_nl]; omega) (by omega)
  have e1 : val A + val B - val A = val B := by omega
  rw [val_nl, e1] at cSu
  have cSl := fun (W : World) (o : Option Addr) (cp : Nat) (h : Lies W o cp (ints .u32 (nl (val A + val B)))) => shl_any (nl (val A + val B)) mm o cp W hm0 hm1 h (small_nl _) (by omega)
  rw [val_nl] at cSl
  have cSr := fun (W : World) (o : Option Addr) (cp : Nat) (h : Lies W o cp (ints .u32 (nl ((val A + val B) * 2 ^ mm.toNat)))) => shr_any (nl ((val A + val B) * 2 ^ mm.toNat)) mm o cp W hm0 hm1 h (small_nl _) (by omega)
  rw [val_nl, Nat.mul_div_cancel _ (Nat.two_pow_pos mm.toNat)] at cSr
  have cC1 := fun (W : World) (o1 o2 : Option Addr) (c1 c2 : Nat) (h1 : Lies W o1 c1 (ints .u32 (nl (val B)))) (h2 : Lies W o2 c2 (ints .u32 B)) => cmp_any (nl (val B)) B o1 o2 c1 c2 W h1 h2 (small_nl _) hB
  have e2 : cmpV (val B) (val B) = 0 := by simp [cmpV]
  rw [val_nl, e2] at cC1
  have cC2 := fun (W : World) (o1 o2 : Option Addr) (c1 c2 : Nat) (h1 : Lies W o1 c1 (ints .u32 A)) (h2 : Lies W o2 c2 (ints .u32 (nl (val A + val B)))) => cmp_any A (nl (val A + val B)) o1 o2 c1 c2 W h1 h2 hA (small_nl _)
  have hc : cmpV (val A) (val A + val B) ≤ 0 := by unfold cmpV; split <;> (try split) <;> omega
  rw [val_nl] at cC2
  have cSa := fun (W : World) (o1 o2 : Option Addr) (c1 c2 : Nat) (h1 : Lies W o1 c1 (ints .u32 (nl (val A + val B)))) (h2 : Lies W o2 c2 (ints .u32 (nl (val A + val B)))) => same_any (nl (val A + val B)) (nl (val A + val B)) o1 o2 c1 c2 W h1 h2
  simp only [decide_true] at cSa
  have z1 : (((nl (val A + val B)).length : Int) == 0) = true := by rw [hS, nl_zero]; rfl
  generalize nl ((val A + val B) * 2 ^ mm.toNat) = NL at *
  generalize cmpV (val A) (val A + val B) = C at *
  generalize nl (val A + val B) = NS at *
  generalize nl (val B) = ND at *
  clear hA hB hS e1 e2 k1 k2 k3
  have t1 : True := trivial
  have t2 : True := trivial
  have t3 : True := trivial
  have t4 : True := trivial
  have t5 : True := trivial
  have t6 : True := trivial
  have t7 : True := trivial
  have t8 : True := trivial
  have t9 : True := trivial
  rcases hn with ⟨q1, q2, q3⟩ | ⟨q1, q2, q3⟩ | ⟨q1, q2, q3, q4⟩
  all_goals
    go_enter Try.func4, Try.ntmps4
    go_wp2_with (first
      | (go_at_call 7; have _t := t1; clear _t t1; refine (cCA _ (Below.refl _ _)).mono ?_; rintro e w1 ⟨ao1, cp1, rfl, hown1, hb1⟩)
      | (go_at_call 7; have _t := t2; clear _t t2; refine (cCB _ hb1).mono ?_; rintro e w2 ⟨ao2, cp2, rfl, hown2, hb2⟩)
      | (go_at_call 14; refine (cAd _ _ _ _ _ ((lies_of_owns hown1).below hb2 (Nat.le_refl _)) (lies_of_owns hown2)).mono ?_; rintro e w3 ⟨ao3, cp3, rfl, hown3, hb3⟩; have H3 := bt (bt hb1 hb2) hb3)
      | (go_at_call 7; have _t := t3; clear _t t3; refine (cCS _ _ _ (lies_of_owns hown3)).mono ?_; rintro e w4 ⟨ao4, cp4, rfl, hown4, hb4⟩)
      | (go_at_call 7; have _t := t4; clear _t t4; refine (cCA _ (bt H3 hb4)).mono ?_; rintro e w5 ⟨ao5, cp5, rfl, hown5, hb5⟩)
      | (go_at_call 15; refine (cSu _ _ _ _ _ ((lies_of_owns hown4).below hb5 (Nat.le_refl _)) (lies_of_owns hown5)).mono ?_; rintro e w6 ⟨ao6, cp6, rfl, hown6, hb6⟩; have S6 := bt (bt hb4 hb5) hb6; have H6 := bt H3 S6)
      | (go_at_call 7; have _t := t5; clear _t t5; refine (cCS _ _ _ ((lies_of_owns hown3).below S6 (Nat.le_refl _))).mono ?_; rintro e w7 ⟨ao7, cp7, rfl, hown7, hb7⟩)
      | (go_at_call 16; refine (cSl _ _ _ (lies_of_owns hown7)).mono ?_; rintro e w8 ⟨ao8, cp8, rfl, hown8, hb8⟩)
      | (go_at_call 7; have _t := t6; clear _t t6; refine (cCL _ _ _ (lies_of_owns hown8)).mono ?_; rintro e w9 ⟨ao9, cp9, rfl, hown9, hb9⟩)
      | (go_at_call 17; refine (cSr _ _ _ (lies_of_owns hown9)).mono ?_; rintro e w10 ⟨ao10, cp10, rfl, hown10, hb10⟩; have D10 := bt (bt (bt hb7 hb8) hb9) hb10; have S10 := bt S6 D10; have H10 := bt H6 D10; have L10 := bt hb9 hb10)
      | (go_at_call 9; refine (awake _).mono ?_; rintro e w11 ⟨rfl, hb11⟩)
      | (go_at_call 7; have _t := t7; clear _t t7; refine (cCB _ (bt H10 hb11)).mono ?_; rintro e w12 ⟨ao12, cp12, rfl, hown12, hb12⟩)
      | (go_at_call 18; have _t := t8; clear _t t8; refine (cC1 _ _ _ _ _ ((lies_of_owns hown6).below (bt (bt D10 hb11) hb12) (Nat.le_refl _)) (lies_of_owns hown12)).mono ?_; rintro e w13 ⟨rfl, hb13⟩; have R13 := bt (bt hb11 hb12) hb13)
      | (go_at_call 10; refine (cSa _ _ _ _ _ ((lies_of_owns hown10).below R13 (Nat.le_refl _)) ((lies_of_owns hown3).below (bt S10 R13) (Nat.le_refl _))).mono ?_; rintro e w14 ⟨rfl, hb14⟩; have R14 := bt R13 hb14; have S14 := bt S10 R14; have H14 := bt H10 R14; have L14 := bt L10 R14)
      | (go_at_call 7; refine (cCA _ H14).mono ?_; rintro e w16 ⟨ao16, cp16, rfl, hown16, hb16⟩)
      | (go_at_call 18; refine (cC2 _ _ _ _ _ (lies_of_owns hown16) ((lies_of_owns hown3).below (bt S14 hb16) (Nat.le_refl _))).mono ?_; rintro e w17 ⟨rfl, hb17⟩))
    all_goals go_ret
    all_goals exact ⟨by first | rfl | simp [hc], bt (bt H14 hb16) hb17⟩
set_option maxRecDepth 20000 in
set_option maxHeartbeats 1500000 in
theorem law_pos (A B : List Nat) (n mm : Int) (ao bo : Option Addr) (cap1 cap2 : Nat) (w : World) (hl : Lies w ao cap1 (ints .u32 A)) (hl2 : Lies w bo cap2 (ints .u32 B)) (hA : Small A) (hB : Small B) (hlen : A.length ≤ 35184372087808) (hlen2 : B.length ≤ 35184372087808)
    (hn : (0 ≤ n ∧ n % 500 = mm ∧ 0 ≤ mm) ∨ (n < 0 ∧ n.tmod 500 = -mm ∧ 1 ≤ mm) ∨ (n < 0 ∧ n.tmod 500 = mm ∧ 0 ≤ mm ∧ mm ≤ 0)) (hm : mm < 500) (hS : val A + val B ≠ 0) :
    Calls Try.prog 4 #[.slice ao A.length cap1, .slice bo B.length cap2, .int .i64 n] w fun e w' => e = .returned (.bool true) ∧ Below w.heap.size w w' := by
  have hm0 : 0 ≤ mm := by omega
  have hm1 : mm ≤ 100000 := by omega
  have k1 := sum_limbs A B 35184372087808 hA hB hlen hlen2
  have k2 := shl_limbs A B 35184372087808 mm.toNat 16 hA hB hlen hlen2 (by omega)
  have k3 := nl_len B hB
  have cCA := fun (W : World) (hb : Below w.heap.size w W) => copy_any A ao cap1 W (hl.below hb (Nat.le_refl _)) (by omega)
  have cCB := fun (W : World) (hb : Below w.heap.size w W) => copy_any B bo cap2 W (hl2.below hb (Nat.le_refl _)) (by omega)
  have cCS := fun (W : World) (o : Option Addr) (cp : Nat) (h : Lies W o cp (ints .u32 (nl (val A + val B)))) => copy_any (nl (val A + val B)) o cp W h (by omega)
  have cCL := fun (W : World) (o : Option Addr) (cp : Nat) (h : Lies W o cp (ints .u32 (nl ((val A + val B) * 2 ^ mm.toNat)))) => copy_any (nl ((val A + val B) * 2 ^ mm.toNat)) o cp W h (by omega)
  have cAd := fun (W : World) (o1 o2 : Option Addr) (c1 c2 : Nat) (h1 : Lies W o1 c1 (ints .u32 A)) (h2 : Lies W o2 c2 (ints .u32 B)) => add_any A B o1 o2 c1 c2 W h1 h2 hA hB (by omega) (by omega)
  have cSu := fun (W : World) (o1 o2 : Option Addr) (c1 c2 : Nat) (h1 : Lies W o1 c1 (ints .u32 (nl (val A + val B)))) (h2 : Lies W o2 c2 (ints .u32 A)) => sub_yes (nl (val A + val B)) A o1 o2 c1 c2 W h1 h2 (small_nl _) hA (by rw [val_nl]; omega) (by omega)
  have e1 : val A + val B - val A = val B := by omega
  rw [val_nl, e1] at cSu
  have cSl := fun (W : World) (o : Option Addr) (cp : Nat) (h : Lies W o cp (ints .u32 (nl (val A + val B)))) => shl_any (nl (val A + val B)) mm o cp W hm0 hm1 h (small_nl _) (by omega)
  rw [val_nl] at cSl
  have cSr := fun (W : World) (o : Option Addr) (cp : Nat) (h : Lies W o cp (ints .u32 (nl ((val A + val B) * 2 ^ mm.toNat)))) => shr_any (nl ((val A + val B) * 2 ^ mm.toNat)) mm o cp W hm0 hm1 h (small_nl _) (by omega)
  rw [val_nl, Nat.mul_div_cancel _ (Nat.two_pow_pos mm.toNat)] at cSr
  have cC1 := fun (W : World) (o1 o2 : Option Addr) (c1 c2 : Nat) (h1 : Lies W o1 c1 (ints .u32 (nl (val B)))) (h2 : Lies W o2 c2 (ints .u32 B)) => cmp_any (nl (val B)) B o1 o2 c1 c2 W h1 h2 (small_nl _) hB
  have e2 : cmpV (val B) (val B) = 0 := by simp [cmpV]
  rw [val_nl, e2] at cC1
  have cC2 := fun (W : World) (o1 o2 : Option Addr) (c1 c2 : Nat) (h1 : Lies W o1 c1 (ints .u32 A)) (h2 : Lies W o2 c2 (ints .u32 (nl (val A + val B)))) => cmp_any A (nl (val A + val B)) o1 o2 c1 c2 W h1 h2 hA (small_nl _)
  have hc : cmpV (val A) (val A + val B) ≤ 0 := by unfold cmpV; split <;> (try split) <;> omega
  rw [val_nl] at cC2
  have cSa := fun (W : World) (o1 o2 : Option Addr) (c1 c2 : Nat) (h1 : Lies W o1 c1 (ints .u32 (nl (val A + val B)))) (h2 : Lies W o2 c2 (ints .u32 (nl (val A + val B)))) => same_any (nl (val A + val B)) (nl (val A + val B)) o1 o2 c1 c2 W h1 h2
  simp only [decide_true] at cSa
  have z1 : (((nl (val A + val B)).length : Int) == 0) = false := by have := (nl_last _ hS).1; simp only [beq_eq_false_iff_ne, ne_eq]; omega
  have cB1 := fun (W : World) (o : Option Addr) (cp : Nat) (h : Lies W o cp (ints .u32 (nl ((val A + val B) * 2 ^ mm.toNat)))) => bits_any (nl ((val A + val B) * 2 ^ mm.toNat)) o cp W h (small_nl _) (by omega)
  have cB2 := fun (W : World) (o : Option Addr) (cp : Nat) (h : Lies W o cp (ints .u32 (nl (val A + val B)))) => bits_any (nl (val A + val B)) o cp W h (small_nl _) (by omega)
  have eb : ((bitLen ((val A + val B) * 2 ^ mm.toNat) : Nat) : Int) = (bitLen (val A + val B) : Int) + mm := by
    have h1 : (val A + val B) * 2 ^ mm.toNat / 2 ^ mm.toNat = val A + val B := Nat.mul_div_cancel _ (Nat.two_pow_pos _)
    have h2 := bitLen_shift ((val A + val B) * 2 ^ mm.toNat) mm.toNat (by rw [h1]; exact hS)
    rw [h1] at h2
    omega
  have eb2 : bitLen (val A + val B) ≤ 32 * 70368744177664 := by
    have h1 := val_lt (nl (val A + val B)) (small_nl _)
    rw [val_nl, ← pow32] at h1
    have h2 := nb_lt _ _ h1
    rw [len_nb] at h2
    omega
  rw [val_nl, eb] at cB1
  rw [val_nl] at cB2
  generalize bitLen (val A + val B) = Y at *
  have hY : (Y : Int) ≤ 2251799813685248 := by omega
  generalize nl ((val A + val B) * 2 ^ mm.toNat) = NL at *
  generalize cmpV (val A) (val A + val B) = C at *
  generalize nl (val A + val B) = NS at *
  generalize nl (val B) = ND at *
  clear hA hB hS e1 e2 k1 k2 k3 eb eb2
  have t1 : True := trivial
  have t2 : True := trivial
  have t3 : True := trivial
  have t4 : True := trivial
  have t5 : True := trivial
  have t6 : True := trivial
  have t7 : True := trivial
  have t8 : True := trivial
  have t9 : True := trivial
  rcases hn with ⟨q1, q2, q3⟩ | ⟨q1, q2, q3⟩ | ⟨q1, q2, q3, q4⟩
  all_goals
    go_enter Try.func4, Try.ntmps4
    go_wp2_with (first
      | (go_at_call 7; have _t := t1; clear _t t1; refine (cCA _ (Below.refl _ _)).mono ?_; rintro e w1 ⟨ao1, cp1, rfl, hown1, hb1⟩)
      | (go_at_call 7; have _t := t2; clear _t t2; refine (cCB _ hb1).mono ?_; rintro e w2 ⟨ao2, cp2, rfl, hown2, hb2⟩)
      | (go_at_call 14; refine (cAd _ _ _ _ _ ((lies_of_owns hown1).below hb2 (Nat.le_refl _)) (lies_of_owns hown2)).mono ?_; rintro e w3 ⟨ao3, cp3, rfl, hown3, hb3⟩; have H3 := bt (bt hb1 hb2) hb3)
      | (go_at_call 7; have _t := t3; clear _t t3; refine (cCS _ _ _ (lies_of_owns hown3)).mono ?_; rintro e w4 ⟨ao4, cp4, rfl, hown4, hb4⟩)
      | (go_at_call 7; have _t := t4; clear _t t4; refine (cCA _ (bt H3 hb4)).mono ?_; rintro e w5 ⟨ao5, cp5, rfl, hown5, hb5⟩)
      | (go_at_call 15; refine (cSu _ _ _ _ _ ((lies_of_owns hown4).below hb5 (Nat.le_refl _)) (lies_of_owns hown5)).mono ?_; rintro e w6 ⟨ao6, cp6, rfl, hown6, hb6⟩; have S6 := bt (bt hb4 hb5) hb6; have H6 := bt H3 S6)
      | (go_at_call 7; have _t := t5; clear _t t5; refine (cCS _ _ _ ((lies_of_owns hown3).below S6 (Nat.le_refl _))).mono ?_; rintro e w7 ⟨ao7, cp7, rfl, hown7, hb7⟩)
      | (go_at_call 16; refine (cSl _ _ _ (lies_of_owns hown7)).mono ?_; rintro e w8 ⟨ao8, cp8, rfl, hown8, hb8⟩)
      | (go_at_call 7; have _t := t6; clear _t t6; refine (cCL _ _ _ (lies_of_owns hown8)).mono ?_; rintro e w9 ⟨ao9, cp9, rfl, hown9, hb9⟩)
      | (go_at_call 17; refine (cSr _ _ _ (lies_of_owns hown9)).mono ?_; rintro e w10 ⟨ao10, cp10, rfl, hown10, hb10⟩; have D10 := bt (bt (bt hb7 hb8) hb9) hb10; have S10 := bt S6 D10; have H10 := bt H6 D10; have L10 := bt hb9 hb10)
      | (go_at_call 9; refine (awake _).mono ?_; rintro e w11 ⟨rfl, hb11⟩)
      | (go_at_call 7; have _t := t7; clear _t t7; refine (cCB _ (bt H10 hb11)).mono ?_; rintro e w12 ⟨ao12, cp12, rfl, hown12, hb12⟩)
      | (go_at_call 18; have _t := t8; clear _t t8; refine (cC1 _ _ _ _ _ ((lies_of_owns hown6).below (bt (bt D10 hb11) hb12) (Nat.le_refl _)) (lies_of_owns hown12)).mono ?_; rintro e w13 ⟨rfl, hb13⟩; have R13 := bt (bt hb11 hb12) hb13)
      | (go_at_call 10; refine (cSa _ _ _ _ _ ((lies_of_owns hown10).below R13 (Nat.le_refl _)) ((lies_of_owns hown3).below (bt S10 R13) (Nat.le_refl _))).mono ?_; rintro e w14 ⟨rfl, hb14⟩; have R14 := bt R13 hb14; have S14 := bt S10 R14; have H14 := bt H10 R14; have L14 := bt L10 R14)
      | (go_at_call 19; have _t := t9; clear _t t9; refine (cB1 _ _ _ ((lies_of_owns hown8).below L14 (Nat.le_refl _))).mono ?_; rintro e w15 ⟨rfl, hw⟩; have hw2 := hw.symm; clear hw; subst hw2)
      | (go_at_call 19; refine (cB2 _ _ _ ((lies_of_owns hown3).below S14 (Nat.le_refl _))).mono ?_; rintro e w15 ⟨rfl, hw⟩; have hw2 := hw.symm; clear hw; subst hw2)
      | (go_at_call 7; refine (cCA _ H14).mono ?_; rintro e w16 ⟨ao16, cp16, rfl, hown16, hb16⟩)
      | (go_at_call 18; refine (cC2 _ _ _ _ _ (lies_of_owns hown16) ((lies_of_owns hown3).below (bt S14 hb16) (Nat.le_refl _))).mono ?_; rintro e w17 ⟨rfl, hb17⟩))
    all_goals go_ret
    all_goals exact ⟨by first | rfl | simp [hc], bt (bt H14 hb16) hb17⟩

theorem cut500 (n : Int) : ∃ mm : Int, ((0 ≤ n ∧ n % 500 = mm ∧ 0 ≤ mm) ∨ (n < 0 ∧ n.tmod 500 = -mm ∧ 1 ≤ mm) ∨ (n < 0 ∧ n.tmod 500 = mm ∧ 0 ≤ mm ∧ mm ≤ 0)) ∧ mm < 500 := by
  by_cases h : 0 ≤ n
  · exact ⟨n % 500, .inl ⟨h, rfl, by omega⟩, by omega⟩
  · have e : n.tmod 500 = -((-n) % 500) := by
      have : n = -(-n) := by omega
      rw [this, Int.neg_tmod, Int.tmod_eq_emod_of_nonneg (by omega)]; omega
    by_cases h2 : (-n) % 500 = 0
    · exact ⟨0, .inr (.inr ⟨by omega, by rw [e, h2]; rfl, by omega, by omega⟩), by omega⟩
    · exact ⟨(-n) % 500, .inr (.inl ⟨by omega, e, by omega⟩), by omega⟩

theorem walk (a0 : Option Addr) (len0 cap0 : Nat) (z0 : List Int) (a1 : Option Addr) (len1 cap1 : Nat) (z1 : List Int) (a2 : Int) (w : World) (w0 : IsRow .u32 w a0 len0 cap0 z0) (w1 : IsRow .u32 w a1 len1 cap1 z1) (w2 : (Lit.int .i64 a2).wf = true) (r0 : cap0 * 4 ≤ 140737488351232) (r1 : cap1 * 4 ≤ 140737488351232) :
    Calls Try.prog 4 #[.slice a0 len0 cap0, .slice a1 len1 cap1, .int .i64 a2] w fun e w' => e = .returned (.bool true) ∧ Below w.heap.size w w' := by
  obtain ⟨A, rfl, hl, hA⟩ := lies_of_row nonneg_u32 w0
  obtain ⟨B, rfl, hl2, hB⟩ := lies_of_row nonneg_u32 w1
  have hlen := hl.1
  have hlen2 := hl2.1
  rw [ints_length] at hlen hlen2
  obtain ⟨mm, h1, h2⟩ := cut500 a2
  have sA : Small A := fun x hx => by have := (bounds_u32 (hA x hx)).2; omega
  have sB : Small B := fun x hx => by have := (bounds_u32 (hB x hx)).2; omega
  by_cases h0 : val A + val B = 0
  · exact law_zero A B a2 mm a0 a1 cap0 cap1 w hl hl2 sA sB (by omega) (by omega) h1 h2 h0
  · exact law_pos A B a2 mm a0 a1 cap0 cap1 w hl hl2 sA sB (by omega) (by omega) h1 h2 h0

/-! ### THE ROW's STEP: WRITTEN OUT: LEAVE IT -/
set_option maxRecDepth 100000 in
theorem lifted (os : Os) (started : os.Started) (H : Type) (enc : TypeId × Value → H) :
    ReturnsInHanded {} Try.checked os 4 .any (Rows.limbLawsSpec.pre6 enc Try.prog Try.f4 Rows.limbLawsRow.domain false) (Rows.limbLawsSpec.post enc Try.prog Try.f4 false true false false) := by
  refine returnsInHanded_of_change_sized (C := Try.checked) own started (by kernel_rfl) Try.func4
    (ChangeSpec.witness6 (enc := enc) (C := Try.checked) false ⟨#[], #[.slice none 0 0, .slice none 0 0, .int .i64 0], []⟩ 8 (by kernel_rfl) (by kernel_rfl) (by kernel_rfl) (by kernel_rfl)) ?_
  intro W base args ds gs before hval0 hW hcnd hsz0 _
  have hval : ∀ (j : Nat) t v, Try.f4.params[j]? = some t → args[j]? = some v → Value.okWide Try.prog W .any base t v := hval0
  have hW' := hW
  obtain ⟨p, q, hA0, hV, rfl, hfz, hnd⟩ := hW
  have hA : DataW.TrodAll enc Try.prog W 0 (fun _ => true) true Try.f4.params.toList args.toList ds p := hA0
  have hsz : (DataW.weightsEach Try.prog (Try.f4.params.toList ++ Rows.limbLawsSpec.plain.varTypes Try.prog) (ds ++ gs)).all (· ≤ reachBytes) = true := hsz0
  rw [Try.params4] at hA hval hsz
  obtain ⟨v0, vs0, d0, ds0, p0, q0, hargs, rfl, rfl, h0, r0⟩ := trodAll_cons hA
  obtain ⟨v1, vs1, d1, ds1, p1, q1, rfl, rfl, rfl, h1, r1⟩ := trodAll_cons r0
  obtain ⟨v2, vs2, d2, ds2, p2, q2, rfl, rfl, rfl, h2, r2⟩ := trodAll_cons r1
  obtain ⟨rfl, rfl, rfl⟩ := trodAll_nil r2
  obtain rfl : args = #[v0, v1, v2] := by cases args; simp_all
  obtain ⟨rfl, rfl⟩ := trodVars_none hV
  obtain ⟨a0, len0, cap0, rfl⟩ := okWide_slice Try.underlying22 (hval 0 22 v0 rfl rfl)
  have k0 := h0
  have lt0 : ∀ x ∈ p0, x.block < W.heap.size := by obtain ⟨m, hm⟩ := k0; exact DataW.trod_lt m _ _ _ hm
  obtain ⟨z0, w0, rz0⟩ : ∃ zs, IsRow .u32 W a0 len0 cap0 zs ∧ cap0 * 4 ≤ 140737488351232 := by
    obtain ⟨fuel, hf⟩ := h0
    rcases open_ints Try.underlying22 Try.underlying41 (by kernel_rfl) hf with ⟨hcs, _⟩ | ⟨x, l, c, zs, hcs, _, hl, hm, hz, hx, hcell, hwz⟩
    · simp [Value.cells] at hcs
      obtain ⟨rfl, rfl, rfl⟩ := hcs
      exact ⟨[], .inl ⟨rfl, rfl, rfl, rfl⟩, by decide⟩
    · simp [Value.cells] at hcs
      obtain ⟨rfl, rfl, rfl⟩ := hcs
      have hz2 : zs.length = cap0 := by simpa using hz
      simp only [Prod.mk.injEq] at hx
      obtain ⟨rfl, _⟩ := hx
      have hre := sized_slice hsz (j := 0) (t := 22) (e := 41) rfl rfl Try.underlying22
      rw [show Try.prog.bytesOf 41 = 4 by kernel_rfl] at hre
      simp only [lits, List.length_map, List.length_take, List.length_drop, reachBytes] at hre
      exact ⟨zs, .inr ⟨_, rfl, hl, hm, hz2, hcell, hwz⟩, by omega⟩
  obtain ⟨a1, len1, cap1, rfl⟩ := okWide_slice Try.underlying22 (hval 1 22 v1 rfl rfl)
  have k1 := h1
  have lt1 : ∀ x ∈ p1, x.block < W.heap.size := by obtain ⟨m, hm⟩ := k1; exact DataW.trod_lt m _ _ _ hm
  obtain ⟨z1, w1, rz1⟩ : ∃ zs, IsRow .u32 W a1 len1 cap1 zs ∧ cap1 * 4 ≤ 140737488351232 := by
    obtain ⟨fuel, hf⟩ := h1
    rcases open_ints Try.underlying22 Try.underlying41 (by kernel_rfl) hf with ⟨hcs, _⟩ | ⟨x, l, c, zs, hcs, _, hl, hm, hz, hx, hcell, hwz⟩
    · simp [Value.cells] at hcs
      obtain ⟨rfl, rfl, rfl⟩ := hcs
      exact ⟨[], .inl ⟨rfl, rfl, rfl, rfl⟩, by decide⟩
    · simp [Value.cells] at hcs
      obtain ⟨rfl, rfl, rfl⟩ := hcs
      have hz2 : zs.length = cap1 := by simpa using hz
      simp only [Prod.mk.injEq] at hx
      obtain ⟨rfl, _⟩ := hx
      have hre := sized_slice hsz (j := 1) (t := 22) (e := 41) rfl rfl Try.underlying22
      rw [show Try.prog.bytesOf 41 = 4 by kernel_rfl] at hre
      simp only [lits, List.length_map, List.length_take, List.length_drop, reachBytes] at hre
      exact ⟨zs, .inr ⟨_, rfl, hl, hm, hz2, hcell, hwz⟩, by omega⟩
  obtain ⟨a2, rfl, rfl, rfl, w2⟩ := open_int Try.underlying3 (hval 2 3 v2 rfl rfl) h2
  clear hA0 hval0
  refine (walk a0 len0 cap0 z0 a1 len1 cap1 z1 a2 W w0 w1 w2 rz0 rz1).mono fun e W' ⟨he, bel⟩ => ?_
  subst he
  exact ⟨_, rfl, _, _, _, [], _, [], hW', trodAll_mk1 (shut_bool Try.underlying4 _), (trodAll_cons_mk (Below.trod laidOut (by kernel_rfl) (of_decide_eq_true (by kernel_rfl)) k0 bel lt0) (trodAll_cons_mk (Below.trod laidOut (by kernel_rfl) (of_decide_eq_true (by kernel_rfl)) k1 bel lt1) (trodAll_cons_mk (shut_int Try.underlying3 w2) trodAll_mk0))), rfl, bel.frame _, fun h => by cases h⟩

theorem over : Rows.limbLawsRow.holds Try.pinned (OpenSpec.ofChange Rows.limbLawsSpec) :=
  OpenClaim.holds_of_wide 4 Try.f4 rfl rfl rfl rfl rfl rfl rfl ⟨rfl, rfl, rfl, rfl, rfl⟩ rfl rfl rfl rfl rfl (by kernel_rfl) Try.func4 (by kernel_rfl)
    (of_decide_eq_true (by kernel_rfl)) (by unfold Func.isWrapper; first | (rw [if_pos (by decide +kernel)]; kernel_rfl) | (rw [if_neg (by decide +kernel)]; exact ⟨rfl, rfl⟩))
    (fun os started H enc _ => lifted os started H enc)

/-- ████ THE STATEMENT ████ -/
theorem proved : Rows.LimbLawsSaid := over
end Go.Proofs.Ytgboapmnimnojac.limbLaws
namespace Go.Proofs.Ytgboapmnimnojac
/-- THE STATEMENT. -/
theorem limbLaws_holds : Rows.LimbLawsSaid := limbLaws.proved
#print axioms limbLaws_holds
end Go.Proofs.Ytgboapmnimnojac
