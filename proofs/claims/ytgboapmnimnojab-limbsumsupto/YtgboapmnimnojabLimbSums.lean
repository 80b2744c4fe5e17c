/- For every input of at most 1048576 values the law LimbSums returns true: sums and differences of any naturals are exact, and a difference below nought is refused. The condition: what is read is of bulk at most 1048576. -/
import Derived.Test.YtgboapmnimnojabRows
import Derived.WalkKit
import Derived.ProofKit
import Derived.OpenShut
import Derived.ShutString
import Derived.ChangeOld
import Derived.Below
import Derived.Test.YtgboapmnimnojabAddL
import Derived.Test.YtgboapmnimnojabRefA
import Derived.Test.YtgboapmnimnojabRefS
import Derived.Test.YtgboapmnimnojabRefC
import Derived.JoinedCond
namespace Go.Proofs.Ytgboapmnimnojab.limbSums
open Go.ChangeShapes Go.WideShapes Go.ChangeAt Go.RowKit
open Go.ChangeMaps (open_string shut_string)
set_option linter.unusedVariables false

theorem own : ownKnob Try.prog.godebug = none := by kernel_rfl
theorem laidOut : laidOutB Try.prog = true := by kernel_rfl

/-- WHAT THE WALK IS TOLD OF A SLICE OF INTEGERS THAT CAME IN: it is nil; or it leads to a row of 'cap' cells, the numbers 'zs' (the first 'len' are its elements, the rest its spare room), each fitting its kind. -/
def IsRow (k : IntKind) (w : World) (a : Option Addr) (len cap : Nat) (zs : List Int) : Prop :=
  (a = none ∧ len = 0 ∧ cap = 0 ∧ zs = []) ∨
  ∃ x, a = some x ∧ len ≤ cap ∧ cap ≤ maxLen ∧ zs.length = cap ∧ (∀ i, i < zs.length → w.cell? (x.add i) = some (.int k (zs.getD i 0))) ∧ ∀ n ∈ zs, (Lit.int k n).wf = true

open Mem LimbNum Limb1 Limb2 Limb3 Limb4 RefL AddL RefA RefS RefC

theorem len_le (A : List Nat) (hA : Small A) (n : Nat) (h : A.length ≤ n) : (nb (val A)).length ≤ 32 * n := by
  have h1 := val_lt A hA
  rw [← pow32] at h1
  have := nb_lt _ _ h1
  omega

theorem sum_len (A B : List Nat) (m : Nat) (hA : Small A) (hB : Small B) (h1 : A.length ≤ m) (h2 : B.length ≤ m) : (nb (val A + val B)).length ≤ 32 * m + 1 := by
  have k1 := val_lt A hA
  have k2 := val_lt B hB
  have k3 : (4294967296 : Nat) ^ A.length ≤ 4294967296 ^ m := Nat.pow_le_pow_right (by omega) h1
  have k4 : (4294967296 : Nat) ^ B.length ≤ 4294967296 ^ m := Nat.pow_le_pow_right (by omega) h2
  have k5 : val A + val B < 2 ^ (32 * m + 1) := by
    rw [Nat.pow_succ, pow32]
    generalize (4294967296 : Nat) ^ m = M at *
    omega
  exact nb_lt _ _ k5

set_option maxRecDepth 20000 in
set_option maxHeartbeats 2000000 in
theorem law_no (A B : List Nat) (ao bo : Option Addr) (cap1 cap2 : Nat) (w : World) (hl : Lies w ao cap1 (ints .u32 A)) (hl2 : Lies w bo cap2 (ints .u32 B)) (hA : Small A) (hB : Small B) (hlen : A.length ≤ 1048576) (hlen2 : B.length ≤ 1048576) (hlt : val A < val B) :
    Calls Try.prog 5 #[.slice ao A.length cap1, .slice bo B.length cap2] w fun e w' => e = .returned (.bool true) ∧ Below w.heap.size w w' := by
  have n1 := len_le A hA 1048576 hlen
  have n2 := len_le B hB 1048576 hlen2
  have cOA := fun (W : World) (hb : Below w.heap.size w W) => of_any A ao cap1 W (hl.below hb (Nat.le_refl _)) hA (by omega)
  have cOB := fun (W : World) (hb : Below w.heap.size w W) => of_any B bo cap2 W (hl2.below hb (Nat.le_refl _)) hB (by omega)
  have cCA := fun (W : World) (hb : Below w.heap.size w W) => copy_any A ao cap1 W (hl.below hb (Nat.le_refl _)) (by omega)
  have cCB := fun (W : World) (hb : Below w.heap.size w W) => copy_any B bo cap2 W (hl2.below hb (Nat.le_refl _)) (by omega)
  have cAd := fun (W : World) (o1 o2 : Option Addr) (c1 c2 : Nat) (h1 : Lies W o1 c1 (ints .u32 A)) (h2 : Lies W o2 c2 (ints .u32 B)) => add_any A B o1 o2 c1 c2 W h1 h2 hA hB (by omega) (by omega)
  have cRA := fun (W : World) (o1 o2 : Option Addr) (c1 c2 : Nat) (h1 : Lies W o1 c1 (bools (nb (val A)))) (h2 : Lies W o2 c2 (bools (nb (val B)))) => radd_core (nb (val A)) (nb (val B)) (val A + val B) (by unfold Hid; rw [fromL_nb, fromL_nb]) o1 o2 c1 c2 W h1 h2 (by omega) (by omega)
  have n3 : (nb (val A + val B)).length ≤ 2147483648 := by have := sum_len A B 1048576 hA hB hlen hlen2; omega
  have cTS := fun (W : World) (o : Option Addr) (cp : Nat) (h : Lies W o cp (bools (nb (val A + val B)))) => to_any (nb (val A + val B)) o cp W h n3
  rw [fromL_nb] at cTS
  have cSS := fun (W : World) (o1 o2 : Option Addr) (c1 c2 : Nat) (h1 : Lies W o1 c1 (ints .u32 (nl (val A + val B)))) (h2 : Lies W o2 c2 (ints .u32 (nl (val A + val B)))) => same_any (nl (val A + val B)) (nl (val A + val B)) o1 o2 c1 c2 W h1 h2
  simp only [decide_true] at cSS
  have cRC := fun (W : World) (o1 o2 : Option Addr) (c1 c2 : Nat) (h1 : Lies W o1 c1 (bools (nb (val A)))) (h2 : Lies W o2 c2 (bools (nb (val B)))) => rcmp_any (nb (val A)) (nb (val B)) o1 o2 c1 c2 W h1 h2 (fun h => by rw [fromL_nb, fromL_nb]; exact nb_len_lt _ _ h) (fun h => by rw [fromL_nb, fromL_nb]; exact nb_len_lt _ _ h)
  rw [fromL_nb, fromL_nb] at cRC
  have cSu := fun (W : World) (o1 o2 : Option Addr) (c1 c2 : Nat) (h1 : Lies W o1 c1 (ints .u32 A)) (h2 : Lies W o2 c2 (ints .u32 B)) => sub_no A B o1 o2 c1 c2 W h1 h2 hA hB hlt
  have hc0 : cmpV (val A) (val B) = -1 := by unfold cmpV; rw [if_pos hlt]
  rw [hc0] at cRC
  clear hc0
  generalize nl (val A + val B) = NS at *
  generalize nb (val A + val B) = BS at *
  generalize nb (val A) = NA at *
  generalize nb (val B) = NB at *
  clear hA hB n3 hlt
  have t1 : True := trivial
  have t2 : True := trivial
  have t3 : True := trivial
  have t4 : True := trivial
  have t5 : True := trivial
  have t6 : True := trivial
  go_enter Try.func5, Try.ntmps5
  go_wp2_with (first
    | (go_at_call 18; have _t := t1; clear _t t1; refine (cOA _ (Below.refl _ _)).mono ?_; rintro e w1 ⟨ao1, cp1, rfl, hown1, hb1⟩)
    | (go_at_call 18; refine (cOB _ hb1).mono ?_; rintro e w2 ⟨ao2, cp2, rfl, hown2, hb2⟩)
    | (go_at_call 20; have _t := t2; clear _t t2; refine (cCA _ (bt hb1 hb2)).mono ?_; rintro e w3 ⟨ao3, cp3, rfl, hown3, hb3⟩)
    | (go_at_call 20; have _t := t3; clear _t t3; refine (cCB _ (bt (bt hb1 hb2) hb3)).mono ?_; rintro e w4 ⟨ao4, cp4, rfl, hown4, hb4⟩)
    | (go_at_call 19; refine (cSu _ _ _ _ _ ((lies_of_owns hown3).below hb4 (Nat.le_refl _)) (lies_of_owns hown4)).mono ?_; rintro e w5 ⟨rfl, hb5⟩; have H5 := bt (bt (bt (bt hb1 hb2) hb3) hb4) hb5; have X5 := bt (bt (bt hb2 hb3) hb4) hb5; have Y5 := bt (bt hb3 hb4) hb5)
    | (go_at_call 21; refine (awake _).mono ?_; rintro e w6 ⟨rfl, hb6⟩)
    | (go_at_call 20; have _t := t4; clear _t t4; refine (cCA _ (bt H5 hb6)).mono ?_; rintro e w7 ⟨ao7, cp7, rfl, hown7, hb7⟩)
    | (go_at_call 20; refine (cCB _ (bt (bt H5 hb6) hb7)).mono ?_; rintro e w8 ⟨ao8, cp8, rfl, hown8, hb8⟩)
    | (go_at_call 23; refine (cAd _ _ _ _ _ ((lies_of_owns hown7).below hb8 (Nat.le_refl _)) (lies_of_owns hown8)).mono ?_; rintro e w9 ⟨ao9, cp9, rfl, hown9, hb9⟩; have D9 := bt (bt (bt hb6 hb7) hb8) hb9; have H9 := bt H5 D9; have X9 := bt X5 D9; have Y9 := bt Y5 D9)
    | (go_at_call 25; refine (cRA _ _ _ _ _ ((lies_of_owns hown1).below X9 (Nat.le_refl _)) ((lies_of_owns hown2).below Y9 (Nat.le_refl _))).mono ?_; rintro e w10 ⟨ao10, cp10, rfl, hown10, hb10⟩)
    | (go_at_call 24; have _t := t5; clear _t t5; refine (cTS _ _ _ (lies_of_owns hown10)).mono ?_; rintro e w11 ⟨ao11, cp11, rfl, hown11, hb11⟩)
    | (go_at_call 22; have _t := t6; clear _t t6; refine (cSS _ _ _ _ _ ((lies_of_owns hown9).below (bt hb10 hb11) (Nat.le_refl _)) (lies_of_owns hown11)).mono ?_; rintro e w12 ⟨rfl, hb12⟩; have E12 := bt (bt hb10 hb11) hb12; have H12 := bt H9 E12; have X12 := bt X9 E12; have Y12 := bt Y9 E12)
    | (go_at_call 26; refine (cRC _ _ _ _ _ ((lies_of_owns hown1).below X12 (Nat.le_refl _)) ((lies_of_owns hown2).below Y12 (Nat.le_refl _))).mono ?_; rintro e w13 ⟨rfl, hb13⟩))
  all_goals go_ret
  all_goals exact ⟨rfl, bt H12 hb13⟩
set_option maxRecDepth 20000 in
set_option maxHeartbeats 2000000 in
theorem law_yes (A B : List Nat) (ao bo : Option Addr) (cap1 cap2 : Nat) (w : World) (hl : Lies w ao cap1 (ints .u32 A)) (hl2 : Lies w bo cap2 (ints .u32 B)) (hA : Small A) (hB : Small B) (hlen : A.length ≤ 1048576) (hlen2 : B.length ≤ 1048576) (hle : val B ≤ val A) :
    Calls Try.prog 5 #[.slice ao A.length cap1, .slice bo B.length cap2] w fun e w' => e = .returned (.bool true) ∧ Below w.heap.size w w' := by
  have n1 := len_le A hA 1048576 hlen
  have n2 := len_le B hB 1048576 hlen2
  have cOA := fun (W : World) (hb : Below w.heap.size w W) => of_any A ao cap1 W (hl.below hb (Nat.le_refl _)) hA (by omega)
  have cOB := fun (W : World) (hb : Below w.heap.size w W) => of_any B bo cap2 W (hl2.below hb (Nat.le_refl _)) hB (by omega)
  have cCA := fun (W : World) (hb : Below w.heap.size w W) => copy_any A ao cap1 W (hl.below hb (Nat.le_refl _)) (by omega)
  have cCB := fun (W : World) (hb : Below w.heap.size w W) => copy_any B bo cap2 W (hl2.below hb (Nat.le_refl _)) (by omega)
  have cAd := fun (W : World) (o1 o2 : Option Addr) (c1 c2 : Nat) (h1 : Lies W o1 c1 (ints .u32 A)) (h2 : Lies W o2 c2 (ints .u32 B)) => add_any A B o1 o2 c1 c2 W h1 h2 hA hB (by omega) (by omega)
  have cRA := fun (W : World) (o1 o2 : Option Addr) (c1 c2 : Nat) (h1 : Lies W o1 c1 (bools (nb (val A)))) (h2 : Lies W o2 c2 (bools (nb (val B)))) => radd_core (nb (val A)) (nb (val B)) (val A + val B) (by unfold Hid; rw [fromL_nb, fromL_nb]) o1 o2 c1 c2 W h1 h2 (by omega) (by omega)
  have n3 : (nb (val A + val B)).length ≤ 2147483648 := by have := sum_len A B 1048576 hA hB hlen hlen2; omega
  have cTS := fun (W : World) (o : Option Addr) (cp : Nat) (h : Lies W o cp (bools (nb (val A + val B)))) => to_any (nb (val A + val B)) o cp W h n3
  rw [fromL_nb] at cTS
  have cSS := fun (W : World) (o1 o2 : Option Addr) (c1 c2 : Nat) (h1 : Lies W o1 c1 (ints .u32 (nl (val A + val B)))) (h2 : Lies W o2 c2 (ints .u32 (nl (val A + val B)))) => same_any (nl (val A + val B)) (nl (val A + val B)) o1 o2 c1 c2 W h1 h2
  simp only [decide_true] at cSS
  have cRC := fun (W : World) (o1 o2 : Option Addr) (c1 c2 : Nat) (h1 : Lies W o1 c1 (bools (nb (val A)))) (h2 : Lies W o2 c2 (bools (nb (val B)))) => rcmp_any (nb (val A)) (nb (val B)) o1 o2 c1 c2 W h1 h2 (fun h => by rw [fromL_nb, fromL_nb]; exact nb_len_lt _ _ h) (fun h => by rw [fromL_nb, fromL_nb]; exact nb_len_lt _ _ h)
  rw [fromL_nb, fromL_nb] at cRC
  have cSu := fun (W : World) (o1 o2 : Option Addr) (c1 c2 : Nat) (h1 : Lies W o1 c1 (ints .u32 A)) (h2 : Lies W o2 c2 (ints .u32 B)) => sub_yes A B o1 o2 c1 c2 W h1 h2 hA hB hle (by omega)
  have cRS := fun (W : World) (o1 o2 : Option Addr) (c1 c2 : Nat) (h1 : Lies W o1 c1 (bools (nb (val A)))) (h2 : Lies W o2 c2 (bools (nb (val B)))) => rsub_core (nb (val A)) (nb (val B)) (val A - val B) (by unfold Hid; rw [fromL_nb, fromL_nb]) (by rw [fromL_nb, fromL_nb]; exact hle) (nb_mono _ _ hle) o1 o2 c1 c2 W h1 h2 (by omega)
  have cTD := fun (W : World) (o : Option Addr) (cp : Nat) (h : Lies W o cp (bools (nb (val A - val B)))) => to_any (nb (val A - val B)) o cp W h (by have := nb_mono (val A - val B) (val A) (by omega); omega)
  rw [fromL_nb] at cTD
  have cSD := fun (W : World) (o1 o2 : Option Addr) (c1 c2 : Nat) (h1 : Lies W o1 c1 (ints .u32 (nl (val A - val B)))) (h2 : Lies W o2 c2 (ints .u32 (nl (val A - val B)))) => same_any (nl (val A - val B)) (nl (val A - val B)) o1 o2 c1 c2 W h1 h2
  simp only [decide_true] at cSD
  have hc0 : (0 : Int) ≤ cmpV (val A) (val B) := by unfold cmpV; split <;> (try split) <;> omega
  generalize cmpV (val A) (val B) = C at cRC hc0
  generalize nl (val A - val B) = ND at *
  generalize nb (val A - val B) = BD at *
  generalize nl (val A + val B) = NS at *
  generalize nb (val A + val B) = BS at *
  generalize nb (val A) = NA at *
  generalize nb (val B) = NB at *
  clear hA hB n3 hle
  have t1 : True := trivial
  have t2 : True := trivial
  have t3 : True := trivial
  have t4 : True := trivial
  have t5 : True := trivial
  have t6 : True := trivial
  go_enter Try.func5, Try.ntmps5
  go_wp2_with (first
    | (go_at_call 18; have _t := t1; clear _t t1; refine (cOA _ (Below.refl _ _)).mono ?_; rintro e w1 ⟨ao1, cp1, rfl, hown1, hb1⟩)
    | (go_at_call 18; refine (cOB _ hb1).mono ?_; rintro e w2 ⟨ao2, cp2, rfl, hown2, hb2⟩)
    | (go_at_call 20; have _t := t2; clear _t t2; refine (cCA _ (bt hb1 hb2)).mono ?_; rintro e w3 ⟨ao3, cp3, rfl, hown3, hb3⟩)
    | (go_at_call 20; have _t := t3; clear _t t3; refine (cCB _ (bt (bt hb1 hb2) hb3)).mono ?_; rintro e w4 ⟨ao4, cp4, rfl, hown4, hb4⟩)
    | (go_at_call 19; refine (cSu _ _ _ _ _ ((lies_of_owns hown3).below hb4 (Nat.le_refl _)) (lies_of_owns hown4)).mono ?_; rintro e w5 ⟨ao5, cp5, rfl, hown5, hb5⟩; have H5 := bt (bt (bt (bt hb1 hb2) hb3) hb4) hb5; have X5 := bt (bt (bt hb2 hb3) hb4) hb5; have Y5 := bt (bt hb3 hb4) hb5)
    | (go_at_call 21; refine (awake _).mono ?_; rintro e w6 ⟨rfl, hb6⟩)
    | (go_at_call 20; have _t := t4; clear _t t4; refine (cCA _ (bt H5 hb6)).mono ?_; rintro e w7 ⟨ao7, cp7, rfl, hown7, hb7⟩)
    | (go_at_call 20; refine (cCB _ (bt (bt H5 hb6) hb7)).mono ?_; rintro e w8 ⟨ao8, cp8, rfl, hown8, hb8⟩)
    | (go_at_call 23; refine (cAd _ _ _ _ _ ((lies_of_owns hown7).below hb8 (Nat.le_refl _)) (lies_of_owns hown8)).mono ?_; rintro e w9 ⟨ao9, cp9, rfl, hown9, hb9⟩; have D9 := bt (bt (bt hb6 hb7) hb8) hb9; have H9 := bt H5 D9; have X9 := bt X5 D9; have Y9 := bt Y5 D9)
    | (go_at_call 25; refine (cRA _ _ _ _ _ ((lies_of_owns hown1).below X9 (Nat.le_refl _)) ((lies_of_owns hown2).below Y9 (Nat.le_refl _))).mono ?_; rintro e w10 ⟨ao10, cp10, rfl, hown10, hb10⟩)
    | (go_at_call 24; have _t := t5; clear _t t5; refine (cTS _ _ _ (lies_of_owns hown10)).mono ?_; rintro e w11 ⟨ao11, cp11, rfl, hown11, hb11⟩)
    | (go_at_call 22; have _t := t6; clear _t t6; refine (cSS _ _ _ _ _ ((lies_of_owns hown9).below (bt hb10 hb11) (Nat.le_refl _)) (lies_of_owns hown11)).mono ?_; rintro e w12 ⟨rfl, hb12⟩; have E12 := bt (bt hb10 hb11) hb12; have H12 := bt H9 E12; have X12 := bt X9 E12; have Y12 := bt Y9 E12)
    | (go_at_call 26; refine (cRC _ _ _ _ _ ((lies_of_owns hown1).below X12 (Nat.le_refl _)) ((lies_of_owns hown2).below Y12 (Nat.le_refl _))).mono ?_; rintro e w13 ⟨rfl, hb13⟩)
    | (go_at_call 27; refine (cRS _ _ _ _ _ ((lies_of_owns hown1).below (bt X12 hb13) (Nat.le_refl _)) ((lies_of_owns hown2).below (bt Y12 hb13) (Nat.le_refl _))).mono ?_; rintro e w14 ⟨ao14, cp14, rfl, hown14, hb14⟩)
    | (go_at_call 24; refine (cTD _ _ _ (lies_of_owns hown14)).mono ?_; rintro e w15 ⟨ao15, cp15, rfl, hown15, hb15⟩)
    | (go_at_call 22; refine (cSD _ _ _ _ _ ((lies_of_owns hown5).below (bt (bt (bt (bt D9 E12) hb13) hb14) hb15) (Nat.le_refl _)) (lies_of_owns hown15)).mono ?_; rintro e w16 ⟨rfl, hb16⟩))
  all_goals go_ret
  all_goals exact ⟨rfl, bt (bt (bt (bt H12 hb13) hb14) hb15) hb16⟩

theorem law_any (A B : List Nat) (ao bo : Option Addr) (cap1 cap2 : Nat) (w : World) (hl : Lies w ao cap1 (ints .u32 A)) (hl2 : Lies w bo cap2 (ints .u32 B)) (hA : Small A) (hB : Small B) (hlen : A.length ≤ 1048576) (hlen2 : B.length ≤ 1048576) :
    Calls Try.prog 5 #[.slice ao A.length cap1, .slice bo B.length cap2] w fun e w' => e = .returned (.bool true) ∧ Below w.heap.size w w' := by
  rcases Nat.lt_or_ge (val A) (val B) with h | h
  · exact law_no A B ao bo cap1 cap2 w hl hl2 hA hB hlen hlen2 h
  · exact law_yes A B ao bo cap1 cap2 w hl hl2 hA hB hlen hlen2 h

theorem walk (a0 : Option Addr) (len0 cap0 : Nat) (z0 : List Int) (a1 : Option Addr) (len1 cap1 : Nat) (z1 : List Int) (w : World) (w0 : IsRow .u32 w a0 len0 cap0 z0) (w1 : IsRow .u32 w a1 len1 cap1 z1) (u : cap0 + cap1 ≤ 1048576) :
    Calls Try.prog 5 #[.slice a0 len0 cap0, .slice a1 len1 cap1] w fun e w' => e = .returned (.bool true) ∧ Below w.heap.size w w' := by
  obtain ⟨A, rfl, hl, hA⟩ := lies_of_row nonneg_u32 w0
  obtain ⟨B, rfl, hl2, hB⟩ := lies_of_row nonneg_u32 w1
  have hlen := hl.1
  have hlen2 := hl2.1
  rw [ints_length] at hlen hlen2
  exact law_any A B a0 a1 cap0 cap1 w hl hl2 (fun x hx => by have := (bounds_u32 (hA x hx)).2; omega) (fun x hx => by have := (bounds_u32 (hB x hx)).2; omega) (by omega) (by omega)

/-! ### THE ROW's STEP: WRITTEN OUT: LEAVE IT -/
set_option maxRecDepth 100000 in
theorem lifted (os : Os) (started : os.Started) (H : Type) (enc : TypeId × Value → H) (F : Stop.Interp) :
    ReturnsInHanded {} Try.checked os 5 .any ((Rows.OpenSpec.upto Rows.limbSumsSpec).pre6 enc Try.prog Try.f5 Rows.limbSumsUptoRow.domain false) (((Rows.OpenSpec.upto Rows.limbSumsSpec).at F).post enc Try.prog Try.f5 false true false false) := by
  refine returnsInHanded_of_cond (C := Try.checked) (s := Rows.OpenSpec.upto Rows.limbSumsSpec) (k := Rows.uptoSmall) rfl own started (by kernel_rfl) Try.func5
    (OpenSpec.witness (enc := enc) (C := Try.checked) (s := Rows.OpenSpec.upto Rows.limbSumsSpec) (k := Rows.uptoSmall) rfl false ⟨#[], #[.slice none 0 0, .slice none 0 0], []⟩ 8 (by kernel_rfl) (by kernel_rfl) (by kernel_rfl)
      (x := ([.nil, .nil], [], [])) (by kernel_rfl) rfl (by kernel_rfl)) ?_
  intro W base args ds gs before hval0 hW hcnd hk _
  have hval : ∀ (j : Nat) t v, Try.f5.params[j]? = some t → args[j]? = some v → Value.okWide Try.prog W .any base t v := hval0
  have hW' := hW
  obtain ⟨p, q, hA0, hV, rfl, hfz, hnd⟩ := hW
  have hA : DataW.TrodAll enc Try.prog W 0 (fun _ => true) true Try.f5.params.toList args.toList ds p := hA0
  rw [Try.params5] at hA hval
  obtain ⟨v0, vs0, d0, ds0, p0, q0, hargs, rfl, rfl, h0, r0⟩ := trodAll_cons hA
  obtain ⟨v1, vs1, d1, ds1, p1, q1, rfl, rfl, rfl, h1, r1⟩ := trodAll_cons r0
  obtain ⟨rfl, rfl, rfl⟩ := trodAll_nil r1
  obtain rfl : args = #[v0, v1] := by cases args; simp_all
  obtain ⟨rfl, rfl⟩ := trodVars_none hV
  obtain ⟨a0, len0, cap0, rfl⟩ := okWide_slice Try.underlying36 (hval 0 36 v0 rfl rfl)
  have k0 := h0
  have lt0 : ∀ x ∈ p0, x.block < W.heap.size := by obtain ⟨m, hm⟩ := k0; exact DataW.trod_lt m _ _ _ hm
  obtain ⟨z0, w0, r0⟩ : ∃ zs, IsRow .u32 W a0 len0 cap0 zs ∧ cap0 ≤ Rows.uptoBulk d0 := by
    obtain ⟨fuel, hf⟩ := h0
    rcases open_ints Try.underlying36 Try.underlying61 (by kernel_rfl) hf with ⟨hcs, _⟩ | ⟨x, l, c, zs, hcs, _, hl, hm, hz, hx, hcell, hwz⟩
    · simp [Value.cells] at hcs
      obtain ⟨rfl, rfl, rfl⟩ := hcs
      exact ⟨[], .inl ⟨rfl, rfl, rfl, rfl⟩, Nat.zero_le _⟩
    · simp [Value.cells] at hcs
      obtain ⟨rfl, rfl, rfl⟩ := hcs
      have hz2 : zs.length = cap0 := by simpa using hz
      simp only [Prod.mk.injEq] at hx
      obtain ⟨rfl, _⟩ := hx
      refine ⟨zs, .inr ⟨_, rfl, hl, hm, hz2, hcell, hwz⟩, ?_⟩
      simp only [Rows.uptoBulk, bulk_lits, List.length_take, List.length_drop]
      omega
  obtain ⟨a1, len1, cap1, rfl⟩ := okWide_slice Try.underlying36 (hval 1 36 v1 rfl rfl)
  have k1 := h1
  have lt1 : ∀ x ∈ p1, x.block < W.heap.size := by obtain ⟨m, hm⟩ := k1; exact DataW.trod_lt m _ _ _ hm
  obtain ⟨z1, w1, r1⟩ : ∃ zs, IsRow .u32 W a1 len1 cap1 zs ∧ cap1 ≤ Rows.uptoBulk d1 := by
    obtain ⟨fuel, hf⟩ := h1
    rcases open_ints Try.underlying36 Try.underlying61 (by kernel_rfl) hf with ⟨hcs, _⟩ | ⟨x, l, c, zs, hcs, _, hl, hm, hz, hx, hcell, hwz⟩
    · simp [Value.cells] at hcs
      obtain ⟨rfl, rfl, rfl⟩ := hcs
      exact ⟨[], .inl ⟨rfl, rfl, rfl, rfl⟩, Nat.zero_le _⟩
    · simp [Value.cells] at hcs
      obtain ⟨rfl, rfl, rfl⟩ := hcs
      have hz2 : zs.length = cap1 := by simpa using hz
      simp only [Prod.mk.injEq] at hx
      obtain ⟨rfl, _⟩ := hx
      refine ⟨zs, .inr ⟨_, rfl, hl, hm, hz2, hcell, hwz⟩, ?_⟩
      simp only [Rows.uptoBulk, bulk_lits, List.length_take, List.length_drop]
      omega
  simp only [List.append_nil] at hk
  have hB : Rows.uptoBulkAll _ ≤ 1048576 := of_decide_eq_true hk
  simp only [Rows.uptoBulkAll] at hB
  have hU : cap0 + cap1 ≤ 1048576 := by omega
  clear hA0 hval0
  refine (walk a0 len0 cap0 z0 a1 len1 cap1 z1 W w0 w1 hU).mono fun e W' ⟨he, bel⟩ => ?_
  subst he
  exact ⟨_, rfl, _, _, _, [], _, [], hW', trodAll_mk1 (shut_bool Try.underlying4 _), (trodAll_cons_mk (Below.trod laidOut (by kernel_rfl) (of_decide_eq_true (by kernel_rfl)) k0 bel lt0) (trodAll_cons_mk (Below.trod laidOut (by kernel_rfl) (of_decide_eq_true (by kernel_rfl)) k1 bel lt1) trodAll_mk0)), rfl, bel.frame _, fun h => by cases h⟩

theorem over : Rows.limbSumsUptoRow.holds Try.pinned (Rows.OpenSpec.upto Rows.limbSumsSpec) :=
  OpenClaim.holds_of_cond 5 Try.f5 rfl rfl rfl rfl rfl rfl rfl ⟨rfl, rfl, rfl, rfl, rfl⟩ rfl rfl rfl rfl rfl (by kernel_rfl) Try.func5 (by kernel_rfl)
    (of_decide_eq_true (by kernel_rfl)) (by unfold Func.isWrapper; first | (rw [if_pos (by decide +kernel)]; kernel_rfl) | (rw [if_neg (by decide +kernel)]; exact ⟨rfl, rfl⟩))
    (fun os started H enc _ F => lifted os started H enc F)

/-- ████ THE STATEMENT ████ -/
theorem proved : Rows.LimbSumsUptoSaid := over
end Go.Proofs.Ytgboapmnimnojab.limbSums
namespace Go.Proofs.Ytgboapmnimnojab
/-- THE STATEMENT. -/
theorem limbSumsUpto_holds : Rows.LimbSumsUptoSaid := limbSums.proved
#print axioms limbSumsUpto_holds
end Go.Proofs.Ytgboapmnimnojab
