/- For every input of at most 1048576 values the law LimbForms returns true: of any lists of limbs, noughts at their ends or not, normal form, order, length in bits, single bits and twos are right. The condition: what is read is of bulk at most 1048576, and the library's table math/bits.deBruijn32tab holds what its initialiser lays (a tied card). -/
import Derived.Test.YtjehfgfgnijkoaaDoorRows
import Derived.Test.YtjehfgfgnijkoaaDoorCards
import Derived.Test.YtjehfgfgnijkoaaDoorTie
import Derived.Test.YtjehfgfgnijkoaaDoorChecked
import Derived.WalkKit
import Derived.ProofKit
import Derived.OpenShut
import Derived.ShutString
import Derived.ChangeOld
import Derived.Below
import Derived.Deep.DeepHandedRow
import Derived.Lib.LaidTab
import Derived.JoinedCond
import Derived.Test.YtjehfgfgnijkoaaDoorRefC
import Derived.Test.YtjehfgfgnijkoaaDoorCopyL
import Derived.Test.YtjehfgfgnijkoaaDoorTwoL
namespace Go.Proofs.YtjehfgfgnijkoaaDoor.limbForms
open Go.ChangeShapes Go.WideShapes Go.ChangeAt Go.RowKit
open Mem LimbNum Limb1 Limb2 Limb3 Limb4 RefL RefC CopyL TwoN TwoL

theorem own : ownKnob Tryd.prog.godebug = none := by kernel_rfl
theorem laidOut : laidOutB Tryd.prog = true := by kernel_rfl
theorem len_le (A : List Nat) (hA : Small A) (n : Nat) (h : A.length ≤ n) : (nb (val A)).length ≤ 32 * n := by
  have h1 := val_lt A hA
  rw [← pow32] at h1
  have := nb_lt _ _ h1
  omega
theorem two_in {N t : Nat} (h : IsTwo N t) : t < (nb N).length := by
  rcases Nat.lt_or_ge t (nb N).length with h1 | h1
  · exact h1
  · have := nb_bits N t
    rw [h.1] at this
    simp [h1] at this
theorem bit_at {w : World} {base n cap : Nat} {o : Option Addr} {X : List Bool} (h : w.ownsRow base 4 1 (.slice o n cap) n (bools X)) (hX : X.length = n) {j : Nat} (hj : j < n) : ∃ b off, o = some ⟨b, off, none⟩ ∧ w.cell? ⟨b, off + j, none⟩ = some (.bool (X.getD j false)) := by
  obtain ⟨b, off, rfl, _, hc⟩ := (lies_of_owns h).2.2.2 (by show 0 < (X.map Value.bool).length; rw [List.length_map]; omega)
  refine ⟨b, off, rfl, ?_⟩
  rw [hc j (by show j < (X.map Value.bool).length; rw [List.length_map]; omega)]
  exact bools_get X j (by omega)
set_option maxRecDepth 20000 in
set_option maxHeartbeats 4000000 in
theorem law_any (A B : List Nat) (n : Int) (t : Nat) (ht : IsTwo (val A) t ∨ (val A = 0 ∧ t = 0)) (ao bo : Option Addr) (cap1 cap2 : Nat) (w : World) (hl : Lies w ao cap1 (ints .u32 A)) (hl2 : Lies w bo cap2 (ints .u32 B)) (hA : Small A) (hB : Small B) (hlen : A.length ≤ 1048576) (hlen2 : B.length ≤ 1048576) (hT : Tabl w) :
    Calls Tryd.prog 3 #[.slice ao A.length cap1, .slice bo B.length cap2, .int .i64 n] w fun e w' => e = .returned (.bool true) ∧ Below w.heap.size w w' := by
  have n1 := len_le A hA 1048576 hlen
  have n2 := len_le B hB 1048576 hlen2
  have cOA := fun (W : World) (hb : Below w.heap.size w W) => of_any A ao cap1 W (hl.below hb (Nat.le_refl _)) hA (by omega)
  have cOB := fun (W : World) (hb : Below w.heap.size w W) => of_any B bo cap2 W (hl2.below hb (Nat.le_refl _)) hB (by omega)
  have cCA := fun (W : World) (hb : Below w.heap.size w W) => copy_any A ao cap1 W (hl.below hb (Nat.le_refl _)) (by omega)
  have cCB := fun (W : World) (hb : Below w.heap.size w W) => copy_any B bo cap2 W (hl2.below hb (Nat.le_refl _)) (by omega)
  have cNo := fun (W : World) (o : Option Addr) (c : Nat) (h : Lies W o c (ints .u32 A)) => norm_any A o c W h hA (by omega)
  have cTS := fun (W : World) (o : Option Addr) (cp : Nat) (h : Lies W o cp (bools (nb (val A)))) => to_any (nb (val A)) o cp W h (by omega)
  rw [fromL_nb] at cTS
  have cSS := fun (W : World) (o1 o2 : Option Addr) (c1 c2 : Nat) (h1 : Lies W o1 c1 (ints .u32 (nl (val A)))) (h2 : Lies W o2 c2 (ints .u32 (nl (val A)))) => same_any (nl (val A)) (nl (val A)) o1 o2 c1 c2 W h1 h2
  simp only [decide_true] at cSS
  have cCm := fun (W : World) (o1 o2 : Option Addr) (c1 c2 : Nat) (h1 : Lies W o1 c1 (ints .u32 A)) (h2 : Lies W o2 c2 (ints .u32 B)) => cmp_any A B o1 o2 c1 c2 W h1 h2 hA hB
  have cRC := fun (W : World) (o1 o2 : Option Addr) (c1 c2 : Nat) (h1 : Lies W o1 c1 (bools (nb (val A)))) (h2 : Lies W o2 c2 (bools (nb (val B)))) => rcmp_any (nb (val A)) (nb (val B)) o1 o2 c1 c2 W h1 h2 (fun h => by rw [fromL_nb, fromL_nb]; exact nb_len_lt _ _ h) (fun h => by rw [fromL_nb, fromL_nb]; exact nb_len_lt _ _ h)
  rw [fromL_nb, fromL_nb] at cRC
  have cBs := fun (W : World) (o : Option Addr) (c : Nat) (h : Lies W o c (ints .u32 A)) => bits_any A o c W h hA (by omega)
  rw [← len_nb] at cBs
  have cBt := fun (W : World) (o : Option Addr) (c : Nat) (h : Lies W o c (ints .u32 A)) => bit_any A n o c W h hA
  have cTw := fun (W : World) (o : Option Addr) (c : Nat) (h : Lies W o c (ints .u32 A)) (hT : Tabl W) => twos_any A t ht o c W h hA (by omega) hT
  have HT : Hid (Tabl w) := hT
  have HB : Hid (∀ j, (nb (val A)).getD j false = (val A).testBit j) := fun j => nb_bits _ j
  have HTW : Hid ((t < (nb (val A)).length ∧ (val A).testBit t = true ∧ ∀ i, i < t → (val A).testBit i = false) ∨ ((nb (val A)).length = 0 ∧ t = 0)) := by
    rcases ht with h | ⟨h, h2⟩
    · exact .inl ⟨two_in h, h.1, h.2⟩
    · exact .inr ⟨by rw [h, nb_zero]; rfl, h2⟩
  generalize cmpV (val A) (val B) = C at *
  generalize nl (val A) = NLA at *
  generalize nb (val A) = NA at *
  generalize nb (val B) = NB at *
  generalize val A = VA at *
  clear hA hB hl hl2 hT ht
  generalize eNL : NA.length = NL at *
  have HNL : Hid (NA.length = NL) := eNL
  clear eNL
  have t1 : True := trivial
  go_enter Tryd.func3, Tryd.ntmps3
  go_wp2_with (first
    | (go_at_call 4; have _t := t1; clear _t t1; refine (cOA _ (Below.refl _ _)).mono ?_; rintro e w1 ⟨ao1, cp1, rfl, own1, hb1⟩)
    | (go_at_call 4; refine (cOB _ hb1).mono ?_; rintro e w2 ⟨ao2, cp2, rfl, own2, hb2⟩))
  have H2 := bt hb1 hb2
  clear cOA cOB
  have t3 : True := trivial
  have t4 : True := trivial
  have t5 : True := trivial
  have t6 : True := trivial
  have t7 : True := trivial
  go_loopw [9] (fun iv wr => ∃ j : Nat, j ≤ t ∧ iv = .int .i64 j ∧ wr = w2) (fun iv _ => t - (intOf iv).toNat)
  case atStart => exact ⟨0, Nat.zero_le _, rfl, rfl⟩
  case round =>
    obtain ⟨j, hj, rfl, hw⟩ := hrel
    have hw' := hw.symm
    clear hw
    subst hw'
    by_cases hjt : j < t
    · obtain ⟨h1, h2, h3⟩ : t < NL ∧ VA.testBit t = true ∧ ∀ i, i < t → VA.testBit i = false := by
        rcases HTW.out with h | ⟨_, h⟩
        · exact h
        · omega
      have hjl : j < NL := by omega
      obtain ⟨b, off, rfl, hc⟩ := bit_at (keep own1 hb2) HNL.out hjl
      rw [HB.out j, h3 j hjt] at hc
      clear h2 h3
      go_wp2
      go_roundw
      case rel => exact ⟨j + 1, by omega, by simp, trivial⟩
      case measure => simp [intOf]; omega
    · obtain rfl : j = t := by omega
      rcases HTW.out with ⟨h1, h2, h3⟩ | ⟨h1, h2⟩
      · obtain ⟨b, off, rfl, hc⟩ := bit_at (keep own1 hb2) HNL.out h1
        rw [HB.out j, h2] at hc
        clear h3 h2
        rcases (show n < 0 ∨ (0 ≤ n ∧ (NL : Int) ≤ n) ∨ (0 ≤ n ∧ n < (NL : Int)) by omega) with c0 | ⟨c0, c1⟩ | ⟨c0, c1⟩
        · rw [decide_eq_false (by omega), Bool.false_and] at cBt
          go_wp2_with (first
            | (go_at_call 5; refine (awake _).mono ?_; rintro e w3 ⟨rfl, hb3⟩; have H3 := bt H2 hb3; have X3 := bt hb2 hb3)
            | (go_at_call 8; have _t := t3; clear _t t3; refine (cCA _ H3).mono ?_; rintro e w4 ⟨ao4, cp4, rfl, own4, hb4⟩; have H4 := bt H3 hb4; have X4 := bt X3 hb4)
            | (go_at_call 7; refine (cNo _ _ _ (lies_of_owns own4)).mono ?_; rintro e w5 ⟨ao5, cp5, rfl, own5, hb5⟩; have H5 := bt H4 hb5; have X5 := bt X4 hb5)
            | (go_at_call 9; refine (cTS _ _ _ ((lies_of_owns own1).below X5 (Nat.le_refl _))).mono ?_; rintro e w6 ⟨ao6, cp6, rfl, own6, hb6⟩; have H6 := bt H5 hb6; have X6 := bt X5 hb6)
            | (go_at_call 6; refine (cSS _ _ _ _ _ ((lies_of_owns own5).below hb6 (Nat.le_refl _)) (lies_of_owns own6)).mono ?_; rintro e w7 ⟨rfl, hb7⟩; have H7 := bt H6 hb7; have X7 := bt X6 hb7)
            | (go_at_call 8; have _t := t4; clear _t t4; refine (cCA _ H7).mono ?_; rintro e w8 ⟨ao8, cp8, rfl, own8, hb8⟩; have H8 := bt H7 hb8; have X8 := bt X7 hb8)
            | (go_at_call 8; have _t := t5; clear _t t5; refine (cCB _ H8).mono ?_; rintro e w9 ⟨ao9, cp9, rfl, own9, hb9⟩; have H9 := bt H8 hb9; have X9 := bt X8 hb9)
            | (go_at_call 10; refine (cCm _ _ _ _ _ ((lies_of_owns own8).below hb9 (Nat.le_refl _)) (lies_of_owns own9)).mono ?_; rintro e w10 ⟨rfl, hb10⟩; have H10 := bt H9 hb10; have X10 := bt X9 hb10)
            | (go_at_call 11; refine (cRC _ _ _ _ _ ((lies_of_owns own1).below X10 (Nat.le_refl _)) ((lies_of_owns own2).below (bt (bt (bt (bt (bt (bt (bt hb3 hb4) hb5) hb6) hb7) hb8) hb9) hb10) (Nat.le_refl _))).mono ?_; rintro e w11 ⟨rfl, hb11⟩; have H11 := bt H10 hb11; have X11 := bt X10 hb11)
            | (go_at_call 8; have _t := t6; clear _t t6; refine (cCA _ H11).mono ?_; rintro e w12 ⟨ao12, cp12, rfl, own12, hb12⟩; have H12 := bt H11 hb12; have X12 := bt X11 hb12)
            | (go_at_call 12; refine (cBs _ _ _ (lies_of_owns own12)).mono ?_; rintro e w13 ⟨rfl, hw13⟩; have hw := hw13.symm; clear hw13; subst hw)
            | (go_at_call 8; have _t := t7; clear _t t7; refine (cCA _ H12).mono ?_; rintro e w14 ⟨ao14, cp14, rfl, own14, hb14⟩; have H14 := bt H12 hb14; have X14 := bt X12 hb14)
            | (go_at_call 13; refine (cBt _ _ _ (lies_of_owns own14)).mono ?_; rintro e w15 ⟨rfl, hw15⟩; have hw := hw15.symm; clear hw15; subst hw)
            | (go_at_call 8; refine (cCA _ H14).mono ?_; rintro e w16 ⟨ao16, cp16, rfl, own16, hb16⟩; have H16 := bt H14 hb16; have T16 := HT.out.below H16)
            | (go_at_call 14; refine (cTw _ _ _ (lies_of_owns own16) T16).mono ?_; rintro e w17 ⟨rfl, hw17⟩; have hw := hw17.symm; clear hw17; subst hw))
          go_ret
          exact ⟨rfl, H16⟩
        · have e : VA.testBit n.toNat = false := by rw [← HB.out]; have := HNL.out; simp [show NA.length ≤ n.toNat by omega]
          rw [decide_eq_true c0, e, Bool.true_and] at cBt
          clear e
          go_wp2_with (first
            | (go_at_call 5; refine (awake _).mono ?_; rintro e w3 ⟨rfl, hb3⟩; have H3 := bt H2 hb3; have X3 := bt hb2 hb3)
            | (go_at_call 8; have _t := t3; clear _t t3; refine (cCA _ H3).mono ?_; rintro e w4 ⟨ao4, cp4, rfl, own4, hb4⟩; have H4 := bt H3 hb4; have X4 := bt X3 hb4)
            | (go_at_call 7; refine (cNo _ _ _ (lies_of_owns own4)).mono ?_; rintro e w5 ⟨ao5, cp5, rfl, own5, hb5⟩; have H5 := bt H4 hb5; have X5 := bt X4 hb5)
            | (go_at_call 9; refine (cTS _ _ _ ((lies_of_owns own1).below X5 (Nat.le_refl _))).mono ?_; rintro e w6 ⟨ao6, cp6, rfl, own6, hb6⟩; have H6 := bt H5 hb6; have X6 := bt X5 hb6)
            | (go_at_call 6; refine (cSS _ _ _ _ _ ((lies_of_owns own5).below hb6 (Nat.le_refl _)) (lies_of_owns own6)).mono ?_; rintro e w7 ⟨rfl, hb7⟩; have H7 := bt H6 hb7; have X7 := bt X6 hb7)
            | (go_at_call 8; have _t := t4; clear _t t4; refine (cCA _ H7).mono ?_; rintro e w8 ⟨ao8, cp8, rfl, own8, hb8⟩; have H8 := bt H7 hb8; have X8 := bt X7 hb8)
            | (go_at_call 8; have _t := t5; clear _t t5; refine (cCB _ H8).mono ?_; rintro e w9 ⟨ao9, cp9, rfl, own9, hb9⟩; have H9 := bt H8 hb9; have X9 := bt X8 hb9)
            | (go_at_call 10; refine (cCm _ _ _ _ _ ((lies_of_owns own8).below hb9 (Nat.le_refl _)) (lies_of_owns own9)).mono ?_; rintro e w10 ⟨rfl, hb10⟩; have H10 := bt H9 hb10; have X10 := bt X9 hb10)
            | (go_at_call 11; refine (cRC _ _ _ _ _ ((lies_of_owns own1).below X10 (Nat.le_refl _)) ((lies_of_owns own2).below (bt (bt (bt (bt (bt (bt (bt hb3 hb4) hb5) hb6) hb7) hb8) hb9) hb10) (Nat.le_refl _))).mono ?_; rintro e w11 ⟨rfl, hb11⟩; have H11 := bt H10 hb11; have X11 := bt X10 hb11)
            | (go_at_call 8; have _t := t6; clear _t t6; refine (cCA _ H11).mono ?_; rintro e w12 ⟨ao12, cp12, rfl, own12, hb12⟩; have H12 := bt H11 hb12; have X12 := bt X11 hb12)
            | (go_at_call 12; refine (cBs _ _ _ (lies_of_owns own12)).mono ?_; rintro e w13 ⟨rfl, hw13⟩; have hw := hw13.symm; clear hw13; subst hw)
            | (go_at_call 8; have _t := t7; clear _t t7; refine (cCA _ H12).mono ?_; rintro e w14 ⟨ao14, cp14, rfl, own14, hb14⟩; have H14 := bt H12 hb14; have X14 := bt X12 hb14)
            | (go_at_call 13; refine (cBt _ _ _ (lies_of_owns own14)).mono ?_; rintro e w15 ⟨rfl, hw15⟩; have hw := hw15.symm; clear hw15; subst hw)
            | (go_at_call 8; refine (cCA _ H14).mono ?_; rintro e w16 ⟨ao16, cp16, rfl, own16, hb16⟩; have H16 := bt H14 hb16; have T16 := HT.out.below H16)
            | (go_at_call 14; refine (cTw _ _ _ (lies_of_owns own16) T16).mono ?_; rintro e w17 ⟨rfl, hw17⟩; have hw := hw17.symm; clear hw17; subst hw))
          go_ret
          exact ⟨rfl, H16⟩
        · obtain ⟨m, rfl⟩ : ∃ m : Nat, n = (m : Int) := ⟨n.toNat, by omega⟩
          have hm : m < NL := by omega
          obtain ⟨y, ey⟩ : ∃ y, VA.testBit m = y := ⟨_, rfl⟩
          rw [decide_eq_true c0, Int.toNat_natCast, ey, Bool.true_and] at cBt
          have HC : Hid (∀ W, Below w1.heap.size w1 W → W.cell? ⟨b, off + m, none⟩ = some (.bool y)) := fun W hb => by
            obtain ⟨b', off', e', hc'⟩ := bit_at (keep own1 hb) HNL.out hm
            simp only [Option.some.injEq, Addr.mk.injEq, and_true] at e'
            obtain ⟨rfl, rfl⟩ := e'
            rw [hc', HB.out m, ey]
          clear ey
          go_wp2_with (first
            | (go_at_call 5; refine (awake _).mono ?_; rintro e w3 ⟨rfl, hb3⟩; have H3 := bt H2 hb3; have X3 := bt hb2 hb3)
            | (go_at_call 8; have _t := t3; clear _t t3; refine (cCA _ H3).mono ?_; rintro e w4 ⟨ao4, cp4, rfl, own4, hb4⟩; have H4 := bt H3 hb4; have X4 := bt X3 hb4)
            | (go_at_call 7; refine (cNo _ _ _ (lies_of_owns own4)).mono ?_; rintro e w5 ⟨ao5, cp5, rfl, own5, hb5⟩; have H5 := bt H4 hb5; have X5 := bt X4 hb5)
            | (go_at_call 9; refine (cTS _ _ _ ((lies_of_owns own1).below X5 (Nat.le_refl _))).mono ?_; rintro e w6 ⟨ao6, cp6, rfl, own6, hb6⟩; have H6 := bt H5 hb6; have X6 := bt X5 hb6)
            | (go_at_call 6; refine (cSS _ _ _ _ _ ((lies_of_owns own5).below hb6 (Nat.le_refl _)) (lies_of_owns own6)).mono ?_; rintro e w7 ⟨rfl, hb7⟩; have H7 := bt H6 hb7; have X7 := bt X6 hb7)
            | (go_at_call 8; have _t := t4; clear _t t4; refine (cCA _ H7).mono ?_; rintro e w8 ⟨ao8, cp8, rfl, own8, hb8⟩; have H8 := bt H7 hb8; have X8 := bt X7 hb8)
            | (go_at_call 8; have _t := t5; clear _t t5; refine (cCB _ H8).mono ?_; rintro e w9 ⟨ao9, cp9, rfl, own9, hb9⟩; have H9 := bt H8 hb9; have X9 := bt X8 hb9)
            | (go_at_call 10; refine (cCm _ _ _ _ _ ((lies_of_owns own8).below hb9 (Nat.le_refl _)) (lies_of_owns own9)).mono ?_; rintro e w10 ⟨rfl, hb10⟩; have H10 := bt H9 hb10; have X10 := bt X9 hb10)
            | (go_at_call 11; refine (cRC _ _ _ _ _ ((lies_of_owns own1).below X10 (Nat.le_refl _)) ((lies_of_owns own2).below (bt (bt (bt (bt (bt (bt (bt hb3 hb4) hb5) hb6) hb7) hb8) hb9) hb10) (Nat.le_refl _))).mono ?_; rintro e w11 ⟨rfl, hb11⟩; have H11 := bt H10 hb11; have X11 := bt X10 hb11)
            | (go_at_call 8; have _t := t6; clear _t t6; refine (cCA _ H11).mono ?_; rintro e w12 ⟨ao12, cp12, rfl, own12, hb12⟩; have H12 := bt H11 hb12; have X12 := bt X11 hb12)
            | (go_at_call 12; refine (cBs _ _ _ (lies_of_owns own12)).mono ?_; rintro e w13 ⟨rfl, hw13⟩; have hw := hw13.symm; clear hw13; subst hw)
            | (go_at_call 8; have _t := t7; clear _t t7; refine (cCA _ H12).mono ?_; rintro e w14 ⟨ao14, cp14, rfl, own14, hb14⟩; have H14 := bt H12 hb14; have X14 := bt X12 hb14; have hc14 := HC.out _ X14)
            | (go_at_call 13; refine (cBt _ _ _ (lies_of_owns own14)).mono ?_; rintro e w15 ⟨rfl, hw15⟩; have hw := hw15.symm; clear hw15; subst hw)
            | (go_at_call 8; refine (cCA _ H14).mono ?_; rintro e w16 ⟨ao16, cp16, rfl, own16, hb16⟩; have H16 := bt H14 hb16; have T16 := HT.out.below H16)
            | (go_at_call 14; refine (cTw _ _ _ (lies_of_owns own16) T16).mono ?_; rintro e w17 ⟨rfl, hw17⟩; have hw := hw17.symm; clear hw17; subst hw))
          go_ret
          exact ⟨rfl, H16⟩
      · subst h2
        have hz : (NL : Int) = 0 := by omega
        obtain rfl : NL = 0 := h1
        rcases (show n < 0 ∨ 0 ≤ n by omega) with c0 | c0
        · rw [decide_eq_false (by omega), Bool.false_and] at cBt
          go_wp2_with (first
            | (go_at_call 5; refine (awake _).mono ?_; rintro e w3 ⟨rfl, hb3⟩; have H3 := bt H2 hb3; have X3 := bt hb2 hb3)
            | (go_at_call 8; have _t := t3; clear _t t3; refine (cCA _ H3).mono ?_; rintro e w4 ⟨ao4, cp4, rfl, own4, hb4⟩; have H4 := bt H3 hb4; have X4 := bt X3 hb4)
            | (go_at_call 7; refine (cNo _ _ _ (lies_of_owns own4)).mono ?_; rintro e w5 ⟨ao5, cp5, rfl, own5, hb5⟩; have H5 := bt H4 hb5; have X5 := bt X4 hb5)
            | (go_at_call 9; refine (cTS _ _ _ ((lies_of_owns own1).below X5 (Nat.le_refl _))).mono ?_; rintro e w6 ⟨ao6, cp6, rfl, own6, hb6⟩; have H6 := bt H5 hb6; have X6 := bt X5 hb6)
            | (go_at_call 6; refine (cSS _ _ _ _ _ ((lies_of_owns own5).below hb6 (Nat.le_refl _)) (lies_of_owns own6)).mono ?_; rintro e w7 ⟨rfl, hb7⟩; have H7 := bt H6 hb7; have X7 := bt X6 hb7)
            | (go_at_call 8; have _t := t4; clear _t t4; refine (cCA _ H7).mono ?_; rintro e w8 ⟨ao8, cp8, rfl, own8, hb8⟩; have H8 := bt H7 hb8; have X8 := bt X7 hb8)
            | (go_at_call 8; have _t := t5; clear _t t5; refine (cCB _ H8).mono ?_; rintro e w9 ⟨ao9, cp9, rfl, own9, hb9⟩; have H9 := bt H8 hb9; have X9 := bt X8 hb9)
            | (go_at_call 10; refine (cCm _ _ _ _ _ ((lies_of_owns own8).below hb9 (Nat.le_refl _)) (lies_of_owns own9)).mono ?_; rintro e w10 ⟨rfl, hb10⟩; have H10 := bt H9 hb10; have X10 := bt X9 hb10)
            | (go_at_call 11; refine (cRC _ _ _ _ _ ((lies_of_owns own1).below X10 (Nat.le_refl _)) ((lies_of_owns own2).below (bt (bt (bt (bt (bt (bt (bt hb3 hb4) hb5) hb6) hb7) hb8) hb9) hb10) (Nat.le_refl _))).mono ?_; rintro e w11 ⟨rfl, hb11⟩; have H11 := bt H10 hb11; have X11 := bt X10 hb11)
            | (go_at_call 8; have _t := t6; clear _t t6; refine (cCA _ H11).mono ?_; rintro e w12 ⟨ao12, cp12, rfl, own12, hb12⟩; have H12 := bt H11 hb12; have X12 := bt X11 hb12)
            | (go_at_call 12; refine (cBs _ _ _ (lies_of_owns own12)).mono ?_; rintro e w13 ⟨rfl, hw13⟩; have hw := hw13.symm; clear hw13; subst hw)
            | (go_at_call 8; have _t := t7; clear _t t7; refine (cCA _ H12).mono ?_; rintro e w14 ⟨ao14, cp14, rfl, own14, hb14⟩; have H14 := bt H12 hb14; have X14 := bt X12 hb14)
            | (go_at_call 13; refine (cBt _ _ _ (lies_of_owns own14)).mono ?_; rintro e w15 ⟨rfl, hw15⟩; have hw := hw15.symm; clear hw15; subst hw)
            | (go_at_call 8; refine (cCA _ H14).mono ?_; rintro e w16 ⟨ao16, cp16, rfl, own16, hb16⟩; have H16 := bt H14 hb16; have T16 := HT.out.below H16)
            | (go_at_call 14; refine (cTw _ _ _ (lies_of_owns own16) T16).mono ?_; rintro e w17 ⟨rfl, hw17⟩; have hw := hw17.symm; clear hw17; subst hw))
          go_ret
          exact ⟨rfl, H16⟩
        · have e : VA.testBit n.toNat = false := by rw [← HB.out]; have := HNL.out; simp [show NA.length ≤ n.toNat by omega]
          rw [decide_eq_true c0, e, Bool.true_and] at cBt
          clear e
          go_wp2_with (first
            | (go_at_call 5; refine (awake _).mono ?_; rintro e w3 ⟨rfl, hb3⟩; have H3 := bt H2 hb3; have X3 := bt hb2 hb3)
            | (go_at_call 8; have _t := t3; clear _t t3; refine (cCA _ H3).mono ?_; rintro e w4 ⟨ao4, cp4, rfl, own4, hb4⟩; have H4 := bt H3 hb4; have X4 := bt X3 hb4)
            | (go_at_call 7; refine (cNo _ _ _ (lies_of_owns own4)).mono ?_; rintro e w5 ⟨ao5, cp5, rfl, own5, hb5⟩; have H5 := bt H4 hb5; have X5 := bt X4 hb5)
            | (go_at_call 9; refine (cTS _ _ _ ((lies_of_owns own1).below X5 (Nat.le_refl _))).mono ?_; rintro e w6 ⟨ao6, cp6, rfl, own6, hb6⟩; have H6 := bt H5 hb6; have X6 := bt X5 hb6)
            | (go_at_call 6; refine (cSS _ _ _ _ _ ((lies_of_owns own5).below hb6 (Nat.le_refl _)) (lies_of_owns own6)).mono ?_; rintro e w7 ⟨rfl, hb7⟩; have H7 := bt H6 hb7; have X7 := bt X6 hb7)
            | (go_at_call 8; have _t := t4; clear _t t4; refine (cCA _ H7).mono ?_; rintro e w8 ⟨ao8, cp8, rfl, own8, hb8⟩; have H8 := bt H7 hb8; have X8 := bt X7 hb8)
            | (go_at_call 8; have _t := t5; clear _t t5; refine (cCB _ H8).mono ?_; rintro e w9 ⟨ao9, cp9, rfl, own9, hb9⟩; have H9 := bt H8 hb9; have X9 := bt X8 hb9)
            | (go_at_call 10; refine (cCm _ _ _ _ _ ((lies_of_owns own8).below hb9 (Nat.le_refl _)) (lies_of_owns own9)).mono ?_; rintro e w10 ⟨rfl, hb10⟩; have H10 := bt H9 hb10; have X10 := bt X9 hb10)
            | (go_at_call 11; refine (cRC _ _ _ _ _ ((lies_of_owns own1).below X10 (Nat.le_refl _)) ((lies_of_owns own2).below (bt (bt (bt (bt (bt (bt (bt hb3 hb4) hb5) hb6) hb7) hb8) hb9) hb10) (Nat.le_refl _))).mono ?_; rintro e w11 ⟨rfl, hb11⟩; have H11 := bt H10 hb11; have X11 := bt X10 hb11)
            | (go_at_call 8; have _t := t6; clear _t t6; refine (cCA _ H11).mono ?_; rintro e w12 ⟨ao12, cp12, rfl, own12, hb12⟩; have H12 := bt H11 hb12; have X12 := bt X11 hb12)
            | (go_at_call 12; refine (cBs _ _ _ (lies_of_owns own12)).mono ?_; rintro e w13 ⟨rfl, hw13⟩; have hw := hw13.symm; clear hw13; subst hw)
            | (go_at_call 8; have _t := t7; clear _t t7; refine (cCA _ H12).mono ?_; rintro e w14 ⟨ao14, cp14, rfl, own14, hb14⟩; have H14 := bt H12 hb14; have X14 := bt X12 hb14)
            | (go_at_call 13; refine (cBt _ _ _ (lies_of_owns own14)).mono ?_; rintro e w15 ⟨rfl, hw15⟩; have hw := hw15.symm; clear hw15; subst hw)
            | (go_at_call 8; refine (cCA _ H14).mono ?_; rintro e w16 ⟨ao16, cp16, rfl, own16, hb16⟩; have H16 := bt H14 hb16; have T16 := HT.out.below H16)
            | (go_at_call 14; refine (cTw _ _ _ (lies_of_owns own16) T16).mono ?_; rintro e w17 ⟨rfl, hw17⟩; have hw := hw17.symm; clear hw17; subst hw))
          go_ret
          exact ⟨rfl, H16⟩
/-- What the walk is told of a slice of integers that came in. -/
def IsRow (k : IntKind) (w : World) (a : Option Addr) (len cap : Nat) (zs : List Int) : Prop :=
  (a = none ∧ len = 0 ∧ cap = 0 ∧ zs = []) ∨
  ∃ x, a = some x ∧ len ≤ cap ∧ cap ≤ maxLen ∧ zs.length = cap ∧ (∀ i, i < zs.length → w.cell? (x.add i) = some (.int k (zs.getD i 0))) ∧ ∀ n ∈ zs, (Lit.int k n).wf = true
theorem walk (a0 : Option Addr) (len0 cap0 : Nat) (z0 : List Int) (a1 : Option Addr) (len1 cap1 : Nat) (z1 : List Int) (n : Int) (w : World) (w0 : IsRow .u32 w a0 len0 cap0 z0) (w1 : IsRow .u32 w a1 len1 cap1 z1) (u : cap0 + cap1 ≤ 1048576) (hT : Tabl w) :
    Calls Tryd.prog 3 #[.slice a0 len0 cap0, .slice a1 len1 cap1, .int .i64 n] w fun e w' => e = .returned (.bool true) ∧ Below w.heap.size w w' := by
  obtain ⟨A, rfl, hl, hA⟩ := lies_of_row nonneg_u32 w0
  obtain ⟨B, rfl, hl2, hB⟩ := lies_of_row nonneg_u32 w1
  have hlen := hl.1
  have hlen2 := hl2.1
  rw [ints_length] at hlen hlen2
  obtain ⟨t, ht⟩ : ∃ t, IsTwo (val A) t ∨ (val A = 0 ∧ t = 0) := by
    by_cases h : val A = 0
    · exact ⟨0, .inr ⟨h, rfl⟩⟩
    · obtain ⟨t, ht⟩ := two_some _ h
      exact ⟨t, .inl ht⟩
  exact law_any A B n t ht a0 a1 cap0 cap1 w hl hl2 (fun x hx => by have := (bounds_u32 (hA x hx)).2; omega) (fun x hx => by have := (bounds_u32 (hB x hx)).2; omega) (by omega) (by omega) hT
theorem gTab : Tryd.prog.globalNamed "math/bits.deBruijn32tab" = some 0 := by kernel_rfl
theorem gTabType : (Tryd.prog.globals[0]?).map (·.type) = some 42 := by kernel_rfl
theorem cellsT : Tryd.prog.cellsOf 42 = 32 := by kernel_rfl
theorem cellsB : Tryd.prog.cellsOf 5 = 1 := by kernel_rfl
/-- What the row's list gives: the table's cells hold its numbers. -/
theorem table {W : World} (h : laidMetH Tryd.prog Rows.limbFormsUptoRow.laid W) : Tabl W := fun i hi => by
  have ht : Lib.TabIs Tryd.prog W "math/bits.deBruijn32tab" .u8 tab := Lib.tabIs_of_head (rest := []) gTab gTabType Tryd.underlying42 Tryd.underlying5 cellsB cellsT h
  exact ht.cell gTab i (by show i < 32; exact hi)
theorem contract (H : Type) (enc : TypeId × Value → H) (W : World) (base : Nat) (args : Array Value) (ds gs : List (DataW H)) (before : List MemPlace)
    (hval : ∀ (j : Nat) t v, Tryd.f3.params[j]? = some t → args[j]? = some v → Value.okWide Tryd.prog W .any base t v)
    (hW : DataW.Whole enc Tryd.prog Tryd.f3.params.toList Rows.limbFormsSpec.vars false W args.toList ds gs before) (hk : Rows.uptoSmall H (ds ++ gs) = true) (hL : laidMetH Tryd.prog Rows.limbFormsUptoRow.laid W) :
    Calls Tryd.prog 3 args W fun e W' => ∃ v, e = .returned v ∧ Rows.limbFormsSpec.post enc Tryd.prog Tryd.f3 false true false false W args v W' := by
  have hW' := hW
  obtain ⟨p, q, hA0, hV, rfl, hfz, hnd⟩ := hW
  have hA : DataW.TrodAll enc Tryd.prog W 0 (fun _ => true) true Tryd.f3.params.toList args.toList ds p := hA0
  rw [Tryd.params3] at hA hval
  obtain ⟨v0, vs0, d0, ds0, p0, q0, hargs, rfl, rfl, h0, r0⟩ := trodAll_cons hA
  obtain ⟨v1, vs1, d1, ds1, p1, q1, rfl, rfl, rfl, h1, r1⟩ := trodAll_cons r0
  obtain ⟨v2, vs2, d2, ds2, p2, q2, rfl, rfl, rfl, h2, r2⟩ := trodAll_cons r1
  obtain ⟨rfl, rfl, rfl⟩ := trodAll_nil r2
  obtain rfl : args = #[v0, v1, v2] := by cases args; simp_all
  obtain ⟨rfl, rfl⟩ := trodVars_none hV
  obtain ⟨a0, len0, cap0, rfl⟩ := okWide_slice Tryd.underlying22 (hval 0 22 v0 rfl rfl)
  have k0 := h0
  have lt0 : ∀ x ∈ p0, x.block < W.heap.size := by obtain ⟨m, hm⟩ := k0; exact DataW.trod_lt m _ _ _ hm
  obtain ⟨z0, w0, r0⟩ : ∃ zs, IsRow .u32 W a0 len0 cap0 zs ∧ cap0 ≤ Rows.uptoBulk d0 := by
    obtain ⟨fuel, hf⟩ := h0
    rcases open_ints Tryd.underlying22 Tryd.underlying34 (by kernel_rfl) hf with ⟨hcs, _⟩ | ⟨x, l, c, zs, hcs, _, hl, hm, hz, hx, hcell, hwz⟩
    · simp [Value.cells] at hcs
      obtain ⟨rfl, rfl, rfl⟩ := hcs
      exact ⟨[], .inl ⟨rfl, rfl, rfl, rfl⟩, Nat.zero_le _⟩
    · simp [Value.cells] at hcs
      obtain ⟨rfl, rfl, rfl⟩ := hcs
      have hz2 : zs.length = cap0 := by simpa using hz
      simp only [Prod.mk.injEq] at hx
      obtain ⟨rfl, _⟩ := hx
      refine ⟨zs, .inr ⟨_, rfl, hl, hm, hz2, hcell, hwz⟩, ?_⟩
      simp only [Rows.uptoBulk, bulk_lits, List.length_take, List.length_drop]
      omega
  obtain ⟨a1, len1, cap1, rfl⟩ := okWide_slice Tryd.underlying22 (hval 1 22 v1 rfl rfl)
  have k1 := h1
  have lt1 : ∀ x ∈ p1, x.block < W.heap.size := by obtain ⟨m, hm⟩ := k1; exact DataW.trod_lt m _ _ _ hm
  obtain ⟨z1, w1, r1⟩ : ∃ zs, IsRow .u32 W a1 len1 cap1 zs ∧ cap1 ≤ Rows.uptoBulk d1 := by
    obtain ⟨fuel, hf⟩ := h1
    rcases open_ints Tryd.underlying22 Tryd.underlying34 (by kernel_rfl) hf with ⟨hcs, _⟩ | ⟨x, l, c, zs, hcs, _, hl, hm, hz, hx, hcell, hwz⟩
    · simp [Value.cells] at hcs
      obtain ⟨rfl, rfl, rfl⟩ := hcs
      exact ⟨[], .inl ⟨rfl, rfl, rfl, rfl⟩, Nat.zero_le _⟩
    · simp [Value.cells] at hcs
      obtain ⟨rfl, rfl, rfl⟩ := hcs
      have hz2 : zs.length = cap1 := by simpa using hz
      simp only [Prod.mk.injEq] at hx
      obtain ⟨rfl, _⟩ := hx
      refine ⟨zs, .inr ⟨_, rfl, hl, hm, hz2, hcell, hwz⟩, ?_⟩
      simp only [Rows.uptoBulk, bulk_lits, List.length_take, List.length_drop]
      omega
  have k2 := h2
  have lt2 : ∀ x ∈ p2, x.block < W.heap.size := by obtain ⟨m, hm⟩ := k2; exact DataW.trod_lt m _ _ _ hm
  obtain ⟨n2, rfl, _, _, wn2⟩ := open_int Tryd.underlying3 (hval 2 3 v2 rfl rfl) h2
  simp only [List.append_nil] at hk
  have hB : Rows.uptoBulkAll _ ≤ 1048576 := of_decide_eq_true hk
  simp only [Rows.uptoBulkAll] at hB
  have hU : cap0 + cap1 ≤ 1048576 := by omega
  clear hA0
  refine (walk a0 len0 cap0 z0 a1 len1 cap1 z1 n2 W w0 w1 hU (table hL)).mono fun e W' ⟨he, bel⟩ => ?_
  subst he
  exact ⟨_, rfl, _, _, _, [], _, [], hW', trodAll_mk1 (shut_bool Tryd.underlying4 _), (trodAll_cons_mk (Below.trod laidOut (by kernel_rfl) (of_decide_eq_true (by kernel_rfl)) k0 bel lt0) (trodAll_cons_mk (Below.trod laidOut (by kernel_rfl) (of_decide_eq_true (by kernel_rfl)) k1 bel lt1) (trodAll_cons_mk (Below.trod laidOut (by kernel_rfl) (of_decide_eq_true (by kernel_rfl)) k2 bel lt2) trodAll_mk0))), rfl, bel.frame _, fun h => by cases h⟩
/-- A world for the witness: the settled one, the table (block 0) holding what its initialiser lays. -/
noncomputable def laidWorld (os : Os) : World :=
  { World.holding Tryd.prog os ⟨#[], #[], []⟩ with heap := (World.holding Tryd.prog os ⟨#[], #[], []⟩).heap.modify 0 fun
      | .cells _ t frozen => .cells (tab.map (Value.int .u8)).toArray t frozen
      | o => o }
theorem laid_met (os : Os) : laidMet Tryd.prog Rows.limbFormsUptoRow.laid ((laidWorld os).forCall (fun _ _ => 0) ⟨#[], #[.slice none 0 0, .slice none 0 0, .int .i64 0], []⟩).memory :=
  laidMet_of_run' 8 (by kernel_rfl) (by kernel_rfl)
theorem reads (os : Os) {H : Type} (enc : TypeId × Value → H) : ∃ places, DataW.whole enc Tryd.prog ((laidWorld os).forCall (fun _ _ => 0) ⟨#[], #[.slice none 0 0, .slice none 0 0, .int .i64 0], []⟩).memory Tryd.f3.params.toList Rows.limbFormsSpec.vars false (#[Value.slice none 0 0, .slice none 0 0, .int .i64 0] : Array Value).toList 8 = some ([.nil, .nil, .lit (.int .i64 0)], [], places) :=
  ⟨[], by kernel_rfl⟩
set_option maxRecDepth 100000 in
theorem liftedUpto (os : Os) (started : os.Started) (H : Type) (enc : TypeId × Value → H) (F : Stop.Interp) :
    ReturnsInHanded {} Tryd.checked os 3 .any ((Rows.OpenSpec.upto Rows.limbFormsSpec).preRow enc Tryd.prog Tryd.f3 Rows.limbFormsUptoRow.domain false Rows.limbFormsUptoRow.laid) (((Rows.OpenSpec.upto Rows.limbFormsSpec).at F).post enc Tryd.prog Tryd.f3 false true false false) := by
  obtain ⟨places, hx⟩ := reads os enc
  refine returnsInHanded_of_row (C := Tryd.checked) (s := Rows.OpenSpec.upto Rows.limbFormsSpec) own started (by kernel_rfl) Tryd.func3
    (witness_row_at (enc := enc) (C := Tryd.checked) false (laidWorld os) #[.slice none 0 0, .slice none 0 0, .int .i64 0] rfl (by kernel_rfl) (by kernel_rfl) (by kernel_rfl)
      (OpenSpec.preRow_of_cond 8 hx (by kernel_rfl) (fun k hk => by cases hk; kernel_rfl) (by kernel_rfl) (laid_met os))) ?_
  intro W base args ds gs before hval hW _ hcond _ hL _ _
  exact contract H enc W base args ds gs before hval hW (hcond _ rfl) hL
theorem saidUpto : Rows.LimbFormsUptoSaid :=
  OpenClaim.holds_of_cond 3 Tryd.f3 rfl rfl rfl rfl rfl rfl rfl ⟨rfl, rfl, rfl, rfl, rfl⟩ rfl rfl rfl rfl rfl (by kernel_rfl) Tryd.func3 (by kernel_rfl)
    (of_decide_eq_true (by kernel_rfl)) (by unfold Func.isWrapper; first | (rw [if_pos (by decide +kernel)]; kernel_rfl) | (rw [if_neg (by decide +kernel)]; exact ⟨rfl, rfl⟩))
    (fun os started H enc _ F => by rw [OpenClaim.pre_eq_preRow]; exact liftedUpto os started H enc F)
/-- No parameter wants a stand-in; the program's own looks are off. -/
theorem plain (f : FuncId) (fn : Func) (hf : Tryd.pinned.checked.prog.funcNamed "attest/attestlaw02.LimbForms" = some f) (hfn : Tryd.pinned.checked.prog.funcs[f]? = some fn) :
    false = Tryd.pinned.checked.prog.looks [] ∧ ∀ (j : Nat) t, fn.params[j]? = some t → Tryd.pinned.checked.prog.wantsStandIn t = false := by
  obtain rfl : f = 3 := Option.some.inj ((show Tryd.prog.funcNamed "attest/attestlaw02.LimbForms" = some 3 by kernel_rfl).symm.trans hf) |>.symm
  obtain rfl : fn = Tryd.f3 := (Option.some.inj (Tryd.func3.symm.trans hfn)).symm
  refine ⟨by kernel_rfl, fun j t ht => ?_⟩
  rw [Tryd.params3] at ht
  obtain rfl | rfl : t = 22 ∨ t = 3 := by have := Array.mem_of_getElem? ht; simp at this; omega
  · exact (show Tryd.prog.wantsStandIn 22 = false by kernel_rfl)
  · exact (show Tryd.prog.wantsStandIn 3 = false by kernel_rfl)
theorem cardUpto : Rows.LimbFormsUptoCardSaid :=
  Claim7.holds_tied_plain_at .later [] _ _ _ _ saidUpto (fun _ h => by cases h) (by kernel_rfl) (fun _ h => by cases h) limbFormsUpto_row_tie rfl ⟨rfl, rfl⟩ (by kernel_rfl) rfl plain (by kernel_rfl)
end Go.Proofs.YtjehfgfgnijkoaaDoor.limbForms
namespace Go.Proofs.YtjehfgfgnijkoaaDoor
/-- THE CARD. -/
theorem limbFormsUptoCard_holds : Rows.LimbFormsUptoCardSaid := limbForms.cardUpto
#print axioms limbFormsUptoCard_holds
end Go.Proofs.YtjehfgfgnijkoaaDoor
