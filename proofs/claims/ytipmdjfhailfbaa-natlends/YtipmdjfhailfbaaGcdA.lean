/- What the greatest common divisor answers. -/
import Derived.Test.YtipmdjfhailfbaaNearL
import Derived.Test.YtipmdjfhailfbaaCopyL
import Derived.Test.YtipmdjfhailfbaaWords
import Derived.Deep.LoopGhost
import Derived.BigRegion
namespace Go.Proofs.Ytipmdjfhailfbaa.GcdA
open Go.RowKit Mem LimbNum Limb1 Limb2 Limb3 Limb4 NatNum DivNum NatL GcdNum GcdL NearL CopyL Words DivAll

theorem two_limbs {N : Nat} (h : (nl N).length ≤ 2) : N < 18446744073709551616 := by
  have h1 := val_lt (nl N) (small_nl _)
  rw [val_nl] at h1
  have h2 : (4294967296 : Nat) ^ (nl N).length ≤ 4294967296 ^ 2 := Nat.pow_le_pow_right (by omega) h
  omega
theorem low_nl (N : Nat) (ao : Option Addr) (cap : Nat) (w : World) (h : Lies w ao cap (ints .u32 (nl N))) (hN : N < 18446744073709551616) :
    Calls Try.prog 20 #[.slice ao (nl N).length cap] w fun e w' => e = .returned (.tuple #[.int .u64 (N : Int), .bool true]) ∧ w' = w := by
  have := low_any (nl N) ao cap w h (small_nl _)
  rw [val_nl, Nat.mod_eq_of_lt hN, decide_eq_true (nb_lt 64 N hN)] at this
  exact this
set_option maxRecDepth 20000 in
set_option maxHeartbeats 8000000 in
theorem gcd_any (A B : List Nat) (ao1 ao2 : Option Addr) (cap1 cap2 : Nat) (w : World) (h1 : Lies w ao1 cap1 (ints .u32 A)) (h2 : Lies w ao2 cap2 (ints .u32 B)) (hA : Small A) (hB : Small B) (hlA : A.length ≤ 35184372088832) (hlB : B.length ≤ 35184372088832) :
    Calls Try.prog 6 #[.slice ao1 A.length cap1, .slice ao2 B.length cap2] w fun e w' => ∃ o c, e = .returned (.slice o (nl (Nat.gcd (val A) (val B))).length c) ∧
      w'.ownsRow w.heap.size 33 1 (.slice o (nl (Nat.gcd (val A) (val B))).length c) (nl (Nat.gcd (val A) (val B))).length (ints .u32 (nl (Nat.gcd (val A) (val B)))) ∧ Below w.heap.size w w' := by
  have cN1 := norm_any A ao1 cap1 w h1 hA (by omega)
  have cN2 := fun (W : World) (hb : Below w.heap.size w W) => norm_any B ao2 cap2 W (h2.below hb (Nat.le_refl _)) hB (by omega)
  have kA := nl_len A hA
  have kB := nl_len B hB
  have t1 : True := trivial
  generalize val A = a at *
  generalize val B = b at *
  obtain ⟨G, eG⟩ : ∃ G, G = Nat.gcd a b := ⟨_, rfl⟩
  rw [← eG]
  have HG : Hid (G = Nat.gcd a b ∧ (nl a).length ≤ 35184372088832 ∧ (nl b).length ≤ 35184372088832) := ⟨eG, by omega, by omega⟩
  clear eG kA kB h1 h2
  have hcmp : (cmpV a b = -1 ∧ a < b) ∨ (0 ≤ cmpV a b ∧ b ≤ a) := by
    unfold cmpV; split
    · exact .inl ⟨rfl, by assumption⟩
    · split <;> exact .inr ⟨by omega, by omega⟩
  rcases hcmp with ⟨hcv, hab⟩ | ⟨hcv, hab⟩
  all_goals (
      go_enter Try.func6, Try.ntmps6
      go_wp2_with (first
        | (go_at_call 17; have _t := t1; clear _t t1; refine cN1.mono ?_; rintro e w1 ⟨o1, c1, rfl, hown1, hb1⟩)
        | (go_at_call 17; refine (cN2 _ hb1).mono ?_; rintro e w2 ⟨o2, c2, rfl, hown2, hb2⟩; have hown3 := keep hown1 hb2; have cC := cmp_any (nl a) (nl b) o1 o2 c1 c2 w2 (lies_of_owns hown3) (lies_of_owns hown2) (small_nl _) (small_nl _); rw [val_nl, val_nl] at cC)
        | (go_at_call 14; refine cC.mono ?_; rintro e w3 ⟨rfl, hb3⟩))
      all_goals (
        have q1 : w3.ownsRow w.heap.size 33 1 (.slice o1 (nl a).length c1) (nl a).length (ints .u32 (nl a)) := keep hown3 hb3
        have q2 : w3.ownsRow w.heap.size 33 1 (.slice o2 (nl b).length c2) (nl b).length (ints .u32 (nl b)) := owns_base (keep hown2 hb3) hb1.size
        have q3 : Below w.heap.size w w3 := bt (bt hb1 hb2) hb3
        clear cN1 cN2 cC hown1 hown2 hown3 hb1 hb2 hb3
        (go_loopg [5, 6] (a + b) (fun k xv yv wr => ∃ (X Y : Nat) (o1 o2 : Option Addr) (c1 c2 : Nat), xv = .slice o1 (nl X).length c1 ∧ yv = .slice o2 (nl Y).length c2 ∧ Hid (k = X + Y ∧ Y ≤ X ∧ (nl X).length ≤ 35184372088832 ∧ Nat.gcd X Y = G) ∧
          Hid (wr.ownsRow w.heap.size 33 1 (.slice o1 (nl X).length c1) (nl X).length (ints .u32 (nl X))) ∧ Hid (wr.ownsRow w.heap.size 33 1 (.slice o2 (nl Y).length c2) (nl Y).length (ints .u32 (nl Y))) ∧ Hid (Below w.heap.size w wr)))
        case atStart =>
          first
          | exact ⟨a, b, o1, o2, c1, c2, rfl, rfl, ⟨rfl, hab, HG.out.2.1, HG.out.1.symm⟩, q1, q2, q3⟩
          | exact ⟨b, a, o2, o1, c2, c1, rfl, rfl, ⟨Nat.add_comm _ _, Nat.le_of_lt hab, HG.out.2.2, by rw [Nat.gcd_comm]; exact HG.out.1.symm⟩, q2, q1, q3⟩
        case round =>
          clear q1 q2 q3 HG
          obtain ⟨X, Y, o1, o2, c1, c2, rfl, rfl, HX, HO1, HO2, HB⟩ := hrel
          have l1 := lies_of_owns HO1.out
          by_cases h2 : 2 < (nl Y).length
          · have cN := nearer_any X Y w.heap.size o1 o2 c1 c2 wr l1 HO2.out HB.out.size HX.out.2.1 h2 HX.out.2.2.1
            have h2i : (2 : Int) < ((nl Y).length : Int) := by omega
            clear l1 h2
            go_wp2_with (go_at_call 18; refine cN.mono ?_; rintro e w4 ⟨X', Y', p1, p2, q1, q2, rfl, hL, hw1, hw2, hb4⟩)
            go_roundg (X' + Y')
            case measure => rw [HX.out.1]; exact hL.less
            case rel => exact ⟨X', Y', _, _, _, _, rfl, rfl, ⟨rfl, hL.le, Nat.le_trans (nl_mono _ _ hL.top) HX.out.2.2.1, by rw [hL.gcd]; exact HX.out.2.2.2⟩, hw1, hw2, bt HB.out hb4⟩
          · have h2i : ¬ (2 : Int) < ((nl Y).length : Int) := by omega
            by_cases hY : Y = 0
            · subst hY
              have hz : (nl 0).length = 0 := by rw [nl_zero]; rfl
              have eG : G = X := by rw [← HX.out.2.2.2, Nat.gcd_zero_right]
              subst eG
              rw [hz]
              clear l1 h2 h2i
              go_wp2
              go_ret
              exact ⟨_, _, rfl, HO1.out, HB.out⟩
            · have hYl : 1 ≤ (nl Y).length := (nl_last Y hY).1
              have hYi : ((nl Y).length : Int) ≠ 0 := by omega
              have hYz : (((nl Y).length : Int) == 0) = false := by rw [beq_eq_false_iff_ne]; exact hYi
              have vY := two_limbs (N := Y) (by omega)
              by_cases hx : 2 < (nl X).length
              · have hxi : (2 : Int) < ((nl X).length : Int) := by omega
                have cE := euclid_is X Y w.heap.size o1 o2 c1 c2 wr l1 HO2.out HB.out.size HX.out.2.1 (by omega) HX.out.2.2.1
                have vR : X % Y < 18446744073709551616 := Nat.lt_of_lt_of_le (Nat.mod_lt _ (by omega)) (Nat.le_of_lt vY)
                have HPQ : Hid (Nat.gcd Y (X % Y) = G) := by unfold Hid; rw [← HX.out.2.2.2, Nat.gcd_comm, ← Nat.gcd_rec, Nat.gcd_comm]
                have t1 : True := trivial
                obtain ⟨R, eR⟩ : ∃ R, R = X % Y := ⟨_, rfl⟩
                rw [← eR] at cE vR HPQ
                clear l1 h2 hx hYl eR hY
                go_wp2_with (first
                  | (go_at_call 19; refine cE.mono ?_; rintro e w5 ⟨p2, q2, rfl, hw1, hw2, hb5⟩)
                  | (go_at_call 20; have _t := t1; clear _t t1; refine (low_nl Y _ _ w5 (lies_of_owns hw1) vY).mono ?_; rintro e w6 ⟨rfl, hw⟩; have hw2 := hw.symm; clear hw; subst hw2)
                  | (go_at_call 20; refine (low_nl R _ _ w5 (lies_of_owns hw2) vR).mono ?_; rintro e w6 ⟨rfl, hw⟩; have hw2 := hw.symm; clear hw; subst hw2))
                have HBB : Hid (Below w.heap.size w w5) := bt HB.out hb5
                clear HO1 HO2 HX HB cE hw1 hw2 hb5
                (go_loopw [7, 9] (fun pv qv wr => ∃ (p q : Nat) (PI QI : Int), pv = .int .u64 PI ∧ qv = .int .u64 QI ∧ 0 ≤ PI ∧ PI < 18446744073709551616 ∧ 0 ≤ QI ∧ QI < 18446744073709551616 ∧ Hid (PI = (p : Int) ∧ QI = (q : Int) ∧ Nat.gcd p q = G) ∧ Hid (Below w.heap.size w wr)) (fun _ qv _ => (intOf qv).toNat))
                case atStart => exact ⟨Y, R, _, _, rfl, rfl, by omega, by omega, by omega, by omega, ⟨rfl, rfl, HPQ.out⟩, HBB⟩
                case round =>
                  clear HPQ HBB
                  obtain ⟨p, q, PI, QI, rfl, rfl, P0, P1, Q0, Q1, HE, HB2⟩ := hrel
                  by_cases hq : QI = 0
                  · subst hq
                    have hp : p = G := by rw [← HE.out.2.2, show q = 0 by have := HE.out.2.1; omega, Nat.gcd_zero_right]
                    have cW := fun (W : World) => word_any p W (by have := HE.out.1; omega)
                    rw [hp, ← hp, ← HE.out.1, hp] at cW
                    clear hp
                    go_wp2_with (go_at_call 21; refine (cW _).mono ?_; rintro e w7 ⟨o7, c7, rfl, hown7, hb7⟩)
                    all_goals go_ret
                    all_goals exact ⟨_, _, rfl, owns_base hown7 HB2.out.size, bt HB2.out hb7⟩
                  · have hqz : (QI == 0) = false := by rw [beq_eq_false_iff_ne]; exact hq
                    have hqp : 0 < QI := by omega
                    have e2 : PI.tmod QI = PI % QI := Int.tmod_eq_emod_of_nonneg P0
                    have m0 : 0 ≤ PI % QI := Int.emod_nonneg _ hq
                    have m1 : PI % QI < QI := Int.emod_lt_of_pos _ hqp
                    have HE2 : Hid (QI = (q : Int) ∧ PI % QI = ((p % q : Nat) : Int) ∧ Nat.gcd q (p % q) = G) := ⟨HE.out.2.1, by rw [HE.out.1, HE.out.2.1]; exact (Int.natCast_emod _ _).symm, by rw [← HE.out.2.2, Nat.gcd_comm, ← Nat.gcd_rec, Nat.gcd_comm]⟩
                    obtain ⟨RI, eR⟩ : ∃ R : Int, PI % QI = R := ⟨_, rfl⟩
                    rw [eR] at e2 m0 m1 HE2
                    have r1 : RI < 18446744073709551616 := by omega
                    have hmeas : Hid (RI.toNat < QI.toNat) := by unfold Hid; omega
                    clear eR
                    go_wp2
                    go_region
                    all_goals go_wp2
                    all_goals go_roundw
                    case rel => exact ⟨q, p % q, QI, RI, rfl, rfl, Q0, Q1, m0, r1, HE2, by first | exact HB2.out.drew | exact below_drewN HB2.out _⟩
                    case measure => simp only [intOf]; exact hmeas.out
              · have hxi : ¬ (2 : Int) < ((nl X).length : Int) := by omega
                have vX := two_limbs (N := X) (by omega)
                have HPQ : Hid (Nat.gcd X Y = G) := HX.out.2.2.2
                have t1 : True := trivial
                have l2 := lies_of_owns HO2.out
                clear h2 hx hYl hY
                go_wp2_with (first
                  | (go_at_call 20; have _t := t1; clear _t t1; refine (low_nl X _ _ wr l1 vX).mono ?_; rintro e w6 ⟨rfl, hw⟩; have hw2 := hw.symm; clear hw; subst hw2)
                  | (go_at_call 20; refine (low_nl Y _ _ wr l2 vY).mono ?_; rintro e w6 ⟨rfl, hw⟩; have hw2 := hw.symm; clear hw; subst hw2))
                have HBB : Hid (Below w.heap.size w wr) := HB
                clear HO1 HO2 HX HB l1 l2
                (go_loopw [7, 9] (fun pv qv wr => ∃ (p q : Nat) (PI QI : Int), pv = .int .u64 PI ∧ qv = .int .u64 QI ∧ 0 ≤ PI ∧ PI < 18446744073709551616 ∧ 0 ≤ QI ∧ QI < 18446744073709551616 ∧ Hid (PI = (p : Int) ∧ QI = (q : Int) ∧ Nat.gcd p q = G) ∧ Hid (Below w.heap.size w wr)) (fun _ qv _ => (intOf qv).toNat))
                case atStart => exact ⟨X, Y, _, _, rfl, rfl, by omega, by omega, by omega, by omega, ⟨rfl, rfl, HPQ.out⟩, HBB⟩
                case round =>
                  clear HPQ HBB
                  obtain ⟨p, q, PI, QI, rfl, rfl, P0, P1, Q0, Q1, HE, HB2⟩ := hrel
                  by_cases hq : QI = 0
                  · subst hq
                    have hp : p = G := by rw [← HE.out.2.2, show q = 0 by have := HE.out.2.1; omega, Nat.gcd_zero_right]
                    have cW := fun (W : World) => word_any p W (by have := HE.out.1; omega)
                    rw [hp, ← hp, ← HE.out.1, hp] at cW
                    clear hp
                    go_wp2_with (go_at_call 21; refine (cW _).mono ?_; rintro e w7 ⟨o7, c7, rfl, hown7, hb7⟩)
                    all_goals go_ret
                    all_goals exact ⟨_, _, rfl, owns_base hown7 HB2.out.size, bt HB2.out hb7⟩
                  · have hqz : (QI == 0) = false := by rw [beq_eq_false_iff_ne]; exact hq
                    have hqp : 0 < QI := by omega
                    have e2 : PI.tmod QI = PI % QI := Int.tmod_eq_emod_of_nonneg P0
                    have m0 : 0 ≤ PI % QI := Int.emod_nonneg _ hq
                    have m1 : PI % QI < QI := Int.emod_lt_of_pos _ hqp
                    have HE2 : Hid (QI = (q : Int) ∧ PI % QI = ((p % q : Nat) : Int) ∧ Nat.gcd q (p % q) = G) := ⟨HE.out.2.1, by rw [HE.out.1, HE.out.2.1]; exact (Int.natCast_emod _ _).symm, by rw [← HE.out.2.2, Nat.gcd_comm, ← Nat.gcd_rec, Nat.gcd_comm]⟩
                    obtain ⟨RI, eR⟩ : ∃ R : Int, PI % QI = R := ⟨_, rfl⟩
                    rw [eR] at e2 m0 m1 HE2
                    have r1 : RI < 18446744073709551616 := by omega
                    have hmeas : Hid (RI.toNat < QI.toNat) := by unfold Hid; omega
                    clear eR
                    go_wp2
                    go_region
                    all_goals go_wp2
                    all_goals go_roundw
                    case rel => exact ⟨q, p % q, QI, RI, rfl, rfl, Q0, Q1, m0, r1, HE2, by first | exact HB2.out.drew | exact below_drewN HB2.out _⟩
                    case measure => simp only [intOf]; exact hmeas.out))
end Go.Proofs.Ytipmdjfhailfbaa.GcdA
