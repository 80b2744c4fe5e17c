/- What the greatest common divisor answers; A rational number as a value of the program's, and what its small functions answer; What making a rational number, and telling its parts, answer; What making a rational number, and telling its parts, answer (2); What the opposite and the size of a rational number are; Which rational numbers are whole, and which are ints; What a quotient of two ints answers. -/
import Derived.Test.YtefckmkcbgckfaaGreatDoorSetAP
import Derived.Test.YtefckmkcbgckfaaGreatDoorSetAI
import Derived.Test.YtefckmkcbgckfaaGreatDoorSetAF
import Derived.Deep.LoopGhost
import Derived.BigRegion
import Derived.Deep.RegionHeld3
/- What the greatest common divisor answers. -/
namespace Go.Proofs.YtefckmkcbgckfaaGreatDoor.GcdA
open Go.RowKit Mem LimbNum Limb1 Limb2 Limb3 Limb4 NatNum DivNum NatL GcdNum GcdL NearL CopyL Words DivAll

theorem two_limbs {N : Nat} (h : (nl N).length ≤ 2) : N < 18446744073709551616 := by
  have h1 := val_lt (nl N) (small_nl _)
  rw [val_nl] at h1
  have h2 : (4294967296 : Nat) ^ (nl N).length ≤ 4294967296 ^ 2 := Nat.pow_le_pow_right (by omega) h
  omega
theorem low_nl (N : Nat) (ao : Option Addr) (cap : Nat) (w : World) (h : Lies w ao cap (ints .u32 (nl N))) (hN : N < 18446744073709551616) :
    Calls Tryz.prog 69 #[.slice ao (nl N).length cap] w fun e w' => e = .returned (.tuple #[.int .u64 (N : Int), .bool true]) ∧ w' = w := by
  have := low_any (nl N) ao cap w h (small_nl _)
  rw [val_nl, Nat.mod_eq_of_lt hN, decide_eq_true (nb_lt 64 N hN)] at this
  exact this
set_option maxRecDepth 20000 in
set_option maxHeartbeats 8000000 in
theorem gcd_any (A B : List Nat) (ao1 ao2 : Option Addr) (cap1 cap2 : Nat) (w : World) (h1 : Lies w ao1 cap1 (ints .u32 A)) (h2 : Lies w ao2 cap2 (ints .u32 B)) (hA : Small A) (hB : Small B) (hlA : A.length ≤ 35184372088832) (hlB : B.length ≤ 35184372088832) :
    Calls Tryz.prog 37 #[.slice ao1 A.length cap1, .slice ao2 B.length cap2] w fun e w' => ∃ o c, e = .returned (.slice o (nl (Nat.gcd (val A) (val B))).length c) ∧
      w'.ownsRow w.heap.size 48 1 (.slice o (nl (Nat.gcd (val A) (val B))).length c) (nl (Nat.gcd (val A) (val B))).length (ints .u32 (nl (Nat.gcd (val A) (val B)))) ∧ Below w.heap.size w w' := by
  have cN1 := norm_any A ao1 cap1 w h1 hA (by omega)
  have cN2 := fun (W : World) (hb : Below w.heap.size w W) => norm_any B ao2 cap2 W (h2.below hb (Nat.le_refl _)) hB (by omega)
  have kA := nl_len A hA
  have kB := nl_len B hB
  have t1 : True := trivial
  generalize val A = a at *
  generalize val B = b at *
  obtain ⟨G, eG⟩ : ∃ G, G = Nat.gcd a b := ⟨_, rfl⟩
  rw [← eG]
  have HG : Hid (G = Nat.gcd a b ∧ (nl a).length ≤ 35184372088832 ∧ (nl b).length ≤ 35184372088832) := ⟨eG, by omega, by omega⟩
  clear eG kA kB h1 h2
  have hcmp : (cmpV a b = -1 ∧ a < b) ∨ (0 ≤ cmpV a b ∧ b ≤ a) := by
    unfold cmpV; split
    · exact .inl ⟨rfl, by assumption⟩
    · split <;> exact .inr ⟨by omega, by omega⟩
  rcases hcmp with ⟨hcv, hab⟩ | ⟨hcv, hab⟩
  all_goals (
      go_enter Tryz.func37, Tryz.ntmps37
      go_wp2_with (first
        | (go_at_call 40; have _t := t1; clear _t t1; refine cN1.mono ?_; rintro e w1 ⟨o1, c1, rfl, hown1, hb1⟩)
        | (go_at_call 40; refine (cN2 _ hb1).mono ?_; rintro e w2 ⟨o2, c2, rfl, hown2, hb2⟩; have hown3 := keep hown1 hb2; have cC := cmp_any (nl a) (nl b) o1 o2 c1 c2 w2 (lies_of_owns hown3) (lies_of_owns hown2) (small_nl _) (small_nl _); rw [val_nl, val_nl] at cC)
        | (go_at_call 64; refine cC.mono ?_; rintro e w3 ⟨rfl, hb3⟩))
      all_goals (
        have q1 : w3.ownsRow w.heap.size 48 1 (.slice o1 (nl a).length c1) (nl a).length (ints .u32 (nl a)) := keep hown3 hb3
        have q2 : w3.ownsRow w.heap.size 48 1 (.slice o2 (nl b).length c2) (nl b).length (ints .u32 (nl b)) := owns_base (keep hown2 hb3) hb1.size
        have q3 : Below w.heap.size w w3 := bt (bt hb1 hb2) hb3
        clear cN1 cN2 cC hown1 hown2 hown3 hb1 hb2 hb3
        (go_loopg [5, 6] (a + b) (fun k xv yv wr => ∃ (X Y : Nat) (o1 o2 : Option Addr) (c1 c2 : Nat), xv = .slice o1 (nl X).length c1 ∧ yv = .slice o2 (nl Y).length c2 ∧ Hid (k = X + Y ∧ Y ≤ X ∧ (nl X).length ≤ 35184372088832 ∧ Nat.gcd X Y = G) ∧
          Hid (wr.ownsRow w.heap.size 48 1 (.slice o1 (nl X).length c1) (nl X).length (ints .u32 (nl X))) ∧ Hid (wr.ownsRow w.heap.size 48 1 (.slice o2 (nl Y).length c2) (nl Y).length (ints .u32 (nl Y))) ∧ Hid (Below w.heap.size w wr)))
        case atStart =>
          first
          | exact ⟨a, b, o1, o2, c1, c2, rfl, rfl, ⟨rfl, hab, HG.out.2.1, HG.out.1.symm⟩, q1, q2, q3⟩
          | exact ⟨b, a, o2, o1, c2, c1, rfl, rfl, ⟨Nat.add_comm _ _, Nat.le_of_lt hab, HG.out.2.2, by rw [Nat.gcd_comm]; exact HG.out.1.symm⟩, q2, q1, q3⟩
        case round =>
          clear q1 q2 q3 HG
          obtain ⟨X, Y, o1, o2, c1, c2, rfl, rfl, HX, HO1, HO2, HB⟩ := hrel
          have l1 := lies_of_owns HO1.out
          by_cases h2 : 2 < (nl Y).length
          · have cN := nearer_any X Y w.heap.size o1 o2 c1 c2 wr l1 HO2.out HB.out.size HX.out.2.1 h2 HX.out.2.2.1
            have h2i : (2 : Int) < ((nl Y).length : Int) := by omega
            clear l1 h2
            go_wp2_with (go_at_call 67; refine cN.mono ?_; rintro e w4 ⟨X', Y', p1, p2, q1, q2, rfl, hL, hw1, hw2, hb4⟩)
            go_roundg (X' + Y')
            case measure => rw [HX.out.1]; exact hL.less
            case rel => exact ⟨X', Y', _, _, _, _, rfl, rfl, ⟨rfl, hL.le, Nat.le_trans (nl_mono _ _ hL.top) HX.out.2.2.1, by rw [hL.gcd]; exact HX.out.2.2.2⟩, hw1, hw2, bt HB.out hb4⟩
          · have h2i : ¬ (2 : Int) < ((nl Y).length : Int) := by omega
            by_cases hY : Y = 0
            · subst hY
              have hz : (nl 0).length = 0 := by rw [nl_zero]; rfl
              have eG : G = X := by rw [← HX.out.2.2.2, Nat.gcd_zero_right]
              subst eG
              rw [hz]
              clear l1 h2 h2i
              go_wp2
              go_ret
              exact ⟨_, _, rfl, HO1.out, HB.out⟩
            · have hYl : 1 ≤ (nl Y).length := (nl_last Y hY).1
              have hYi : ((nl Y).length : Int) ≠ 0 := by omega
              have hYz : (((nl Y).length : Int) == 0) = false := by rw [beq_eq_false_iff_ne]; exact hYi
              have vY := two_limbs (N := Y) (by omega)
              by_cases hx : 2 < (nl X).length
              · have hxi : (2 : Int) < ((nl X).length : Int) := by omega
                have cE := euclid_is X Y w.heap.size o1 o2 c1 c2 wr l1 HO2.out HB.out.size HX.out.2.1 (by omega) HX.out.2.2.1
                have vR : X % Y < 18446744073709551616 := Nat.lt_of_lt_of_le (Nat.mod_lt _ (by omega)) (Nat.le_of_lt vY)
                have HPQ : Hid (Nat.gcd Y (X % Y) = G) := by unfold Hid; rw [← HX.out.2.2.2, Nat.gcd_comm, ← Nat.gcd_rec, Nat.gcd_comm]
                have t1 : True := trivial
                obtain ⟨R, eR⟩ : ∃ R, R = X % Y := ⟨_, rfl⟩
                rw [← eR] at cE vR HPQ
                clear l1 h2 hx hYl eR hY
                go_wp2_with (first
                  | (go_at_call 68; refine cE.mono ?_; rintro e w5 ⟨p2, q2, rfl, hw1, hw2, hb5⟩)
                  | (go_at_call 69; have _t := t1; clear _t t1; refine (low_nl Y _ _ w5 (lies_of_owns hw1) vY).mono ?_; rintro e w6 ⟨rfl, hw⟩; have hw2 := hw.symm; clear hw; subst hw2)
                  | (go_at_call 69; refine (low_nl R _ _ w5 (lies_of_owns hw2) vR).mono ?_; rintro e w6 ⟨rfl, hw⟩; have hw2 := hw.symm; clear hw; subst hw2))
                have HBB : Hid (Below w.heap.size w w5) := bt HB.out hb5
                clear HO1 HO2 HX HB cE hw1 hw2 hb5
                (go_loopw [7, 9] (fun pv qv wr => ∃ (p q : Nat) (PI QI : Int), pv = .int .u64 PI ∧ qv = .int .u64 QI ∧ 0 ≤ PI ∧ PI < 18446744073709551616 ∧ 0 ≤ QI ∧ QI < 18446744073709551616 ∧ Hid (PI = (p : Int) ∧ QI = (q : Int) ∧ Nat.gcd p q = G) ∧ Hid (Below w.heap.size w wr)) (fun _ qv _ => (intOf qv).toNat))
                case atStart => exact ⟨Y, R, _, _, rfl, rfl, by omega, by omega, by omega, by omega, ⟨rfl, rfl, HPQ.out⟩, HBB⟩
                case round =>
                  clear HPQ HBB
                  obtain ⟨p, q, PI, QI, rfl, rfl, P0, P1, Q0, Q1, HE, HB2⟩ := hrel
                  by_cases hq : QI = 0
                  · subst hq
                    have hp : p = G := by rw [← HE.out.2.2, show q = 0 by have := HE.out.2.1; omega, Nat.gcd_zero_right]
                    have cW := fun (W : World) => word_any p W (by have := HE.out.1; omega)
                    rw [hp, ← hp, ← HE.out.1, hp] at cW
                    clear hp
                    go_wp2_with (go_at_call 70; refine (cW _).mono ?_; rintro e w7 ⟨o7, c7, rfl, hown7, hb7⟩)
                    all_goals go_ret
                    all_goals exact ⟨_, _, rfl, owns_base hown7 HB2.out.size, bt HB2.out hb7⟩
                  · have hqz : (QI == 0) = false := by rw [beq_eq_false_iff_ne]; exact hq
                    have hqp : 0 < QI := by omega
                    have e2 : PI.tmod QI = PI % QI := Int.tmod_eq_emod_of_nonneg P0
                    have m0 : 0 ≤ PI % QI := Int.emod_nonneg _ hq
                    have m1 : PI % QI < QI := Int.emod_lt_of_pos _ hqp
                    have HE2 : Hid (QI = (q : Int) ∧ PI % QI = ((p % q : Nat) : Int) ∧ Nat.gcd q (p % q) = G) := ⟨HE.out.2.1, by rw [HE.out.1, HE.out.2.1]; exact (Int.natCast_emod _ _).symm, by rw [← HE.out.2.2, Nat.gcd_comm, ← Nat.gcd_rec, Nat.gcd_comm]⟩
                    obtain ⟨RI, eR⟩ : ∃ R : Int, PI % QI = R := ⟨_, rfl⟩
                    rw [eR] at e2 m0 m1 HE2
                    have r1 : RI < 18446744073709551616 := by omega
                    have hmeas : Hid (RI.toNat < QI.toNat) := by unfold Hid; omega
                    clear eR
                    go_wp2
                    go_region
                    all_goals go_wp2
                    all_goals go_roundw
                    case rel => exact ⟨q, p % q, QI, RI, rfl, rfl, Q0, Q1, m0, r1, HE2, by first | exact HB2.out.drew | exact below_drewN HB2.out _⟩
                    case measure => simp only [intOf]; exact hmeas.out
              · have hxi : ¬ (2 : Int) < ((nl X).length : Int) := by omega
                have vX := two_limbs (N := X) (by omega)
                have HPQ : Hid (Nat.gcd X Y = G) := HX.out.2.2.2
                have t1 : True := trivial
                have l2 := lies_of_owns HO2.out
                clear h2 hx hYl hY
                go_wp2_with (first
                  | (go_at_call 69; have _t := t1; clear _t t1; refine (low_nl X _ _ wr l1 vX).mono ?_; rintro e w6 ⟨rfl, hw⟩; have hw2 := hw.symm; clear hw; subst hw2)
                  | (go_at_call 69; refine (low_nl Y _ _ wr l2 vY).mono ?_; rintro e w6 ⟨rfl, hw⟩; have hw2 := hw.symm; clear hw; subst hw2))
                have HBB : Hid (Below w.heap.size w wr) := HB
                clear HO1 HO2 HX HB l1 l2
                (go_loopw [7, 9] (fun pv qv wr => ∃ (p q : Nat) (PI QI : Int), pv = .int .u64 PI ∧ qv = .int .u64 QI ∧ 0 ≤ PI ∧ PI < 18446744073709551616 ∧ 0 ≤ QI ∧ QI < 18446744073709551616 ∧ Hid (PI = (p : Int) ∧ QI = (q : Int) ∧ Nat.gcd p q = G) ∧ Hid (Below w.heap.size w wr)) (fun _ qv _ => (intOf qv).toNat))
                case atStart => exact ⟨X, Y, _, _, rfl, rfl, by omega, by omega, by omega, by omega, ⟨rfl, rfl, HPQ.out⟩, HBB⟩
                case round =>
                  clear HPQ HBB
                  obtain ⟨p, q, PI, QI, rfl, rfl, P0, P1, Q0, Q1, HE, HB2⟩ := hrel
                  by_cases hq : QI = 0
                  · subst hq
                    have hp : p = G := by rw [← HE.out.2.2, show q = 0 by have := HE.out.2.1; omega, Nat.gcd_zero_right]
                    have cW := fun (W : World) => word_any p W (by have := HE.out.1; omega)
                    rw [hp, ← hp, ← HE.out.1, hp] at cW
                    clear hp
                    go_wp2_with (go_at_call 70; refine (cW _).mono ?_; rintro e w7 ⟨o7, c7, rfl, hown7, hb7⟩)
                    all_goals go_ret
                    all_goals exact ⟨_, _, rfl, owns_base hown7 HB2.out.size, bt HB2.out hb7⟩
                  · have hqz : (QI == 0) = false := by rw [beq_eq_false_iff_ne]; exact hq
                    have hqp : 0 < QI := by omega
                    have e2 : PI.tmod QI = PI % QI := Int.tmod_eq_emod_of_nonneg P0
                    have m0 : 0 ≤ PI % QI := Int.emod_nonneg _ hq
                    have m1 : PI % QI < QI := Int.emod_lt_of_pos _ hqp
                    have HE2 : Hid (QI = (q : Int) ∧ PI % QI = ((p % q : Nat) : Int) ∧ Nat.gcd q (p % q) = G) := ⟨HE.out.2.1, by rw [HE.out.1, HE.out.2.1]; exact (Int.natCast_emod _ _).symm, by rw [← HE.out.2.2, Nat.gcd_comm, ← Nat.gcd_rec, Nat.gcd_comm]⟩
                    obtain ⟨RI, eR⟩ : ∃ R : Int, PI % QI = R := ⟨_, rfl⟩
                    rw [eR] at e2 m0 m1 HE2
                    have r1 : RI < 18446744073709551616 := by omega
                    have hmeas : Hid (RI.toNat < QI.toNat) := by unfold Hid; omega
                    clear eR
                    go_wp2
                    go_region
                    all_goals go_wp2
                    all_goals go_roundw
                    case rel => exact ⟨q, p % q, QI, RI, rfl, rfl, Q0, Q1, m0, r1, HE2, by first | exact HB2.out.drew | exact below_drewN HB2.out _⟩
                    case measure => simp only [intOf]; exact hmeas.out))
end Go.Proofs.YtefckmkcbgckfaaGreatDoor.GcdA

/- A rational number as a value of the program's, and what its small functions answer. -/
namespace Go.Proofs.YtefckmkcbgckfaaGreatDoor.RatL
open Go.RowKit Mem LimbNum Limb1 Limb2 Limb3 Limb4 NatNum DivNum NatL NearL GcdA CopyL Words DivMod DivAll

/-- Two naturals without a common divisor, the lower one not nought. -/
structure Low (neg : Bool) (n d : Nat) : Prop where
  pos : 1 ≤ d
  one : Nat.gcd n d = 1
  sg : n = 0 → neg = false
/-- In words. -/
def InWords (v : Value) (neg : Bool) (n d : Nat) : Prop :=
  n < 18446744073709551616 ∧ d < 18446744073709551616 ∧ v = .agg #[.bool neg, .int .u64 (n : Int), .int .u64 ((d : Int) - 1), .pointer none]
/-- In lists. -/
def InLists (w : World) (v : Value) (neg : Bool) (n d : Nat) : Prop :=
  ¬ (n < 18446744073709551616 ∧ d < 18446744073709551616) ∧ ∃ g o1 c1 o2 c2, v = .agg #[.bool neg, .int .u64 0, .int .u64 0, .pointer (some ⟨g, 0, none⟩)] ∧ g < w.heap.size ∧
    w.cell? ⟨g, 0, none⟩ = some (.slice o1 (nl n).length c1) ∧ w.cell? ⟨g, 1, none⟩ = some (.slice o2 (nl d).length c2) ∧ Lies w o1 c1 (ints .u32 (nl n)) ∧ Lies w o2 c2 (ints .u32 (nl d))
/-- The value v is the number n / d, below 0 if neg. -/
def IsRat (w : World) (v : Value) (neg : Bool) (n d : Nat) : Prop := Low neg n d ∧ (InWords v neg n d ∨ InLists w v neg n d)
theorem InLists.below {w w' : World} {B : Nat} {v : Value} {neg : Bool} {n d : Nat} (h : InLists w v neg n d) (hb : Below B w w') (hB : w.heap.size ≤ B) : InLists w' v neg n d := by
  obtain ⟨h1, g, o1, c1, o2, c2, h2, h3, h4, h5, h6, h7⟩ := h
  refine ⟨h1, g, o1, c1, o2, c2, h2, Nat.lt_of_lt_of_le h3 hb.size, ?_, ?_, h6.below hb hB, h7.below hb hB⟩
  · rw [hb.cell (p := ⟨g, 0, none⟩) (Nat.lt_of_lt_of_le h3 hB)]; exact h4
  · rw [hb.cell (p := ⟨g, 1, none⟩) (Nat.lt_of_lt_of_le h3 hB)]; exact h5
theorem IsRat.below {w w' : World} {v : Value} {neg : Bool} {n d : Nat} (h : IsRat w v neg n d) (hb : Below w.heap.size w w') : IsRat w' v neg n d := by
  obtain ⟨h1, h2 | h2⟩ := h
  · exact ⟨h1, .inl h2⟩
  · exact ⟨h1, .inr (h2.below hb (Nat.le_refl _))⟩
theorem IsRat.shape {w : World} {v : Value} {neg : Bool} {n d : Nat} (h : IsRat w v neg n d) : ∃ (A L : Int) (p : Option Addr), v = .agg #[.bool neg, .int .u64 A, .int .u64 L, .pointer p] := by
  obtain ⟨_, ⟨_, _, e⟩ | ⟨_, g, _, _, _, _, e, _⟩⟩ := h
  · exact ⟨_, _, _, e⟩
  · exact ⟨_, _, _, e⟩
/-- A number's four cells. -/
def box4 (a b c d : Value) : Obj := .cells #[a, b, c, d] 28
theorem box0 {w : World} {g : Nat} {a b c d : Value} (h : w.heap[g]? = some (box4 a b c d)) : w.cell? ⟨g, 0, none⟩ = some a ∧ w.cell? ⟨g, 1, none⟩ = some b ∧ w.cell? ⟨g, 2, none⟩ = some c ∧ w.cell? ⟨g, 3, none⟩ = some d := by
  refine ⟨?_, ?_, ?_, ?_⟩ <;> simp [World.cell?, h, box4]
theorem boxF {w : World} {g : Nat} {a b c d : Value} (h : w.heap[g]? = some (box4 a b c d)) (i : Nat) : w.frozen? ⟨g, i, none⟩ = false := by simp [World.frozen?, h, box4]
theorem box_set {w : World} {g : Nat} {a b c d : Value} (h : w.heap[g]? = some (box4 a b c d)) (a' b' c' d' : Value) :
    ((((w.setCell ⟨g, 0, none⟩ a').setCell ⟨g, 1, none⟩ b').setCell ⟨g, 2, none⟩ c').setCell ⟨g, 3, none⟩ d').heap[g]? = some (box4 a' b' c' d') := by
  have h1 : (w.setCell ⟨g, 0, none⟩ a').heap[g]? = some (box4 a' b c d) := by rw [heap_setCell_same w g 0 _ _ _ h]; rfl
  have h2 : ((w.setCell ⟨g, 0, none⟩ a').setCell ⟨g, 1, none⟩ b').heap[g]? = some (box4 a' b' c d) := by rw [heap_setCell_same _ g 1 _ _ _ h1]; rfl
  have h3 : (((w.setCell ⟨g, 0, none⟩ a').setCell ⟨g, 1, none⟩ b').setCell ⟨g, 2, none⟩ c').heap[g]? = some (box4 a' b' c' d) := by rw [heap_setCell_same _ g 2 _ _ _ h2]; rfl
  rw [heap_setCell_same _ g 3 _ _ _ h3]; rfl
theorem box_new (w : World) (a b c d : Value) : (w.alloc (box4 a b c d)).heap[w.heap.size]? = some (box4 a b c d) := heap_alloc_new _ _
theorem box_kept {w w' : World} {B g : Nat} {o : Obj} (h : w.heap[g]? = some o) (hb : Below B w w') (hg : g < B) : w'.heap[g]? = some o := by rw [hb.block g hg]; exact h
theorem box_below {w W : World} {B g : Nat} (h : Below B w W) (hg : B ≤ g) (a b c d : Value) : Below B w ((((W.setCell ⟨g, 0, none⟩ a).setCell ⟨g, 1, none⟩ b).setCell ⟨g, 2, none⟩ c).setCell ⟨g, 3, none⟩ d) :=
  (((h.setCell hg _).setCell hg _).setCell hg _).setCell hg _
theorem box_cells {w : World} {g i : Nat} {p : Bool} {q r : Int} {s : Option Addr} {v : Value} (hk : w.heap[g]? = some (box4 (.bool p) (.int .u64 q) (.int .u64 r) (.pointer s))) (h : w.cell? ⟨g, i, none⟩ = some v) : (∀ k z, v = .int k z → k = .u64) ∧ (∀ o n c, v ≠ .slice o n c) := by
  simp only [World.cell?, hk, box4] at h
  match i, h with
  | 0, h => simp at h; subst h; exact ⟨fun k z e => by simp at e, fun o n c e => by simp at e⟩
  | 1, h => simp at h; subst h; exact ⟨fun k z e => by simp at e; exact e.1.symm, fun o n c e => by simp at e⟩
  | 2, h => simp at h; subst h; exact ⟨fun k z e => by simp at e; exact e.1.symm, fun o n c e => by simp at e⟩
  | 3, h => simp at h; subst h; exact ⟨fun k z e => by simp at e, fun o n c e => by simp at e⟩
  | (i + 4), h => simp at h
theorem lies_off {w W : World} {g : Nat} {p : Bool} {q r : Int} {s : Option Addr} {o : Option Addr} {c : Nat} {A : List Nat} (h : Lies w o c (ints .u32 A)) (hk : w.heap[g]? = some (box4 (.bool p) (.int .u64 q) (.int .u64 r) (.pointer s)))
    (hW : ∀ k, k ≠ g → W.heap[k]? = w.heap[k]?) (hs : W.heap.size = w.heap.size) : Lies W o c (ints .u32 A) := by
  obtain ⟨h1, h2, h3, h4⟩ := h
  refine ⟨h1, h2, h3, fun hp => ?_⟩
  obtain ⟨b, off, rfl, hlt, hc⟩ := h4 hp
  have hne : b ≠ g := by
    rintro rfl
    have h0 := hc 0 hp
    rw [ints_get _ _ _ (by rw [ints_length] at hp; exact hp)] at h0
    have := (box_cells hk h0).1 _ _ rfl
    simp at this
  refine ⟨b, off, rfl, by omega, fun i hi => ?_⟩
  rw [← hc i hi]
  simp only [World.cell?, hW b hne]
theorem IsRat.off {w W : World} {g : Nat} {p : Bool} {q r : Int} {s : Option Addr} {v : Value} {b : Bool} {n d : Nat} (h : IsRat w v b n d) (hk : w.heap[g]? = some (box4 (.bool p) (.int .u64 q) (.int .u64 r) (.pointer s)))
    (hW : ∀ k, k ≠ g → W.heap[k]? = w.heap[k]?) (hs : W.heap.size = w.heap.size) : IsRat W v b n d := by
  obtain ⟨h1, h2 | ⟨h2, g2, o1, c1, o2, c2, e, h3, h4, h5, h6, h7⟩⟩ := h
  · exact ⟨h1, .inl h2⟩
  · have hne : g2 ≠ g := by
      rintro rfl
      exact (box_cells hk h4).2 _ _ _ rfl
    refine ⟨h1, .inr ⟨h2, g2, o1, c1, o2, c2, e, by omega, ?_, ?_, lies_off h6 hk hW hs, lies_off h7 hk hW hs⟩⟩
    · rw [← h4]; simp only [World.cell?, hW g2 hne]
    · rw [← h5]; simp only [World.cell?, hW g2 hne]
theorem set4_off (w : World) (g : Nat) (a b c d : Value) : (∀ k, k ≠ g → ((((w.setCell ⟨g, 0, none⟩ a).setCell ⟨g, 1, none⟩ b).setCell ⟨g, 2, none⟩ c).setCell ⟨g, 3, none⟩ d).heap[k]? = w.heap[k]?) ∧
    ((((w.setCell ⟨g, 0, none⟩ a).setCell ⟨g, 1, none⟩ b).setCell ⟨g, 2, none⟩ c).setCell ⟨g, 3, none⟩ d).heap.size = w.heap.size := by
  constructor
  · intro k hk
    rw [heap_setCell_other _ _ _ _ hk, heap_setCell_other _ _ _ _ hk, heap_setCell_other _ _ _ _ hk, heap_setCell_other _ _ _ _ hk]
  · simp [World.setCell]
theorem IsRat.set4 {w : World} {g : Nat} {p : Bool} {q r : Int} {s : Option Addr} {v : Value} {b : Bool} {n d : Nat} (h : IsRat w v b n d) (hk : w.heap[g]? = some (box4 (.bool p) (.int .u64 q) (.int .u64 r) (.pointer s))) (x0 x1 x2 x3 : Value) :
    IsRat ((((w.setCell ⟨g, 0, none⟩ x0).setCell ⟨g, 1, none⟩ x1).setCell ⟨g, 2, none⟩ x2).setCell ⟨g, 3, none⟩ x3) v b n d := h.off hk (set4_off w g x0 x1 x2 x3).1 (set4_off w g x0 x1 x2 x3).2
theorem cell_lt {w : World} {g i : Nat} {v : Value} (h : w.cell? ⟨g, i, none⟩ = some v) : g < w.heap.size := by
  rcases Nat.lt_or_ge g w.heap.size with h6 | h6
  · exact h6
  · simp [World.cell?, Array.getElem?_eq_none h6] at h
theorem four_kept {W w5 : World} {g : Nat} {a b c d : Value} (h : W.cell? ⟨g, 0, none⟩ = some a ∧ W.cell? ⟨g, 1, none⟩ = some b ∧ W.cell? ⟨g, 2, none⟩ = some c ∧ W.cell? ⟨g, 3, none⟩ = some d) (hb : Below W.heap.size W w5) :
    w5.cell? ⟨g, 0, none⟩ = some a ∧ w5.cell? ⟨g, 1, none⟩ = some b ∧ w5.cell? ⟨g, 2, none⟩ = some c ∧ w5.cell? ⟨g, 3, none⟩ = some d := by
  have hg := cell_lt h.1
  rw [hb.cell (p := ⟨g, 0, none⟩) hg, hb.cell (p := ⟨g, 1, none⟩) hg, hb.cell (p := ⟨g, 2, none⟩) hg, hb.cell (p := ⟨g, 3, none⟩) hg]
  exact h
theorem four_new (w : World) (a b c d : Value) : (w.alloc (.cells #[a, b, c, d] 28)).cell? ⟨w.heap.size, 0, none⟩ = some a ∧ (w.alloc (.cells #[a, b, c, d] 28)).cell? ⟨w.heap.size, 1, none⟩ = some b ∧ (w.alloc (.cells #[a, b, c, d] 28)).cell? ⟨w.heap.size, 2, none⟩ = some c ∧ (w.alloc (.cells #[a, b, c, d] 28)).cell? ⟨w.heap.size, 3, none⟩ = some d := by
  refine ⟨?_, ?_, ?_, ?_⟩ <;> simp
theorem den_any (b : Bool) (n d : Int) (p : Option Addr) (w : World) (h1 : 1 ≤ d) (h2 : d < 18446744073709551616) :
    Calls Tryz.prog 66 #[.agg #[.bool b, .int .u64 n, .int .u64 (d - 1), .pointer p]] w fun e w' => e = .returned (.int .u64 d) ∧ Below w.heap.size w w' := by
  go_enter Tryz.func66, Tryz.ntmps66
  go_wp2
  go_ret
  exact ⟨ret_int (by omega), (Below.refl _ _).alloc (Nat.le_refl _) _⟩
set_option maxRecDepth 20000 in
theorem short_any (b : Bool) (n d : Nat) (w : World) (h1 : 1 ≤ d) (h2 : d < 18446744073709551616) :
    Calls Tryz.prog 41 #[.bool b, .int .u64 (n : Int), .int .u64 (d : Int)] w fun e w' => e = .returned (.agg #[.bool (b && decide (n ≠ 0)), .int .u64 (n : Int), .int .u64 ((d : Int) - 1), .pointer none]) ∧ Below w.heap.size w w' := by
  obtain ⟨N, eN⟩ : ∃ x : Int, x = (n : Int) := ⟨_, rfl⟩
  obtain ⟨D, eD⟩ : ∃ x : Int, x = (d : Int) := ⟨_, rfl⟩
  have eb : decide (n ≠ 0) = (N != 0) := by rw [Bool.eq_iff_iff]; simp; omega
  rw [eb, ← eN, ← eD]
  have d1 : 1 ≤ D := by omega
  have d2 : D < 18446744073709551616 := by omega
  clear eb eN eD h1 h2
  cases b
  all_goals
    go_enter Tryz.func41, Tryz.ntmps41
    go_wp2
  · refine bodyPost_ret (v := .agg #[.bool false, .int .u64 N, .int .u64 (D - 1), .pointer none]) ?_ rfl ?_
    · simp [results, go_sem]
    · exact ⟨rfl, (Below.refl _ _).alloc (Nat.le_refl _) _⟩
  · refine bodyPost_ret (v := .agg #[.bool (N != 0), .int .u64 N, .int .u64 (D - 1), .pointer none]) ?_ rfl ?_
    · simp [results, go_sem]
    · exact ⟨by rw [Bool.true_and], (Below.refl _ _).alloc (Nat.le_refl _) _⟩
/-- An int's size. -/
theorem size_any (i : Int) (w : World) (h0 : -9223372036854775808 ≤ i) (h1 : i ≤ 9223372036854775807) :
    Calls Tryz.prog 42 #[.int .i64 i] w fun e w' => e = .returned (.int .u64 ((i.natAbs : Nat) : Int)) ∧ w' = w := by
  by_cases hi : i < 0
  · have e : ((i.natAbs : Nat) : Int) = -i := by omega
    rw [e]
    go_enter Tryz.func42, Tryz.ntmps42
    go_wp2
    go_ret
    exact ⟨ret_int (by simp only [IntKind.wrap_u64]; omega), rfl⟩
  · have e : ((i.natAbs : Nat) : Int) = i := by omega
    rw [e]
    go_enter Tryz.func42, Tryz.ntmps42
    go_wp2
    go_ret
    exact ⟨ret_int (by first | rfl | omega | (simp only [IntKind.wrap_u64]; omega)), rfl⟩
theorem part_any (A G : List Nat) (ao1 ao2 : Option Addr) (cap1 cap2 : Nat) (w : World) (h1 : Lies w ao1 cap1 (ints .u32 A)) (h2 : Lies w ao2 cap2 (ints .u32 G)) (hA : A = nl (val A)) (hG : Small G) (h0 : val G ≠ 0) (hlA : A.length ≤ 35184372088832) (hlG : G.length ≤ 35184372088832) :
    Calls Tryz.prog 39 #[.slice ao1 A.length cap1, .slice ao2 G.length cap2] w fun e w' => ∃ o c, e = .returned (.slice o (nl (val A / val G)).length c) ∧ Lies w' o c (ints .u32 (nl (val A / val G))) ∧ Below w.heap.size w w' := by
  have sA : Small A := by rw [hA]; exact small_nl _
  have cB := bits_any G ao2 cap2 w h2 hG (by omega)
  have cD := divmod_any A G ao1 ao2 cap1 cap2 w h1 h2 sA hG h0 (by omega) hlG
  by_cases h : val G = 1
  · have e1 : val A / val G = val A := by rw [h, Nat.div_one]
    rw [e1, ← hA]
    rw [h] at cB
    have e2 : ((bitLen 1 : Nat) : Int) = 1 := by rfl
    rw [e2] at cB
    have H1 : Hid (Lies w ao1 cap1 (ints .u32 A)) := h1
    clear cD h1 h2 hA hG h0 e1 e2
    go_enter Tryz.func39, Tryz.ntmps39
    go_wp2_with (go_at_call 23; refine cB.mono ?_; rintro e w1 ⟨rfl, hw⟩; have hw2 := hw.symm; clear hw; subst hw2)
    go_ret
    exact ⟨_, _, rfl, H1.out, Below.refl _ _⟩
  · have e2 : ((bitLen (val G) : Nat) : Int) ≠ 1 := by
      intro e
      have h3 := bitLen_le (val G) h0
      have h4 := fromL_lt (nb (val G))
      rw [fromL_nb, len_nb] at h4
      rw [show bitLen (val G) = 1 by omega] at h4
      omega
    have e3 : (((bitLen (val G) : Nat) : Int) == 1) = false := by rw [beq_eq_false_iff_ne]; exact e2
    generalize ((bitLen (val G) : Nat) : Int) = BL at *
    generalize nl (val A / val G) = NQ at *
    generalize nl (val A % val G) = NR at *
    clear h1 h2 hA hG h0 h
    go_enter Tryz.func39, Tryz.ntmps39
    go_wp2_with (first
      | (go_at_call 23; refine cB.mono ?_; rintro e w1 ⟨rfl, hw⟩; have hw2 := hw.symm; clear hw; subst hw2)
      | (go_at_call 51; refine cD.mono ?_; rintro e w2 ⟨o1, c1, o2, c2, rfl, hown1, hown2, hb2⟩))
    go_ret
    exact ⟨_, _, rfl, lies_of_owns hown1, hb2⟩
end Go.Proofs.YtefckmkcbgckfaaGreatDoor.RatL

/- What making a rational number, and telling its parts, answer. -/
namespace Go.Proofs.YtefckmkcbgckfaaGreatDoor.RatM
open Go.RowKit Mem LimbNum Limb1 Limb2 Limb3 Limb4 NatNum DivNum NatL NearL GcdA CopyL Words DivMod DivAll RatL

theorem fits64 (n : Nat) : decide ((nb n).length ≤ 64) = decide (n < 18446744073709551616) := by
  rw [Bool.eq_iff_iff, decide_eq_true_iff, decide_eq_true_iff]
  constructor
  · intro h
    have h3 := fromL_lt (nb n)
    rw [fromL_nb] at h3
    have h4 : (2 : Nat) ^ (nb n).length ≤ 2 ^ 64 := Nat.pow_le_pow_right (by omega) h
    omega
  · exact nb_lt 64 n
theorem low_is (n : Nat) (ao : Option Addr) (cap : Nat) (w : World) (h : Lies w ao cap (ints .u32 (nl n))) :
    Calls Tryz.prog 69 #[.slice ao (nl n).length cap] w fun e w' => e = .returned (.tuple #[.int .u64 ((n % 18446744073709551616 : Nat) : Int), .bool (decide (n < 18446744073709551616))]) ∧ w' = w := by
  have := low_any (nl n) ao cap w h (small_nl _)
  rw [val_nl, fits64] at this
  exact this
theorem Low.of_gcd {b : Bool} {n d : Nat} (h1 : 1 ≤ d) (h2 : Nat.gcd n d = 1) : Low (b && decide (n ≠ 0)) n d := ⟨h1, h2, fun h => by simp [h]⟩
set_option maxRecDepth 20000 in
set_option maxHeartbeats 1000000 in
theorem fit_any (b : Bool) (n d : Nat) (o1 o2 : Option Addr) (c1 c2 : Nat) (w : World) (h1 : Lies w o1 c1 (ints .u32 (nl n))) (h2 : Lies w o2 c2 (ints .u32 (nl d))) (hd : 1 ≤ d) (hg : Nat.gcd n d = 1) :
    Calls Tryz.prog 38 #[.bool b, .slice o1 (nl n).length c1, .slice o2 (nl d).length c2] w fun e w' => ∃ v, e = .returned v ∧ IsRat w' v (b && decide (n ≠ 0)) n d ∧ Below w.heap.size w w' := by
  have cL1 := fun (W : World) (hb : Below w.heap.size w W) => low_is n o1 c1 W (h1.below hb (Nat.le_refl _))
  have cL2 := fun (W : World) (hb : Below w.heap.size w W) => low_is d o2 c2 W (h2.below hb (Nat.le_refl _))
  have hb0 : Below w.heap.size w (w.alloc (.cells #[.bool false, .int .u64 0, .int .u64 0, .pointer none] 28)) := (Below.refl _ _).alloc (Nat.le_refl _) _
  have t1 : True := trivial
  by_cases hf : n < 18446744073709551616 ∧ d < 18446744073709551616
  · have cS := fun (W : World) => short_any b n d W hd hf.2
    rw [Nat.mod_eq_of_lt hf.1, decide_eq_true hf.1] at cL1
    rw [Nat.mod_eq_of_lt hf.2, decide_eq_true hf.2] at cL2
    have HL : Hid (Low (b && decide (n ≠ 0)) n d ∧ n < 18446744073709551616 ∧ d < 18446744073709551616) := ⟨Low.of_gcd hd hg, hf⟩
    clear h1 h2 hd hg hf
    generalize (b && decide (n ≠ 0)) = b2 at *
    go_enter Tryz.func38, Tryz.ntmps38
    go_wp2_with (first
      | (go_at_call 69; have _t := t1; clear _t t1; refine (cL1 _ hb0).mono ?_; rintro e w1 ⟨rfl, hw⟩; have hw2 := hw.symm; clear hw; subst hw2)
      | (go_at_call 69; refine (cL2 _ hb0).mono ?_; rintro e w1 ⟨rfl, hw⟩; have hw2 := hw.symm; clear hw; subst hw2)
      | (go_at_call 41; refine (cS _).mono ?_; rintro e w1 ⟨rfl, hb1⟩; have k1 := box_kept (box_new w _ _ _ _) hb1 (by simp); obtain ⟨d0, d1, d2, d3⟩ := box0 k1; have ff := boxF k1))
    have k2 := box_set k1 (.bool b2) (.int .u64 (n : Int)) (.int .u64 ((d : Int) - 1)) (.pointer none)
    have hB := box_below (bt hb0 hb1) (Nat.le_refl _) (.bool b2) (.int .u64 (n : Int)) (.int .u64 ((d : Int) - 1)) (.pointer none)
    generalize World.setCell _ _ _ = W' at *
    obtain ⟨y0, y1, y2, y3⟩ := box0 k2
    refine bodyPost_ret (v := .agg #[.bool b2, .int .u64 (n : Int), .int .u64 ((d : Int) - 1), .pointer none]) ?_ rfl ?_
    · simp [results, go_sem, y0, y1, y2, y3]
    · exact ⟨_, rfl, ⟨HL.out.1, .inl ⟨HL.out.2.1, HL.out.2.2, rfl⟩⟩, hB⟩
  · have hn0 : n ≠ 0 := by rintro rfl; rw [Nat.gcd_zero_left] at hg; exact hf (by omega)
    have eb : (b && decide (n ≠ 0)) = b := by simp [hn0]
    rw [eb]
    have HL : Hid (Low b n d) := ⟨hd, hg, fun h => absurd h hn0⟩
    have HF : Hid (¬ (n < 18446744073709551616 ∧ d < 18446744073709551616)) := hf
    have H1 : Hid (Lies w o1 c1 (ints .u32 (nl n))) := h1
    have H2 : Hid (Lies w o2 c2 (ints .u32 (nl d))) := h2
    have hp : (decide (n < 18446744073709551616) && decide (d < 18446744073709551616)) = false := by rw [Bool.and_eq_false_iff]; simp; omega
    generalize ((n % 18446744073709551616 : Nat) : Int) = NI at *
    generalize ((d % 18446744073709551616 : Nat) : Int) = DI at *
    generalize decide (n < 18446744073709551616) = p at *
    generalize decide (d < 18446744073709551616) = q at *
    clear h1 h2 hd hg hf hn0 eb
    cases p
    all_goals cases q
    case true.true => simp at hp
    all_goals
      clear hp
      go_enter Tryz.func38, Tryz.ntmps38
      go_wp2_with (first
        | (go_at_call 69; have _t := t1; clear _t t1; refine (cL1 _ hb0).mono ?_; rintro e w1 ⟨rfl, hw⟩; have hw2 := hw.symm; clear hw; subst hw2)
        | (go_at_call 69; refine (cL2 _ hb0).mono ?_; rintro e w1 ⟨rfl, hw⟩; have hw2 := hw.symm; clear hw; subst hw2))
      refine bodyPost_ret (v := .agg #[.bool b, .int .u64 0, .int .u64 0, .pointer (some ⟨w.heap.size + 1, 0, none⟩)]) ?_ rfl ?_
      · simp [results, go_sem]
      · have hB : Below w.heap.size w ((w.alloc (.cells #[.bool b, .int .u64 0, .int .u64 0, .pointer (some ⟨w.heap.size + 1, 0, none⟩)] 28)).alloc (.cells #[.slice o1 (nl n).length c1, .slice o2 (nl d).length c2] 108)) := ((Below.refl _ _).alloc (Nat.le_refl _) _).alloc (by simp) _
        exact ⟨_, rfl, ⟨HL.out, .inr ⟨HF.out, w.heap.size + 1, o1, c1, o2, c2, rfl, by simp, by simp, by simp, H1.out.below hB (Nat.le_refl _), H2.out.below hB (Nat.le_refl _)⟩⟩, hB⟩
/-- Both numbers as lists. -/
theorem spread_any (v : Value) (b : Bool) (n d : Nat) (w : World) (h : IsRat w v b n d) :
    Calls Tryz.prog 45 #[v] w fun e w' => ∃ o1 c1 o2 c2, e = .returned (.tuple #[.slice o1 (nl n).length c1, .slice o2 (nl d).length c2]) ∧ Lies w' o1 c1 (ints .u32 (nl n)) ∧ Lies w' o2 c2 (ints .u32 (nl d)) ∧ Below w.heap.size w w' := by
  obtain ⟨hL, ⟨hn, hd, rfl⟩ | ⟨_, g, o1, c1, o2, c2, rfl, hg, e1, e2, l1, l2⟩⟩ := h
  · have cW1 := fun (W : World) => word_any n W hn
    have cW2 := fun (W : World) => word_any d W hd
    have hd1 := hL.pos
    have cD := fun (W : World) => den_any b (n : Int) (d : Int) none W (by omega) (by omega)
    clear hL hn hd hd1
    go_enter Tryz.func45, Tryz.ntmps45
    go_wp2
    have hb0 : Below w.heap.size w (w.alloc (.cells #[.bool b, .int .u64 (n : Int), .int .u64 ((d : Int) - 1), .pointer none] 28)) := (Below.refl _ _).alloc (Nat.le_refl _) _
    go_region_held3 (fun w' => w'.cell? ⟨w.heap.size, 0, none⟩ = some (.bool b) ∧ w'.cell? ⟨w.heap.size, 1, none⟩ = some (.int .u64 (n : Int)) ∧ w'.cell? ⟨w.heap.size, 2, none⟩ = some (.int .u64 ((d : Int) - 1)) ∧ w'.cell? ⟨w.heap.size, 3, none⟩ = some (.pointer none))
      (first | exact four_new _ _ _ _ _ | exact four_kept (by assumption) (by assumption)) (first
      | (go_at_call_of 70 (Value.int IntKind.u64 (n : Int)); refine (cW1 _).mono ?_; rintro e w5 ⟨o5, c5, rfl, hown5, hb5⟩)
      | (go_at_call 66; refine (cD _).mono ?_; rintro e w6 ⟨rfl, hb6⟩)
      | (go_at_call_of 70 (Value.int IntKind.u64 (d : Int)); refine (cW2 _).mono ?_; rintro e w7 ⟨o7, c7, rfl, hown7, hb7⟩))
    all_goals go_wp2
    all_goals go_ret2
    all_goals exact ⟨_, _, _, _, rfl, lies_of_owns (keep (keep hown5 hb6) hb7), lies_of_owns hown7, bt (bt (bt (below_drewN hb0 _) hb5) hb6) hb7⟩
  · have hb0 : Below w.heap.size w (w.alloc (.cells #[.bool b, .int .u64 0, .int .u64 0, .pointer (some ⟨g, 0, none⟩)] 28)) := (Below.refl _ _).alloc (Nat.le_refl _) _
    have H1 := l1.below hb0 (Nat.le_refl _)
    have H2 := l2.below hb0 (Nat.le_refl _)
    clear hL l1 l2
    go_enter Tryz.func45, Tryz.ntmps45
    go_wp2
    go_region
    all_goals go_wp2
    all_goals go_ret2
    all_goals exact ⟨_, _, _, _, rfl, H1, H2, below_drewN hb0 _⟩
end Go.Proofs.YtefckmkcbgckfaaGreatDoor.RatM

/- What making a rational number, and telling its parts, answer (2). -/
namespace Go.Proofs.YtefckmkcbgckfaaGreatDoor.RatN
open Go.RowKit Mem LimbNum Limb1 Limb2 Limb3 Limb4 NatNum DivNum NatL NearL GcdA CopyL Words DivMod DivAll RatL RatM

theorem make_no (b : Bool) (A B : List Nat) (ao1 ao2 : Option Addr) (cap1 cap2 : Nat) (w : World) (h2 : Lies w ao2 cap2 (ints .u32 B)) (hB : Small B) (hl : B.length ≤ 70368744177664) (h0 : val B = 0) :
    Calls Tryz.prog 14 #[.bool b, .slice ao1 A.length cap1, .slice ao2 B.length cap2] w fun e w' => e = .returned (.tuple #[.agg #[.bool false, .int .u64 0, .int .u64 0, .pointer none], .bool false]) ∧ Below w.heap.size w w' := by
  have cB := fun (W : World) (hb : Below w.heap.size w W) => bits_any B ao2 cap2 W (h2.below hb (Nat.le_refl _)) hB hl
  rw [h0] at cB
  have e2 : ((bitLen 0 : Nat) : Int) = 0 := by rfl
  rw [e2] at cB
  have hb0 : Below w.heap.size w (w.alloc (.cells #[.bool false, .int .u64 0, .int .u64 0, .pointer none] 28)) := (Below.refl _ _).alloc (Nat.le_refl _) _
  clear h2 hB hl h0 e2
  go_enter Tryz.func14, Tryz.ntmps14
  go_wp2_with (go_at_call 23; refine (cB _ hb0).mono ?_; rintro e w1 ⟨rfl, hw⟩; have hw2 := hw.symm; clear hw; subst hw2)
  refine bodyPost_ret (v := .tuple #[.agg #[.bool false, .int .u64 0, .int .u64 0, .pointer none], .bool false]) ?_ rfl ?_
  · simp [results, go_sem]
  · exact ⟨rfl, hb0⟩
set_option maxRecDepth 20000 in
set_option maxHeartbeats 1000000 in
theorem make_any (b : Bool) (A B : List Nat) (ao1 ao2 : Option Addr) (cap1 cap2 : Nat) (w : World) (h1 : Lies w ao1 cap1 (ints .u32 A)) (h2 : Lies w ao2 cap2 (ints .u32 B)) (hA : Small A) (hB : Small B) (hlA : A.length ≤ 35184372088832) (hlB : B.length ≤ 35184372088832) (h0 : val B ≠ 0) :
    Calls Tryz.prog 14 #[.bool b, .slice ao1 A.length cap1, .slice ao2 B.length cap2] w fun e w' => ∃ v, e = .returned (.tuple #[v, .bool true]) ∧
      IsRat w' v (b && decide (val A / Nat.gcd (val A) (val B) ≠ 0)) (val A / Nat.gcd (val A) (val B)) (val B / Nat.gcd (val A) (val B)) ∧ Below w.heap.size w w' := by
  have kA := nl_len A hA
  have kB := nl_len B hB
  have cB := fun (W : World) (hb : Below w.heap.size w W) => bits_any B ao2 cap2 W (h2.below hb (Nat.le_refl _)) hB (by omega)
  have cG := fun (W : World) (hb : Below w.heap.size w W) => gcd_any A B ao1 ao2 cap1 cap2 W (h1.below hb (Nat.le_refl _)) (h2.below hb (Nat.le_refl _)) hA hB hlA hlB
  have cN1 := fun (W : World) (hb : Below w.heap.size w W) => norm_any A ao1 cap1 W (h1.below hb (Nat.le_refl _)) hA (by omega)
  have cN2 := fun (W : World) (hb : Below w.heap.size w W) => norm_any B ao2 cap2 W (h2.below hb (Nat.le_refl _)) hB (by omega)
  have hg0 : Nat.gcd (val A) (val B) ≠ 0 := fun h => h0 (Nat.gcd_eq_zero_iff.1 h).2
  have hgle : Nat.gcd (val A) (val B) ≤ val B := Nat.gcd_le_right _ (Nat.pos_of_ne_zero h0)
  have kg := nl_mono _ _ hgle
  have cP1 := fun (W : World) (o1 o2 : Option Addr) (c1 c2 : Nat) (h1 : Lies W o1 c1 (ints .u32 (nl (val A)))) (h2 : Lies W o2 c2 (ints .u32 (nl (Nat.gcd (val A) (val B))))) => part_any (nl (val A)) (nl (Nat.gcd (val A) (val B))) o1 o2 c1 c2 W h1 h2 (by rw [val_nl]) (small_nl _) (by rw [val_nl]; exact hg0) (by omega) (by omega)
  have cP2 := fun (W : World) (o1 o2 : Option Addr) (c1 c2 : Nat) (h1 : Lies W o1 c1 (ints .u32 (nl (val B)))) (h2 : Lies W o2 c2 (ints .u32 (nl (Nat.gcd (val A) (val B))))) => part_any (nl (val B)) (nl (Nat.gcd (val A) (val B))) o1 o2 c1 c2 W h1 h2 (by rw [val_nl]) (small_nl _) (by rw [val_nl]; exact hg0) (by omega) (by omega)
  rw [val_nl, val_nl] at cP1 cP2
  have hd1 : 1 ≤ val B / Nat.gcd (val A) (val B) := (Nat.one_le_div_iff (Nat.pos_of_ne_zero hg0)).2 hgle
  have hco : Nat.gcd (val A / Nat.gcd (val A) (val B)) (val B / Nat.gcd (val A) (val B)) = 1 := Nat.coprime_div_gcd_div_gcd (Nat.pos_of_ne_zero hg0)
  have cF := fun (W : World) (o1 o2 : Option Addr) (c1 c2 : Nat) (h1 : Lies W o1 c1 (ints .u32 (nl (val A / Nat.gcd (val A) (val B))))) (h2 : Lies W o2 c2 (ints .u32 (nl (val B / Nat.gcd (val A) (val B))))) => fit_any b (val A / Nat.gcd (val A) (val B)) (val B / Nat.gcd (val A) (val B)) o1 o2 c1 c2 W h1 h2 hd1 hco
  have e2 : ((bitLen (val B) : Nat) : Int) ≠ 0 := by unfold bitLen; rw [if_neg h0]; omega
  have e3 : (((bitLen (val B) : Nat) : Int) == 0) = false := by rw [beq_eq_false_iff_ne]; exact e2
  have hb0 : Below w.heap.size w (w.alloc (.cells #[.bool false, .int .u64 0, .int .u64 0, .pointer none] 28)) := (Below.refl _ _).alloc (Nat.le_refl _) _
  generalize ((bitLen (val B) : Nat) : Int) = BL at *
  clear h1 h2 hA hB h0 kA kB hg0 hgle kg hd1 hco
  generalize val A / Nat.gcd (val A) (val B) = n at *
  generalize val B / Nat.gcd (val A) (val B) = d at *
  generalize Nat.gcd (val A) (val B) = g at *
  generalize (b && decide (n ≠ 0)) = b2 at *
  have t1 : True := trivial
  have t2 : True := trivial
  go_enter Tryz.func14, Tryz.ntmps14
  go_wp2_with (first
    | (go_at_call 23; refine (cB _ hb0).mono ?_; rintro e w1 ⟨rfl, hw⟩; have hw2 := hw.symm; clear hw; subst hw2)
    | (go_at_call 37; refine (cG _ hb0).mono ?_; rintro e w2 ⟨o2, c2, rfl, hown2, hb2⟩; have H2 := bt hb0 hb2)
    | (go_at_call 40; have _t := t1; clear _t t1; refine (cN1 _ H2).mono ?_; rintro e w3 ⟨o3, c3, rfl, hown3, hb3⟩; have H3 := bt H2 hb3)
    | (go_at_call 39; have _t := t2; clear _t t2; refine (cP1 _ _ _ _ _ (lies_of_owns hown3) (lies_of_owns (keep hown2 hb3))).mono ?_; rintro e w4 ⟨o4, c4, rfl, l4, hb4⟩; have H4 := bt H3 hb4)
    | (go_at_call 40; refine (cN2 _ H4).mono ?_; rintro e w5 ⟨o5, c5, rfl, hown5, hb5⟩; have H5 := bt H4 hb5)
    | (go_at_call 39; refine (cP2 _ _ _ _ _ (lies_of_owns hown5) (lies_of_owns (keep (keep (keep hown2 hb3) hb4) hb5))).mono ?_; rintro e w6 ⟨o6, c6, rfl, l6, hb6⟩; have H6 := bt H5 hb6)
    | (go_at_call 38; refine (cF _ _ _ _ _ ((l4.below hb5 (Nat.le_refl _)).below hb6 (Nat.le_refl _)) l6).mono ?_; rintro e w7 ⟨v, rfl, hR, hb7⟩; obtain ⟨VA, VL, vp, rfl⟩ := hR.shape; have k1 := box_kept (box_new w _ _ _ _) (bt (bt (bt (bt (bt hb2 hb3) hb4) hb5) hb6) hb7) (by simp); obtain ⟨d0, d1, d2, d3⟩ := box0 k1; have ff := boxF k1))
  have k2 := box_set k1 (.bool b2) (.int .u64 VA) (.int .u64 VL) (.pointer vp)
  have hB := box_below (bt H6 hb7) (Nat.le_refl _) (.bool b2) (.int .u64 VA) (.int .u64 VL) (.pointer vp)
  have hR2 := hR.set4 k1 (.bool b2) (.int .u64 VA) (.int .u64 VL) (.pointer vp)
  generalize World.setCell _ _ _ = W' at *
  obtain ⟨y0, y1, y2, y3⟩ := box0 k2
  refine bodyPost_ret (v := .tuple #[.agg #[.bool b2, .int .u64 VA, .int .u64 VL, .pointer vp], .bool true]) ?_ rfl ?_
  · simp [results, go_sem, y0, y1, y2, y3]
  · exact ⟨_, rfl, hR2, hB⟩
set_option maxRecDepth 20000 in
theorem parts_any (v : Value) (b : Bool) (n d : Nat) (w : World) (h : IsRat w v b n d) (hn : (nl n).length ≤ 35184372088832) (hd : (nl d).length ≤ 35184372088832) :
    Calls Tryz.prog 19 #[v] w fun e w' => ∃ o1 c1 o2 c2, e = .returned (.tuple #[.bool b, .slice o1 (nl n).length c1, .slice o2 (nl d).length c2]) ∧
      w'.ownsRow w.heap.size 48 1 (.slice o1 (nl n).length c1) (nl n).length (ints .u32 (nl n)) ∧ w'.ownsRow w.heap.size 48 1 (.slice o2 (nl d).length c2) (nl d).length (ints .u32 (nl d)) ∧ Below w.heap.size w w' := by
  obtain ⟨A, L, p, rfl⟩ := h.shape
  have hb0 : Below w.heap.size w (w.alloc (.cells #[.bool b, .int .u64 A, .int .u64 L, .pointer p] 28)) := (Below.refl _ _).alloc (Nat.le_refl _) _
  have cS := spread_any _ b n d _ (h.below hb0)
  have cN1 := fun (W : World) (o : Option Addr) (c : Nat) (h : Lies W o c (ints .u32 (nl n))) => norm_any (nl n) o c W h (small_nl _) (by omega)
  have cN2 := fun (W : World) (o : Option Addr) (c : Nat) (h : Lies W o c (ints .u32 (nl d))) => norm_any (nl d) o c W h (small_nl _) (by omega)
  rw [val_nl] at cN1 cN2
  clear h hn hd
  go_enter Tryz.func19, Tryz.ntmps19
  go_wp2_with (go_at_call 45; refine cS.mono ?_; rintro e w1 ⟨o1, c1, o2, c2, rfl, l1, l2, hb1⟩)
  have f4 := four_kept (four_new w _ _ _ _) hb1
  go_region_held3 (fun w' => w'.cell? ⟨w.heap.size, 0, none⟩ = some (.bool b) ∧ w'.cell? ⟨w.heap.size, 1, none⟩ = some (.int .u64 A) ∧ w'.cell? ⟨w.heap.size, 2, none⟩ = some (.int .u64 L) ∧ w'.cell? ⟨w.heap.size, 3, none⟩ = some (.pointer p))
    (first | exact f4 | exact four_kept (by assumption) (by assumption)) (first
    | (go_at_call_of 40 (Value.slice o1 (nl n).length c1); refine (cN1 _ _ _ ?_).mono ?_; exact l1; rintro e w5 ⟨o5, c5, rfl, hown5, hb5⟩)
    | (go_at_call_of 40 (Value.slice o2 (nl d).length c2); refine (cN2 _ _ _ ?_).mono ?_; exact (show Lies w1.drew _ _ _ from l2).below hb5 (Nat.le_refl _); rintro e w6 ⟨o6, c6, rfl, hown6, hb6⟩))
  all_goals go_wp2
  all_goals go_ret3
  all_goals exact ⟨_, _, _, _, rfl, owns_base (keep hown5 hb6) (below_drewN (bt hb0 hb1) _).size, owns_base hown6 (bt (below_drewN (bt hb0 hb1) _) hb5).size, bt (bt (below_drewN (bt hb0 hb1) _) hb5) hb6⟩
/-- The sign. -/
def sgn (b : Bool) (n : Nat) : Int := if n = 0 then 0 else if b then -1 else 1
theorem sign_any (v : Value) (b : Bool) (n d : Nat) (w : World) (h : IsRat w v b n d) :
    Calls Tryz.prog 34 #[v] w fun e w' => e = .returned (.int .i64 (sgn b n)) ∧ Below w.heap.size w w' := by
  have hb0 : ∀ x : Obj, Below w.heap.size w (w.alloc x) := fun x => (Below.refl _ _).alloc (Nat.le_refl _) _
  obtain ⟨hL, ⟨hn, hd, rfl⟩ | ⟨hf, g, o1, c1, o2, c2, rfl, hg, e1, e2, l1, l2⟩⟩ := h
  · cases b
    · by_cases hn0 : n = 0
      · subst hn0
        go_enter Tryz.func34, Tryz.ntmps34
        go_wp2
        go_ret
        exact ⟨rfl, hb0 _⟩
      · have e : sgn false n = 1 := by simp [sgn, hn0]
        rw [e]
        have e3 : ((n : Int) == 0) = false := by rw [beq_eq_false_iff_ne]; omega
        go_enter Tryz.func34, Tryz.ntmps34
        go_wp2
        go_ret
        exact ⟨rfl, hb0 _⟩
    · have hn0 : n ≠ 0 := fun h => by have := hL.sg h; simp at this
      have e : sgn true n = -1 := by simp [sgn, hn0]
      rw [e]
      go_enter Tryz.func34, Tryz.ntmps34
      go_wp2
      go_ret
      exact ⟨rfl, hb0 _⟩
  · have hn0 : n ≠ 0 := by
      rintro rfl
      have := hL.one
      rw [Nat.gcd_zero_left] at this
      exact hf (by omega)
    clear e1 e2 l1 l2 hf
    cases b
    · have e : sgn false n = 1 := by simp [sgn, hn0]
      rw [e]
      go_enter Tryz.func34, Tryz.ntmps34
      go_wp2
      go_ret
      exact ⟨rfl, hb0 _⟩
    · have e : sgn true n = -1 := by simp [sgn, hn0]
      rw [e]
      go_enter Tryz.func34, Tryz.ntmps34
      go_wp2
      go_ret
      exact ⟨rfl, hb0 _⟩
theorem int_any (i : Int) (w : World) (h0 : -9223372036854775808 ≤ i) (h1 : i ≤ 9223372036854775807) :
    Calls Tryz.prog 16 #[.int .i64 i] w fun e w' => ∃ v, e = .returned v ∧ IsRat w' v (decide (i < 0)) i.natAbs 1 ∧ Below w.heap.size w w' := by
  have cZ := fun (W : World) => size_any i W h0 h1
  have cS := fun (W : World) => short_any (decide (i < 0)) i.natAbs 1 W (by omega) (by omega)
  have eb : (decide (i < 0) && decide (i.natAbs ≠ 0)) = decide (i < 0) := by rw [Bool.eq_iff_iff]; simp; omega
  rw [eb] at cS
  have e1 : (((1 : Nat) : Int)) = 1 := rfl
  rw [e1] at cS
  have e0 : (1 : Int) - 1 = 0 := rfl
  rw [e0] at cS
  have HL : Hid (Low (decide (i < 0)) i.natAbs 1 ∧ i.natAbs < 18446744073709551616) := ⟨⟨by omega, Nat.gcd_one_right _, fun h => by simp; omega⟩, by omega⟩
  have hb0 : Below w.heap.size w (w.alloc (.cells #[.bool false, .int .u64 0, .int .u64 0, .pointer none] 28)) := (Below.refl _ _).alloc (Nat.le_refl _) _
  obtain ⟨b, ebb⟩ : ∃ b, decide (i < 0) = b := ⟨_, rfl⟩
  rw [ebb] at HL cS ⊢
  generalize i.natAbs = n at *
  clear h0 h1 eb e1 e0
  go_enter Tryz.func16, Tryz.ntmps16
  go_wp2_with (first
    | (go_at_call 42; refine (cZ _).mono ?_; rintro e w1 ⟨rfl, hw⟩; have hw2 := hw.symm; clear hw; subst hw2)
    | (go_at_call 41; refine (cS _).mono ?_; rintro e w1 ⟨rfl, hb1⟩; have k1 := box_kept (box_new w _ _ _ _) hb1 (by simp); obtain ⟨d0, d1, d2, d3⟩ := box0 k1; have ff := boxF k1))
  have k2 := box_set k1 (.bool b) (.int .u64 (n : Int)) (.int .u64 0) (.pointer none)
  have hB := box_below (bt hb0 hb1) (Nat.le_refl _) (.bool b) (.int .u64 (n : Int)) (.int .u64 0) (.pointer none)
  generalize World.setCell _ _ _ = W' at *
  obtain ⟨y0, y1, y2, y3⟩ := box0 k2
  refine bodyPost_ret (v := .agg #[.bool b, .int .u64 (n : Int), .int .u64 0, .pointer none]) ?_ rfl ?_
  · simp [results, go_sem, y0, y1, y2, y3]
  · exact ⟨_, rfl, ⟨HL.out.1, .inl ⟨HL.out.2, by omega, rfl⟩⟩, hB⟩
end Go.Proofs.YtefckmkcbgckfaaGreatDoor.RatN

/- What the opposite and the size of a rational number are. -/
namespace Go.Proofs.YtefckmkcbgckfaaGreatDoor.RatO
open Go.RowKit Mem LimbNum RatL RatM RatN

theorem IsRat.sign {w : World} {b x : Bool} {n d : Nat} {A L : Int} {p : Option Addr} (h : IsRat w (.agg #[.bool b, .int .u64 A, .int .u64 L, .pointer p]) b n d) (hx : n = 0 → x = false) : IsRat w (.agg #[.bool x, .int .u64 A, .int .u64 L, .pointer p]) x n d := by
  obtain ⟨h1, ⟨h2, h3, e⟩ | ⟨h2, g, o1, c1, o2, c2, e, h3⟩⟩ := h
  · simp only [Value.agg.injEq, Array.mk.injEq, List.cons.injEq, Value.int.injEq, Value.pointer.injEq, and_true, true_and] at e
    obtain ⟨rfl, rfl, rfl⟩ := e
    exact ⟨⟨h1.pos, h1.one, hx⟩, .inl ⟨h2, h3, rfl⟩⟩
  · simp only [Value.agg.injEq, Array.mk.injEq, List.cons.injEq, Value.int.injEq, Value.pointer.injEq, and_true, true_and] at e
    obtain ⟨rfl, rfl, rfl⟩ := e
    exact ⟨⟨h1.pos, h1.one, hx⟩, .inr ⟨h2, g, o1, c1, o2, c2, rfl, h3⟩⟩
theorem set1_off (w : World) (g i : Nat) (a : Value) : (∀ k, k ≠ g → (w.setCell ⟨g, i, none⟩ a).heap[k]? = w.heap[k]?) ∧ (w.setCell ⟨g, i, none⟩ a).heap.size = w.heap.size :=
  ⟨fun _ hk => heap_setCell_other _ _ _ _ hk, by simp [World.setCell]⟩
end Go.Proofs.YtefckmkcbgckfaaGreatDoor.RatO

/- Which rational numbers are whole, and which are ints. -/
namespace Go.Proofs.YtefckmkcbgckfaaGreatDoor.RatW
open Go.RowKit Mem LimbNum Limb3 NearL RatL RatM RatN RatO

theorem bits_one (d : Nat) (hd : 1 ≤ d) : (((bitLen d : Nat) : Int) == 1) = decide (d = 1) := by
  rw [Bool.eq_iff_iff, beq_iff_eq, decide_eq_true_iff]
  constructor
  · intro e
    have h4 := fromL_lt (nb d)
    rw [fromL_nb, len_nb, show bitLen d = 1 by omega] at h4
    omega
  · rintro rfl; rfl
theorem whole_any (v : Value) (b : Bool) (n d : Nat) (w : World) (h : IsRat w v b n d) (hl : (nl d).length ≤ 70368744177664) :
    Calls Tryz.prog 56 #[v] w fun e w' => e = .returned (.bool (decide (d = 1))) ∧ Below w.heap.size w w' := by
  obtain ⟨hL, ⟨hn, hd, rfl⟩ | ⟨_, g, o1, c1, o2, c2, rfl, hg, e1, e2, l1, l2⟩⟩ := h
  · have hp := hL.pos
    have e : (((d : Int) - 1) == 0) = decide (d = 1) := by rw [Bool.eq_iff_iff]; simp; omega
    rw [← e]
    generalize (d : Int) - 1 = D at *
    clear e hL
    go_enter Tryz.func56, Tryz.ntmps56
    go_wp2
    go_ret
    exact ⟨rfl, (Below.refl _ _).alloc (Nat.le_refl _) _⟩
  · have hb0 : Below w.heap.size w (w.alloc (.cells #[.bool b, .int .u64 0, .int .u64 0, .pointer (some ⟨g, 0, none⟩)] 28)) := (Below.refl _ _).alloc (Nat.le_refl _) _
    have cB := bits_any (nl d) o2 c2 _ (l2.below hb0 (Nat.le_refl _)) (small_nl _) hl
    rw [val_nl] at cB
    rw [← bits_one d hL.pos]
    generalize ((bitLen d : Nat) : Int) = BL at *
    have f2 : (w.alloc (.cells #[.bool b, .int .u64 0, .int .u64 0, .pointer (some ⟨g, 0, none⟩)] 28)).cell? ⟨g, 1, none⟩ = some (.slice o2 (nl d).length c2) := by rw [hb0.cell (p := ⟨g, 1, none⟩) hg]; exact e2
    clear hL l1 l2 e1
    go_enter Tryz.func56, Tryz.ntmps56
    go_wp2_with (go_at_call 23; refine cB.mono ?_; rintro e w1 ⟨rfl, hw⟩; have hw2 := hw.symm; clear hw; subst hw2)
    go_ret
    exact ⟨rfl, hb0⟩
end Go.Proofs.YtefckmkcbgckfaaGreatDoor.RatW

/- What a quotient of two ints answers. -/
namespace Go.Proofs.YtefckmkcbgckfaaGreatDoor.RatF
open Go.RowKit Mem LimbNum Limb1 Limb2 Limb3 Limb4 NatNum DivNum NatL NearL GcdA CopyL Words DivMod DivAll RatL RatM RatN

theorem tdiv_nat (a b : Nat) : ((a : Int)).tdiv (b : Int) = ((a / b : Nat) : Int) := by rw [Int.tdiv_eq_ediv_of_nonneg (Int.natCast_nonneg _)]; exact (Int.natCast_ediv _ _).symm
end Go.Proofs.YtefckmkcbgckfaaGreatDoor.RatF
