/- What the greatest common divisor answers; A rational number as a value of the program's, and what its small functions answer. -/
import Derived.Test.YtefckmkcbgckfaaSetAO
import Derived.Test.YtefckmkcbgckfaaSetAL
import Derived.Test.YtefckmkcbgckfaaSetAC
import Derived.Deep.LoopGhost
import Derived.BigRegion
import Derived.Deep.RegionHeld3
/- What the greatest common divisor answers. -/
namespace Go.Proofs.Ytefckmkcbgckfaa.GcdA
open Go.RowKit Mem LimbNum Limb1 Limb2 Limb3 Limb4 NatNum DivNum NatL GcdNum GcdL NearL CopyL Words DivAll

theorem two_limbs {N : Nat} (h : (nl N).length ≤ 2) : N < 18446744073709551616 := by
  have h1 := val_lt (nl N) (small_nl _)
  rw [val_nl] at h1
  have h2 : (4294967296 : Nat) ^ (nl N).length ≤ 4294967296 ^ 2 := Nat.pow_le_pow_right (by omega) h
  omega
theorem low_nl (N : Nat) (ao : Option Addr) (cap : Nat) (w : World) (h : Lies w ao cap (ints .u32 (nl N))) (hN : N < 18446744073709551616) :
    Calls Try.prog 74 #[.slice ao (nl N).length cap] w fun e w' => e = .returned (.tuple #[.int .u64 (N : Int), .bool true]) ∧ w' = w := by
  have := low_any (nl N) ao cap w h (small_nl _)
  rw [val_nl, Nat.mod_eq_of_lt hN, decide_eq_true (nb_lt 64 N hN)] at this
  exact this
set_option maxRecDepth 20000 in
set_option maxHeartbeats 8000000 in
theorem gcd_any (A B : List Nat) (ao1 ao2 : Option Addr) (cap1 cap2 : Nat) (w : World) (h1 : Lies w ao1 cap1 (ints .u32 A)) (h2 : Lies w ao2 cap2 (ints .u32 B)) (hA : Small A) (hB : Small B) (hlA : A.length ≤ 35184372088832) (hlB : B.length ≤ 35184372088832) :
    Calls Try.prog 52 #[.slice ao1 A.length cap1, .slice ao2 B.length cap2] w fun e w' => ∃ o c, e = .returned (.slice o (nl (Nat.gcd (val A) (val B))).length c) ∧
      w'.ownsRow w.heap.size 73 1 (.slice o (nl (Nat.gcd (val A) (val B))).length c) (nl (Nat.gcd (val A) (val B))).length (ints .u32 (nl (Nat.gcd (val A) (val B)))) ∧ Below w.heap.size w w' := by
  have cN1 := norm_any A ao1 cap1 w h1 hA (by omega)
  have cN2 := fun (W : World) (hb : Below w.heap.size w W) => norm_any B ao2 cap2 W (h2.below hb (Nat.le_refl _)) hB (by omega)
  have kA := nl_len A hA
  have kB := nl_len B hB
  have t1 : True := trivial
  generalize val A = a at *
  generalize val B = b at *
  obtain ⟨G, eG⟩ : ∃ G, G = Nat.gcd a b := ⟨_, rfl⟩
  rw [← eG]
  have HG : Hid (G = Nat.gcd a b ∧ (nl a).length ≤ 35184372088832 ∧ (nl b).length ≤ 35184372088832) := ⟨eG, by omega, by omega⟩
  clear eG kA kB h1 h2
  have hcmp : (cmpV a b = -1 ∧ a < b) ∨ (0 ≤ cmpV a b ∧ b ≤ a) := by
    unfold cmpV; split
    · exact .inl ⟨rfl, by assumption⟩
    · split <;> exact .inr ⟨by omega, by omega⟩
  rcases hcmp with ⟨hcv, hab⟩ | ⟨hcv, hab⟩
  all_goals (
      go_enter Try.func52, Try.ntmps52
      go_wp2_with (first
        | (go_at_call 61; have _t := t1; clear _t t1; refine cN1.mono ?_; rintro e w1 ⟨o1, c1, rfl, hown1, hb1⟩)
        | (go_at_call 61; refine (cN2 _ hb1).mono ?_; rintro e w2 ⟨o2, c2, rfl, hown2, hb2⟩; have hown3 := keep hown1 hb2; have cC := cmp_any (nl a) (nl b) o1 o2 c1 c2 w2 (lies_of_owns hown3) (lies_of_owns hown2) (small_nl _) (small_nl _); rw [val_nl, val_nl] at cC)
        | (go_at_call 72; refine cC.mono ?_; rintro e w3 ⟨rfl, hb3⟩))
      all_goals (
        have q1 : w3.ownsRow w.heap.size 73 1 (.slice o1 (nl a).length c1) (nl a).length (ints .u32 (nl a)) := keep hown3 hb3
        have q2 : w3.ownsRow w.heap.size 73 1 (.slice o2 (nl b).length c2) (nl b).length (ints .u32 (nl b)) := owns_base (keep hown2 hb3) hb1.size
        have q3 : Below w.heap.size w w3 := bt (bt hb1 hb2) hb3
        clear cN1 cN2 cC hown1 hown2 hown3 hb1 hb2 hb3
        (go_loopg [5, 6] (a + b) (fun k xv yv wr => ∃ (X Y : Nat) (o1 o2 : Option Addr) (c1 c2 : Nat), xv = .slice o1 (nl X).length c1 ∧ yv = .slice o2 (nl Y).length c2 ∧ Hid (k = X + Y ∧ Y ≤ X ∧ (nl X).length ≤ 35184372088832 ∧ Nat.gcd X Y = G) ∧
          Hid (wr.ownsRow w.heap.size 73 1 (.slice o1 (nl X).length c1) (nl X).length (ints .u32 (nl X))) ∧ Hid (wr.ownsRow w.heap.size 73 1 (.slice o2 (nl Y).length c2) (nl Y).length (ints .u32 (nl Y))) ∧ Hid (Below w.heap.size w wr)))
        case atStart =>
          first
          | exact ⟨a, b, o1, o2, c1, c2, rfl, rfl, ⟨rfl, hab, HG.out.2.1, HG.out.1.symm⟩, q1, q2, q3⟩
          | exact ⟨b, a, o2, o1, c2, c1, rfl, rfl, ⟨Nat.add_comm _ _, Nat.le_of_lt hab, HG.out.2.2, by rw [Nat.gcd_comm]; exact HG.out.1.symm⟩, q2, q1, q3⟩
        case round =>
          clear q1 q2 q3 HG
          obtain ⟨X, Y, o1, o2, c1, c2, rfl, rfl, HX, HO1, HO2, HB⟩ := hrel
          have l1 := lies_of_owns HO1.out
          by_cases h2 : 2 < (nl Y).length
          · have cN := nearer_any X Y w.heap.size o1 o2 c1 c2 wr l1 HO2.out HB.out.size HX.out.2.1 h2 HX.out.2.2.1
            have h2i : (2 : Int) < ((nl Y).length : Int) := by omega
            clear l1 h2
            go_wp2_with (go_at_call 85; refine cN.mono ?_; rintro e w4 ⟨X', Y', p1, p2, q1, q2, rfl, hL, hw1, hw2, hb4⟩)
            go_roundg (X' + Y')
            case measure => rw [HX.out.1]; exact hL.less
            case rel => exact ⟨X', Y', _, _, _, _, rfl, rfl, ⟨rfl, hL.le, Nat.le_trans (nl_mono _ _ hL.top) HX.out.2.2.1, by rw [hL.gcd]; exact HX.out.2.2.2⟩, hw1, hw2, bt HB.out hb4⟩
          · have h2i : ¬ (2 : Int) < ((nl Y).length : Int) := by omega
            by_cases hY : Y = 0
            · subst hY
              have hz : (nl 0).length = 0 := by rw [nl_zero]; rfl
              have eG : G = X := by rw [← HX.out.2.2.2, Nat.gcd_zero_right]
              subst eG
              rw [hz]
              clear l1 h2 h2i
              go_wp2
              go_ret
              exact ⟨_, _, rfl, HO1.out, HB.out⟩
            · have hYl : 1 ≤ (nl Y).length := (nl_last Y hY).1
              have hYi : ((nl Y).length : Int) ≠ 0 := by omega
              have hYz : (((nl Y).length : Int) == 0) = false := by rw [beq_eq_false_iff_ne]; exact hYi
              have vY := two_limbs (N := Y) (by omega)
              by_cases hx : 2 < (nl X).length
              · have hxi : (2 : Int) < ((nl X).length : Int) := by omega
                have cE := euclid_is X Y w.heap.size o1 o2 c1 c2 wr l1 HO2.out HB.out.size HX.out.2.1 (by omega) HX.out.2.2.1
                have vR : X % Y < 18446744073709551616 := Nat.lt_of_lt_of_le (Nat.mod_lt _ (by omega)) (Nat.le_of_lt vY)
                have HPQ : Hid (Nat.gcd Y (X % Y) = G) := by unfold Hid; rw [← HX.out.2.2.2, Nat.gcd_comm, ← Nat.gcd_rec, Nat.gcd_comm]
                have t1 : True := trivial
                obtain ⟨R, eR⟩ : ∃ R, R = X % Y := ⟨_, rfl⟩
                rw [← eR] at cE vR HPQ
                clear l1 h2 hx hYl eR hY
                go_wp2_with (first
                  | (go_at_call 86; refine cE.mono ?_; rintro e w5 ⟨p2, q2, rfl, hw1, hw2, hb5⟩)
                  | (go_at_call 74; have _t := t1; clear _t t1; refine (low_nl Y _ _ w5 (lies_of_owns hw1) vY).mono ?_; rintro e w6 ⟨rfl, hw⟩; have hw2 := hw.symm; clear hw; subst hw2)
                  | (go_at_call 74; refine (low_nl R _ _ w5 (lies_of_owns hw2) vR).mono ?_; rintro e w6 ⟨rfl, hw⟩; have hw2 := hw.symm; clear hw; subst hw2))
                have HBB : Hid (Below w.heap.size w w5) := bt HB.out hb5
                clear HO1 HO2 HX HB cE hw1 hw2 hb5
                (go_loopw [7, 9] (fun pv qv wr => ∃ (p q : Nat) (PI QI : Int), pv = .int .u64 PI ∧ qv = .int .u64 QI ∧ 0 ≤ PI ∧ PI < 18446744073709551616 ∧ 0 ≤ QI ∧ QI < 18446744073709551616 ∧ Hid (PI = (p : Int) ∧ QI = (q : Int) ∧ Nat.gcd p q = G) ∧ Hid (Below w.heap.size w wr)) (fun _ qv _ => (intOf qv).toNat))
                case atStart => exact ⟨Y, R, _, _, rfl, rfl, by omega, by omega, by omega, by omega, ⟨rfl, rfl, HPQ.out⟩, HBB⟩
                case round =>
                  clear HPQ HBB
                  obtain ⟨p, q, PI, QI, rfl, rfl, P0, P1, Q0, Q1, HE, HB2⟩ := hrel
                  by_cases hq : QI = 0
                  · subst hq
                    have hp : p = G := by rw [← HE.out.2.2, show q = 0 by have := HE.out.2.1; omega, Nat.gcd_zero_right]
                    have cW := fun (W : World) => word_any p W (by have := HE.out.1; omega)
                    rw [hp, ← hp, ← HE.out.1, hp] at cW
                    clear hp
                    go_wp2_with (go_at_call 73; refine (cW _).mono ?_; rintro e w7 ⟨o7, c7, rfl, hown7, hb7⟩)
                    all_goals go_ret
                    all_goals exact ⟨_, _, rfl, owns_base hown7 HB2.out.size, bt HB2.out hb7⟩
                  · have hqz : (QI == 0) = false := by rw [beq_eq_false_iff_ne]; exact hq
                    have hqp : 0 < QI := by omega
                    have e2 : PI.tmod QI = PI % QI := Int.tmod_eq_emod_of_nonneg P0
                    have m0 : 0 ≤ PI % QI := Int.emod_nonneg _ hq
                    have m1 : PI % QI < QI := Int.emod_lt_of_pos _ hqp
                    have HE2 : Hid (QI = (q : Int) ∧ PI % QI = ((p % q : Nat) : Int) ∧ Nat.gcd q (p % q) = G) := ⟨HE.out.2.1, by rw [HE.out.1, HE.out.2.1]; exact (Int.natCast_emod _ _).symm, by rw [← HE.out.2.2, Nat.gcd_comm, ← Nat.gcd_rec, Nat.gcd_comm]⟩
                    obtain ⟨RI, eR⟩ : ∃ R : Int, PI % QI = R := ⟨_, rfl⟩
                    rw [eR] at e2 m0 m1 HE2
                    have r1 : RI < 18446744073709551616 := by omega
                    have hmeas : Hid (RI.toNat < QI.toNat) := by unfold Hid; omega
                    clear eR
                    go_wp2
                    go_region
                    all_goals go_wp2
                    all_goals go_roundw
                    case rel => exact ⟨q, p % q, QI, RI, rfl, rfl, Q0, Q1, m0, r1, HE2, by first | exact HB2.out.drew | exact below_drewN HB2.out _⟩
                    case measure => simp only [intOf]; exact hmeas.out
              · have hxi : ¬ (2 : Int) < ((nl X).length : Int) := by omega
                have vX := two_limbs (N := X) (by omega)
                have HPQ : Hid (Nat.gcd X Y = G) := HX.out.2.2.2
                have t1 : True := trivial
                have l2 := lies_of_owns HO2.out
                clear h2 hx hYl hY
                go_wp2_with (first
                  | (go_at_call 74; have _t := t1; clear _t t1; refine (low_nl X _ _ wr l1 vX).mono ?_; rintro e w6 ⟨rfl, hw⟩; have hw2 := hw.symm; clear hw; subst hw2)
                  | (go_at_call 74; refine (low_nl Y _ _ wr l2 vY).mono ?_; rintro e w6 ⟨rfl, hw⟩; have hw2 := hw.symm; clear hw; subst hw2))
                have HBB : Hid (Below w.heap.size w wr) := HB
                clear HO1 HO2 HX HB l1 l2
                (go_loopw [7, 9] (fun pv qv wr => ∃ (p q : Nat) (PI QI : Int), pv = .int .u64 PI ∧ qv = .int .u64 QI ∧ 0 ≤ PI ∧ PI < 18446744073709551616 ∧ 0 ≤ QI ∧ QI < 18446744073709551616 ∧ Hid (PI = (p : Int) ∧ QI = (q : Int) ∧ Nat.gcd p q = G) ∧ Hid (Below w.heap.size w wr)) (fun _ qv _ => (intOf qv).toNat))
                case atStart => exact ⟨X, Y, _, _, rfl, rfl, by omega, by omega, by omega, by omega, ⟨rfl, rfl, HPQ.out⟩, HBB⟩
                case round =>
                  clear HPQ HBB
                  obtain ⟨p, q, PI, QI, rfl, rfl, P0, P1, Q0, Q1, HE, HB2⟩ := hrel
                  by_cases hq : QI = 0
                  · subst hq
                    have hp : p = G := by rw [← HE.out.2.2, show q = 0 by have := HE.out.2.1; omega, Nat.gcd_zero_right]
                    have cW := fun (W : World) => word_any p W (by have := HE.out.1; omega)
                    rw [hp, ← hp, ← HE.out.1, hp] at cW
                    clear hp
                    go_wp2_with (go_at_call 73; refine (cW _).mono ?_; rintro e w7 ⟨o7, c7, rfl, hown7, hb7⟩)
                    all_goals go_ret
                    all_goals exact ⟨_, _, rfl, owns_base hown7 HB2.out.size, bt HB2.out hb7⟩
                  · have hqz : (QI == 0) = false := by rw [beq_eq_false_iff_ne]; exact hq
                    have hqp : 0 < QI := by omega
                    have e2 : PI.tmod QI = PI % QI := Int.tmod_eq_emod_of_nonneg P0
                    have m0 : 0 ≤ PI % QI := Int.emod_nonneg _ hq
                    have m1 : PI % QI < QI := Int.emod_lt_of_pos _ hqp
                    have HE2 : Hid (QI = (q : Int) ∧ PI % QI = ((p % q : Nat) : Int) ∧ Nat.gcd q (p % q) = G) := ⟨HE.out.2.1, by rw [HE.out.1, HE.out.2.1]; exact (Int.natCast_emod _ _).symm, by rw [← HE.out.2.2, Nat.gcd_comm, ← Nat.gcd_rec, Nat.gcd_comm]⟩
                    obtain ⟨RI, eR⟩ : ∃ R : Int, PI % QI = R := ⟨_, rfl⟩
                    rw [eR] at e2 m0 m1 HE2
                    have r1 : RI < 18446744073709551616 := by omega
                    have hmeas : Hid (RI.toNat < QI.toNat) := by unfold Hid; omega
                    clear eR
                    go_wp2
                    go_region
                    all_goals go_wp2
                    all_goals go_roundw
                    case rel => exact ⟨q, p % q, QI, RI, rfl, rfl, Q0, Q1, m0, r1, HE2, by first | exact HB2.out.drew | exact below_drewN HB2.out _⟩
                    case measure => simp only [intOf]; exact hmeas.out))
end Go.Proofs.Ytefckmkcbgckfaa.GcdA

/- A rational number as a value of the program's, and what its small functions answer. -/
namespace Go.Proofs.Ytefckmkcbgckfaa.RatL
open Go.RowKit Mem LimbNum Limb1 Limb2 Limb3 Limb4 NatNum DivNum NatL NearL GcdA CopyL Words DivMod DivAll

/-- Two naturals without a common divisor, the lower one not nought. -/
structure Low (neg : Bool) (n d : Nat) : Prop where
  pos : 1 ≤ d
  one : Nat.gcd n d = 1
  sg : n = 0 → neg = false
/-- In words. -/
def InWords (v : Value) (neg : Bool) (n d : Nat) : Prop :=
  n < 18446744073709551616 ∧ d < 18446744073709551616 ∧ v = .agg #[.bool neg, .int .u64 (n : Int), .int .u64 ((d : Int) - 1), .pointer none]
/-- In lists. -/
def InLists (w : World) (v : Value) (neg : Bool) (n d : Nat) : Prop :=
  ¬ (n < 18446744073709551616 ∧ d < 18446744073709551616) ∧ ∃ g o1 c1 o2 c2, v = .agg #[.bool neg, .int .u64 0, .int .u64 0, .pointer (some ⟨g, 0, none⟩)] ∧ g < w.heap.size ∧
    w.cell? ⟨g, 0, none⟩ = some (.slice o1 (nl n).length c1) ∧ w.cell? ⟨g, 1, none⟩ = some (.slice o2 (nl d).length c2) ∧ Lies w o1 c1 (ints .u32 (nl n)) ∧ Lies w o2 c2 (ints .u32 (nl d))
/-- The value v is the number n / d, below 0 if neg. -/
def IsRat (w : World) (v : Value) (neg : Bool) (n d : Nat) : Prop := Low neg n d ∧ (InWords v neg n d ∨ InLists w v neg n d)
theorem InLists.below {w w' : World} {B : Nat} {v : Value} {neg : Bool} {n d : Nat} (h : InLists w v neg n d) (hb : Below B w w') (hB : w.heap.size ≤ B) : InLists w' v neg n d := by
  obtain ⟨h1, g, o1, c1, o2, c2, h2, h3, h4, h5, h6, h7⟩ := h
  refine ⟨h1, g, o1, c1, o2, c2, h2, Nat.lt_of_lt_of_le h3 hb.size, ?_, ?_, h6.below hb hB, h7.below hb hB⟩
  · rw [hb.cell (p := ⟨g, 0, none⟩) (Nat.lt_of_lt_of_le h3 hB)]; exact h4
  · rw [hb.cell (p := ⟨g, 1, none⟩) (Nat.lt_of_lt_of_le h3 hB)]; exact h5
theorem IsRat.below {w w' : World} {v : Value} {neg : Bool} {n d : Nat} (h : IsRat w v neg n d) (hb : Below w.heap.size w w') : IsRat w' v neg n d := by
  obtain ⟨h1, h2 | h2⟩ := h
  · exact ⟨h1, .inl h2⟩
  · exact ⟨h1, .inr (h2.below hb (Nat.le_refl _))⟩
theorem IsRat.shape {w : World} {v : Value} {neg : Bool} {n d : Nat} (h : IsRat w v neg n d) : ∃ (A L : Int) (p : Option Addr), v = .agg #[.bool neg, .int .u64 A, .int .u64 L, .pointer p] := by
  obtain ⟨_, ⟨_, _, e⟩ | ⟨_, g, _, _, _, _, e, _⟩⟩ := h
  · exact ⟨_, _, _, e⟩
  · exact ⟨_, _, _, e⟩
/-- A number's four cells. -/
def box4 (a b c d : Value) : Obj := .cells #[a, b, c, d] 25
theorem box0 {w : World} {g : Nat} {a b c d : Value} (h : w.heap[g]? = some (box4 a b c d)) : w.cell? ⟨g, 0, none⟩ = some a ∧ w.cell? ⟨g, 1, none⟩ = some b ∧ w.cell? ⟨g, 2, none⟩ = some c ∧ w.cell? ⟨g, 3, none⟩ = some d := by
  refine ⟨?_, ?_, ?_, ?_⟩ <;> simp [World.cell?, h, box4]
theorem boxF {w : World} {g : Nat} {a b c d : Value} (h : w.heap[g]? = some (box4 a b c d)) (i : Nat) : w.frozen? ⟨g, i, none⟩ = false := by simp [World.frozen?, h, box4]
theorem box_set {w : World} {g : Nat} {a b c d : Value} (h : w.heap[g]? = some (box4 a b c d)) (a' b' c' d' : Value) :
    ((((w.setCell ⟨g, 0, none⟩ a').setCell ⟨g, 1, none⟩ b').setCell ⟨g, 2, none⟩ c').setCell ⟨g, 3, none⟩ d').heap[g]? = some (box4 a' b' c' d') := by
  have h1 : (w.setCell ⟨g, 0, none⟩ a').heap[g]? = some (box4 a' b c d) := by rw [heap_setCell_same w g 0 _ _ _ h]; rfl
  have h2 : ((w.setCell ⟨g, 0, none⟩ a').setCell ⟨g, 1, none⟩ b').heap[g]? = some (box4 a' b' c d) := by rw [heap_setCell_same _ g 1 _ _ _ h1]; rfl
  have h3 : (((w.setCell ⟨g, 0, none⟩ a').setCell ⟨g, 1, none⟩ b').setCell ⟨g, 2, none⟩ c').heap[g]? = some (box4 a' b' c' d) := by rw [heap_setCell_same _ g 2 _ _ _ h2]; rfl
  rw [heap_setCell_same _ g 3 _ _ _ h3]; rfl
theorem box_new (w : World) (a b c d : Value) : (w.alloc (box4 a b c d)).heap[w.heap.size]? = some (box4 a b c d) := heap_alloc_new _ _
theorem box_kept {w w' : World} {B g : Nat} {o : Obj} (h : w.heap[g]? = some o) (hb : Below B w w') (hg : g < B) : w'.heap[g]? = some o := by rw [hb.block g hg]; exact h
theorem box_below {w W : World} {B g : Nat} (h : Below B w W) (hg : B ≤ g) (a b c d : Value) : Below B w ((((W.setCell ⟨g, 0, none⟩ a).setCell ⟨g, 1, none⟩ b).setCell ⟨g, 2, none⟩ c).setCell ⟨g, 3, none⟩ d) :=
  (((h.setCell hg _).setCell hg _).setCell hg _).setCell hg _
theorem box_cells {w : World} {g i : Nat} {p : Bool} {q r : Int} {s : Option Addr} {v : Value} (hk : w.heap[g]? = some (box4 (.bool p) (.int .u64 q) (.int .u64 r) (.pointer s))) (h : w.cell? ⟨g, i, none⟩ = some v) : (∀ k z, v = .int k z → k = .u64) ∧ (∀ o n c, v ≠ .slice o n c) := by
  simp only [World.cell?, hk, box4] at h
  match i, h with
  | 0, h => simp at h; subst h; exact ⟨fun k z e => by simp at e, fun o n c e => by simp at e⟩
  | 1, h => simp at h; subst h; exact ⟨fun k z e => by simp at e; exact e.1.symm, fun o n c e => by simp at e⟩
  | 2, h => simp at h; subst h; exact ⟨fun k z e => by simp at e; exact e.1.symm, fun o n c e => by simp at e⟩
  | 3, h => simp at h; subst h; exact ⟨fun k z e => by simp at e, fun o n c e => by simp at e⟩
  | (i + 4), h => simp at h
theorem lies_off {w W : World} {g : Nat} {p : Bool} {q r : Int} {s : Option Addr} {o : Option Addr} {c : Nat} {A : List Nat} (h : Lies w o c (ints .u32 A)) (hk : w.heap[g]? = some (box4 (.bool p) (.int .u64 q) (.int .u64 r) (.pointer s)))
    (hW : ∀ k, k ≠ g → W.heap[k]? = w.heap[k]?) (hs : W.heap.size = w.heap.size) : Lies W o c (ints .u32 A) := by
  obtain ⟨h1, h2, h3, h4⟩ := h
  refine ⟨h1, h2, h3, fun hp => ?_⟩
  obtain ⟨b, off, rfl, hlt, hc⟩ := h4 hp
  have hne : b ≠ g := by
    rintro rfl
    have h0 := hc 0 hp
    rw [ints_get _ _ _ (by rw [ints_length] at hp; exact hp)] at h0
    have := (box_cells hk h0).1 _ _ rfl
    simp at this
  refine ⟨b, off, rfl, by omega, fun i hi => ?_⟩
  rw [← hc i hi]
  simp only [World.cell?, hW b hne]
theorem IsRat.off {w W : World} {g : Nat} {p : Bool} {q r : Int} {s : Option Addr} {v : Value} {b : Bool} {n d : Nat} (h : IsRat w v b n d) (hk : w.heap[g]? = some (box4 (.bool p) (.int .u64 q) (.int .u64 r) (.pointer s)))
    (hW : ∀ k, k ≠ g → W.heap[k]? = w.heap[k]?) (hs : W.heap.size = w.heap.size) : IsRat W v b n d := by
  obtain ⟨h1, h2 | ⟨h2, g2, o1, c1, o2, c2, e, h3, h4, h5, h6, h7⟩⟩ := h
  · exact ⟨h1, .inl h2⟩
  · have hne : g2 ≠ g := by
      rintro rfl
      exact (box_cells hk h4).2 _ _ _ rfl
    refine ⟨h1, .inr ⟨h2, g2, o1, c1, o2, c2, e, by omega, ?_, ?_, lies_off h6 hk hW hs, lies_off h7 hk hW hs⟩⟩
    · rw [← h4]; simp only [World.cell?, hW g2 hne]
    · rw [← h5]; simp only [World.cell?, hW g2 hne]
theorem set4_off (w : World) (g : Nat) (a b c d : Value) : (∀ k, k ≠ g → ((((w.setCell ⟨g, 0, none⟩ a).setCell ⟨g, 1, none⟩ b).setCell ⟨g, 2, none⟩ c).setCell ⟨g, 3, none⟩ d).heap[k]? = w.heap[k]?) ∧
    ((((w.setCell ⟨g, 0, none⟩ a).setCell ⟨g, 1, none⟩ b).setCell ⟨g, 2, none⟩ c).setCell ⟨g, 3, none⟩ d).heap.size = w.heap.size := by
  constructor
  · intro k hk
    rw [heap_setCell_other _ _ _ _ hk, heap_setCell_other _ _ _ _ hk, heap_setCell_other _ _ _ _ hk, heap_setCell_other _ _ _ _ hk]
  · simp [World.setCell]
theorem IsRat.set4 {w : World} {g : Nat} {p : Bool} {q r : Int} {s : Option Addr} {v : Value} {b : Bool} {n d : Nat} (h : IsRat w v b n d) (hk : w.heap[g]? = some (box4 (.bool p) (.int .u64 q) (.int .u64 r) (.pointer s))) (x0 x1 x2 x3 : Value) :
    IsRat ((((w.setCell ⟨g, 0, none⟩ x0).setCell ⟨g, 1, none⟩ x1).setCell ⟨g, 2, none⟩ x2).setCell ⟨g, 3, none⟩ x3) v b n d := h.off hk (set4_off w g x0 x1 x2 x3).1 (set4_off w g x0 x1 x2 x3).2
theorem cell_lt {w : World} {g i : Nat} {v : Value} (h : w.cell? ⟨g, i, none⟩ = some v) : g < w.heap.size := by
  rcases Nat.lt_or_ge g w.heap.size with h6 | h6
  · exact h6
  · simp [World.cell?, Array.getElem?_eq_none h6] at h
theorem four_kept {W w5 : World} {g : Nat} {a b c d : Value} (h : W.cell? ⟨g, 0, none⟩ = some a ∧ W.cell? ⟨g, 1, none⟩ = some b ∧ W.cell? ⟨g, 2, none⟩ = some c ∧ W.cell? ⟨g, 3, none⟩ = some d) (hb : Below W.heap.size W w5) :
    w5.cell? ⟨g, 0, none⟩ = some a ∧ w5.cell? ⟨g, 1, none⟩ = some b ∧ w5.cell? ⟨g, 2, none⟩ = some c ∧ w5.cell? ⟨g, 3, none⟩ = some d := by
  have hg := cell_lt h.1
  rw [hb.cell (p := ⟨g, 0, none⟩) hg, hb.cell (p := ⟨g, 1, none⟩) hg, hb.cell (p := ⟨g, 2, none⟩) hg, hb.cell (p := ⟨g, 3, none⟩) hg]
  exact h
theorem four_new (w : World) (a b c d : Value) : (w.alloc (.cells #[a, b, c, d] 25)).cell? ⟨w.heap.size, 0, none⟩ = some a ∧ (w.alloc (.cells #[a, b, c, d] 25)).cell? ⟨w.heap.size, 1, none⟩ = some b ∧ (w.alloc (.cells #[a, b, c, d] 25)).cell? ⟨w.heap.size, 2, none⟩ = some c ∧ (w.alloc (.cells #[a, b, c, d] 25)).cell? ⟨w.heap.size, 3, none⟩ = some d := by
  refine ⟨?_, ?_, ?_, ?_⟩ <;> simp
theorem den_any (b : Bool) (n d : Int) (p : Option Addr) (w : World) (h1 : 1 ≤ d) (h2 : d < 18446744073709551616) :
    Calls Try.prog 82 #[.agg #[.bool b, .int .u64 n, .int .u64 (d - 1), .pointer p]] w fun e w' => e = .returned (.int .u64 d) ∧ Below w.heap.size w w' := by
  go_enter Try.func82, Try.ntmps82
  go_wp2
  go_ret
  exact ⟨ret_int (by omega), (Below.refl _ _).alloc (Nat.le_refl _) _⟩
set_option maxRecDepth 20000 in
theorem short_any (b : Bool) (n d : Nat) (w : World) (h1 : 1 ≤ d) (h2 : d < 18446744073709551616) :
    Calls Try.prog 65 #[.bool b, .int .u64 (n : Int), .int .u64 (d : Int)] w fun e w' => e = .returned (.agg #[.bool (b && decide (n ≠ 0)), .int .u64 (n : Int), .int .u64 ((d : Int) - 1), .pointer none]) ∧ Below w.heap.size w w' := by
  obtain ⟨N, eN⟩ : ∃ x : Int, x = (n : Int) := ⟨_, rfl⟩
  obtain ⟨D, eD⟩ : ∃ x : Int, x = (d : Int) := ⟨_, rfl⟩
  have eb : decide (n ≠ 0) = (N != 0) := by rw [Bool.eq_iff_iff]; simp; omega
  rw [eb, ← eN, ← eD]
  have d1 : 1 ≤ D := by omega
  have d2 : D < 18446744073709551616 := by omega
  clear eb eN eD h1 h2
  cases b
  all_goals
    go_enter Try.func65, Try.ntmps65
    go_wp2
  · refine bodyPost_ret (v := .agg #[.bool false, .int .u64 N, .int .u64 (D - 1), .pointer none]) ?_ rfl ?_
    · simp [results, go_sem]
    · exact ⟨rfl, (Below.refl _ _).alloc (Nat.le_refl _) _⟩
  · refine bodyPost_ret (v := .agg #[.bool (N != 0), .int .u64 N, .int .u64 (D - 1), .pointer none]) ?_ rfl ?_
    · simp [results, go_sem]
    · exact ⟨by rw [Bool.true_and], (Below.refl _ _).alloc (Nat.le_refl _) _⟩
theorem common_any (a b : Nat) (w : World) (ha : a < 18446744073709551616) (hb : b < 18446744073709551616) :
    Calls Try.prog 81 #[.int .u64 (a : Int), .int .u64 (b : Int)] w fun e w' => e = .returned (.int .u64 ((Nat.gcd a b : Nat) : Int)) ∧ Below w.heap.size w w' := by
  obtain ⟨G, eG⟩ : ∃ G, G = Nat.gcd a b := ⟨_, rfl⟩
  rw [← eG]
  have HG : Hid (Nat.gcd a b = G) := eG.symm
  obtain ⟨AI, eA⟩ : ∃ x : Int, x = (a : Int) := ⟨_, rfl⟩
  obtain ⟨BI, eB⟩ : ∃ x : Int, x = (b : Int) := ⟨_, rfl⟩
  rw [← eA, ← eB]
  have HE : Hid (AI = (a : Int) ∧ BI = (b : Int)) := ⟨eA, eB⟩
  have A0 : 0 ≤ AI := by omega
  have A1 : AI < 18446744073709551616 := by omega
  have B0 : 0 ≤ BI := by omega
  have B1 : BI < 18446744073709551616 := by omega
  clear eG eA eB ha hb
  go_enter Try.func81, Try.ntmps81
  go_wp2
  go_loopw [0, 1] (fun pv qv wr => ∃ (p q : Nat) (PI QI : Int), pv = .int .u64 PI ∧ qv = .int .u64 QI ∧ 0 ≤ PI ∧ PI < 18446744073709551616 ∧ 0 ≤ QI ∧ QI < 18446744073709551616 ∧ Hid (PI = (p : Int) ∧ QI = (q : Int) ∧ Nat.gcd p q = G) ∧ Hid (Below w.heap.size w wr)) (fun _ qv _ => (intOf qv).toNat)
  case atStart => exact ⟨a, b, AI, BI, rfl, rfl, A0, A1, B0, B1, ⟨HE.out.1, HE.out.2, HG.out⟩, Below.refl _ _⟩
  case round =>
    clear HG HE A0 A1 B0 B1
    obtain ⟨p, q, PI, QI, rfl, rfl, P0, P1, Q0, Q1, HE, HB2⟩ := hrel
    by_cases hq : QI = 0
    · subst hq
      have hp : PI = (G : Int) := by rw [← HE.out.2.2, show q = 0 by have := HE.out.2.1; omega, Nat.gcd_zero_right]; exact HE.out.1
      clear P0 P1
      subst hp
      go_wp2
      all_goals go_ret
      all_goals exact ⟨rfl, HB2.out⟩
    · have hqz : (QI == 0) = false := by rw [beq_eq_false_iff_ne]; exact hq
      have hqp : 0 < QI := by omega
      have e2 : PI.tmod QI = PI % QI := Int.tmod_eq_emod_of_nonneg P0
      have m0 : 0 ≤ PI % QI := Int.emod_nonneg _ hq
      have m1 : PI % QI < QI := Int.emod_lt_of_pos _ hqp
      have HE2 : Hid (QI = (q : Int) ∧ PI % QI = ((p % q : Nat) : Int) ∧ Nat.gcd q (p % q) = G) := ⟨HE.out.2.1, by rw [HE.out.1, HE.out.2.1]; exact (Int.natCast_emod _ _).symm, by rw [← HE.out.2.2, Nat.gcd_comm, ← Nat.gcd_rec, Nat.gcd_comm]⟩
      obtain ⟨RI, eR⟩ : ∃ R : Int, PI % QI = R := ⟨_, rfl⟩
      rw [eR] at e2 m0 m1 HE2
      have r1 : RI < 18446744073709551616 := by omega
      have hmeas : Hid (RI.toNat < QI.toNat) := by unfold Hid; omega
      clear eR
      go_wp2
      go_region
      all_goals go_wp2
      all_goals go_roundw
      case rel => exact ⟨q, p % q, QI, RI, rfl, rfl, Q0, Q1, m0, r1, HE2, by first | exact HB2.out.drew | exact below_drewN HB2.out _⟩
      case measure => simp only [intOf]; exact hmeas.out
/-- An int's size. -/
theorem size_any (i : Int) (w : World) (h0 : -9223372036854775808 ≤ i) (h1 : i ≤ 9223372036854775807) :
    Calls Try.prog 66 #[.int .i64 i] w fun e w' => e = .returned (.int .u64 ((i.natAbs : Nat) : Int)) ∧ w' = w := by
  by_cases hi : i < 0
  · have e : ((i.natAbs : Nat) : Int) = -i := by omega
    rw [e]
    go_enter Try.func66, Try.ntmps66
    go_wp2
    go_ret
    exact ⟨ret_int (by simp only [IntKind.wrap_u64]; omega), rfl⟩
  · have e : ((i.natAbs : Nat) : Int) = i := by omega
    rw [e]
    go_enter Try.func66, Try.ntmps66
    go_wp2
    go_ret
    exact ⟨ret_int (by first | rfl | omega | (simp only [IntKind.wrap_u64]; omega)), rfl⟩
theorem part_any (A G : List Nat) (ao1 ao2 : Option Addr) (cap1 cap2 : Nat) (w : World) (h1 : Lies w ao1 cap1 (ints .u32 A)) (h2 : Lies w ao2 cap2 (ints .u32 G)) (hA : A = nl (val A)) (hG : Small G) (h0 : val G ≠ 0) (hlA : A.length ≤ 35184372088832) (hlG : G.length ≤ 35184372088832) :
    Calls Try.prog 53 #[.slice ao1 A.length cap1, .slice ao2 G.length cap2] w fun e w' => ∃ o c, e = .returned (.slice o (nl (val A / val G)).length c) ∧ Lies w' o c (ints .u32 (nl (val A / val G))) ∧ Below w.heap.size w w' := by
  have sA : Small A := by rw [hA]; exact small_nl _
  have cB := bits_any G ao2 cap2 w h2 hG (by omega)
  have cD := divmod_any A G ao1 ao2 cap1 cap2 w h1 h2 sA hG h0 (by omega) hlG
  by_cases h : val G = 1
  · have e1 : val A / val G = val A := by rw [h, Nat.div_one]
    rw [e1, ← hA]
    rw [h] at cB
    have e2 : ((bitLen 1 : Nat) : Int) = 1 := by rfl
    rw [e2] at cB
    have H1 : Hid (Lies w ao1 cap1 (ints .u32 A)) := h1
    clear cD h1 h2 hA hG h0 e1 e2
    go_enter Try.func53, Try.ntmps53
    go_wp2_with (go_at_call 48; refine cB.mono ?_; rintro e w1 ⟨rfl, hw⟩; have hw2 := hw.symm; clear hw; subst hw2)
    go_ret
    exact ⟨_, _, rfl, H1.out, Below.refl _ _⟩
  · have e2 : ((bitLen (val G) : Nat) : Int) ≠ 1 := by
      intro e
      have h3 := bitLen_le (val G) h0
      have h4 := fromL_lt (nb (val G))
      rw [fromL_nb, len_nb] at h4
      rw [show bitLen (val G) = 1 by omega] at h4
      omega
    have e3 : (((bitLen (val G) : Nat) : Int) == 1) = false := by rw [beq_eq_false_iff_ne]; exact e2
    generalize ((bitLen (val G) : Nat) : Int) = BL at *
    generalize nl (val A / val G) = NQ at *
    generalize nl (val A % val G) = NR at *
    clear h1 h2 hA hG h0 h
    go_enter Try.func53, Try.ntmps53
    go_wp2_with (first
      | (go_at_call 48; refine cB.mono ?_; rintro e w1 ⟨rfl, hw⟩; have hw2 := hw.symm; clear hw; subst hw2)
      | (go_at_call 45; refine cD.mono ?_; rintro e w2 ⟨o1, c1, o2, c2, rfl, hown1, hown2, hb2⟩))
    go_ret
    exact ⟨_, _, rfl, lies_of_owns hown1, hb2⟩
end Go.Proofs.Ytefckmkcbgckfaa.RatL
