/- What the powers of ten answer. -/
import Derived.Test.YtbhmgafiookjnadPowL
import Derived.Test.YtbhmgafiookjnadOutL
namespace Go.Proofs.Ytbhmgafiookjnad.TensL
open Go.RowKit Mem LimbNum Limb1 Limb2 Limb3 Limb4 NatNum NatL Len64 PowL OutL

theorem pow_all (A : List Nat) (n : Nat) (o : Option Addr) (c : Nat) (W : World) (h : Lies W o c (ints .u32 A)) (hA : Small A) (hl : A.length ≤ 1000000) (hn : n ≤ 1000) (hbt : bitLen (val A) * n ≤ 100000) :
    Calls Try.prog 16 #[.slice o A.length c, .int .i64 (n : Int)] W fun e w' => ∃ ao' cap', e = .returned (.tuple #[.slice ao' (nl (val A ^ n)).length cap', .bool true]) ∧ w'.ownsRow W.heap.size 48 1 (.slice ao' (nl (val A ^ n)).length cap') (nl (val A ^ n)).length (ints .u32 (nl (val A ^ n))) ∧ Below W.heap.size W w' := by
  rcases Nat.eq_zero_or_pos n with rfl | h0
  · exact pow_zero A o c W
  · exact pow_core A n o c W h hA (by omega) h0 hn hbt
theorem bits10 (n : Nat) : bitLen (10 ^ n) ≤ 4 * n + 1 := by
  rw [← len_nb]
  apply nb_lt
  have h2 : 10 ^ n ≤ (2 ^ 4) ^ n := Nat.pow_le_pow_left (by omega) n
  rw [← Nat.pow_mul] at h2
  have h3 : (2 : Nat) ^ (4 * n) < 2 ^ (4 * n + 1) := Nat.pow_lt_pow_right (by omega) (by omega)
  omega
theorem limbs10 (n m : Nat) (h : 4 * n + 1 ≤ 32 * m) : (nl (10 ^ n)).length ≤ m := by
  apply nl_lt
  have h2 : 10 ^ n ≤ (2 ^ 4) ^ n := Nat.pow_le_pow_left (by omega) n
  rw [← Nat.pow_mul] at h2
  have h3 : (2 : Nat) ^ (4 * n) < 2 ^ (32 * m) := Nat.pow_lt_pow_right (by omega) (by omega)
  rw [← pow32]; omega
set_option maxRecDepth 20000 in
set_option maxHeartbeats 1000000 in
theorem tens_small (n : Nat) (w : World) (hn : n < 1000) :
    Calls Try.prog 50 #[.int .i64 (n : Int)] w fun e w' => ∃ o c, e = .returned (.tuple #[.slice o (nl (10 ^ n)).length c, .int .i64 0]) ∧ w'.ownsRow w.heap.size 48 1 (.slice o (nl (10 ^ n)).length c) (nl (10 ^ n)).length (ints .u32 (nl (10 ^ n))) ∧ Below w.heap.size w w' := by
  have e10 : val [10] = 10 := by decide
  have eb : bitLen (val [10]) = 4 := by decide
  have cP := fun W : World => pow_all [10] n (some ⟨W.heap.size, 0, none⟩) 1 (W.alloc (.cells #[.int .u32 10] 48)) (lit_lies W [10] 1 rfl (by decide)) (by intro x hx; simp at hx; omega) (by decide) (by omega) (by rw [eb]; omega)
  rw [e10] at cP
  simp only [List.length_cons, List.length_nil] at cP
  have cO := outside_in (n : Int) w (by omega) (by omega)
  obtain ⟨x, ex⟩ : ∃ x : Int, x = (n : Int) := ⟨_, rfl⟩
  rw [← ex] at cP cO
  rw [← ex]
  have x0 : 0 ≤ x := by omega
  have x1 : x < 1000 := by omega
  have xm : x % 1000 = x := by omega
  clear ex e10 eb
  go_enter Try.func50, Try.ntmps50
  go_wp2_with (first
    | (go_at_call 92; refine cO.mono ?_; rintro e w2 ⟨rfl, hw⟩; have hw2 := hw.symm; clear hw; subst hw2)
    | (go_at_call 16; refine (cP _).mono ?_; rintro e w3 ⟨o3, c3, rfl, hown3, hb3⟩))
  all_goals go_ret2
  all_goals exact ⟨_, _, rfl, owns_base hown3 (by simp), ((Below.refl _ _).alloc (Nat.le_refl _) _).trans (hb3.mono (by simp))⟩
set_option maxRecDepth 20000 in
set_option maxHeartbeats 1000000 in
theorem tens_big (n q r T : Nat) (w : World) (hT : T = 1000) (hq : (n : Int) / 1000 = (q : Int)) (hr : (n : Int) % 1000 = (r : Int)) (hnq : n = T * q + r) (hq2 : q ≤ 20) (hq1 : 1 ≤ q) (hn : n ≤ 20000) :
    Calls Try.prog 50 #[.int .i64 (n : Int)] w fun e w' => ∃ o c, e = .returned (.tuple #[.slice o (nl (10 ^ n)).length c, .int .i64 0]) ∧ w'.ownsRow w.heap.size 48 1 (.slice o (nl (10 ^ n)).length c) (nl (10 ^ n)).length (ints .u32 (nl (10 ^ n))) ∧ Below w.heap.size w w' := by
  have e10 : val [10] = 10 := by decide
  have eb : bitLen (val [10]) = 4 := by decide
  have eT : (1000 : Int) = (T : Int) := by omega
  have s10 : Small [10] := by intro x hx; simp at hx; omega
  have cL := fun W : World => pow_all [10] r (some ⟨W.heap.size, 0, none⟩) 1 (W.alloc (.cells #[.int .u32 10] 48)) (lit_lies W [10] 1 rfl (by decide)) s10 (by decide) (by omega) (by rw [eb]; omega)
  have cT := fun W : World => pow_all [10] T (some ⟨W.heap.size, 0, none⟩) 1 (W.alloc (.cells #[.int .u32 10] 48)) (lit_lies W [10] 1 rfl (by decide)) s10 (by decide) (by omega) (by rw [eb]; omega)
  have hb1 := bits10 T
  have hl1 := limbs10 T 126 (by omega)
  have cH := fun (W : World) (o : Option Addr) (c : Nat) (h : Lies W o c (ints .u32 (nl (10 ^ T)))) => pow_all (nl (10 ^ T)) q o c W h (small_nl _) (by omega) (by omega) (by
    rw [val_nl]
    have h5 : bitLen (10 ^ T) * q ≤ (4 * T + 1) * 20 := Nat.mul_le_mul hb1 hq2
    omega)
  rw [e10, ← eT] at cT
  rw [e10] at cL
  rw [val_nl, ← Nat.pow_mul] at cH
  simp only [List.length_cons, List.length_nil] at cL cT
  have hl2 := limbs10 (T * q) 2501 (by omega)
  have hl3 := limbs10 r 126 (by omega)
  have cM := fun (W : World) (o1 o2 : Option Addr) (c1 c2 : Nat) (h1 : Lies W o1 c1 (ints .u32 (nl (10 ^ (T * q))))) (h2 : Lies W o2 c2 (ints .u32 (nl (10 ^ r)))) => mul_any (nl (10 ^ (T * q))) (nl (10 ^ r)) o1 o2 c1 c2 W h1 h2 (small_nl _) (small_nl _) (by omega)
  rw [val_nl, val_nl, ← Nat.pow_add, ← hnq] at cM
  have cO := outside_in (n : Int) w (by omega) (by omega)
  rw [← hr] at cL
  rw [← hq] at cH
  obtain ⟨x, ex⟩ : ∃ x : Int, x = (n : Int) := ⟨_, rfl⟩
  rw [← ex] at cO cL cH
  rw [← ex]
  have x0 : 1000 ≤ x := by omega
  have x1 : x ≤ 20000 := by omega
  clear hr hq hb1 hl1 hl2 hl3 e10 eb eT s10 ex hT
  generalize nl (10 ^ (T * q)) = NH at *
  generalize nl (10 ^ T) = NT at *
  generalize nl (10 ^ r) = NL at *
  clear hnq hq2 hq1 hn
  have t1 : True := trivial
  have t2 : True := trivial
  go_enter Try.func50, Try.ntmps50
  go_wp2_with (first
    | (go_at_call 92; refine cO.mono ?_; rintro e w2 ⟨rfl, hw⟩; have hw2 := hw.symm; clear hw; subst hw2)
    | (go_at_call 16; have _t := t1; clear _t t1; refine (cL _).mono ?_; rintro e w3 ⟨o3, c3, rfl, hown3, hb3⟩; have B3 := ((Below.refl w.heap.size w).alloc (Nat.le_refl _) (.cells #[.int .u32 10] 48)); have H3 := bt B3 hb3)
    | (go_at_call 16; have _t := t2; clear _t t2; refine (cT _).mono ?_; rintro e w4 ⟨o4, c4, rfl, hown4, hb4⟩; have B4 := ((Below.refl w3.heap.size w3).alloc (Nat.le_refl _) (.cells #[.int .u32 10] 48)); have d4 := bt B4 hb4)
    | (go_at_call 16; refine (cH _ _ _ (lies_of_owns hown4)).mono ?_; rintro e w5 ⟨o5, c5, rfl, hown5, hb5⟩)
    | (go_at_call 23; refine (cM _ _ _ _ _ (lies_of_owns hown5) (lies_of_owns (keep (keep hown3 d4) hb5))).mono ?_; rintro e w6 ⟨o6, c6, rfl, hown6, hb6⟩))
  all_goals go_ret2
  have s3 := H3.size
  have s4 := d4.size
  have s5 := hb5.size
  exact ⟨_, _, rfl, owns_base hown6 (by omega), bt (bt (bt H3 d4) hb5) hb6⟩
end Go.Proofs.Ytbhmgafiookjnad.TensL
