/- What the least common multiple answers. -/
import Derived.Test.YtipmdjfhailfbaaGcdA
namespace Go.Proofs.Ytipmdjfhailfbaa.LcmL
open Go.RowKit Mem LimbNum Limb1 Limb2 Limb3 Limb4 NatNum DivNum NatL NearL GcdA DivMod DivAll

set_option maxRecDepth 20000 in
theorem lcm_any (A B : List Nat) (ao1 ao2 : Option Addr) (cap1 cap2 : Nat) (w : World) (h1 : Lies w ao1 cap1 (ints .u32 A)) (h2 : Lies w ao2 cap2 (ints .u32 B)) (hA : Small A) (hB : Small B) (hlA : A.length ≤ 35184372088832) (hlB : B.length ≤ 35184372088832) :
    Calls Try.prog 8 #[.slice ao1 A.length cap1, .slice ao2 B.length cap2] w fun e w' => ∃ o c, e = .returned (.slice o (nl (val A / Nat.gcd (val A) (val B) * val B)).length c) ∧
      w'.ownsRow w.heap.size 33 1 (.slice o (nl (val A / Nat.gcd (val A) (val B) * val B)).length c) (nl (val A / Nat.gcd (val A) (val B) * val B)).length (ints .u32 (nl (val A / Nat.gcd (val A) (val B) * val B))) ∧ Below w.heap.size w w' := by
  have cG := gcd_any A B ao1 ao2 cap1 cap2 w h1 h2 hA hB hlA hlB
  have kA := nl_len A hA
  have kB := nl_len B hB
  by_cases h0 : Nat.gcd (val A) (val B) = 0
  · have hz : val A / Nat.gcd (val A) (val B) * val B = 0 := by rw [h0, Nat.div_zero, Nat.zero_mul]
    rw [hz]
    rw [h0] at cG
    have hlen : (nl 0).length = 0 := by rw [nl_zero]; rfl
    have cD := fun (W : World) (o : Option Addr) (c : Nat) (hb : Below w.heap.size w W) (h : Lies W o c (ints .u32 (nl 0))) => divmod_zero A (nl 0) ao1 o cap1 c W (h1.below hb (Nat.le_refl _)) h hA (small_nl _) (val_nl 0)
    clear h1 h2 h0 hz kA kB
    go_enter Try.func8, Try.ntmps8
    go_wp2_with (first
      | (go_at_call 6; refine cG.mono ?_; rintro e w1 ⟨o1, c1, rfl, hown1, hb1⟩; have cD2 := cD _ _ _ hb1 (lies_of_owns hown1); rw [hlen] at cD2)
      | (go_at_call 16; refine cD2.mono ?_; rintro e w2 ⟨rfl, hw⟩; have hw2 := hw.symm; clear hw; subst hw2))
    go_ret
    exact ⟨none, 0, by rw [hlen]; rfl, ⟨by rw [nl_zero]; rfl, .inl ⟨by rw [nl_zero]; rfl, by rw [nl_zero]; rfl⟩⟩, hb1⟩
  · have hg1 : Nat.gcd (val A) (val B) ≤ val A ∨ val A = 0 := by
      rcases Nat.eq_zero_or_pos (val A) with h | h
      · exact .inr h
      · exact .inl (Nat.gcd_le_left _ h)
    have hgl : (nl (Nat.gcd (val A) (val B))).length ≤ 35184372088832 := by
      rcases hg1 with h | h
      · exact Nat.le_trans (nl_mono _ _ h) (by omega)
      · rw [h, Nat.gcd_zero_left]; omega
    have cD := fun (W : World) (o : Option Addr) (c : Nat) (hb : Below w.heap.size w W) (h : Lies W o c (ints .u32 (nl (Nat.gcd (val A) (val B))))) => divmod_any A (nl (Nat.gcd (val A) (val B))) ao1 o cap1 c W (h1.below hb (Nat.le_refl _)) h hA (small_nl _) (by rw [val_nl]; exact h0) (by omega) hgl
    have ql := nl_mono _ _ (Nat.div_le_self (val A) (Nat.gcd (val A) (val B)))
    have cM := fun (W : World) (o : Option Addr) (c : Nat) (hb : Below w.heap.size w W) (h : Lies W o c (ints .u32 (nl (val A / Nat.gcd (val A) (val B))))) => mul_any (nl (val A / Nat.gcd (val A) (val B))) B o ao2 c cap2 W h (h2.below hb (Nat.le_refl _)) (small_nl _) hB (by omega)
    rw [val_nl] at cD cM
    clear h1 h2 h0 kA kB hg1 hgl ql
    generalize val A / Nat.gcd (val A) (val B) = q at *
    generalize val A % Nat.gcd (val A) (val B) = r at *
    generalize nl (Nat.gcd (val A) (val B)) = NG at *
    generalize nl (q * val B) = NP at *
    go_enter Try.func8, Try.ntmps8
    go_wp2_with (first
      | (go_at_call 6; refine cG.mono ?_; rintro e w1 ⟨o1, c1, rfl, hown1, hb1⟩)
      | (go_at_call 16; refine (cD _ _ _ hb1 (lies_of_owns hown1)).mono ?_; rintro e w2 ⟨o2, c2, o3, c3, rfl, hown2, hown3, hb2⟩)
      | (go_at_call 15; refine (cM _ _ _ (bt hb1 hb2) (lies_of_owns hown2)).mono ?_; rintro e w4 ⟨o4, c4, rfl, hown4, hb4⟩))
    go_ret
    exact ⟨_, _, rfl, owns_base hown4 (bt hb1 hb2).size, bt (bt hb1 hb2) hb4⟩
theorem lcm_mul (a b : Nat) : Nat.gcd a b * (a / Nat.gcd a b * b) = a * b := by rw [← Nat.mul_assoc, Nat.mul_comm (Nat.gcd a b), Nat.div_mul_cancel (Nat.gcd_dvd_left a b)]
theorem lcm_ne {a b : Nat} (ha : a ≠ 0) (hb : b ≠ 0) : a / Nat.gcd a b * b ≠ 0 := by
  intro h
  have := lcm_mul a b
  rw [h, Nat.mul_zero] at this
  rcases Nat.mul_eq_zero.1 this.symm with h | h <;> contradiction
end Go.Proofs.Ytipmdjfhailfbaa.LcmL
