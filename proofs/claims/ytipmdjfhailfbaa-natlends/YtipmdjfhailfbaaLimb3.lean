/- What the count of bits and the difference of lists of limbs answer, and that the check of answers that the document fixes says yes. -/
import Derived.Test.YtipmdjfhailfbaaLimb2
import Derived.Test.YtipmdjfhailfbaaLen
namespace Go.Proofs.Ytipmdjfhailfbaa.Limb3
open Go.RowKit Mem LimbNum Limb1 Limb2 Len

theorem last_split (P : List Nat) (h : 1 ≤ P.length) : P = P.take (P.length - 1) ++ [P.getD (P.length - 1) 0] := by
  have h1 : P.take (P.length - 1 + 1) = P := List.take_of_length_le (by omega)
  rw [List.take_succ_eq_append_getElem (by omega)] at h1
  have h2 : P.getD (P.length - 1) 0 = P[P.length - 1] := by simp [show P.length - 1 < P.length by omega]
  rw [h2]; exact h1.symm
theorem bits_of (N : Nat) (h : N ≠ 0) : (bitLen N : Int) = 32 * (((nl N).length : Int) - 1) + bitLen ((nl N).getD ((nl N).length - 1) 0) := by
  obtain ⟨h1, h2⟩ := nl_last N h
  have h3 := bitLen_limbs ((nl N).take ((nl N).length - 1)) ((nl N).getD ((nl N).length - 1) 0) (fun x hx => small_nl N x (List.mem_of_mem_take hx)) h2
  rw [← last_split (nl N) h1, val_nl, List.length_take, Nat.min_eq_left (by omega)] at h3
  omega
theorem bl32 (x : Nat) (h : x < 4294967296) : bitLen x ≤ 32 := by
  unfold bitLen
  split
  · omega
  · rename_i h0
    have := (Nat.log2_lt h0).2 (show x < 2 ^ 32 by omega)
    omega

set_option maxRecDepth 20000 in
/-- Bits: how many bits the number has. -/
theorem bits_any (A : List Nat) (ao : Option Addr) (cap : Nat) (w : World) (h : Lies w ao cap (ints .u32 A)) (hA : Small A) (hlen : A.length ≤ 70368744177664) :
    Calls Try.prog 33 #[.slice ao A.length cap] w fun e w' => e = .returned (.int .i64 (bitLen (val A) : Int)) ∧ w' = w := by
  have c1 := trim_any A ao cap w h hA
  have hl := lies_trim h hA
  have hk := nl_len A hA
  by_cases h0 : val A = 0
  · rw [h0, nl_zero] at c1
    have e : bitLen (val A) = 0 := by rw [h0]; rfl
    rw [e]
    clear h hl hk h0 e
    go_enter Try.func33, Try.ntmps33
    go_wp2_with (go_at_call 24; refine c1.mono ?_; rintro e w2 ⟨rfl, hw, _⟩; have hw2 := hw.symm; clear hw; subst hw2)
    go_ret
    exact ⟨rfl, rfl⟩
  · have e := bits_of (val A) h0
    obtain ⟨n1, n2⟩ := nl_last (val A) h0
    have hsm := getD_small (nl (val A)) (small_nl _) ((nl (val A)).length - 1)
    obtain ⟨b, off, rfl, _, hc⟩ := hl.2.2.2 (by rw [ints_length]; omega)
    have hcell := hc ((nl (val A)).length - 1) (by rw [ints_length]; omega)
    rw [ints_get _ _ _ (by omega)] at hcell
    have hb := bl32 _ hsm
    have c2 := fun v => len32_any _ v hsm
    have HE : Hid ((bitLen (val A) : Int) = 32 * (((nl (val A)).length : Int) - 1) + bitLen ((nl (val A)).getD ((nl (val A)).length - 1) 0)) := e
    clear e hc hl h n2
    generalize (nl (val A)).getD ((nl (val A)).length - 1) 0 = x at *
    generalize (nl (val A)).length = n at *
    generalize bitLen x = y at *
    generalize bitLen (val A) = z at *
    have hn1 : (1 : Int) ≤ (n : Int) := by omega
    have hn2 : (n : Int) ≤ 70368744177664 := by omega
    have hy : (y : Int) ≤ 32 := by omega
    clear hb n1 hk hlen
    go_enter Try.func33, Try.ntmps33
    go_wp2_with (first
      | (go_at_call 24; refine c1.mono ?_; rintro e w2 ⟨rfl, hw, _⟩; have hw2 := hw.symm; clear hw; subst hw2)
      | (go_at_call 41; refine (c2 _).mono ?_; rintro e w2 ⟨rfl, hw⟩; have hw2 := hw.symm; clear hw; subst hw2))
    all_goals go_ret
    all_goals exact ⟨ret_int (by rw [HE.out]), rfl⟩

end Go.Proofs.Ytipmdjfhailfbaa.Limb3
