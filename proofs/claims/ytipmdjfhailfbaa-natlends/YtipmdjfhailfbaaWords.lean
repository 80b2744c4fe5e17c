/- What the calls between 64-bit words and lists of limbs answer: the program's own and the reference's. -/
import Derived.Test.YtipmdjfhailfbaaLimb4
import Derived.Test.YtipmdjfhailfbaaRefL
namespace Go.Proofs.Ytipmdjfhailfbaa.Words
open Go.RowKit Mem LimbNum Limb1 Limb2 RefL

/-- P, and behind it the bits of K, are L. -/
def RestB (P : List Bool) (K : Nat) (L : List Bool) : Prop := P ++ nb K = L
theorem bit1 (K : Nat) : ((K : Int) % 2 == 1) = decide (K % 2 = 1) := by rw [Bool.eq_iff_iff]; simp; omega

/-- Word: the limbs of a word, in new memory. -/
theorem word_any (U : Nat) (w : World) (hU : U < 18446744073709551616) :
    Calls Try.prog 21 #[.int .u64 (U : Int)] w fun e w' => ∃ ao cap, e = .returned (.slice ao (nl U).length cap) ∧ w'.ownsRow w.heap.size 33 1 (.slice ao (nl U).length cap) (nl U).length (ints .u32 (nl U)) ∧ Below w.heap.size w w' := by
  obtain ⟨lo, hlo⟩ : ∃ lo, lo = U % 4294967296 := ⟨_, rfl⟩
  obtain ⟨hi, hhi⟩ : ∃ hi, hi = U / 4294967296 := ⟨_, rfl⟩
  have hs : Small [lo, hi] := by intro x hx; simp only [List.mem_cons, List.not_mem_nil, or_false] at hx; omega
  have hv : val [lo, hi] = U := by simp only [val]; omega
  have e1 : ((U : Int) % 4294967296) = (lo : Int) := by omega
  have e2 : ((U : Int) / 4294967296) = (hi : Int) := by omega
  have e3 : (hi : Int) ≤ 4294967295 := by omega
  have hown := World.ownsRow_lit (base := w.heap.size) (e := 33) (size := 1) w (ints .u32 [lo, hi]).toArray 2 (Nat.le_refl _) (by decide) rfl
  have c1 := trim_own [lo, hi] w.heap.size (some ⟨w.heap.size, 0, none⟩) 2 _ (by simpa using hown) hs
  rw [hv] at c1
  have c2 : Calls Try.prog 24 #[.slice (some ⟨w.heap.size, 0, none⟩) 2 2] (w.alloc (.cells #[.int .u32 (lo : Int), .int .u32 (hi : Int)] 33)) fun e w' => e = .returned (.slice (some ⟨w.heap.size, 0, none⟩) (nl U).length 2) ∧ w' = w.alloc (.cells #[.int .u32 (lo : Int), .int .u32 (hi : Int)] 33) ∧
      (w.alloc (.cells #[.int .u32 (lo : Int), .int .u32 (hi : Int)] 33)).ownsRow w.heap.size 33 1 (.slice (some ⟨w.heap.size, 0, none⟩) (nl U).length 2) (nl U).length (ints .u32 (nl U)) := c1
  clear c1 hown hv hs hlo hhi hU
  generalize nl U = L at c2
  go_enter Try.func21, Try.ntmps21
  go_wp2_with (go_at_call 24; refine c2.mono ?_; rintro e w5 ⟨rfl, hw, hown5⟩; have hw2 := hw.symm; clear hw; subst hw2)
  go_ret
  exact ⟨_, _, rfl, hown5, (Below.refl _ _).alloc (Nat.le_refl _) _⟩

theorem or32 (acc x k : Nat) (hk : k < 2) (h1 : acc < 4294967296 ^ k) (hx : x < 4294967296) :
    ∃ S : Nat, IntKind.u64.wrap ((x : Int) * 2 ^ (32 * k)) = (S : Int) ∧ bits BinOp.or IntKind.u64 (acc : Int) (S : Int) = ((acc + 4294967296 ^ k * x : Nat) : Int) := by
  have h2 : x * 2 ^ (32 * k) < 18446744073709551616 := by
    have h3 : (2 : Nat) ^ (32 * k) ≤ 2 ^ 32 := Nat.pow_le_pow_right (by omega) (by omega)
    have h4 : x * 2 ^ (32 * k) ≤ 4294967295 * 2 ^ 32 := Nat.mul_le_mul (by omega) h3
    omega
  have h5 : acc < 18446744073709551616 := by
    have h3 : (4294967296 : Nat) ^ k ≤ 4294967296 ^ 1 := Nat.pow_le_pow_right (by omega) (by omega)
    omega
  refine ⟨x * 2 ^ (32 * k), ?_, ?_⟩
  · rw [show (x : Int) * 2 ^ (32 * k) = ((x * 2 ^ (32 * k) : Nat) : Int) by simp, IntKind.wrap_u64]; omega
  · rw [u64_or_nat _ _ h5 h2, Nat.or_comm, nat_join (32 * k) _ _ (by simp) (by rw [pow32]; exact h1), Nat.add_comm, pow32, Nat.mul_comm x]
theorem two_bits (N : Nat) : ((nl N).length ≤ 2 ↔ (nb N).length ≤ 64) := by
  constructor
  · intro h
    have h1 := val_lt (nl N) (small_nl N)
    rw [val_nl] at h1
    have h2 : (4294967296 : Nat) ^ (nl N).length ≤ 4294967296 ^ 2 := Nat.pow_le_pow_right (by omega) h
    exact nb_lt 64 N (by omega)
  · intro h
    have h1 := fromL_lt (nb N)
    rw [fromL_nb] at h1
    have h2 : (2 : Nat) ^ (nb N).length ≤ 2 ^ 64 := Nat.pow_le_pow_right (by omega) h
    exact nl_lt 2 N (by omega)
theorem low_val (N : Nat) : val ((nl N).take 2) = N % 18446744073709551616 := by
  have h1 := val_append ((nl N).take 2) ((nl N).drop 2)
  rw [List.take_append_drop, val_nl] at h1
  have hs : Small ((nl N).take 2) := fun x hx => small_nl N x (List.mem_of_mem_take hx)
  rcases Nat.lt_or_ge 2 (nl N).length with h | h
  · rw [List.length_take, Nat.min_eq_left (by omega)] at h1
    have h2 := val_lt _ hs
    rw [List.length_take, Nat.min_eq_left (by omega)] at h2
    omega
  · have h3 := val_lt (nl N) (small_nl N)
    have h4 : (4294967296 : Nat) ^ (nl N).length ≤ 4294967296 ^ 2 := Nat.pow_le_pow_right (by omega) h
    rw [val_nl] at h3
    rw [List.take_of_length_le h, val_nl]
    omega

set_option maxRecDepth 20000 in
set_option maxHeartbeats 400000 in
/-- Low: the number modulo 2^64, and whether that is all of it. -/
theorem low_core (A P : List Nat) (ao : Option Addr) (cap : Nat) (w : World) (hL0 : Lies w ao cap (ints .u32 P)) (hP : Small P)
    (c1 : Calls Try.prog 24 #[.slice ao A.length cap] w fun e w' => e = .returned (.slice ao P.length cap) ∧ w' = w) :
    Calls Try.prog 20 #[.slice ao A.length cap] w fun e w' => e = .returned (.tuple #[.int .u64 ((val (P.take 2) : Nat) : Int), .bool (decide (P.length ≤ 2))]) ∧ w' = w := by
  have m1 := hL0.size
  rw [ints_length] at m1
  unfold maxLen at m1
  go_enter Try.func20, Try.ntmps20
  go_wp2_with (go_at_call 24; refine c1.mono ?_; rintro e w2 ⟨rfl, hw⟩; have hw2 := hw.symm; clear hw; subst hw2)
  clear c1
  go_loop [4, 5] (fun u i => ∃ k : Nat, k ≤ P.length ∧ k ≤ 2 ∧ i = .int .i64 k ∧ u = .int .u64 ((val (P.take k) : Nat) : Int)) (fun _ i => 2 - (intOf i).toNat)
  case atStart => exact ⟨0, Nat.zero_le _, by omega, rfl, by simp [val]⟩
  case round =>
    obtain ⟨k, hk1, hk2, rfl, rfl⟩ := hrel
    by_cases hlt : k < P.length ∧ k < 2
    · obtain ⟨q1, q2⟩ := hlt
      obtain ⟨b, off, rfl, _, hc⟩ := hL0.2.2.2 (by rw [ints_length]; omega)
      have hcell := hc k (by rw [ints_length]; omega)
      rw [ints_get _ _ _ q1] at hcell
      have hx := getD_small P hP k
      have hv := val_take P k q1
      obtain ⟨S, s1, s2⟩ := or32 (val (P.take k)) (P.getD k 0) k q2 (take_lt P hP k hk1) hx
      rw [← hv] at s2
      have HV := hv
      generalize P.getD k 0 = x at hcell hx s1
      obtain ⟨X, hX⟩ : ∃ X, val (P.take k) = X := ⟨_, rfl⟩
      obtain ⟨Y, hY⟩ : ∃ Y, val (P.take (k + 1)) = Y := ⟨_, rfl⟩
      rw [hX, hY] at s2
      simp only [hX]
      have HY : Hid (val (P.take (k + 1)) = Y) := hY
      clear hc HV hv hX hY hL0
      go_wp2
      go_round
      case rel => exact ⟨k + 1, by omega, by omega, by go_num, by rw [HY.out]⟩
      case measure => simp [intOf]; omega
    · have e : P.take k = P.take 2 := by
        rcases Nat.lt_or_ge k 2 with h1 | h1
        · rw [List.take_of_length_le (by omega), List.take_of_length_le (by omega)]
        · rw [show k = 2 by omega]
      rw [e]
      by_cases hl : k < P.length
      · have h2 : 2 ≤ k := by omega
        clear hL0 e hlt
        go_wp2
        go_ret2
        exact ⟨by simp; omega, rfl⟩
      · have h2 : P.length ≤ k := by omega
        clear hL0 e hlt
        go_wp2
        go_ret2
        exact ⟨by simp; omega, rfl⟩
theorem low_any (A : List Nat) (ao : Option Addr) (cap : Nat) (w : World) (h : Lies w ao cap (ints .u32 A)) (hA : Small A) :
    Calls Try.prog 20 #[.slice ao A.length cap] w fun e w' => e = .returned (.tuple #[.int .u64 ((val A % 18446744073709551616 : Nat) : Int), .bool (decide ((nb (val A)).length ≤ 64))]) ∧ w' = w := by
  have := low_core A (nl (val A)) ao cap w (lies_trim h hA) (small_nl _) ((trim_any A ao cap w h hA).mono fun _ _ h => ⟨h.1, h.2.1⟩)
  rw [low_val] at this
  have e : decide ((nl (val A)).length ≤ 2) = decide ((nb (val A)).length ≤ 64) := by rw [Bool.eq_iff_iff]; simp [two_bits]
  rwa [e] at this
end Go.Proofs.Ytipmdjfhailfbaa.Words
