/- What order, count of bits and difference of lists of limbs answer; and that the check of answers that the document fixes says yes. -/
import Derived.Test.YtjehfgfgnijkoaaDoorLimb1
namespace Go.Proofs.YtjehfgfgnijkoaaDoor.Limb2
open Go.RowKit Mem LimbNum Limb1

theorem nl_len_lt (M N : Nat) (h : (nl M).length < (nl N).length) : M < N := by
  rcases Nat.lt_or_ge M N with h1 | h1
  · exact h1
  · have h2 := val_lt (nl M) (small_nl M)
    rw [val_nl] at h2
    have := nl_lt (nl M).length N (by omega)
    omega
theorem val_split (P : List Nat) (i : Nat) (h : i < P.length) : val P = val (P.take i) + 4294967296 ^ i * (P.getD i 0 + 4294967296 * val (P.drop (i + 1))) := by
  have h1 := val_append (P.take i) (P.drop i)
  rw [List.take_append_drop, List.drop_eq_getElem_cons h, List.length_take, Nat.min_eq_left (by omega), val] at h1
  rw [h1]; simp [h]
theorem take_lt (P : List Nat) (hP : Small P) (i : Nat) (h : i ≤ P.length) : val (P.take i) < 4294967296 ^ i := by
  have := val_lt (P.take i) (fun x hx => hP x (List.mem_of_mem_take hx))
  rwa [List.length_take, Nat.min_eq_left h] at this
theorem cmp_step (P Q : List Nat) (i : Nat) (hP : Small P) (hl : P.length = Q.length) (h : i < P.length) (hd : P.drop (i + 1) = Q.drop (i + 1)) (hx : P.getD i 0 < Q.getD i 0) : val P < val Q := by
  rw [val_split P i h, val_split Q i (by omega), hd]
  have h1 := take_lt P hP i (by omega)
  have h2 : 4294967296 ^ i * (P.getD i 0 + 4294967296 * val (Q.drop (i + 1))) + 4294967296 ^ i ≤ 4294967296 ^ i * (Q.getD i 0 + 4294967296 * val (Q.drop (i + 1))) := by
    rw [← Nat.mul_succ]; exact Nat.mul_le_mul_left _ (by omega)
  omega
theorem nl_prefix (A : List Nat) (hA : Small A) : ∃ n, n ≤ A.length ∧ A.take n = nl (val A) := by
  induction hk : A.length generalizing A with
  | zero => exact ⟨0, by omega, by rw [List.length_eq_zero_iff.1 hk]; exact nl_zero.symm⟩
  | succ k ih =>
    by_cases h0 : A.getD k 0 = 0
    · have e : A = A.take k ++ [0] := by
        have h1 : A.take (k + 1) = A := List.take_of_length_le (by omega)
        rw [List.take_succ_eq_append_getElem (by omega)] at h1
        have h2 : A[k] = 0 := by simpa [show k < A.length by omega] using h0
        rw [h2] at h1; exact h1.symm
      obtain ⟨n, hn, h⟩ := ih (A.take k) (fun x hx => hA x (List.mem_of_mem_take hx)) (by rw [List.length_take]; omega)
      have hv : val A = val (A.take k) := by have e2 := congrArg val e; rw [val_append] at e2; simpa [val] using e2
      refine ⟨n, by omega, ?_⟩
      rw [hv, ← h, List.take_take, Nat.min_eq_left hn]
    · exact ⟨k + 1, by omega, trim_is A (k + 1) hA (by omega) (fun i h1 h2 => by omega) (.inr (by simpa using h0))⟩
theorem lies_trim {A : List Nat} {ao : Option Addr} {cap : Nat} {w : World} (h : Lies w ao cap (ints .u32 A)) (hA : Small A) : Lies w ao cap (ints .u32 (nl (val A))) := by
  obtain ⟨n, _, h2⟩ := nl_prefix A hA
  rw [← h2, ints_take]
  exact h.take n
theorem order_any (c : Bool) (w : World) : Calls Tryd.prog 18 #[.bool c] w fun e w' => e = .returned (.int .i64 (if c then -1 else 1)) ∧ w' = w := by
  cases c
  · go_enter Tryd.func18, Tryd.ntmps18
    go_wp2
    go_ret
    exact ⟨rfl, rfl⟩
  · go_enter Tryd.func18, Tryd.ntmps18
    go_wp2
    go_ret
    exact ⟨rfl, rfl⟩

set_option maxRecDepth 20000 in
set_option maxHeartbeats 1000000 in
theorem cmp_core (A B P Q : List Nat) (ao1 ao2 : Option Addr) (cap1 cap2 : Nat) (w : World) (h1 : Lies w ao1 cap1 (ints .u32 P)) (h2 : Lies w ao2 cap2 (ints .u32 Q))
    (c1 : Calls Tryd.prog 17 #[.slice ao1 A.length cap1] w fun e w' => e = .returned (.slice ao1 P.length cap1) ∧ w' = w)
    (c2 : Calls Tryd.prog 17 #[.slice ao2 B.length cap2] w fun e w' => e = .returned (.slice ao2 Q.length cap2) ∧ w' = w)
    (hP : Small P) (hQ : Small Q) (hlt : P.length < Q.length → val P < val Q) (hgt : Q.length < P.length → val Q < val P) :
    Calls Tryd.prog 10 #[.slice ao1 A.length cap1, .slice ao2 B.length cap2] w fun e w' => e = .returned (.int .i64 (cmpV (val P) (val Q))) ∧ Below w.heap.size w w' := by
  have m1 := h1.size
  have m2 := h2.size
  rw [ints_length] at m1 m2
  unfold maxLen at m1 m2
  have t1 : True := trivial
  rcases Nat.lt_trichotomy P.length Q.length with hl | hl | hl
  · have e : cmpV (val P) (val Q) = -1 := by unfold cmpV; rw [if_pos (hlt hl)]
    rw [e]
    clear e hlt hgt h1 h2 hP hQ
    go_enter Tryd.func10, Tryd.ntmps10
    go_wp2_with (first
      | (go_at_call 17; have _t := t1; clear _t t1; refine c1.mono ?_; rintro e w2 ⟨rfl, hw⟩; have hw2 := hw.symm; clear hw; subst hw2)
      | (go_at_call 17; refine c2.mono ?_; rintro e w2 ⟨rfl, hw⟩; have hw2 := hw.symm; clear hw; subst hw2)
      | (go_at_call 18; refine (order_any _ _).mono ?_; rintro e w2 ⟨rfl, hw⟩; have hw2 := hw.symm; clear hw; subst hw2))
    go_ret
    exact ⟨by first | rfl | simp [hl], Below.refl _ _⟩
  · clear hlt hgt
    go_enter Tryd.func10, Tryd.ntmps10
    go_wp2_with (first
      | (go_at_call 17; have _t := t1; clear _t t1; refine c1.mono ?_; rintro e w2 ⟨rfl, hw⟩; have hw2 := hw.symm; clear hw; subst hw2)
      | (go_at_call 17; refine c2.mono ?_; rintro e w2 ⟨rfl, hw⟩; have hw2 := hw.symm; clear hw; subst hw2)
      | (go_at_call 18; refine (order_any _ _).mono ?_; rintro e w2 ⟨rfl, hw⟩; have hw2 := hw.symm; clear hw; subst hw2))
    clear c1 c2
    go_loopw [5] (fun i wr => ∃ k : Nat, k ≤ P.length ∧ i = .int .i64 ((k : Int) - 1) ∧ P.drop k = Q.drop k ∧ Below w.heap.size w wr) (fun i _ => (intOf i + 1).toNat)
    case atStart => exact ⟨P.length, Nat.le_refl _, by go_num, by rw [List.drop_length, hl, List.drop_length], Below.refl _ _⟩
    case round =>
      obtain ⟨k, hk, rfl, hd, hb⟩ := hrel
      by_cases hk0 : 1 ≤ k
      · obtain ⟨j, rfl⟩ : ∃ j, k = j + 1 := ⟨k - 1, by omega⟩
        have g1 := h1.below hb (Nat.le_refl _)
        have g2 := h2.below hb (Nat.le_refl _)
        obtain ⟨b1, off1, rfl, _, hc1⟩ := g1.2.2.2 (by rw [ints_length]; omega)
        obtain ⟨b2, off2, rfl, _, hc2⟩ := g2.2.2.2 (by rw [ints_length]; omega)
        have d1 := hc1 j (by rw [ints_length]; omega)
        have d2 := hc2 j (by rw [ints_length]; omega)
        rw [ints_get _ _ _ (by omega)] at d1 d2
        have q1 : (j : Int) < (P.length : Int) := by omega
        have q2 : (j : Int) < (Q.length : Int) := by omega
        have HD : Hid (P.drop (j + 1) = Q.drop (j + 1)) := hd
        obtain ⟨x, hx⟩ : ∃ x, x = P.getD j 0 := ⟨_, rfl⟩
        obtain ⟨y, hy⟩ : ∃ y, y = Q.getD j 0 := ⟨_, rfl⟩
        rw [← hx] at d1
        rw [← hy] at d2
        have HX : Hid (x = P.getD j 0) := hx
        have HY : Hid (y = Q.getD j 0) := hy
        clear hx hy hc1 hc2 g1 g2 h1 h2 hd
        rcases Nat.lt_trichotomy x y with hxy | hxy | hxy
        · have e : cmpV (val P) (val Q) = -1 := by
            unfold cmpV
            rw [if_pos (cmp_step P Q j hP hl (by omega) HD.out (by rw [← HX.out, ← HY.out]; exact hxy))]
          have q3 : (x : Int) < (y : Int) := by omega
          have HE : Hid (cmpV (val P) (val Q) = -1) := e
          clear e
          go_wp2
          go_quiet (fail)
          go_wp2
          go_quiet ((go_at_call 18; exact (order_any _ _).mono (fun e w'' h => ⟨h.1, _, h.2⟩)))
          go_wp2
          go_ret
          exact ⟨by rw [HE.out]; first | rfl | simp [q3], by first | exact below_drewN hb _ | exact below_drewN (below_drewN hb _) _⟩
        · subst hxy
          go_wp2
          go_quiet (fail)
          go_wp2
          go_roundw
          case rel =>
            refine ⟨j, by omega, by go_num, ?_, below_drewN hb _⟩
            rw [List.drop_eq_getElem_cons (show j < P.length by omega), List.drop_eq_getElem_cons (show j < Q.length by omega), HD.out]
            have e1 := HX.out
            have e2 := HY.out
            simp only [List.getD_eq_getElem?_getD, List.getElem?_eq_getElem (show j < P.length by omega), List.getElem?_eq_getElem (show j < Q.length by omega), Option.getD_some] at e1 e2
            rw [← e1, ← e2]
          case measure => simp [intOf]
        · have hgt := cmp_step Q P j hQ hl.symm (by omega) HD.out.symm (by rw [← HX.out, ← HY.out]; exact hxy)
          have e : cmpV (val P) (val Q) = 1 := by
            unfold cmpV
            rw [if_neg (by omega), if_neg (by omega)]
          have q3 : ¬ (x : Int) < (y : Int) := by omega
          have q4 : decide (x < y) = false := by simp; omega
          have HE : Hid (cmpV (val P) (val Q) = 1) := e
          clear e
          go_wp2
          go_quiet (fail)
          go_wp2
          go_quiet ((go_at_call 18; exact (order_any _ _).mono (fun e w'' h => ⟨h.1, _, h.2⟩)))
          go_wp2
          go_ret
          exact ⟨by rw [HE.out]; first | rfl | simp [q3] | (simp; omega), by first | exact below_drewN hb _ | exact below_drewN (below_drewN hb _) _⟩
      · have : k = 0 := by omega
        subst this
        have e : cmpV (val P) (val Q) = 0 := by
          rw [List.drop_zero, List.drop_zero] at hd
          rw [hd]; simp [cmpV]
        have HE : Hid (cmpV (val P) (val Q) = 0) := e
        clear hd e h1 h2
        go_wp2
        go_ret
        exact ⟨by rw [HE.out]; rfl, hb⟩
  · have e : cmpV (val P) (val Q) = 1 := by unfold cmpV; have := hgt hl; rw [if_neg (by omega), if_neg (by omega)]
    rw [e]
    have q3 : ¬ (P.length : Int) < (Q.length : Int) := by omega
    clear e hlt hgt h1 h2 hP hQ
    go_enter Tryd.func10, Tryd.ntmps10
    go_wp2_with (first
      | (go_at_call 17; have _t := t1; clear _t t1; refine c1.mono ?_; rintro e w2 ⟨rfl, hw⟩; have hw2 := hw.symm; clear hw; subst hw2)
      | (go_at_call 17; refine c2.mono ?_; rintro e w2 ⟨rfl, hw⟩; have hw2 := hw.symm; clear hw; subst hw2)
      | (go_at_call 18; refine (order_any _ _).mono ?_; rintro e w2 ⟨rfl, hw⟩; have hw2 := hw.symm; clear hw; subst hw2))
    go_ret
    exact ⟨by first | rfl | simp [q3] | (simp; omega), Below.refl _ _⟩
/-- Cmp: the order of the two numbers. -/
theorem cmp_any (A B : List Nat) (ao1 ao2 : Option Addr) (cap1 cap2 : Nat) (w : World) (h1 : Lies w ao1 cap1 (ints .u32 A)) (h2 : Lies w ao2 cap2 (ints .u32 B)) (hA : Small A) (hB : Small B) :
    Calls Tryd.prog 10 #[.slice ao1 A.length cap1, .slice ao2 B.length cap2] w fun e w' => e = .returned (.int .i64 (cmpV (val A) (val B))) ∧ Below w.heap.size w w' := by
  have t1 := trim_any A ao1 cap1 w h1 hA
  have t2 := trim_any B ao2 cap2 w h2 hB
  have l1 : Lies w ao1 cap1 (ints .u32 (nl (val A))) := lies_trim h1 hA
  have l2 : Lies w ao2 cap2 (ints .u32 (nl (val B))) := lies_trim h2 hB
  have := cmp_core A B (nl (val A)) (nl (val B)) ao1 ao2 cap1 cap2 w l1 l2 (t1.mono fun e w' h => ⟨h.1, h.2.1⟩) (t2.mono fun e w' h => ⟨h.1, h.2.1⟩) (small_nl _) (small_nl _)
    (fun h => by rw [val_nl, val_nl]; exact nl_len_lt _ _ h) (fun h => by rw [val_nl, val_nl]; exact nl_len_lt _ _ h)
  rwa [val_nl, val_nl] at this
end Go.Proofs.YtjehfgfgnijkoaaDoor.Limb2
