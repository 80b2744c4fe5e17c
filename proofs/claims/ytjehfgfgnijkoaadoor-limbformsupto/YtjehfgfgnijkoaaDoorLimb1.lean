/- What the simplest calls on lists of limbs answer: a copy, the list cut at its noughts, likeness, order, the count of bits. -/
import Derived.Test.YtjehfgfgnijkoaaDoorMem
import Derived.Test.YtjehfgfgnijkoaaDoorLimbNum
import Derived.WalkSmall
namespace Go.Proofs.YtjehfgfgnijkoaaDoor.Limb1
open Go.RowKit Mem LimbNum

theorem info32 : (Tryd.prog.info? 34).map (fun i => (i.zero, i.size, i.bytes)) = some (some (.int .u32 0), 1, 4) := by kernel_rfl

set_option maxHeartbeats 400000 in
/-- Same: are the two lists of limbs alike? -/
theorem same_any (a b : List Nat) (ao1 ao2 : Option Addr) (cap1 cap2 : Nat) (w : World) (h1 : Lies w ao1 cap1 (ints .u32 a)) (h2 : Lies w ao2 cap2 (ints .u32 b)) :
    Calls Tryd.prog 6 #[.slice ao1 a.length cap1, .slice ao2 b.length cap2] w fun e w' => e = .returned (.bool (decide (a = b))) ∧ Below w.heap.size w w' := by
  have m1 := h1.size
  have m2 := h2.size
  rw [ints_length] at m1 m2
  unfold maxLen at m1 m2
  by_cases hl : a.length = b.length
  · go_enter Tryd.func6, Tryd.ntmps6
    go_wp2
    go_loopw [13] (fun i wr => ∃ k : Nat, k ≤ a.length ∧ i = .int .i64 k ∧ a.take k = b.take k ∧ Below w.heap.size w wr) (fun i _ => a.length - (intOf i).toNat)
    case atStart => exact ⟨0, Nat.zero_le _, rfl, rfl, Below.refl _ _⟩
    case round =>
      obtain ⟨k, hk, rfl, hpre, hb⟩ := hrel
      by_cases hlt : k < a.length
      · have g1 := h1.below hb (Nat.le_refl _)
        have g2 := h2.below hb (Nat.le_refl _)
        obtain ⟨b1, off1, rfl, _, hc1⟩ := g1.2.2.2 (by rw [ints_length]; omega)
        obtain ⟨b2, off2, rfl, _, hc2⟩ := g2.2.2.2 (by rw [ints_length]; omega)
        have c1 := hc1 k (by rw [ints_length]; omega)
        have c2 := hc2 k (by rw [ints_length]; omega)
        rw [ints_get _ _ _ (by omega)] at c1 c2
        have q1 : (k : Int) < (a.length : Int) := by omega
        have q2 : (k : Int) < (b.length : Int) := by omega
        clear hc1 hc2 g1 g2 h1 h2
        have HP : Hid (a.take k = b.take k) := hpre
        clear hpre
        obtain ⟨x, hx⟩ : ∃ x, x = a.getD k 0 := ⟨_, rfl⟩
        obtain ⟨y, hy⟩ : ∃ y, y = b.getD k 0 := ⟨_, rfl⟩
        rw [← hx] at c1
        rw [← hy] at c2
        have HX : Hid (x = a.getD k 0) := hx
        have HY : Hid (y = b.getD k 0) := hy
        clear hx hy
        by_cases hxy : x = y
        · subst hxy
          go_wp2
          go_quiet (fail)
          go_wp2
          go_roundw
          case rel =>
            refine ⟨k + 1, by omega, by go_num, ?_, below_drewN hb _⟩
            rw [List.take_succ_eq_append_getElem (by omega), List.take_succ_eq_append_getElem (by omega), HP.out]
            have e1 := HX.out
            have e2 := HY.out
            simp only [List.getD_eq_getElem?_getD, List.getElem?_eq_getElem hlt, List.getElem?_eq_getElem (show k < b.length by omega), Option.getD_some] at e1 e2
            rw [← e1, ← e2]
          case measure => simp [intOf]; omega
        · go_wp2
          go_quiet (fail)
          go_wp2
          go_ret
          have hne : ¬ a = b := by rintro rfl; exact hxy (by rw [HX.out, HY.out])
          exact ⟨by simp [hne], below_drewN hb _⟩
      · have hka : k = a.length := by omega
        subst hka
        have e : a = b := by rw [List.take_length, hl, List.take_length] at hpre; exact hpre
        go_wp2
        go_ret
        exact ⟨by simp [e], hb⟩
  · have hne : ¬ a = b := by rintro rfl; exact hl rfl
    go_enter Tryd.func6, Tryd.ntmps6
    go_wp2
    go_ret
    exact ⟨by simp [hne], Below.refl _ _⟩


/-- Copy: the same limbs in new memory. -/
theorem copy_any (A : List Nat) (ao : Option Addr) (cap : Nat) (w : World) (h : Lies w ao cap (ints .u32 A)) (hA : A.length ≤ 35184372088832) :
    Calls Tryd.prog 8 #[.slice ao A.length cap] w fun e w' => ∃ ao' cap', e = .returned (.slice ao' A.length cap') ∧ w'.ownsRow w.heap.size 34 1 (.slice ao' A.length cap') A.length (ints .u32 A) ∧ Below w.heap.size w w' := by
  obtain ⟨i0, hi, hz0, hz1, hz2⟩ := info_parts info32
  have hown0 : (w.alloc (.cells #[] 34)).ownsRow w.heap.size 34 1 (.slice (some ⟨w.heap.size, 0, none⟩) 0 0) 0 [] := World.ownsRow_lit w #[] 0 (Nat.le_refl _) (by decide) rfl
  cases ao with
  | none =>
    have h0 := h.2.2.1 rfl
    have h1 := h.1
    rw [ints_length] at h1
    obtain rfl : cap = 0 := h0
    obtain rfl : A = [] := List.length_eq_zero_iff.1 (by omega)
    go_enter Tryd.func8, Tryd.ntmps8
    go_wp2_with (at_builtin; refine wpList_append_own_none rfl _ _ 22 rfl w.heap.size 34 i0 1 Tryd.underlying22 hi _ 0 [] rfl hown0 rfl ?_)
    go_ret
    exact ⟨_, _, rfl, hown0, (Below.refl _ _).alloc (Nat.le_refl _) _⟩
  | some ad =>
    go_enter Tryd.func8, Tryd.ntmps8
    go_wp2_with (at_builtin; refine wpList_append_own _ rfl _ _ 22 rfl w.heap.size 34 i0 (.int .u32 0) 1 4 Tryd.underlying22 hi hz0 hz1 hz2 rfl (by decide) _ 0 [] rfl hown0 ad A.length cap (ints .u32 A) rfl (by rw [ints_length]; omega) (h.alloc _).src (ints_one _ _) (by unfold maxLen; omega) (by omega) (by simp) ?_; intro v1 w1 hown1 hgr1 _)
    have hown2 : w1.ownsRow w.heap.size 34 1 v1 A.length (ints .u32 A) := by simpa using hown1
    have hb : Below w.heap.size w w1 := ((Below.refl w.heap.size w).alloc (Nat.le_refl _) _).grown hgr1 (by simp) (fun j hj => by cases hj; exact Nat.le_refl _)
    clear hown1 hgr1
    obtain ⟨ao', cap', rfl⟩ := owns_shape hown2
    go_ret
    exact ⟨ao', cap', rfl, hown2, hb⟩

set_option maxRecDepth 20000 in
set_option maxHeartbeats 400000 in
/-- trim: cut at the noughts at its end. -/
theorem trim_core (A : List Nat) (ao : Option Addr) (cap : Nat) (w : World) (h : Lies w ao cap (ints .u32 A)) (hs : Small A) :
    Calls Tryd.prog 17 #[.slice ao A.length cap] w fun e w' => ∃ n, A.take n = nl (val A) ∧ n ≤ A.length ∧ e = .returned (.slice ao n cap) ∧ w' = w := by
  have m1 := h.size
  have m2 := h.1
  rw [ints_length] at m1 m2
  unfold maxLen at m1
  go_enter Tryd.func17, Tryd.ntmps17
  go_wp2
  go_loop [3] (fun i => ∃ n : Nat, n ≤ A.length ∧ i = .int .i64 (n : Int) ∧ ∀ j, n ≤ j → j < A.length → A.getD j 0 = 0) (fun i => (intOf i).toNat)
  case atStart => exact ⟨A.length, Nat.le_refl _, rfl, fun j h1 h2 => by omega⟩
  case round =>
    obtain ⟨n, hn, rfl, hz⟩ := hrel
    have HZ : Hid (∀ j, n ≤ j → j < A.length → A.getD j 0 = 0) := hz
    clear hz
    by_cases h0 : n = 0
    · subst h0
      go_wp2
      all_goals go_ret
      all_goals exact ⟨0, trim_is A 0 hs (by omega) HZ.out (.inl rfl), by omega, rfl, rfl⟩
    · obtain ⟨k, rfl⟩ : ∃ k, n = k + 1 := ⟨n - 1, by omega⟩
      obtain ⟨b, off, rfl, _, hc⟩ := h.2.2.2 (by rw [ints_length]; omega)
      have hcell := hc k (by rw [ints_length]; omega)
      rw [ints_get _ _ _ (by omega)] at hcell
      have HT := fun hl => trim_is A (k + 1) hs hn HZ.out hl
      have HT2 : Hid ((k + 1 = 0 ∨ A.getD (k + 1 - 1) 0 ≠ 0) → A.take (k + 1) = nl (val A)) := HT
      obtain ⟨x, hx⟩ : ∃ x, x = A.getD k 0 := ⟨_, rfl⟩
      rw [← hx] at hcell
      have HX : Hid (x = A.getD k 0) := hx
      clear hc h HT hx
      by_cases hx0 : x = 0
      · subst hx0
        go_wp2
        go_round
        case rel =>
          refine ⟨k, by omega, by go_num, fun j h1 h2 => ?_⟩
          rcases Nat.lt_or_ge k j with h3 | h3
          · exact HZ.out j (by omega) h2
          · rw [show j = k by omega]; exact HX.out.symm
        case measure => simp [intOf]
      · go_wp2
        all_goals go_ret
        all_goals exact ⟨k + 1, HT2.out (.inr (by rw [Nat.add_sub_cancel, ← HX.out]; exact hx0)), hn, by first | rfl | simp, rfl⟩
theorem take_len (A : List Nat) (n : Nat) (h : A.take n = nl (val A)) (hn : n ≤ A.length) : n = (nl (val A)).length := by rw [← h, List.length_take, Nat.min_eq_left hn]
theorem ints_take (k : IntKind) (A : List Nat) (n : Nat) : ints k (A.take n) = (ints k A).take n := by rw [ints, ints, List.map_take]
theorem trim_any (A : List Nat) (ao : Option Addr) (cap : Nat) (w : World) (h : Lies w ao cap (ints .u32 A)) (hs : Small A) :
    Calls Tryd.prog 17 #[.slice ao A.length cap] w fun e w' => e = .returned (.slice ao (nl (val A)).length cap) ∧ w' = w ∧ Lies w ao cap (ints .u32 (nl (val A))) := by
  refine (trim_core A ao cap w h hs).mono ?_
  rintro e w' ⟨n, h1, h2, rfl, rfl⟩
  refine ⟨by rw [take_len A n h1 h2], rfl, ?_⟩
  rw [← h1, ints_take]
  exact h.take n
/-- trim of a row of one's own. -/
theorem trim_own (A : List Nat) (base : Nat) (ao : Option Addr) (cap : Nat) (w : World) (h : w.ownsRow base 34 1 (.slice ao A.length cap) A.length (ints .u32 A)) (hs : Small A) :
    Calls Tryd.prog 17 #[.slice ao A.length cap] w fun e w' => e = .returned (.slice ao (nl (val A)).length cap) ∧ w' = w ∧ w.ownsRow base 34 1 (.slice ao (nl (val A)).length cap) (nl (val A)).length (ints .u32 (nl (val A))) := by
  refine (trim_core A ao cap w (lies_of_owns h) hs).mono ?_
  rintro e w' ⟨n, h1, h2, rfl, rfl⟩
  have h3 := owns_take h n h2
  rw [← ints_take, h1] at h3
  refine ⟨by rw [take_len A n h1 h2], rfl, ?_⟩
  have h4 := take_len A n h1 h2
  rw [← h4]; exact h3
end Go.Proofs.YtjehfgfgnijkoaaDoor.Limb1
