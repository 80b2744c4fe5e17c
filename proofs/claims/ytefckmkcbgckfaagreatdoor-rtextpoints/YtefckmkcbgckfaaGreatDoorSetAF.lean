/- What the simplest calls on lists of limbs answer: a copy, the list cut at its noughts, likeness, order, the count of bits; What the reference's helpers on lists of bits answer: the bits of limbs, the limbs of bits, cut at their end; What the reference's order, sum and difference of lists of bits answer; What the reference's shifts of lists of bits answer; What the reference's product of lists of b. -/
import Derived.Test.YtefckmkcbgckfaaGreatDoorSetAB
import Derived.Test.YtefckmkcbgckfaaGreatDoorSetAA
import Derived.WalkSmall
/- What the simplest calls on lists of limbs answer: a copy, the list cut at its noughts, likeness, order, the count of bits. -/
namespace Go.Proofs.YtefckmkcbgckfaaGreatDoor.Limb1
open Go.RowKit Mem LimbNum

theorem info32 : (Tryz.prog.info? 48).map (fun i => (i.zero, i.size, i.bytes)) = some (some (.int .u32 0), 1, 4) := by kernel_rfl

/-- Copy: the same limbs in new memory. -/
theorem copy_any (A : List Nat) (ao : Option Addr) (cap : Nat) (w : World) (h : Lies w ao cap (ints .u32 A)) (hA : A.length ≤ 35184372088832) :
    Calls Tryz.prog 15 #[.slice ao A.length cap] w fun e w' => ∃ ao' cap', e = .returned (.slice ao' A.length cap') ∧ w'.ownsRow w.heap.size 48 1 (.slice ao' A.length cap') A.length (ints .u32 A) ∧ Below w.heap.size w w' := by
  obtain ⟨i0, hi, hz0, hz1, hz2⟩ := info_parts info32
  have hown0 : (w.alloc (.cells #[] 48)).ownsRow w.heap.size 48 1 (.slice (some ⟨w.heap.size, 0, none⟩) 0 0) 0 [] := World.ownsRow_lit w #[] 0 (Nat.le_refl _) (by decide) rfl
  cases ao with
  | none =>
    have h0 := h.2.2.1 rfl
    have h1 := h.1
    rw [ints_length] at h1
    obtain rfl : cap = 0 := h0
    obtain rfl : A = [] := List.length_eq_zero_iff.1 (by omega)
    go_enter Tryz.func15, Tryz.ntmps15
    go_wp2_with (at_builtin; refine wpList_append_own_none rfl _ _ 22 rfl w.heap.size 48 i0 1 Tryz.underlying22 hi _ 0 [] rfl hown0 rfl ?_)
    go_ret
    exact ⟨_, _, rfl, hown0, (Below.refl _ _).alloc (Nat.le_refl _) _⟩
  | some ad =>
    go_enter Tryz.func15, Tryz.ntmps15
    go_wp2_with (at_builtin; refine wpList_append_own _ rfl _ _ 22 rfl w.heap.size 48 i0 (.int .u32 0) 1 4 Tryz.underlying22 hi hz0 hz1 hz2 rfl (by decide) _ 0 [] rfl hown0 ad A.length cap (ints .u32 A) rfl (by rw [ints_length]; omega) (h.alloc _).src (ints_one _ _) (by unfold maxLen; omega) (by omega) (by simp) ?_; intro v1 w1 hown1 hgr1 _)
    have hown2 : w1.ownsRow w.heap.size 48 1 v1 A.length (ints .u32 A) := by simpa using hown1
    have hb : Below w.heap.size w w1 := ((Below.refl w.heap.size w).alloc (Nat.le_refl _) _).grown hgr1 (by simp) (fun j hj => by cases hj; exact Nat.le_refl _)
    clear hown1 hgr1
    obtain ⟨ao', cap', rfl⟩ := owns_shape hown2
    go_ret
    exact ⟨ao', cap', rfl, hown2, hb⟩

set_option maxRecDepth 20000 in
set_option maxHeartbeats 400000 in
/-- trim: cut at the noughts at its end. -/
theorem trim_core (A : List Nat) (ao : Option Addr) (cap : Nat) (w : World) (h : Lies w ao cap (ints .u32 A)) (hs : Small A) :
    Calls Tryz.prog 47 #[.slice ao A.length cap] w fun e w' => ∃ n, A.take n = nl (val A) ∧ n ≤ A.length ∧ e = .returned (.slice ao n cap) ∧ w' = w := by
  have m1 := h.size
  have m2 := h.1
  rw [ints_length] at m1 m2
  unfold maxLen at m1
  go_enter Tryz.func47, Tryz.ntmps47
  go_wp2
  go_loop [3] (fun i => ∃ n : Nat, n ≤ A.length ∧ i = .int .i64 (n : Int) ∧ ∀ j, n ≤ j → j < A.length → A.getD j 0 = 0) (fun i => (intOf i).toNat)
  case atStart => exact ⟨A.length, Nat.le_refl _, rfl, fun j h1 h2 => by omega⟩
  case round =>
    obtain ⟨n, hn, rfl, hz⟩ := hrel
    have HZ : Hid (∀ j, n ≤ j → j < A.length → A.getD j 0 = 0) := hz
    clear hz
    by_cases h0 : n = 0
    · subst h0
      go_wp2
      all_goals go_ret
      all_goals exact ⟨0, trim_is A 0 hs (by omega) HZ.out (.inl rfl), by omega, rfl, rfl⟩
    · obtain ⟨k, rfl⟩ : ∃ k, n = k + 1 := ⟨n - 1, by omega⟩
      obtain ⟨b, off, rfl, _, hc⟩ := h.2.2.2 (by rw [ints_length]; omega)
      have hcell := hc k (by rw [ints_length]; omega)
      rw [ints_get _ _ _ (by omega)] at hcell
      have HT := fun hl => trim_is A (k + 1) hs hn HZ.out hl
      have HT2 : Hid ((k + 1 = 0 ∨ A.getD (k + 1 - 1) 0 ≠ 0) → A.take (k + 1) = nl (val A)) := HT
      obtain ⟨x, hx⟩ : ∃ x, x = A.getD k 0 := ⟨_, rfl⟩
      rw [← hx] at hcell
      have HX : Hid (x = A.getD k 0) := hx
      clear hc h HT hx
      by_cases hx0 : x = 0
      · subst hx0
        go_wp2
        go_round
        case rel =>
          refine ⟨k, by omega, by go_num, fun j h1 h2 => ?_⟩
          rcases Nat.lt_or_ge k j with h3 | h3
          · exact HZ.out j (by omega) h2
          · rw [show j = k by omega]; exact HX.out.symm
        case measure => simp [intOf]
      · go_wp2
        all_goals go_ret
        all_goals exact ⟨k + 1, HT2.out (.inr (by rw [Nat.add_sub_cancel, ← HX.out]; exact hx0)), hn, by first | rfl | simp, rfl⟩
theorem take_len (A : List Nat) (n : Nat) (h : A.take n = nl (val A)) (hn : n ≤ A.length) : n = (nl (val A)).length := by rw [← h, List.length_take, Nat.min_eq_left hn]
theorem ints_take (k : IntKind) (A : List Nat) (n : Nat) : ints k (A.take n) = (ints k A).take n := by rw [ints, ints, List.map_take]
theorem trim_any (A : List Nat) (ao : Option Addr) (cap : Nat) (w : World) (h : Lies w ao cap (ints .u32 A)) (hs : Small A) :
    Calls Tryz.prog 47 #[.slice ao A.length cap] w fun e w' => e = .returned (.slice ao (nl (val A)).length cap) ∧ w' = w ∧ Lies w ao cap (ints .u32 (nl (val A))) := by
  refine (trim_core A ao cap w h hs).mono ?_
  rintro e w' ⟨n, h1, h2, rfl, rfl⟩
  refine ⟨by rw [take_len A n h1 h2], rfl, ?_⟩
  rw [← h1, ints_take]
  exact h.take n
/-- trim of a row of one's own. -/
theorem trim_own (A : List Nat) (base : Nat) (ao : Option Addr) (cap : Nat) (w : World) (h : w.ownsRow base 48 1 (.slice ao A.length cap) A.length (ints .u32 A)) (hs : Small A) :
    Calls Tryz.prog 47 #[.slice ao A.length cap] w fun e w' => e = .returned (.slice ao (nl (val A)).length cap) ∧ w' = w ∧ w.ownsRow base 48 1 (.slice ao (nl (val A)).length cap) (nl (val A)).length (ints .u32 (nl (val A))) := by
  refine (trim_core A ao cap w (lies_of_owns h) hs).mono ?_
  rintro e w' ⟨n, h1, h2, rfl, rfl⟩
  have h3 := owns_take h n h2
  rw [← ints_take, h1] at h3
  refine ⟨by rw [take_len A n h1 h2], rfl, ?_⟩
  have h4 := take_len A n h1 h2
  rw [← h4]; exact h3
end Go.Proofs.YtefckmkcbgckfaaGreatDoor.Limb1

/- What the reference's helpers on lists of bits answer: the bits of limbs, the limbs of bits, cut at their end. -/
namespace Go.Proofs.YtefckmkcbgckfaaGreatDoor.RefL
open Go.RowKit Mem LimbNum Limb1

theorem infoB : (Tryz.prog.info? 4).map (fun i => (i.zero, i.size, i.bytes)) = some (some (.bool false), 1, 1) := by kernel_rfl
def bools (l : List Bool) : List Value := l.map Value.bool
theorem bools_length (l : List Bool) : (bools l).length = l.length := by simp [bools]
theorem bools_at (l : List Bool) (j : Nat) (h : j < l.length) : (bools l)[j]? = some (.bool (l.getD j false)) := by simp [bools, h]

set_option maxRecDepth 20000 in
set_option maxHeartbeats 400000 in
theorem cut_core (l : List Bool) (ao : Option Addr) (cap : Nat) (w : World) (h : Lies w ao cap (bools l)) :
    Calls Tryz.prog 36 #[.slice ao l.length cap] w fun e w' => ∃ n, l.take n = nb (fromL l) ∧ n ≤ l.length ∧ e = .returned (.slice ao n cap) ∧ w' = w := by
  have m1 := h.size
  have m2 := h.1
  rw [bools_length] at m1 m2
  unfold maxLen at m1
  go_enter Tryz.func36, Tryz.ntmps36
  go_wp2
  go_loop [3] (fun i => ∃ n : Nat, n ≤ l.length ∧ i = .int .i64 (n : Int) ∧ ∀ j, n ≤ j → j < l.length → l.getD j false = false) (fun i => (intOf i).toNat)
  case atStart => exact ⟨l.length, Nat.le_refl _, rfl, fun j h1 h2 => by omega⟩
  case round =>
    obtain ⟨n, hn, rfl, hz⟩ := hrel
    have HZ : Hid (∀ j, n ≤ j → j < l.length → l.getD j false = false) := hz
    clear hz
    by_cases h0 : n = 0
    · subst h0
      go_wp2
      all_goals go_ret
      all_goals exact ⟨0, cut_is l 0 (by omega) HZ.out (.inl rfl), by omega, rfl, rfl⟩
    · obtain ⟨k, rfl⟩ : ∃ k, n = k + 1 := ⟨n - 1, by omega⟩
      obtain ⟨b, off, rfl, _, hc⟩ := h.2.2.2 (by rw [bools_length]; omega)
      have hcell := hc k (by rw [bools_length]; omega)
      rw [bools_at _ _ (by omega)] at hcell
      have HT := fun hl => cut_is l (k + 1) hn HZ.out hl
      have HT2 : Hid ((k + 1 = 0 ∨ l.getD (k + 1 - 1) false = true) → l.take (k + 1) = nb (fromL l)) := HT
      obtain ⟨x, hx⟩ : ∃ x, x = l.getD k false := ⟨_, rfl⟩
      rw [← hx] at hcell
      have HX : Hid (x = l.getD k false) := hx
      clear hc h HT hx
      cases x
      · go_wp2
        go_round
        case rel =>
          refine ⟨k, by omega, by go_num, fun j h1 h2 => ?_⟩
          rcases Nat.lt_or_ge k j with h3 | h3
          · exact HZ.out j (by omega) h2
          · rw [show j = k by omega]; exact HX.out.symm
        case measure => simp [intOf]
      · go_wp2
        all_goals go_ret
        all_goals exact ⟨k + 1, HT2.out (.inr (by rw [Nat.add_sub_cancel, ← HX.out])), hn, by first | rfl | simp, rfl⟩
theorem cut_len (l : List Bool) (n : Nat) (h : l.take n = nb (fromL l)) (hn : n ≤ l.length) : n = (nb (fromL l)).length := by rw [← h, List.length_take, Nat.min_eq_left hn]
theorem bools_take (l : List Bool) (n : Nat) : bools (l.take n) = (bools l).take n := by rw [bools, bools, List.map_take]
theorem cut_own (l : List Bool) (base : Nat) (ao : Option Addr) (cap : Nat) (w : World) (h : w.ownsRow base 4 1 (.slice ao l.length cap) l.length (bools l)) :
    Calls Tryz.prog 36 #[.slice ao l.length cap] w fun e w' => e = .returned (.slice ao (nb (fromL l)).length cap) ∧ w' = w ∧ w.ownsRow base 4 1 (.slice ao (nb (fromL l)).length cap) (nb (fromL l)).length (bools (nb (fromL l))) := by
  refine (cut_core l ao cap w (lies_of_owns h)).mono ?_
  rintro e w' ⟨n, h1, h2, rfl, rfl⟩
  have h3 := owns_take h n h2
  rw [← bools_take, h1] at h3
  refine ⟨by rw [cut_len l n h1 h2], rfl, ?_⟩
  have h4 := cut_len l n h1 h2
  rw [← h4]; exact h3

set_option maxRecDepth 20000 in
set_option maxHeartbeats 1000000 in
/-- Of: the bits of a number, in new memory. -/
theorem of_core (A : List Nat) (N : Nat) (hN : Hid (N = val A)) (ao : Option Addr) (cap : Nat) (w : World) (h : Lies w ao cap (ints .u32 A)) (hA : Small A) (hlen : A.length ≤ 2097152) :
    Calls Tryz.prog 13 #[.slice ao A.length cap] w fun e w' => ∃ ao' cap', e = .returned (.slice ao' (nb N).length cap') ∧ w'.ownsRow w.heap.size 4 1 (.slice ao' (nb N).length cap') (nb N).length (bools (nb N)) ∧ Below w.heap.size w w' := by
  obtain ⟨i0, hi, hz0, hz1, hz2⟩ := info_parts infoB
  go_enter Tryz.func13, Tryz.ntmps13
  go_wp2
  generalize hbase : w.heap.size = base
  go_loopw [3, 10] (fun v i wr => ∃ (k : Nat) (F : List Bool), k ≤ A.length ∧ i = .int .i64 k ∧ F.length = 32 * k ∧ Hid (fromL F = val (A.take k)) ∧ wr.ownsRow base 4 1 v F.length (bools F) ∧ Below base w wr)
    (fun _ i _ => A.length - (intOf i).toNat)
  case atStart =>
    subst hbase
    refine ⟨0, [], Nat.zero_le _, rfl, rfl, by unfold Hid; simp [fromL, val], ?_, (Below.refl _ _).alloc (Nat.le_refl _) _⟩
    exact World.ownsRow_lit w #[] 0 (Nat.le_refl _) (by decide) rfl
  case round =>
    obtain ⟨k, F, hk, rfl, hFl, HF, hown, hb⟩ := hrel
    by_cases hlt : k < A.length
    · have g1 := h.below hb (by omega)
      obtain ⟨b1, off1, rfl, _, hc1⟩ := g1.2.2.2 (by rw [ints_length]; omega)
      have d1 := hc1 k (by rw [ints_length]; omega)
      rw [ints_get _ _ _ hlt] at d1
      have HS : Hid (fromL (F ++ bl (A.getD k 0) 32) = val (A.take (k + 1))) := of_step A F k hA hlt HF hFl
      have hx := getD_small A hA k
      generalize A.getD k 0 = x at d1 HS hx
      clear hc1 g1
      go_wp2
      go_loopw [3, 5, 6] (fun v u j wr => ∃ m : Nat, m ≤ 32 ∧ j = .int .i64 m ∧ u = .int .u32 ((x / 2 ^ m : Nat) : Int) ∧ wr.ownsRow base 4 1 v (F.length + m) (bools (F ++ bl x m)) ∧ Below base w wr) (fun _ _ j _ => 32 - (intOf j).toNat)
      case atStart => exact ⟨0, by omega, rfl, by simp, by simpa [bl] using hown, hb⟩
      case round =>
        clear hown hb d1
        obtain ⟨m, hm, rfl, rfl, hown, hb⟩ := hrel
        have hsz := hb.size
        have hbit := bit_of x m
        have hq : x / 2 ^ m ≤ x := Nat.div_le_self _ _
        have hq2 : ((x / 2 ^ m : Nat) : Int) ≤ 4294967295 := by omega
        have hq1 : 0 ≤ ((x / 2 ^ m : Nat) : Int) := Int.natCast_nonneg _
        have hst := div_step x m
        obtain ⟨q, hQ⟩ : ∃ q, x / 2 ^ m = q := ⟨_, rfl⟩
        rw [hQ] at hbit hq hq2 hq1 hst
        simp only [hQ]
        clear hQ
        by_cases hm2 : m < 32
        · go_wp2_with (at_builtin; refine wpList_append_own _ rfl _ _ 29 rfl base 4 i0 (.bool false) 1 1 Tryz.underlying29 hi hz0 hz1 hz2 rfl (by decide) _ _ _ rfl (hown.alloc _) ⟨wr.heap.size, 0, none⟩ 1 1 [.bool (x.testBit m)] rfl rfl ?c1 ?c2 ?c3 ?c4 ?c5 ?_)
          case c1 =>
            intro j u hj
            match j, hj with
            | 0, hj => simp at hj; subst hj; simp [Addr.add]
          case c2 => intro u hu; simp at hu; subst hu; rfl
          case c3 => unfold maxLen; omega
          case c4 => omega
          case c5 => simp; omega
          intro v' w1 hown' hgrow _
          have hb1 : Below base w w1 := (hb.alloc (by omega) _).grown hgrow (by simp; omega) (fun j hj => (hown.lt j hj).1)
          clear hgrow hown
          go_wp2
          go_roundw
          case rel => exact ⟨m + 1, by omega, by go_num, by rw [← hst]; go_num, by rw [bl_succ]; simpa [bools, Nat.add_assoc, hFl] using hown', hb1⟩
          case measure => simp [intOf]; omega
        · have hm3 : m = 32 := by omega
          subst hm3
          go_wp2
          go_roundw
          case rel => exact ⟨k + 1, F ++ bl x 32, by omega, by go_num, by rw [List.length_append, bl_length]; omega, HS, by rw [List.length_append, bl_length]; exact hown, hb⟩
          case measure => simp [intOf]; omega
    · have ek : k = A.length := by omega
      subst ek
      have hF2 : fromL F = N := by have := HF.out; rw [List.take_of_length_le (Nat.le_refl _)] at this; rw [this, hN.out]
      obtain ⟨ao2, cap2, e2⟩ := owns_shape hown
      rw [e2] at hown ⊢
      have c1 := cut_own F base ao2 cap2 wr hown
      rw [hF2] at c1
      clear hown HF h hF2 hFl
      subst hbase
      go_wp2_with (go_at_call 36; refine c1.mono ?_; rintro e w5 ⟨rfl, hw, hown5⟩; have hw2 := hw.symm; clear hw; subst hw2)
      go_ret
      exact ⟨ao2, cap2, rfl, hown5, hb⟩
theorem of_any (A : List Nat) (ao : Option Addr) (cap : Nat) (w : World) (h : Lies w ao cap (ints .u32 A)) (hA : Small A) (hlen : A.length ≤ 2097152) :
    Calls Tryz.prog 13 #[.slice ao A.length cap] w fun e w' => ∃ ao' cap', e = .returned (.slice ao' (nb (val A)).length cap') ∧ w'.ownsRow w.heap.size 4 1 (.slice ao' (nb (val A)).length cap') (nb (val A)).length (bools (nb (val A))) ∧ Below w.heap.size w w' :=
  of_core A (val A) rfl ao cap w h hA hlen

end Go.Proofs.YtefckmkcbgckfaaGreatDoor.RefL

/- What the reference's order, sum and difference of lists of bits answer. -/
namespace Go.Proofs.YtefckmkcbgckfaaGreatDoor.RefA
open Go.RowKit Mem LimbNum Limb1 RefL

set_option maxRecDepth 20000 in
set_option maxHeartbeats 4000000 in
theorem radd_core (P Q : List Bool) (N : Nat) (hN : Hid (N = fromL P + fromL Q)) (ao1 ao2 : Option Addr) (cap1 cap2 : Nat) (w : World) (h1 : Lies w ao1 cap1 (bools P)) (h2 : Lies w ao2 cap2 (bools Q)) (hl1 : P.length ≤ 1073741824) (hl2 : Q.length ≤ 1073741824) :
    Calls Tryz.prog 43 #[.slice ao1 P.length cap1, .slice ao2 Q.length cap2] w fun e w' => ∃ ao cap, e = .returned (.slice ao (nb N).length cap) ∧ w'.ownsRow w.heap.size 4 1 (.slice ao (nb N).length cap) (nb N).length (bools (nb N)) ∧ Below w.heap.size w w' := by
  obtain ⟨i0, hi, hz0, hz1, hz2⟩ := info_parts infoB
  go_enter Tryz.func43, Tryz.ntmps43
  go_wp2
  generalize hbase : w.heap.size = base
  go_loopw [5, 6, 7] (fun v c i wr => ∃ (k cy : Nat) (F : List Bool), k ≤ P.length + Q.length + 1 ∧ (cy = 1 → k ≤ P.length + Q.length) ∧ i = .int .i64 k ∧ c = .int .i64 (cy : Int) ∧ cy ≤ 1 ∧ F.length = k ∧ Hid (fromL F + cy * 2 ^ k = fromL (P.take k) + fromL (Q.take k)) ∧ wr.ownsRow base 4 1 v F.length (bools F) ∧ Below base w wr)
    (fun _ _ i _ => P.length + Q.length + 1 - (intOf i).toNat)
  case atStart =>
    subst hbase
    refine ⟨0, 0, [], by omega, by omega, rfl, rfl, by omega, rfl, by unfold Hid; simp [fromL], ?_, (Below.refl _ _).alloc (Nat.le_refl _) _⟩
    exact World.ownsRow_lit w #[] 0 (Nat.le_refl _) (by decide) rfl
  case round =>
    obtain ⟨k, cy, F, hk, hk1, rfl, rfl, hcy, hF, HI, hown, hb⟩ := hrel
    have hs := hb.size
    have HST := fun (c2 : Nat) (x y z : Bool) (hx : P.getD k false = x) (hy : Q.getD k false = y) (h : z.toNat + c2 * 2 = x.toNat + y.toNat + cy) => badd_step P Q F k cy c2 x y z hF hx hy h HI
    have hc01 : cy = 0 ∨ cy = 1 := by omega
    by_cases hex : P.length ≤ k ∧ Q.length ≤ k ∧ cy = 0
    · obtain ⟨q1, q2, rfl⟩ := hex
      have hF2 : fromL F = N := by
        have := HI.out
        rw [List.take_of_length_le q1, List.take_of_length_le q2] at this
        rw [hN.out, ← this]; simp
      obtain ⟨ao3, cap3, e3⟩ := owns_shape hown
      rw [e3] at hown ⊢
      have c1 := cut_own F base ao3 cap3 wr hown
      rw [hF2] at c1
      subst hF
      clear hown HI hF2 HST h1 h2 hc01 hN
      go_wp2_with (go_at_call 36; refine c1.mono ?_; rintro e w5 ⟨rfl, hw, hown5⟩; have hw2 := hw.symm; clear hw; subst hw2)
      go_ret
      exact ⟨_, _, rfl, by first | exact hown5 | (rw [hbase]; exact hown5), by first | exact hb | (rw [hbase]; exact hb)⟩
    · have g1 : k < P.length → ∃ b1 off1, ao1 = some ⟨b1, off1, none⟩ ∧ wr.cell? ⟨b1, off1 + k, none⟩ = some (.bool (P.getD k false)) := fun hq => by
        have g := h1.below hb (by omega)
        obtain ⟨b2, off2, e, _, hc2⟩ := g.2.2.2 (by rw [bools_length]; omega)
        exact ⟨b2, off2, e, by rw [hc2 k (by rw [bools_length]; omega), bools_at _ _ hq]⟩
      have g2 : k < Q.length → ∃ b1 off1, ao2 = some ⟨b1, off1, none⟩ ∧ wr.cell? ⟨b1, off1 + k, none⟩ = some (.bool (Q.getD k false)) := fun hq => by
        have g := h2.below hb (by omega)
        obtain ⟨b2, off2, e, _, hc2⟩ := g.2.2.2 (by rw [bools_length]; omega)
        exact ⟨b2, off2, e, by rw [hc2 k (by rw [bools_length]; omega), bools_at _ _ hq]⟩
      have z1 : P.length ≤ k → P.getD k false = false := fun hq => by simp [hq]
      have z2 : Q.length ≤ k → Q.getD k false = false := fun hq => by simp [hq]
      clear h1 h2 HI
      obtain ⟨x, ex⟩ : ∃ x, P.getD k false = x := ⟨_, rfl⟩
      obtain ⟨y, ey⟩ : ∃ y, Q.getD k false = y := ⟨_, rfl⟩
      have HST2 : Hid (∀ (c2 : Nat) (z : Bool), z.toNat + c2 * 2 = x.toNat + y.toNat + cy → fromL (F ++ [z]) + c2 * 2 ^ (k + 1) = fromL (P.take (k + 1)) + fromL (Q.take (k + 1))) := fun c2 z h => HST c2 x y z ex ey h
      rw [ex] at g1 z1
      rw [ey] at g2 z2
      clear HST ex ey
      by_cases ha : k < P.length
      · obtain ⟨b1, off1, rfl, d1⟩ := g1 ha
        clear g1 z1
        by_cases hbq : k < Q.length
        · obtain ⟨b2, off2, rfl, d2⟩ := g2 hbq
          clear g2 z2
          rcases hc01 with rfl | rfl
          · skip
            cases x
            · cases y
              · go_wp2_with (at_builtin; refine wpList_append_own _ rfl _ _ 29 rfl base 4 i0 (.bool false) 1 1 Tryz.underlying29 hi hz0 hz1 hz2 rfl (by decide) _ _ _ rfl (hown.alloc _) ⟨wr.heap.size, 0, none⟩ 1 1 [.bool false] rfl rfl (cells1 wr _ _) (by intro u hu; simp at hu; subst hu; rfl) (by unfold maxLen; omega) (by omega) (by simp; omega) ?_; intro v' w1 hown' hgrow _)
                have hb1 : Below base w w1 := (hb.alloc (by omega) _).grown hgrow (by simp; omega) (fun j hj => (hown.lt j hj).1)
                clear hgrow hown
                go_wp2
                go_roundw
                case rel => exact ⟨k + 1, 0, F ++ [false], by omega, by omega, by go_num, by first | rfl | go_num, by omega, by simp; omega, HST2.out 0 false (by decide), by simpa [bools, hF] using hown', hb1⟩
                case measure => simp [intOf]; omega
              · go_wp2_with (at_builtin; refine wpList_append_own _ rfl _ _ 29 rfl base 4 i0 (.bool false) 1 1 Tryz.underlying29 hi hz0 hz1 hz2 rfl (by decide) _ _ _ rfl (hown.alloc _) ⟨wr.heap.size, 0, none⟩ 1 1 [.bool true] rfl rfl (cells1 wr _ _) (by intro u hu; simp at hu; subst hu; rfl) (by unfold maxLen; omega) (by omega) (by simp; omega) ?_; intro v' w1 hown' hgrow _)
                have hb1 : Below base w w1 := (hb.alloc (by omega) _).grown hgrow (by simp; omega) (fun j hj => (hown.lt j hj).1)
                clear hgrow hown
                go_wp2
                go_roundw
                case rel => exact ⟨k + 1, 0, F ++ [true], by omega, by omega, by go_num, by first | rfl | go_num, by omega, by simp; omega, HST2.out 0 true (by decide), by simpa [bools, hF] using hown', hb1⟩
                case measure => simp [intOf]; omega
            · cases y
              · go_wp2_with (at_builtin; refine wpList_append_own _ rfl _ _ 29 rfl base 4 i0 (.bool false) 1 1 Tryz.underlying29 hi hz0 hz1 hz2 rfl (by decide) _ _ _ rfl (hown.alloc _) ⟨wr.heap.size, 0, none⟩ 1 1 [.bool true] rfl rfl (cells1 wr _ _) (by intro u hu; simp at hu; subst hu; rfl) (by unfold maxLen; omega) (by omega) (by simp; omega) ?_; intro v' w1 hown' hgrow _)
                have hb1 : Below base w w1 := (hb.alloc (by omega) _).grown hgrow (by simp; omega) (fun j hj => (hown.lt j hj).1)
                clear hgrow hown
                go_wp2
                go_roundw
                case rel => exact ⟨k + 1, 0, F ++ [true], by omega, by omega, by go_num, by first | rfl | go_num, by omega, by simp; omega, HST2.out 0 true (by decide), by simpa [bools, hF] using hown', hb1⟩
                case measure => simp [intOf]; omega
              · go_wp2_with (at_builtin; refine wpList_append_own _ rfl _ _ 29 rfl base 4 i0 (.bool false) 1 1 Tryz.underlying29 hi hz0 hz1 hz2 rfl (by decide) _ _ _ rfl (hown.alloc _) ⟨wr.heap.size, 0, none⟩ 1 1 [.bool false] rfl rfl (cells1 wr _ _) (by intro u hu; simp at hu; subst hu; rfl) (by unfold maxLen; omega) (by omega) (by simp; omega) ?_; intro v' w1 hown' hgrow _)
                have hb1 : Below base w w1 := (hb.alloc (by omega) _).grown hgrow (by simp; omega) (fun j hj => (hown.lt j hj).1)
                clear hgrow hown
                go_wp2
                go_roundw
                case rel => exact ⟨k + 1, 1, F ++ [false], by omega, by omega, by go_num, by first | rfl | go_num, by omega, by simp; omega, HST2.out 1 false (by decide), by simpa [bools, hF] using hown', hb1⟩
                case measure => simp [intOf]; omega
          · skip
            cases x
            · cases y
              · go_wp2_with (at_builtin; refine wpList_append_own _ rfl _ _ 29 rfl base 4 i0 (.bool false) 1 1 Tryz.underlying29 hi hz0 hz1 hz2 rfl (by decide) _ _ _ rfl (hown.alloc _) ⟨wr.heap.size, 0, none⟩ 1 1 [.bool true] rfl rfl (cells1 wr _ _) (by intro u hu; simp at hu; subst hu; rfl) (by unfold maxLen; omega) (by omega) (by simp; omega) ?_; intro v' w1 hown' hgrow _)
                have hb1 : Below base w w1 := (hb.alloc (by omega) _).grown hgrow (by simp; omega) (fun j hj => (hown.lt j hj).1)
                clear hgrow hown
                go_wp2
                go_roundw
                case rel => exact ⟨k + 1, 0, F ++ [true], by omega, by omega, by go_num, by first | rfl | go_num, by omega, by simp; omega, HST2.out 0 true (by decide), by simpa [bools, hF] using hown', hb1⟩
                case measure => simp [intOf]; omega
              · go_wp2_with (at_builtin; refine wpList_append_own _ rfl _ _ 29 rfl base 4 i0 (.bool false) 1 1 Tryz.underlying29 hi hz0 hz1 hz2 rfl (by decide) _ _ _ rfl (hown.alloc _) ⟨wr.heap.size, 0, none⟩ 1 1 [.bool false] rfl rfl (cells1 wr _ _) (by intro u hu; simp at hu; subst hu; rfl) (by unfold maxLen; omega) (by omega) (by simp; omega) ?_; intro v' w1 hown' hgrow _)
                have hb1 : Below base w w1 := (hb.alloc (by omega) _).grown hgrow (by simp; omega) (fun j hj => (hown.lt j hj).1)
                clear hgrow hown
                go_wp2
                go_roundw
                case rel => exact ⟨k + 1, 1, F ++ [false], by omega, by omega, by go_num, by first | rfl | go_num, by omega, by simp; omega, HST2.out 1 false (by decide), by simpa [bools, hF] using hown', hb1⟩
                case measure => simp [intOf]; omega
            · cases y
              · go_wp2_with (at_builtin; refine wpList_append_own _ rfl _ _ 29 rfl base 4 i0 (.bool false) 1 1 Tryz.underlying29 hi hz0 hz1 hz2 rfl (by decide) _ _ _ rfl (hown.alloc _) ⟨wr.heap.size, 0, none⟩ 1 1 [.bool false] rfl rfl (cells1 wr _ _) (by intro u hu; simp at hu; subst hu; rfl) (by unfold maxLen; omega) (by omega) (by simp; omega) ?_; intro v' w1 hown' hgrow _)
                have hb1 : Below base w w1 := (hb.alloc (by omega) _).grown hgrow (by simp; omega) (fun j hj => (hown.lt j hj).1)
                clear hgrow hown
                go_wp2
                go_roundw
                case rel => exact ⟨k + 1, 1, F ++ [false], by omega, by omega, by go_num, by first | rfl | go_num, by omega, by simp; omega, HST2.out 1 false (by decide), by simpa [bools, hF] using hown', hb1⟩
                case measure => simp [intOf]; omega
              · go_wp2_with (at_builtin; refine wpList_append_own _ rfl _ _ 29 rfl base 4 i0 (.bool false) 1 1 Tryz.underlying29 hi hz0 hz1 hz2 rfl (by decide) _ _ _ rfl (hown.alloc _) ⟨wr.heap.size, 0, none⟩ 1 1 [.bool true] rfl rfl (cells1 wr _ _) (by intro u hu; simp at hu; subst hu; rfl) (by unfold maxLen; omega) (by omega) (by simp; omega) ?_; intro v' w1 hown' hgrow _)
                have hb1 : Below base w w1 := (hb.alloc (by omega) _).grown hgrow (by simp; omega) (fun j hj => (hown.lt j hj).1)
                clear hgrow hown
                go_wp2
                go_roundw
                case rel => exact ⟨k + 1, 1, F ++ [true], by omega, by omega, by go_num, by first | rfl | go_num, by omega, by simp; omega, HST2.out 1 true (by decide), by simpa [bools, hF] using hown', hb1⟩
                case measure => simp [intOf]; omega
        · have yy := z2 (by omega)
          subst yy
          clear g2 z2
          rcases hc01 with rfl | rfl
          · skip
            cases x
            · go_wp2_with (at_builtin; refine wpList_append_own _ rfl _ _ 29 rfl base 4 i0 (.bool false) 1 1 Tryz.underlying29 hi hz0 hz1 hz2 rfl (by decide) _ _ _ rfl (hown.alloc _) ⟨wr.heap.size, 0, none⟩ 1 1 [.bool false] rfl rfl (cells1 wr _ _) (by intro u hu; simp at hu; subst hu; rfl) (by unfold maxLen; omega) (by omega) (by simp; omega) ?_; intro v' w1 hown' hgrow _)
              have hb1 : Below base w w1 := (hb.alloc (by omega) _).grown hgrow (by simp; omega) (fun j hj => (hown.lt j hj).1)
              clear hgrow hown
              go_wp2
              go_roundw
              case rel => exact ⟨k + 1, 0, F ++ [false], by omega, by omega, by go_num, by first | rfl | go_num, by omega, by simp; omega, HST2.out 0 false (by decide), by simpa [bools, hF] using hown', hb1⟩
              case measure => simp [intOf]; omega
            · go_wp2_with (at_builtin; refine wpList_append_own _ rfl _ _ 29 rfl base 4 i0 (.bool false) 1 1 Tryz.underlying29 hi hz0 hz1 hz2 rfl (by decide) _ _ _ rfl (hown.alloc _) ⟨wr.heap.size, 0, none⟩ 1 1 [.bool true] rfl rfl (cells1 wr _ _) (by intro u hu; simp at hu; subst hu; rfl) (by unfold maxLen; omega) (by omega) (by simp; omega) ?_; intro v' w1 hown' hgrow _)
              have hb1 : Below base w w1 := (hb.alloc (by omega) _).grown hgrow (by simp; omega) (fun j hj => (hown.lt j hj).1)
              clear hgrow hown
              go_wp2
              go_roundw
              case rel => exact ⟨k + 1, 0, F ++ [true], by omega, by omega, by go_num, by first | rfl | go_num, by omega, by simp; omega, HST2.out 0 true (by decide), by simpa [bools, hF] using hown', hb1⟩
              case measure => simp [intOf]; omega
          · skip
            cases x
            · go_wp2_with (at_builtin; refine wpList_append_own _ rfl _ _ 29 rfl base 4 i0 (.bool false) 1 1 Tryz.underlying29 hi hz0 hz1 hz2 rfl (by decide) _ _ _ rfl (hown.alloc _) ⟨wr.heap.size, 0, none⟩ 1 1 [.bool true] rfl rfl (cells1 wr _ _) (by intro u hu; simp at hu; subst hu; rfl) (by unfold maxLen; omega) (by omega) (by simp; omega) ?_; intro v' w1 hown' hgrow _)
              have hb1 : Below base w w1 := (hb.alloc (by omega) _).grown hgrow (by simp; omega) (fun j hj => (hown.lt j hj).1)
              clear hgrow hown
              go_wp2
              go_roundw
              case rel => exact ⟨k + 1, 0, F ++ [true], by omega, by omega, by go_num, by first | rfl | go_num, by omega, by simp; omega, HST2.out 0 true (by decide), by simpa [bools, hF] using hown', hb1⟩
              case measure => simp [intOf]; omega
            · go_wp2_with (at_builtin; refine wpList_append_own _ rfl _ _ 29 rfl base 4 i0 (.bool false) 1 1 Tryz.underlying29 hi hz0 hz1 hz2 rfl (by decide) _ _ _ rfl (hown.alloc _) ⟨wr.heap.size, 0, none⟩ 1 1 [.bool false] rfl rfl (cells1 wr _ _) (by intro u hu; simp at hu; subst hu; rfl) (by unfold maxLen; omega) (by omega) (by simp; omega) ?_; intro v' w1 hown' hgrow _)
              have hb1 : Below base w w1 := (hb.alloc (by omega) _).grown hgrow (by simp; omega) (fun j hj => (hown.lt j hj).1)
              clear hgrow hown
              go_wp2
              go_roundw
              case rel => exact ⟨k + 1, 1, F ++ [false], by omega, by omega, by go_num, by first | rfl | go_num, by omega, by simp; omega, HST2.out 1 false (by decide), by simpa [bools, hF] using hown', hb1⟩
              case measure => simp [intOf]; omega
      · have xx := z1 (by omega)
        subst xx
        clear g1 z1
        by_cases hbq : k < Q.length
        · obtain ⟨b2, off2, rfl, d2⟩ := g2 hbq
          clear g2 z2
          rcases hc01 with rfl | rfl
          · skip
            cases y
            · go_wp2_with (at_builtin; refine wpList_append_own _ rfl _ _ 29 rfl base 4 i0 (.bool false) 1 1 Tryz.underlying29 hi hz0 hz1 hz2 rfl (by decide) _ _ _ rfl (hown.alloc _) ⟨wr.heap.size, 0, none⟩ 1 1 [.bool false] rfl rfl (cells1 wr _ _) (by intro u hu; simp at hu; subst hu; rfl) (by unfold maxLen; omega) (by omega) (by simp; omega) ?_; intro v' w1 hown' hgrow _)
              have hb1 : Below base w w1 := (hb.alloc (by omega) _).grown hgrow (by simp; omega) (fun j hj => (hown.lt j hj).1)
              clear hgrow hown
              go_wp2
              go_roundw
              case rel => exact ⟨k + 1, 0, F ++ [false], by omega, by omega, by go_num, by first | rfl | go_num, by omega, by simp; omega, HST2.out 0 false (by decide), by simpa [bools, hF] using hown', hb1⟩
              case measure => simp [intOf]; omega
            · go_wp2_with (at_builtin; refine wpList_append_own _ rfl _ _ 29 rfl base 4 i0 (.bool false) 1 1 Tryz.underlying29 hi hz0 hz1 hz2 rfl (by decide) _ _ _ rfl (hown.alloc _) ⟨wr.heap.size, 0, none⟩ 1 1 [.bool true] rfl rfl (cells1 wr _ _) (by intro u hu; simp at hu; subst hu; rfl) (by unfold maxLen; omega) (by omega) (by simp; omega) ?_; intro v' w1 hown' hgrow _)
              have hb1 : Below base w w1 := (hb.alloc (by omega) _).grown hgrow (by simp; omega) (fun j hj => (hown.lt j hj).1)
              clear hgrow hown
              go_wp2
              go_roundw
              case rel => exact ⟨k + 1, 0, F ++ [true], by omega, by omega, by go_num, by first | rfl | go_num, by omega, by simp; omega, HST2.out 0 true (by decide), by simpa [bools, hF] using hown', hb1⟩
              case measure => simp [intOf]; omega
          · skip
            cases y
            · go_wp2_with (at_builtin; refine wpList_append_own _ rfl _ _ 29 rfl base 4 i0 (.bool false) 1 1 Tryz.underlying29 hi hz0 hz1 hz2 rfl (by decide) _ _ _ rfl (hown.alloc _) ⟨wr.heap.size, 0, none⟩ 1 1 [.bool true] rfl rfl (cells1 wr _ _) (by intro u hu; simp at hu; subst hu; rfl) (by unfold maxLen; omega) (by omega) (by simp; omega) ?_; intro v' w1 hown' hgrow _)
              have hb1 : Below base w w1 := (hb.alloc (by omega) _).grown hgrow (by simp; omega) (fun j hj => (hown.lt j hj).1)
              clear hgrow hown
              go_wp2
              go_roundw
              case rel => exact ⟨k + 1, 0, F ++ [true], by omega, by omega, by go_num, by first | rfl | go_num, by omega, by simp; omega, HST2.out 0 true (by decide), by simpa [bools, hF] using hown', hb1⟩
              case measure => simp [intOf]; omega
            · go_wp2_with (at_builtin; refine wpList_append_own _ rfl _ _ 29 rfl base 4 i0 (.bool false) 1 1 Tryz.underlying29 hi hz0 hz1 hz2 rfl (by decide) _ _ _ rfl (hown.alloc _) ⟨wr.heap.size, 0, none⟩ 1 1 [.bool false] rfl rfl (cells1 wr _ _) (by intro u hu; simp at hu; subst hu; rfl) (by unfold maxLen; omega) (by omega) (by simp; omega) ?_; intro v' w1 hown' hgrow _)
              have hb1 : Below base w w1 := (hb.alloc (by omega) _).grown hgrow (by simp; omega) (fun j hj => (hown.lt j hj).1)
              clear hgrow hown
              go_wp2
              go_roundw
              case rel => exact ⟨k + 1, 1, F ++ [false], by omega, by omega, by go_num, by first | rfl | go_num, by omega, by simp; omega, HST2.out 1 false (by decide), by simpa [bools, hF] using hown', hb1⟩
              case measure => simp [intOf]; omega
        · have yy := z2 (by omega)
          subst yy
          clear g2 z2
          rcases hc01 with rfl | rfl
          · omega
          · skip
            go_wp2_with (at_builtin; refine wpList_append_own _ rfl _ _ 29 rfl base 4 i0 (.bool false) 1 1 Tryz.underlying29 hi hz0 hz1 hz2 rfl (by decide) _ _ _ rfl (hown.alloc _) ⟨wr.heap.size, 0, none⟩ 1 1 [.bool true] rfl rfl (cells1 wr _ _) (by intro u hu; simp at hu; subst hu; rfl) (by unfold maxLen; omega) (by omega) (by simp; omega) ?_; intro v' w1 hown' hgrow _)
            have hb1 : Below base w w1 := (hb.alloc (by omega) _).grown hgrow (by simp; omega) (fun j hj => (hown.lt j hj).1)
            clear hgrow hown
            go_wp2
            go_roundw
            case rel => exact ⟨k + 1, 0, F ++ [true], by omega, by omega, by go_num, by first | rfl | go_num, by omega, by simp; omega, HST2.out 0 true (by decide), by simpa [bools, hF] using hown', hb1⟩
            case measure => simp [intOf]; omega

end Go.Proofs.YtefckmkcbgckfaaGreatDoor.RefA

/- What the reference's shifts of lists of bits answer. -/
namespace Go.Proofs.YtefckmkcbgckfaaGreatDoor.RefH
open Go.RowKit Mem LimbNum Limb1 RefL

theorem bools_zero (n : Nat) : bools (List.replicate n false) = List.replicate n (.bool false) := by simp [bools]
theorem fromL_shift (l : List Bool) (M : Nat) : fromL (List.replicate M false ++ l) = fromL l * 2 ^ M := by
  rw [fromL_append, fromL_zero (List.replicate M false) (fun x hx => List.eq_of_mem_replicate hx), List.length_replicate, Nat.zero_add, Nat.mul_comm]
theorem fromL_cutoff (l : List Bool) (M : Nat) : fromL (l.drop M) = fromL l / 2 ^ M := by
  have h1 := fromL_append (l.take M) (l.drop M)
  rw [List.take_append_drop] at h1
  rcases Nat.lt_or_ge M l.length with h | h
  · have h2 := fromL_lt (l.take M)
    rw [List.length_take, Nat.min_eq_left (by omega)] at h1 h2
    rw [h1, Nat.add_mul_div_left _ _ (Nat.two_pow_pos M), Nat.div_eq_of_lt h2, Nat.zero_add]
  · have h2 := fromL_lt l
    have h3 : (2 : Nat) ^ l.length ≤ 2 ^ M := Nat.pow_le_pow_right (by omega) h
    rw [List.drop_eq_nil_of_le h, Nat.div_eq_of_lt (Nat.lt_of_lt_of_le h2 h3)]; rfl

set_option maxRecDepth 20000 in
set_option maxHeartbeats 1000000 in
theorem rshl_core (l : List Bool) (n : Int) (M N : Nat) (hN : Hid (N = fromL l * 2 ^ M)) (hn : n = (M : Int)) (hM : n ≤ 100000) (ao : Option Addr) (cap : Nat) (w : World) (h : Lies w ao cap (bools l)) (hlen : l.length ≤ 1073741824) :
    Calls Tryz.prog 59 #[.slice ao l.length cap, .int .i64 n] w fun e w' => ∃ ao' cap', e = .returned (.slice ao' (nb N).length cap') ∧ w'.ownsRow w.heap.size 4 1 (.slice ao' (nb N).length cap') (nb N).length (bools (nb N)) ∧ Below w.heap.size w w' := by
  obtain ⟨i0, hi, hz0, hz1, hz2⟩ := info_parts infoB
  have HM : Hid (n = (M : Int)) := hn
  have hM2 : M ≤ 100000 := by omega
  clear hn
  have fin : ∀ (W : World) (v : Value), W.ownsRow w.heap.size 4 1 v (M + l.length) (bools (List.replicate M false ++ l)) → ∃ o c, v = .slice o (M + l.length) c ∧ Calls Tryz.prog 36 #[.slice o (M + l.length) c] W fun e w' => e = .returned (.slice o (nb N).length c) ∧ w' = W ∧ W.ownsRow w.heap.size 4 1 (.slice o (nb N).length c) (nb N).length (bools (nb N)) := fun W v hv => by
    obtain ⟨o, c, rfl⟩ := owns_shape hv
    have hll : (List.replicate M false ++ l).length = M + l.length := by simp
    have := cut_own (List.replicate M false ++ l) w.heap.size o c W (by rw [hll]; exact hv)
    rw [hll, fromL_shift, ← hN.out] at this
    exact ⟨o, c, rfl, this⟩
  cases ao with
  | none =>
    have q0 := h.2.2.1 rfl
    have q1 := h.1
    rw [bools_length] at q1
    obtain rfl : cap = 0 := q0
    obtain rfl : l = [] := List.length_eq_zero_iff.1 (by omega)
    go_enter Tryz.func59, Tryz.ntmps59
    go_wp2_with (first
      | (at_make; refine wpList_make_full _ rfl _ _ 29 rfl w.heap.size 4 i0 (.bool false) 1 Tryz.underlying29 hi hz0 hz1 .i64 .i64 n n M rfl rfl HM.out HM.out (by rw [hz2]; omega) (by unfold maxLen; omega) (Nat.le_refl _) ?_; intro w3 hown hgr)
      | (at_builtin; refine wpList_append_own_none rfl _ _ 29 rfl w.heap.size 4 i0 1 Tryz.underlying29 hi _ _ _ rfl hown rfl ?_))
    have hb3 : Below w.heap.size w w3 := (Below.refl _ _).grown hgr (Nat.le_refl _) (by simp)
    have hown0 : w3.ownsRow w.heap.size 4 1 (.slice (some ⟨w.heap.size, 0, none⟩) M M) (M + ([] : List Bool).length) (bools (List.replicate M false ++ [])) := by
      rw [List.append_nil, bools_zero, ← toList_madeCells_one]; rw [Nat.mul_one] at hown; exact hown
    obtain ⟨o, c, e0, c3⟩ := fin _ _ hown0
    simp only [Value.slice.injEq, List.length_nil, Nat.add_zero, true_and] at e0
    obtain ⟨rfl, rfl⟩ := e0
    simp only [List.length_nil, Nat.add_zero] at c3
    refine c3.mono ?_
    rintro e w5 ⟨rfl, hw, hown5⟩
    have hw2 := hw.symm
    clear hw
    subst hw2
    clear fin hown hown0 hgr h hN c3
    go_wp2
    go_ret
    exact ⟨_, _, rfl, hown5, hb3⟩
  | some ad =>
    go_enter Tryz.func59, Tryz.ntmps59
    go_wp2_with (first
      | (at_make; refine wpList_make_full _ rfl _ _ 29 rfl w.heap.size 4 i0 (.bool false) 1 Tryz.underlying29 hi hz0 hz1 .i64 .i64 n n M rfl rfl HM.out HM.out (by rw [hz2]; omega) (by unfold maxLen; omega) (Nat.le_refl _) ?_; intro w3 hown hgr)
      | (at_builtin; refine wpList_append_own _ rfl _ _ 29 rfl w.heap.size 4 i0 (.bool false) 1 1 Tryz.underlying29 hi hz0 hz1 hz2 rfl (by decide) _ _ _ rfl hown ad l.length cap (bools l) rfl (by rw [bools_length]; omega) (h.below ((Below.refl w.heap.size w).grown hgr (Nat.le_refl _) (by simp)) (Nat.le_refl _)).src (bools_one _) (by unfold maxLen; omega) (by omega) (by have := hgr.size; omega) ?_; intro v4 w4 hown4 hgr4 _))
    have hb3 : Below w.heap.size w w3 := (Below.refl _ _).grown hgr (Nat.le_refl _) (by simp)
    have hb4 : Below w.heap.size w w4 := hb3.grown hgr4 hb3.size (fun j hj => by cases hj; exact Nat.le_refl _)
    have hown0 : w4.ownsRow w.heap.size 4 1 v4 (M + l.length) (bools (List.replicate M false ++ l)) := by
      rw [bools, List.map_append, ← bools, ← bools, bools_zero, ← toList_madeCells_one]; rw [Nat.mul_one] at hown4; exact hown4
    obtain ⟨o, c, rfl, c3⟩ := fin _ _ hown0
    refine c3.mono ?_
    rintro e w5 ⟨rfl, hw, hown5⟩
    have hw2 := hw.symm
    clear hw
    subst hw2
    clear fin hown hown0 hgr h hN c3 hown4 hgr4
    go_wp2
    go_ret
    exact ⟨_, _, rfl, hown5, hb4⟩

end Go.Proofs.YtefckmkcbgckfaaGreatDoor.RefH

/- What the reference's product of lists of bits answers. -/
namespace Go.Proofs.YtefckmkcbgckfaaGreatDoor.BitMul
open Go.RowKit Mem LimbNum Limb1 RefL RefA RefH

theorem prod_len (P Q : List Bool) (k : Nat) : (nb (fromL P * fromL (Q.take k))).length ≤ P.length + k := by
  apply nb_lt
  have h1 := fromL_lt P
  have h2 := fromL_lt (Q.take k)
  have h3 : (2 : Nat) ^ (Q.take k).length ≤ 2 ^ k := Nat.pow_le_pow_right (by omega) (by simp; omega)
  rw [Nat.pow_add]
  exact Nat.mul_lt_mul'' h1 (Nat.lt_of_lt_of_le h2 h3)
theorem prod_step (P Q : List Bool) (k : Nat) (h : Q.getD k false = true) : fromL P * fromL (Q.take (k + 1)) = fromL P * fromL (Q.take k) + fromL P * 2 ^ k := by
  rw [fromL_take_any, h, Nat.mul_add]; simp
theorem prod_skip (P Q : List Bool) (k : Nat) (h : Q.getD k false = false) : fromL P * fromL (Q.take (k + 1)) = fromL P * fromL (Q.take k) := by
  rw [fromL_take_any, h]; simp

set_option maxRecDepth 20000 in
set_option maxHeartbeats 1000000 in
/-- The reference's product. -/
theorem rmul_core (P Q : List Bool) (N : Nat) (hN : Hid (N = fromL P * fromL Q)) (ao1 ao2 : Option Addr) (cap1 cap2 : Nat) (w : World) (h1 : Lies w ao1 cap1 (bools P)) (h2 : Lies w ao2 cap2 (bools Q)) (hl1 : P.length ≤ 1000000) (hl2 : Q.length ≤ 100000) :
    Calls Tryz.prog 28 #[.slice ao1 P.length cap1, .slice ao2 Q.length cap2] w fun e w' => ∃ ao cap, e = .returned (.slice ao (nb N).length cap) ∧ w'.ownsRow w.heap.size 4 1 (.slice ao (nb N).length cap) (nb N).length (bools (nb N)) ∧ Below w.heap.size w w' := by
  go_enter Tryz.func28, Tryz.ntmps28
  go_wp2
  generalize hbase : w.heap.size = base
  go_loopw [5, 10] (fun v i wr => ∃ (k M : Nat) (o : Option Addr) (c : Nat), k ≤ Q.length ∧ i = .int .i64 k ∧ Hid (M = fromL P * fromL (Q.take k)) ∧ v = .slice o (nb M).length c ∧ wr.ownsRow base 4 1 v (nb M).length (bools (nb M)) ∧ Below base w wr)
    (fun _ i _ => Q.length - (intOf i).toNat)
  case atStart =>
    subst hbase
    refine ⟨0, 0, some ⟨w.heap.size, 0, none⟩, 0, Nat.zero_le _, rfl, by unfold Hid; simp [fromL], by rw [nb_zero]; rfl, ?_, (Below.refl _ _).alloc (Nat.le_refl _) _⟩
    rw [nb_zero]
    exact World.ownsRow_lit w #[] 0 (Nat.le_refl _) (by decide) rfl
  case round =>
    obtain ⟨k, M, o, c, hk, rfl, HM, rfl, hown, hb⟩ := hrel
    have hs := hb.size
    by_cases hlt : k < Q.length
    · have g1 := h1.below hb (by omega)
      have g2 := h2.below hb (by omega)
      obtain ⟨b2, off2, rfl, _, hc2⟩ := g2.2.2.2 (by rw [bools_length]; omega)
      have d2 := hc2 k (by rw [bools_length]; omega)
      rw [bools_at _ _ hlt] at d2
      have hML : (nb M).length ≤ 1100000 := by have := prod_len P Q k; rw [← HM.out] at this; omega
      cases hq : Q.getD k false
      · rw [hq] at d2
        have HN : Hid (M = fromL P * fromL (Q.take (k + 1))) := by unfold Hid; rw [prod_skip P Q k hq]; exact HM.out
        clear hc2 g2 HM hq h1 h2 g1
        go_wp2
        go_roundw
        case rel => exact ⟨k + 1, M, o, c, by omega, by go_num, HN, rfl, hown, hb⟩
        case measure => simp [intOf]; omega
      · rw [hq] at d2
        have HN : Hid (M + fromL P * 2 ^ k = fromL P * fromL (Q.take (k + 1))) := by unfold Hid; rw [prod_step P Q k hq, HM.out]
        have cS := rshl_core P (k : Int) k (fromL P * 2 ^ k) rfl rfl (by omega) ao1 cap1 wr g1 (by omega)
        have hSl : (nb (fromL P * 2 ^ k)).length ≤ 1100000 := by
          have h3 := fromL_lt P
          have : (nb (fromL P * 2 ^ k)).length ≤ P.length + k := nb_lt _ _ (by rw [Nat.pow_add]; exact Nat.mul_lt_mul_of_pos_right h3 (Nat.two_pow_pos k))
          omega
        generalize hS : fromL P * 2 ^ k = S at *
        have cA := fun (W : World) (o2 : Option Addr) (c2 : Nat) (g1 : Lies W o c (bools (nb M))) (g2 : Lies W o2 c2 (bools (nb S))) => radd_core (nb M) (nb S) (M + S) (by unfold Hid; rw [fromL_nb, fromL_nb]) o o2 c c2 W g1 g2 (by omega) (by omega)
        clear hc2 g2 HM hq h1 h2 g1 hS hSl hML
        go_wp2_with (first
          | (go_at_call 59; refine cS.mono ?_; rintro e w1 ⟨o1, c1, rfl, hown1, hb1⟩)
          | (go_at_call 43; refine (cA _ _ _ (lies_of_owns (keep hown hb1)) (lies_of_owns hown1)).mono ?_; rintro e w2 ⟨o2, c2, rfl, hown2, hb2⟩))
        have hs1 := hb1.size
        have hs2 := hb2.size
        go_roundw
        case rel => exact ⟨k + 1, M + S, o2, c2, by omega, by go_num, HN, rfl, owns_base hown2 (by omega), (hb.trans (hb1.mono (by omega))).trans (hb2.mono (by omega))⟩
        case measure => simp [intOf]; omega
    · have ek : k = Q.length := by omega
      subst ek
      have e : M = N := by have := HM.out; rw [List.take_of_length_le (Nat.le_refl _)] at this; rw [this, hN.out]
      subst e
      subst hbase
      clear HM hN h1 h2
      go_wp2
      go_ret
      exact ⟨_, _, rfl, hown, hb⟩
end Go.Proofs.YtefckmkcbgckfaaGreatDoor.BitMul

/- What the reference's order of lists of bits answer. -/
namespace Go.Proofs.YtefckmkcbgckfaaGreatDoor.RefC
open Go.RowKit Mem LimbNum Limb1 RefL

set_option maxRecDepth 20000 in
set_option maxHeartbeats 1000000 in
/-- The reference's order. -/
theorem rcmp_any (P Q : List Bool) (ao1 ao2 : Option Addr) (cap1 cap2 : Nat) (w : World) (h1 : Lies w ao1 cap1 (bools P)) (h2 : Lies w ao2 cap2 (bools Q))
    (hlt : P.length < Q.length → fromL P < fromL Q) (hgt : Q.length < P.length → fromL Q < fromL P) :
    Calls Tryz.prog 57 #[.slice ao1 P.length cap1, .slice ao2 Q.length cap2] w fun e w' => e = .returned (.int .i64 (cmpV (fromL P) (fromL Q))) ∧ Below w.heap.size w w' := by
  have m1 := h1.size
  have m2 := h2.size
  rw [bools_length] at m1 m2
  unfold maxLen at m1 m2
  rcases Nat.lt_trichotomy P.length Q.length with hl | hl | hl
  · have e : cmpV (fromL P) (fromL Q) = -1 := by unfold cmpV; rw [if_pos (hlt hl)]
    rw [e]
    clear e hlt hgt h1 h2
    go_enter Tryz.func57, Tryz.ntmps57
    go_wp2
    go_ret
    exact ⟨rfl, Below.refl _ _⟩
  · clear hlt hgt
    go_enter Tryz.func57, Tryz.ntmps57
    go_wp2
    go_loopw [5] (fun i wr => ∃ k : Nat, k ≤ P.length ∧ i = .int .i64 ((k : Int) - 1) ∧ P.drop k = Q.drop k ∧ Below w.heap.size w wr) (fun i _ => (intOf i + 1).toNat)
    case atStart => exact ⟨P.length, Nat.le_refl _, by go_num, by rw [List.drop_length, hl, List.drop_length], Below.refl _ _⟩
    case round =>
      obtain ⟨k, hk, rfl, hd, hb⟩ := hrel
      by_cases hk0 : 1 ≤ k
      · obtain ⟨j, rfl⟩ : ∃ j, k = j + 1 := ⟨k - 1, by omega⟩
        have g1 := h1.below hb (Nat.le_refl _)
        have g2 := h2.below hb (Nat.le_refl _)
        obtain ⟨b1, off1, rfl, _, hc1⟩ := g1.2.2.2 (by rw [bools_length]; omega)
        obtain ⟨b2, off2, rfl, _, hc2⟩ := g2.2.2.2 (by rw [bools_length]; omega)
        have d1 := hc1 j (by rw [bools_length]; omega)
        have d2 := hc2 j (by rw [bools_length]; omega)
        rw [bools_at _ _ (by omega)] at d1 d2
        have q1 : (j : Int) < (P.length : Int) := by omega
        have q2 : (j : Int) < (Q.length : Int) := by omega
        have HD : Hid (P.drop (j + 1) = Q.drop (j + 1)) := hd
        obtain ⟨x, hx⟩ : ∃ x, P.getD j false = x := ⟨_, rfl⟩
        obtain ⟨y, hy⟩ : ∃ y, Q.getD j false = y := ⟨_, rfl⟩
        rw [hx] at d1
        rw [hy] at d2
        have HX : Hid (P.getD j false = x) := hx
        have HY : Hid (Q.getD j false = y) := hy
        have HJ : Hid (x = y → P.drop j = Q.drop j) := fun hxy => by
          rw [List.drop_eq_getElem_cons (show j < P.length by omega), List.drop_eq_getElem_cons (show j < Q.length by omega), HD.out]
          have e1 := HX.out
          have e2 := HY.out
          simp only [List.getD_eq_getElem?_getD, List.getElem?_eq_getElem (show j < P.length by omega), List.getElem?_eq_getElem (show j < Q.length by omega), Option.getD_some] at e1 e2
          rw [e1, e2, hxy]
        have HL : Hid (x = false → y = true → cmpV (fromL P) (fromL Q) = -1) := fun ex ey => by
          unfold cmpV
          rw [if_pos (bcmp_step P Q j hl (by omega) HD.out (by rw [HX.out, ex]) (by rw [HY.out, ey]))]
        have HG : Hid (x = true → y = false → cmpV (fromL P) (fromL Q) = 1) := fun ex ey => by
          have := bcmp_step Q P j hl.symm (by omega) HD.out.symm (by rw [HY.out, ey]) (by rw [HX.out, ex])
          unfold cmpV
          rw [if_neg (by omega), if_neg (by omega)]
        clear hx hy hc1 hc2 g1 g2 h1 h2 hd HX HY HD
        cases x
        · cases y
          · have HJ2 : Hid (P.drop j = Q.drop j) := HJ.out rfl
            clear HJ HL HG
            go_wp2
            go_quiet (fail)
            go_wp2
            go_roundw
            case rel => exact ⟨j, by omega, by go_num, HJ2.out, below_drewN hb _⟩
            case measure => simp [intOf]
          · have HE : Hid (cmpV (fromL P) (fromL Q) = -1) := HL.out rfl rfl
            clear HJ HL HG
            go_wp2
            go_quiet (fail)
            go_wp2
            go_ret
            exact ⟨by rw [HE.out]; rfl, below_drewN hb _⟩
        · cases y
          · have HE : Hid (cmpV (fromL P) (fromL Q) = 1) := HG.out rfl rfl
            clear HJ HL HG
            go_wp2
            go_quiet (fail)
            go_wp2
            go_ret
            exact ⟨by rw [HE.out]; rfl, below_drewN hb _⟩
          · have HJ2 : Hid (P.drop j = Q.drop j) := HJ.out rfl
            clear HJ HL HG
            go_wp2
            go_quiet (fail)
            go_wp2
            go_roundw
            case rel => exact ⟨j, by omega, by go_num, HJ2.out, below_drewN hb _⟩
            case measure => simp [intOf]
      · have : k = 0 := by omega
        subst this
        have e : cmpV (fromL P) (fromL Q) = 0 := by
          rw [List.drop_zero, List.drop_zero] at hd
          rw [hd]; simp [cmpV]
        have HE : Hid (cmpV (fromL P) (fromL Q) = 0) := e
        clear hd e h1 h2
        go_wp2
        go_ret
        exact ⟨by rw [HE.out]; rfl, hb⟩
  · have e : cmpV (fromL P) (fromL Q) = 1 := by unfold cmpV; have := hgt hl; rw [if_neg (by omega), if_neg (by omega)]
    rw [e]
    have q3 : ¬ (P.length : Int) < (Q.length : Int) := by omega
    clear e hlt hgt h1 h2
    go_enter Tryz.func57, Tryz.ntmps57
    go_wp2
    go_ret
    exact ⟨rfl, Below.refl _ _⟩
end Go.Proofs.YtefckmkcbgckfaaGreatDoor.RefC

/- What the reference's order and difference of lists of bits answer. -/
namespace Go.Proofs.YtefckmkcbgckfaaGreatDoor.RefS
open Go.RowKit Mem LimbNum Limb1 RefL

set_option maxRecDepth 20000 in
set_option maxHeartbeats 4000000 in
theorem rsub_core (P Q : List Bool) (N : Nat) (hN : Hid (N = fromL P - fromL Q)) (hle : fromL Q ≤ fromL P) (hql : Q.length ≤ P.length) (ao1 ao2 : Option Addr) (cap1 cap2 : Nat) (w : World) (h1 : Lies w ao1 cap1 (bools P)) (h2 : Lies w ao2 cap2 (bools Q)) (hl1 : P.length ≤ 1073741824) :
    Calls Tryz.prog 58 #[.slice ao1 P.length cap1, .slice ao2 Q.length cap2] w fun e w' => ∃ ao cap, e = .returned (.slice ao (nb N).length cap) ∧ w'.ownsRow w.heap.size 4 1 (.slice ao (nb N).length cap) (nb N).length (bools (nb N)) ∧ Below w.heap.size w w' := by
  obtain ⟨i0, hi, hz0, hz1, hz2⟩ := info_parts infoB
  go_enter Tryz.func58, Tryz.ntmps58
  go_wp2
  generalize hbase : w.heap.size = base
  go_loopw [5, 6, 12] (fun v c i wr => ∃ (k ow : Nat) (F : List Bool), k ≤ P.length ∧ i = .int .i64 k ∧ c = .int .i64 (ow : Int) ∧ ow ≤ 1 ∧ F.length = k ∧ Hid (fromL F + fromL (Q.take k) = fromL (P.take k) + ow * 2 ^ k) ∧ wr.ownsRow base 4 1 v F.length (bools F) ∧ Below base w wr)
    (fun _ _ i _ => P.length - (intOf i).toNat)
  case atStart =>
    subst hbase
    refine ⟨0, 0, [], by omega, rfl, rfl, by omega, rfl, by unfold Hid; simp [fromL], ?_, (Below.refl _ _).alloc (Nat.le_refl _) _⟩
    exact World.ownsRow_lit w #[] 0 (Nat.le_refl _) (by decide) rfl
  case round =>
    obtain ⟨k, ow, F, hk, rfl, rfl, how, hF, HI, hown, hb⟩ := hrel
    have hs := hb.size
    have HST := fun (o2 : Nat) (x y z : Bool) (hx : P.getD k false = x) (hy : Q.getD k false = y) (h : z.toNat + ow + y.toNat = x.toNat + o2 * 2) => bsub_step P Q F k ow o2 x y z hF hx hy h HI
    have hc01 : ow = 0 ∨ ow = 1 := by omega
    by_cases ha : k < P.length
    · have g2 : k < Q.length → ∃ b1 off1, ao2 = some ⟨b1, off1, none⟩ ∧ wr.cell? ⟨b1, off1 + k, none⟩ = some (.bool (Q.getD k false)) := fun hq => by
        have g := h2.below hb (by omega)
        obtain ⟨b2, off2, e, _, hc2⟩ := g.2.2.2 (by rw [bools_length]; omega)
        exact ⟨b2, off2, e, by rw [hc2 k (by rw [bools_length]; omega), bools_at _ _ hq]⟩
      have z2 : Q.length ≤ k → Q.getD k false = false := fun hq => by simp [hq]
      have g := h1.below hb (by omega)
      obtain ⟨b1, off1, rfl, _, hc1⟩ := g.2.2.2 (by rw [bools_length]; omega)
      have d1 := hc1 k (by rw [bools_length]; omega)
      rw [bools_at _ _ ha] at d1
      clear h1 h2 HI g hc1
      obtain ⟨x, ex⟩ : ∃ x, P.getD k false = x := ⟨_, rfl⟩
      obtain ⟨y, ey⟩ : ∃ y, Q.getD k false = y := ⟨_, rfl⟩
      have HST2 : Hid (∀ (o2 : Nat) (z : Bool), z.toNat + ow + y.toNat = x.toNat + o2 * 2 → fromL (F ++ [z]) + fromL (Q.take (k + 1)) = fromL (P.take (k + 1)) + o2 * 2 ^ (k + 1)) := fun o2 z h => HST o2 x y z ex ey h
      rw [ex] at d1
      rw [ey] at g2 z2
      clear HST ex ey
      by_cases hbq : k < Q.length
      · obtain ⟨b2, off2, rfl, d2⟩ := g2 hbq
        clear g2 z2
        rcases hc01 with rfl | rfl
        · cases x
          · cases y
            · go_wp2_with (at_builtin; refine wpList_append_own _ rfl _ _ 29 rfl base 4 i0 (.bool false) 1 1 Tryz.underlying29 hi hz0 hz1 hz2 rfl (by decide) _ _ _ rfl (hown.alloc _) ⟨wr.heap.size, 0, none⟩ 1 1 [.bool false] rfl rfl (cells1 wr _ _) (by intro u hu; simp at hu; subst hu; rfl) (by unfold maxLen; omega) (by omega) (by simp; omega) ?_; intro v' w1 hown' hgrow _)
              have hb1 : Below base w w1 := (hb.alloc (by omega) _).grown hgrow (by simp; omega) (fun j hj => (hown.lt j hj).1)
              clear hgrow hown
              go_wp2
              go_roundw
              case rel => exact ⟨k + 1, 0, F ++ [false], by omega, by go_num, by first | rfl | go_num, by omega, by simp; omega, HST2.out 0 false (by decide), by simpa [bools, hF] using hown', hb1⟩
              case measure => simp [intOf]; omega
            · go_wp2_with (at_builtin; refine wpList_append_own _ rfl _ _ 29 rfl base 4 i0 (.bool false) 1 1 Tryz.underlying29 hi hz0 hz1 hz2 rfl (by decide) _ _ _ rfl (hown.alloc _) ⟨wr.heap.size, 0, none⟩ 1 1 [.bool true] rfl rfl (cells1 wr _ _) (by intro u hu; simp at hu; subst hu; rfl) (by unfold maxLen; omega) (by omega) (by simp; omega) ?_; intro v' w1 hown' hgrow _)
              have hb1 : Below base w w1 := (hb.alloc (by omega) _).grown hgrow (by simp; omega) (fun j hj => (hown.lt j hj).1)
              clear hgrow hown
              go_wp2
              go_roundw
              case rel => exact ⟨k + 1, 1, F ++ [true], by omega, by go_num, by first | rfl | go_num, by omega, by simp; omega, HST2.out 1 true (by decide), by simpa [bools, hF] using hown', hb1⟩
              case measure => simp [intOf]; omega
          · cases y
            · go_wp2_with (at_builtin; refine wpList_append_own _ rfl _ _ 29 rfl base 4 i0 (.bool false) 1 1 Tryz.underlying29 hi hz0 hz1 hz2 rfl (by decide) _ _ _ rfl (hown.alloc _) ⟨wr.heap.size, 0, none⟩ 1 1 [.bool true] rfl rfl (cells1 wr _ _) (by intro u hu; simp at hu; subst hu; rfl) (by unfold maxLen; omega) (by omega) (by simp; omega) ?_; intro v' w1 hown' hgrow _)
              have hb1 : Below base w w1 := (hb.alloc (by omega) _).grown hgrow (by simp; omega) (fun j hj => (hown.lt j hj).1)
              clear hgrow hown
              go_wp2
              go_roundw
              case rel => exact ⟨k + 1, 0, F ++ [true], by omega, by go_num, by first | rfl | go_num, by omega, by simp; omega, HST2.out 0 true (by decide), by simpa [bools, hF] using hown', hb1⟩
              case measure => simp [intOf]; omega
            · go_wp2_with (at_builtin; refine wpList_append_own _ rfl _ _ 29 rfl base 4 i0 (.bool false) 1 1 Tryz.underlying29 hi hz0 hz1 hz2 rfl (by decide) _ _ _ rfl (hown.alloc _) ⟨wr.heap.size, 0, none⟩ 1 1 [.bool false] rfl rfl (cells1 wr _ _) (by intro u hu; simp at hu; subst hu; rfl) (by unfold maxLen; omega) (by omega) (by simp; omega) ?_; intro v' w1 hown' hgrow _)
              have hb1 : Below base w w1 := (hb.alloc (by omega) _).grown hgrow (by simp; omega) (fun j hj => (hown.lt j hj).1)
              clear hgrow hown
              go_wp2
              go_roundw
              case rel => exact ⟨k + 1, 0, F ++ [false], by omega, by go_num, by first | rfl | go_num, by omega, by simp; omega, HST2.out 0 false (by decide), by simpa [bools, hF] using hown', hb1⟩
              case measure => simp [intOf]; omega
        · cases x
          · cases y
            · go_wp2_with (at_builtin; refine wpList_append_own _ rfl _ _ 29 rfl base 4 i0 (.bool false) 1 1 Tryz.underlying29 hi hz0 hz1 hz2 rfl (by decide) _ _ _ rfl (hown.alloc _) ⟨wr.heap.size, 0, none⟩ 1 1 [.bool true] rfl rfl (cells1 wr _ _) (by intro u hu; simp at hu; subst hu; rfl) (by unfold maxLen; omega) (by omega) (by simp; omega) ?_; intro v' w1 hown' hgrow _)
              have hb1 : Below base w w1 := (hb.alloc (by omega) _).grown hgrow (by simp; omega) (fun j hj => (hown.lt j hj).1)
              clear hgrow hown
              go_wp2
              go_roundw
              case rel => exact ⟨k + 1, 1, F ++ [true], by omega, by go_num, by first | rfl | go_num, by omega, by simp; omega, HST2.out 1 true (by decide), by simpa [bools, hF] using hown', hb1⟩
              case measure => simp [intOf]; omega
            · go_wp2_with (at_builtin; refine wpList_append_own _ rfl _ _ 29 rfl base 4 i0 (.bool false) 1 1 Tryz.underlying29 hi hz0 hz1 hz2 rfl (by decide) _ _ _ rfl (hown.alloc _) ⟨wr.heap.size, 0, none⟩ 1 1 [.bool false] rfl rfl (cells1 wr _ _) (by intro u hu; simp at hu; subst hu; rfl) (by unfold maxLen; omega) (by omega) (by simp; omega) ?_; intro v' w1 hown' hgrow _)
              have hb1 : Below base w w1 := (hb.alloc (by omega) _).grown hgrow (by simp; omega) (fun j hj => (hown.lt j hj).1)
              clear hgrow hown
              go_wp2
              go_roundw
              case rel => exact ⟨k + 1, 1, F ++ [false], by omega, by go_num, by first | rfl | go_num, by omega, by simp; omega, HST2.out 1 false (by decide), by simpa [bools, hF] using hown', hb1⟩
              case measure => simp [intOf]; omega
          · cases y
            · go_wp2_with (at_builtin; refine wpList_append_own _ rfl _ _ 29 rfl base 4 i0 (.bool false) 1 1 Tryz.underlying29 hi hz0 hz1 hz2 rfl (by decide) _ _ _ rfl (hown.alloc _) ⟨wr.heap.size, 0, none⟩ 1 1 [.bool false] rfl rfl (cells1 wr _ _) (by intro u hu; simp at hu; subst hu; rfl) (by unfold maxLen; omega) (by omega) (by simp; omega) ?_; intro v' w1 hown' hgrow _)
              have hb1 : Below base w w1 := (hb.alloc (by omega) _).grown hgrow (by simp; omega) (fun j hj => (hown.lt j hj).1)
              clear hgrow hown
              go_wp2
              go_roundw
              case rel => exact ⟨k + 1, 0, F ++ [false], by omega, by go_num, by first | rfl | go_num, by omega, by simp; omega, HST2.out 0 false (by decide), by simpa [bools, hF] using hown', hb1⟩
              case measure => simp [intOf]; omega
            · go_wp2_with (at_builtin; refine wpList_append_own _ rfl _ _ 29 rfl base 4 i0 (.bool false) 1 1 Tryz.underlying29 hi hz0 hz1 hz2 rfl (by decide) _ _ _ rfl (hown.alloc _) ⟨wr.heap.size, 0, none⟩ 1 1 [.bool true] rfl rfl (cells1 wr _ _) (by intro u hu; simp at hu; subst hu; rfl) (by unfold maxLen; omega) (by omega) (by simp; omega) ?_; intro v' w1 hown' hgrow _)
              have hb1 : Below base w w1 := (hb.alloc (by omega) _).grown hgrow (by simp; omega) (fun j hj => (hown.lt j hj).1)
              clear hgrow hown
              go_wp2
              go_roundw
              case rel => exact ⟨k + 1, 1, F ++ [true], by omega, by go_num, by first | rfl | go_num, by omega, by simp; omega, HST2.out 1 true (by decide), by simpa [bools, hF] using hown', hb1⟩
              case measure => simp [intOf]; omega
      · have yy := z2 (by omega)
        subst yy
        clear g2 z2
        rcases hc01 with rfl | rfl
        · cases x
          · go_wp2_with (at_builtin; refine wpList_append_own _ rfl _ _ 29 rfl base 4 i0 (.bool false) 1 1 Tryz.underlying29 hi hz0 hz1 hz2 rfl (by decide) _ _ _ rfl (hown.alloc _) ⟨wr.heap.size, 0, none⟩ 1 1 [.bool false] rfl rfl (cells1 wr _ _) (by intro u hu; simp at hu; subst hu; rfl) (by unfold maxLen; omega) (by omega) (by simp; omega) ?_; intro v' w1 hown' hgrow _)
            have hb1 : Below base w w1 := (hb.alloc (by omega) _).grown hgrow (by simp; omega) (fun j hj => (hown.lt j hj).1)
            clear hgrow hown
            go_wp2
            go_roundw
            case rel => exact ⟨k + 1, 0, F ++ [false], by omega, by go_num, by first | rfl | go_num, by omega, by simp; omega, HST2.out 0 false (by decide), by simpa [bools, hF] using hown', hb1⟩
            case measure => simp [intOf]; omega
          · go_wp2_with (at_builtin; refine wpList_append_own _ rfl _ _ 29 rfl base 4 i0 (.bool false) 1 1 Tryz.underlying29 hi hz0 hz1 hz2 rfl (by decide) _ _ _ rfl (hown.alloc _) ⟨wr.heap.size, 0, none⟩ 1 1 [.bool true] rfl rfl (cells1 wr _ _) (by intro u hu; simp at hu; subst hu; rfl) (by unfold maxLen; omega) (by omega) (by simp; omega) ?_; intro v' w1 hown' hgrow _)
            have hb1 : Below base w w1 := (hb.alloc (by omega) _).grown hgrow (by simp; omega) (fun j hj => (hown.lt j hj).1)
            clear hgrow hown
            go_wp2
            go_roundw
            case rel => exact ⟨k + 1, 0, F ++ [true], by omega, by go_num, by first | rfl | go_num, by omega, by simp; omega, HST2.out 0 true (by decide), by simpa [bools, hF] using hown', hb1⟩
            case measure => simp [intOf]; omega
        · cases x
          · go_wp2_with (at_builtin; refine wpList_append_own _ rfl _ _ 29 rfl base 4 i0 (.bool false) 1 1 Tryz.underlying29 hi hz0 hz1 hz2 rfl (by decide) _ _ _ rfl (hown.alloc _) ⟨wr.heap.size, 0, none⟩ 1 1 [.bool true] rfl rfl (cells1 wr _ _) (by intro u hu; simp at hu; subst hu; rfl) (by unfold maxLen; omega) (by omega) (by simp; omega) ?_; intro v' w1 hown' hgrow _)
            have hb1 : Below base w w1 := (hb.alloc (by omega) _).grown hgrow (by simp; omega) (fun j hj => (hown.lt j hj).1)
            clear hgrow hown
            go_wp2
            go_roundw
            case rel => exact ⟨k + 1, 1, F ++ [true], by omega, by go_num, by first | rfl | go_num, by omega, by simp; omega, HST2.out 1 true (by decide), by simpa [bools, hF] using hown', hb1⟩
            case measure => simp [intOf]; omega
          · go_wp2_with (at_builtin; refine wpList_append_own _ rfl _ _ 29 rfl base 4 i0 (.bool false) 1 1 Tryz.underlying29 hi hz0 hz1 hz2 rfl (by decide) _ _ _ rfl (hown.alloc _) ⟨wr.heap.size, 0, none⟩ 1 1 [.bool false] rfl rfl (cells1 wr _ _) (by intro u hu; simp at hu; subst hu; rfl) (by unfold maxLen; omega) (by omega) (by simp; omega) ?_; intro v' w1 hown' hgrow _)
            have hb1 : Below base w w1 := (hb.alloc (by omega) _).grown hgrow (by simp; omega) (fun j hj => (hown.lt j hj).1)
            clear hgrow hown
            go_wp2
            go_roundw
            case rel => exact ⟨k + 1, 0, F ++ [false], by omega, by go_num, by first | rfl | go_num, by omega, by simp; omega, HST2.out 0 false (by decide), by simpa [bools, hF] using hown', hb1⟩
            case measure => simp [intOf]; omega
    · have ek : k = P.length := by omega
      have hF2 : fromL F = N := by
        subst ek
        rw [bsub_end P Q F ow hF hql hle how HI, hN.out]
      obtain ⟨ao3, cap3, e3⟩ := owns_shape hown
      rw [e3] at hown ⊢
      have c1 := cut_own F base ao3 cap3 wr hown
      rw [hF2] at c1
      clear hown HI hF2 HST h1 h2 hc01 hN hle ek
      subst hF
      go_wp2_with (go_at_call 36; refine c1.mono ?_; rintro e w5 ⟨rfl, hw, hown5⟩; have hw2 := hw.symm; clear hw; subst hw2)
      go_ret
      exact ⟨_, _, rfl, by first | exact hown5 | (rw [hbase]; exact hown5), by first | exact hb | (rw [hbase]; exact hb)⟩

end Go.Proofs.YtefckmkcbgckfaaGreatDoor.RefS

/- What the reference's quotient of lists of bits answers. -/
namespace Go.Proofs.YtefckmkcbgckfaaGreatDoor.BitDiv
open Go.RowKit Mem LimbNum Limb1 RefL RefA RefH RefC RefS BitMul AppL

theorem bdiv_step (P D : List Bool) (k V R : Nat) (x : Bool) (hk : k < P.length) (hx : P.getD k false = x) (h : fromL (P.drop (k + 1)) = fromL D * V + R) :
    fromL (P.drop k) = fromL (false :: D) * V + (x.toNat + 2 * R) := by
  rw [fromL_drop P k hk, hx, h, fromL]; simp; grind
theorem bdiv_yes (D : List Bool) (V R T : Nat) (hv : V ≤ R) (h : T = fromL (false :: D) * V + R) : T = fromL (true :: D) * V + (R - V) := by
  rw [h, fromL, fromL]; simp
  obtain ⟨r, rfl⟩ : ∃ r, R = V + r := ⟨R - V, by omega⟩
  rw [Nat.add_sub_cancel_left, Nat.add_mul, Nat.one_mul]; omega
theorem bdiv_end (N V Q R : Nat) (h : N = Q * V + R) (hr : R < V) : Q = N / V ∧ R = N % V := by
  subst h
  rw [Nat.mul_comm, Nat.mul_add_div (by omega), Nat.mul_add_mod, Nat.div_eq_of_lt hr, Nat.mod_eq_of_lt hr]
  exact ⟨by omega, rfl⟩
theorem fill_low (D : List Bool) (k : Nat) (b : Bool) : (List.replicate (k + 1) false ++ D).set k b = List.replicate k false ++ (b :: D) := by
  rw [List.replicate_succ', List.append_assoc, List.set_append_right _ _ (by simp)]
  simp
theorem bools_set (l : List Bool) (i : Nat) (b : Bool) : (bools l).set i (.bool b) = bools (l.set i b) := by rw [bools, bools, List.map_set]
theorem nb_len_le (P : List Bool) (k V R : Nat) (h : fromL (P.drop k) = R + V) : (nb R).length ≤ P.length := by
  apply nb_lt
  have h1 := fromL_lt (P.drop k)
  have h2 : (2 : Nat) ^ (P.drop k).length ≤ 2 ^ P.length := Nat.pow_le_pow_right (by omega) (by simp)
  omega

set_option maxRecDepth 20000 in
set_option maxHeartbeats 2000000 in
/-- The reference's quotient and what is left. -/
theorem rdiv_core (P : List Bool) (V q r : Nat) (hq : Hid (q = fromL P / V)) (hr : Hid (r = fromL P % V)) (hV : 0 < V) (ao1 ao2 : Option Addr) (cap1 cap2 : Nat) (w : World) (h1 : Lies w ao1 cap1 (bools P)) (h2 : Lies w ao2 cap2 (bools (nb V))) (hl1 : P.length ≤ 1000000) :
    Calls Tryz.prog 27 #[.slice ao1 P.length cap1, .slice ao2 (nb V).length cap2] w fun e w' => ∃ o1 c1 o2 c2, e = .returned (.tuple #[.slice o1 (nb q).length c1, .slice o2 (nb r).length c2]) ∧
      w'.ownsRow w.heap.size 4 1 (.slice o1 (nb q).length c1) (nb q).length (bools (nb q)) ∧ w'.ownsRow w.heap.size 4 1 (.slice o2 (nb r).length c2) (nb r).length (bools (nb r)) ∧ Below w.heap.size w w' := by
  obtain ⟨i0, hi, hz0, hz1, hz2⟩ := info_parts infoB
  have m1 := h1.size
  rw [bools_length] at m1
  unfold maxLen at m1
  go_enter Tryz.func27, Tryz.ntmps27
  go_wp2_with (at_make; refine wpList_make_full _ rfl _ _ 29 rfl w.heap.size 4 i0 (.bool false) 1 Tryz.underlying29 hi hz0 hz1 .i64 .i64 (P.length : Int) (P.length : Int) P.length rfl rfl rfl rfl (by rw [hz2]; omega) (by unfold maxLen; omega) (Nat.le_refl _) ?_; intro w3 hown hgr)
  have hown0 : w3.ownsRow w.heap.size 4 1 (.slice (some ⟨w.heap.size, 0, none⟩) P.length P.length) P.length (bools (List.replicate P.length false)) := by
    rw [bools_zero, ← toList_madeCells_one]; rw [Nat.mul_one] at hown; exact hown
  have hb3 : Below w.heap.size w w3 := (Below.refl _ _).grown hgr (Nat.le_refl _) (by simp)
  have hs3 := hb3.size
  have hg3 : w.heap.size < w3.heap.size := (hown0.lt _ rfl).2
  clear hown hgr
  generalize hgg : w.heap.size = g at *
  go_loopw [7, 8] (fun v i wr => ∃ (k R : Nat) (D : List Bool) (o : Option Addr) (c : Nat), k ≤ P.length ∧ i = .int .i64 ((k : Int) - 1) ∧ Hid (k + D.length = P.length) ∧ R < V ∧ Hid (fromL (P.drop k) = fromL D * V + R) ∧ v = .slice o (nb R).length c ∧ wr.ownsRow g 4 1 v (nb R).length (bools (nb R)) ∧
      wr.ownsRow g 4 1 (.slice (some ⟨g, 0, none⟩) P.length P.length) P.length (bools (List.replicate k false ++ D)) ∧ Below g w wr)
    (fun _ i _ => (intOf i + 1).toNat)
  case atStart =>
    refine ⟨P.length, 0, [], some ⟨w3.heap.size, 0, none⟩, 0, Nat.le_refl _, by go_num, by unfold Hid; simp, hV, by unfold Hid; simp [fromL], by rw [nb_zero]; rfl, ?_, by rw [List.append_nil]; exact hown0.alloc _, hb3.alloc (by omega) _⟩
    rw [nb_zero]
    exact World.ownsRow_lit w3 #[] 0 (by omega) (by decide) rfl
  case round =>
    clear hown0 hb3
    obtain ⟨k, R, D, o, c, hk, rfl, HD, hR, HV, rfl, hown, hownq, hb⟩ := hrel
    have hs := hb.size
    have hgw : g < wr.heap.size := (hownq.lt _ rfl).2
    by_cases hk0 : 1 ≤ k
    · obtain ⟨j, rfl⟩ : ∃ j, k = j + 1 := ⟨k - 1, by omega⟩
      have g1 := h1.below hb (by omega)
      obtain ⟨b1, off1, rfl, _, hc1⟩ := g1.2.2.2 (by rw [bools_length]; omega)
      have d1 := hc1 j (by rw [bools_length]; omega)
      rw [bools_at _ _ (by omega)] at d1
      obtain ⟨x, hx⟩ : ∃ x, P.getD j false = x := ⟨_, rfl⟩
      rw [hx] at d1
      have HS := bdiv_step P D j V R x (by omega) hx HV.out
      have hRl : (nb R).length ≤ P.length := nb_len_le P (j + 1) (fromL D * V) R (by rw [HV.out, Nat.add_comm])
      obtain ⟨T, hT⟩ : ∃ T, T = x.toNat + 2 * R := ⟨_, rfl⟩
      rw [← hT] at HS
      have hTl : (nb T).length ≤ P.length := nb_len_le P j (fromL (false :: D) * V) T (by rw [HS, Nat.add_comm])
      have hT2 : T < 2 * V := by rw [hT]; cases x <;> simp <;> omega
      have eT : fromL ([x] ++ nb R) = T := by rw [hT, fromL_append, fromL_nb]; simp [fromL]
      have hlen1 : ([x] ++ nb R).length = 1 + (nb R).length := by simp; omega
      have cCut := fun (W : World) (o1 : Option Addr) (c1 : Nat) (h : W.ownsRow wr.heap.size 4 1 (.slice o1 (1 + (nb R).length) c1) (1 + (nb R).length) (bools ([x] ++ nb R))) => cut_own ([x] ++ nb R) wr.heap.size o1 c1 W (by rw [hlen1]; exact h)
      rw [eT, hlen1] at cCut
      have cCmp := fun (W : World) (hb2 : Below g w W) (o1 : Option Addr) (c1 : Nat) (h : Lies W o1 c1 (bools (nb T))) => rcmp_any (nb T) (nb V) o1 ao2 c1 cap2 W h (h2.below hb2 (by omega)) (fun h => by rw [fromL_nb, fromL_nb]; exact nb_len_lt _ _ h) (fun h => by rw [fromL_nb, fromL_nb]; exact nb_len_lt _ _ h)
      rw [fromL_nb, fromL_nb] at cCmp
      have hown1 : wr.ownsRow g 4 1 (.slice o (nb R).length c) (nb R).length (bools (nb R)) := hown
      have hlit : (wr.alloc (.cells #[.bool x] 4)).ownsRow wr.heap.size 4 1 (.slice (some ⟨wr.heap.size, 0, none⟩) 1 1) 1 [.bool x] := World.ownsRow_lit wr #[.bool x] 1 (Nat.le_refl _) (by decide) rfl
      have hlr : Lies (wr.alloc (.cells #[.bool x] 4)) o c (bools (nb R)) := (lies_of_owns hown).alloc _
      have pre : ∀ (W : World) (o1 : Option Addr) (c1 : Nat), W.ownsRow wr.heap.size 4 1 (.slice o1 (1 + (nb R).length) c1) (1 + (nb R).length) ([.bool x] ++ bools (nb R)) → W.ownsRow wr.heap.size 4 1 (.slice o1 (1 + (nb R).length) c1) (1 + (nb R).length) (bools ([x] ++ nb R)) := fun W o1 c1 h => by simpa [bools] using h
      have hgw2 : g ≤ wr.heap.size := by omega
      have hgw3 : g ≤ (wr.alloc (.cells #[.bool x] 4)).heap.size := by simp; omega
      have keepq : ∀ W : World, (wr.alloc (.cells #[.bool x] 4)).grownBy W (Value.slice (some ⟨wr.heap.size, 0, none⟩) 1 1).ownBlock → W.ownsRow g 4 1 (.slice (some ⟨g, 0, none⟩) P.length P.length) P.length (bools (List.replicate (j + 1) false ++ D)) := fun W hW =>
        (hownq.alloc _).kept hW (.inr (by simp [Value.ownBlock]; omega))
      have hlq : (List.replicate (j + 1) false ++ D).length = P.length := by have := HD.out; simp; omega
      have cellq : ∀ W : World, W.ownsRow g 4 1 (.slice (some ⟨g, 0, none⟩) P.length P.length) P.length (bools (List.replicate (j + 1) false ++ D)) →
          W.cell? ⟨g, j, none⟩ = some (.bool ((List.replicate (j + 1) false ++ D).getD j false)) ∧ W.frozen? ⟨g, j, none⟩ = false ∧ (W.setCell ⟨g, j, none⟩ (.bool true)).ownsRow g 4 1 (.slice (some ⟨g, 0, none⟩) P.length P.length) P.length (bools (List.replicate j false ++ (true :: D))) := fun W hW => by
        refine ⟨by rw [hW.cellAt j (by omega), bools_at _ _ (by omega)], hW.frozenAt j, ?_⟩
        obtain ⟨hR1, _⟩ := hW.stored j (.bool true)
        rw [bools_set, fill_low] at hR1
        exact hR1
      by_cases hge : V ≤ T
      · have hc0 : 0 ≤ cmpV T V := by unfold cmpV; split <;> (try split) <;> omega
        have cSub := fun (W : World) (hb2 : Below g w W) (o1 : Option Addr) (c1 : Nat) (h : Lies W o1 c1 (bools (nb T))) => rsub_core (nb T) (nb V) (T - V) (by unfold Hid; rw [fromL_nb, fromL_nb]) (by rw [fromL_nb, fromL_nb]; exact hge) (nb_mono _ _ hge) o1 ao2 c1 cap2 W h (h2.below hb2 (by omega)) (by omega)
        have HV2 : Hid (fromL (P.drop j) = fromL (true :: D) * V + (T - V)) := bdiv_yes D V T _ hge HS
        have HD2 : Hid (j + (true :: D).length = P.length) := by have := HD.out; unfold Hid; simp; omega
        have hTV : T - V < V := by omega
        clear hc1 g1 h1 h2 HV HS eT hlen1 hx hT hown HD hge hT2 hTl hlq hownq
        generalize cmpV T V = C at *
        go_wp2_with (first
          | (at_builtin; (refine wpList_append_lies _ rfl _ _ 29 rfl wr.heap.size 4 i0 (.bool false) 1 Tryz.underlying29 hi hz0 hz1 hz2 rfl _ 1 [.bool x] rfl hlit o (nb R).length c (bools (nb R)) rfl (bools_length _) hlr (bools_one _) (by unfold maxLen; omega) (by omega) (by simp) ?_); intro v1 w1 hown2 hgr2; obtain ⟨o1, c1, rfl⟩ := owns_shape hown2; have hown3 := pre _ _ _ hown2; have hb1 : Below g w w1 := (hb.alloc hgw2 _).grown hgr2 hgw3 (fun j hj => by cases hj; exact hgw2); have hq1 := keepq _ hgr2)
          | (go_at_call 36; refine (cCut _ _ _ hown3).mono ?_; rintro e w4 ⟨rfl, hw, hown4⟩; have hw2 := hw.symm; clear hw; subst hw2)
          | (go_at_call 57; refine (cCmp _ hb1 _ _ (lies_of_owns hown4)).mono ?_; rintro e w5 ⟨rfl, hb5⟩; have H5 := hb1.trans (hb5.mono (by have := hb1.size; omega)))
          | (go_at_call 58; refine (cSub _ H5 _ _ (lies_of_owns (keep hown4 hb5))).mono ?_; rintro e w6 ⟨o6, c6, rfl, hown6, hb6⟩; have H6 := H5.trans (hb6.mono (by have := H5.size; omega)); obtain ⟨hcq, hfq, hsq⟩ := cellq _ (keep (keep hq1 hb5) hb6)))
        have hs1 := hb1.size
        have hs5 := H5.size
        have hg1 : g < w1.heap.size := (hq1.lt _ rfl).2
        have hg5 := hb5.size
        go_roundw
        case rel => exact ⟨j, T - V, true :: D, o6, c6, by omega, by go_num, HD2, hTV, HV2, rfl, owns_base (ownsRow_setCell_below hown6 (a := ⟨g, j, none⟩) (by show g < _; omega) _) (by omega), hsq, H6.setCell (by exact Nat.le_refl _) _⟩
        case measure => simp [intOf]
      · have hc0 : cmpV T V < 0 := by unfold cmpV; split <;> (try split) <;> omega
        have HV2 : Hid (fromL (P.drop j) = fromL (false :: D) * V + T) := HS
        have HD2 : Hid (j + (false :: D).length = P.length) := by have := HD.out; unfold Hid; simp; omega
        have hTV : T < V := by omega
        have eq : List.replicate (j + 1) false ++ D = List.replicate j false ++ (false :: D) := by rw [List.replicate_succ']; simp
        rw [eq] at keepq
        clear hc1 g1 h1 h2 HV HS eT hlen1 hx hT hown HD hge hT2 hTl cellq hlq hownq eq
        generalize cmpV T V = C at *
        go_wp2_with (first
          | (at_builtin; (refine wpList_append_lies _ rfl _ _ 29 rfl wr.heap.size 4 i0 (.bool false) 1 Tryz.underlying29 hi hz0 hz1 hz2 rfl _ 1 [.bool x] rfl hlit o (nb R).length c (bools (nb R)) rfl (bools_length _) hlr (bools_one _) (by unfold maxLen; omega) (by omega) (by simp) ?_); intro v1 w1 hown2 hgr2; obtain ⟨o1, c1, rfl⟩ := owns_shape hown2; have hown3 := pre _ _ _ hown2; have hb1 : Below g w w1 := (hb.alloc hgw2 _).grown hgr2 hgw3 (fun j hj => by cases hj; exact hgw2); have hq1 := keepq _ hgr2)
          | (go_at_call 36; refine (cCut _ _ _ hown3).mono ?_; rintro e w4 ⟨rfl, hw, hown4⟩; have hw2 := hw.symm; clear hw; subst hw2)
          | (go_at_call 57; refine (cCmp _ hb1 _ _ (lies_of_owns hown4)).mono ?_; rintro e w5 ⟨rfl, hb5⟩; have H5 := hb1.trans (hb5.mono (by have := hb1.size; omega))))
        go_roundw
        case rel => exact ⟨j, T, false :: D, o1, c1, by omega, by go_num, HD2, hTV, HV2, rfl, owns_base (keep hown4 hb5) (by omega), keep hq1 hb5, H5⟩
        case measure => simp [intOf]
    · have : k = 0 := by omega
      subst this
      obtain ⟨e1, e2⟩ := bdiv_end (fromL P) V (fromL D) R (by have := HV.out; rwa [List.drop_zero] at this) hR
      have e3 : R = r := by rw [e2, hr.out]
      subst e3
      have e4 : fromL D = q := by rw [e1, hq.out]
      have hDl : D.length = P.length := by have := HD.out; omega
      rw [List.replicate_zero, List.nil_append] at hownq
      have c1 := cut_own D g (some ⟨g, 0, none⟩) P.length wr (by rw [hDl]; exact hownq)
      rw [e4, hDl] at c1
      clear hownq HV HD h1 h2 e1 e2 e4 hDl hq hr
      go_wp2_with (go_at_call 36; refine c1.mono ?_; rintro e w5 ⟨rfl, hw, hown5⟩; have hw2 := hw.symm; clear hw; subst hw2)
      go_ret2
      exact ⟨_, _, _, _, rfl, by rw [hgg]; exact hown5, by rw [hgg]; exact hown, by rw [hgg]; exact hb⟩
end Go.Proofs.YtefckmkcbgckfaaGreatDoor.BitDiv

/- What order, count of bits and difference of lists of limbs answer; and that the check of answers that the document fixes says yes. -/
namespace Go.Proofs.YtefckmkcbgckfaaGreatDoor.Limb2
open Go.RowKit Mem LimbNum Limb1

theorem nl_len_lt (M N : Nat) (h : (nl M).length < (nl N).length) : M < N := by
  rcases Nat.lt_or_ge M N with h1 | h1
  · exact h1
  · have h2 := val_lt (nl M) (small_nl M)
    rw [val_nl] at h2
    have := nl_lt (nl M).length N (by omega)
    omega
theorem val_split (P : List Nat) (i : Nat) (h : i < P.length) : val P = val (P.take i) + 4294967296 ^ i * (P.getD i 0 + 4294967296 * val (P.drop (i + 1))) := by
  have h1 := val_append (P.take i) (P.drop i)
  rw [List.take_append_drop, List.drop_eq_getElem_cons h, List.length_take, Nat.min_eq_left (by omega), val] at h1
  rw [h1]; simp [h]
theorem take_lt (P : List Nat) (hP : Small P) (i : Nat) (h : i ≤ P.length) : val (P.take i) < 4294967296 ^ i := by
  have := val_lt (P.take i) (fun x hx => hP x (List.mem_of_mem_take hx))
  rwa [List.length_take, Nat.min_eq_left h] at this
theorem cmp_step (P Q : List Nat) (i : Nat) (hP : Small P) (hl : P.length = Q.length) (h : i < P.length) (hd : P.drop (i + 1) = Q.drop (i + 1)) (hx : P.getD i 0 < Q.getD i 0) : val P < val Q := by
  rw [val_split P i h, val_split Q i (by omega), hd]
  have h1 := take_lt P hP i (by omega)
  have h2 : 4294967296 ^ i * (P.getD i 0 + 4294967296 * val (Q.drop (i + 1))) + 4294967296 ^ i ≤ 4294967296 ^ i * (Q.getD i 0 + 4294967296 * val (Q.drop (i + 1))) := by
    rw [← Nat.mul_succ]; exact Nat.mul_le_mul_left _ (by omega)
  omega
theorem nl_prefix (A : List Nat) (hA : Small A) : ∃ n, n ≤ A.length ∧ A.take n = nl (val A) := by
  induction hk : A.length generalizing A with
  | zero => exact ⟨0, by omega, by rw [List.length_eq_zero_iff.1 hk]; exact nl_zero.symm⟩
  | succ k ih =>
    by_cases h0 : A.getD k 0 = 0
    · have e : A = A.take k ++ [0] := by
        have h1 : A.take (k + 1) = A := List.take_of_length_le (by omega)
        rw [List.take_succ_eq_append_getElem (by omega)] at h1
        have h2 : A[k] = 0 := by simpa [show k < A.length by omega] using h0
        rw [h2] at h1; exact h1.symm
      obtain ⟨n, hn, h⟩ := ih (A.take k) (fun x hx => hA x (List.mem_of_mem_take hx)) (by rw [List.length_take]; omega)
      have hv : val A = val (A.take k) := by have e2 := congrArg val e; rw [val_append] at e2; simpa [val] using e2
      refine ⟨n, by omega, ?_⟩
      rw [hv, ← h, List.take_take, Nat.min_eq_left hn]
    · exact ⟨k + 1, by omega, trim_is A (k + 1) hA (by omega) (fun i h1 h2 => by omega) (.inr (by simpa using h0))⟩
theorem lies_trim {A : List Nat} {ao : Option Addr} {cap : Nat} {w : World} (h : Lies w ao cap (ints .u32 A)) (hA : Small A) : Lies w ao cap (ints .u32 (nl (val A))) := by
  obtain ⟨n, _, h2⟩ := nl_prefix A hA
  rw [← h2, ints_take]
  exact h.take n
theorem order_any (c : Bool) (w : World) : Calls Tryz.prog 81 #[.bool c] w fun e w' => e = .returned (.int .i64 (if c then -1 else 1)) ∧ w' = w := by
  cases c
  · go_enter Tryz.func81, Tryz.ntmps81
    go_wp2
    go_ret
    exact ⟨rfl, rfl⟩
  · go_enter Tryz.func81, Tryz.ntmps81
    go_wp2
    go_ret
    exact ⟨rfl, rfl⟩

set_option maxRecDepth 20000 in
set_option maxHeartbeats 1000000 in
theorem cmp_core (A B P Q : List Nat) (ao1 ao2 : Option Addr) (cap1 cap2 : Nat) (w : World) (h1 : Lies w ao1 cap1 (ints .u32 P)) (h2 : Lies w ao2 cap2 (ints .u32 Q))
    (c1 : Calls Tryz.prog 47 #[.slice ao1 A.length cap1] w fun e w' => e = .returned (.slice ao1 P.length cap1) ∧ w' = w)
    (c2 : Calls Tryz.prog 47 #[.slice ao2 B.length cap2] w fun e w' => e = .returned (.slice ao2 Q.length cap2) ∧ w' = w)
    (hP : Small P) (hQ : Small Q) (hlt : P.length < Q.length → val P < val Q) (hgt : Q.length < P.length → val Q < val P) :
    Calls Tryz.prog 64 #[.slice ao1 A.length cap1, .slice ao2 B.length cap2] w fun e w' => e = .returned (.int .i64 (cmpV (val P) (val Q))) ∧ Below w.heap.size w w' := by
  have m1 := h1.size
  have m2 := h2.size
  rw [ints_length] at m1 m2
  unfold maxLen at m1 m2
  have t1 : True := trivial
  rcases Nat.lt_trichotomy P.length Q.length with hl | hl | hl
  · have e : cmpV (val P) (val Q) = -1 := by unfold cmpV; rw [if_pos (hlt hl)]
    rw [e]
    clear e hlt hgt h1 h2 hP hQ
    go_enter Tryz.func64, Tryz.ntmps64
    go_wp2_with (first
      | (go_at_call 47; have _t := t1; clear _t t1; refine c1.mono ?_; rintro e w2 ⟨rfl, hw⟩; have hw2 := hw.symm; clear hw; subst hw2)
      | (go_at_call 47; refine c2.mono ?_; rintro e w2 ⟨rfl, hw⟩; have hw2 := hw.symm; clear hw; subst hw2)
      | (go_at_call 81; refine (order_any _ _).mono ?_; rintro e w2 ⟨rfl, hw⟩; have hw2 := hw.symm; clear hw; subst hw2))
    go_ret
    exact ⟨by first | rfl | simp [hl], Below.refl _ _⟩
  · clear hlt hgt
    go_enter Tryz.func64, Tryz.ntmps64
    go_wp2_with (first
      | (go_at_call 47; have _t := t1; clear _t t1; refine c1.mono ?_; rintro e w2 ⟨rfl, hw⟩; have hw2 := hw.symm; clear hw; subst hw2)
      | (go_at_call 47; refine c2.mono ?_; rintro e w2 ⟨rfl, hw⟩; have hw2 := hw.symm; clear hw; subst hw2)
      | (go_at_call 81; refine (order_any _ _).mono ?_; rintro e w2 ⟨rfl, hw⟩; have hw2 := hw.symm; clear hw; subst hw2))
    clear c1 c2
    go_loopw [5] (fun i wr => ∃ k : Nat, k ≤ P.length ∧ i = .int .i64 ((k : Int) - 1) ∧ P.drop k = Q.drop k ∧ Below w.heap.size w wr) (fun i _ => (intOf i + 1).toNat)
    case atStart => exact ⟨P.length, Nat.le_refl _, by go_num, by rw [List.drop_length, hl, List.drop_length], Below.refl _ _⟩
    case round =>
      obtain ⟨k, hk, rfl, hd, hb⟩ := hrel
      by_cases hk0 : 1 ≤ k
      · obtain ⟨j, rfl⟩ : ∃ j, k = j + 1 := ⟨k - 1, by omega⟩
        have g1 := h1.below hb (Nat.le_refl _)
        have g2 := h2.below hb (Nat.le_refl _)
        obtain ⟨b1, off1, rfl, _, hc1⟩ := g1.2.2.2 (by rw [ints_length]; omega)
        obtain ⟨b2, off2, rfl, _, hc2⟩ := g2.2.2.2 (by rw [ints_length]; omega)
        have d1 := hc1 j (by rw [ints_length]; omega)
        have d2 := hc2 j (by rw [ints_length]; omega)
        rw [ints_get _ _ _ (by omega)] at d1 d2
        have q1 : (j : Int) < (P.length : Int) := by omega
        have q2 : (j : Int) < (Q.length : Int) := by omega
        have HD : Hid (P.drop (j + 1) = Q.drop (j + 1)) := hd
        obtain ⟨x, hx⟩ : ∃ x, x = P.getD j 0 := ⟨_, rfl⟩
        obtain ⟨y, hy⟩ : ∃ y, y = Q.getD j 0 := ⟨_, rfl⟩
        rw [← hx] at d1
        rw [← hy] at d2
        have HX : Hid (x = P.getD j 0) := hx
        have HY : Hid (y = Q.getD j 0) := hy
        clear hx hy hc1 hc2 g1 g2 h1 h2 hd
        rcases Nat.lt_trichotomy x y with hxy | hxy | hxy
        · have e : cmpV (val P) (val Q) = -1 := by
            unfold cmpV
            rw [if_pos (cmp_step P Q j hP hl (by omega) HD.out (by rw [← HX.out, ← HY.out]; exact hxy))]
          have q3 : (x : Int) < (y : Int) := by omega
          have HE : Hid (cmpV (val P) (val Q) = -1) := e
          clear e
          go_wp2
          go_quiet (fail)
          go_wp2
          go_quiet ((go_at_call 81; exact (order_any _ _).mono (fun e w'' h => ⟨h.1, _, h.2⟩)))
          go_wp2
          go_ret
          exact ⟨by rw [HE.out]; first | rfl | simp [q3], by first | exact below_drewN hb _ | exact below_drewN (below_drewN hb _) _⟩
        · subst hxy
          go_wp2
          go_quiet (fail)
          go_wp2
          go_roundw
          case rel =>
            refine ⟨j, by omega, by go_num, ?_, below_drewN hb _⟩
            rw [List.drop_eq_getElem_cons (show j < P.length by omega), List.drop_eq_getElem_cons (show j < Q.length by omega), HD.out]
            have e1 := HX.out
            have e2 := HY.out
            simp only [List.getD_eq_getElem?_getD, List.getElem?_eq_getElem (show j < P.length by omega), List.getElem?_eq_getElem (show j < Q.length by omega), Option.getD_some] at e1 e2
            rw [← e1, ← e2]
          case measure => simp [intOf]
        · have hgt := cmp_step Q P j hQ hl.symm (by omega) HD.out.symm (by rw [← HX.out, ← HY.out]; exact hxy)
          have e : cmpV (val P) (val Q) = 1 := by
            unfold cmpV
            rw [if_neg (by omega), if_neg (by omega)]
          have q3 : ¬ (x : Int) < (y : Int) := by omega
          have q4 : decide (x < y) = false := by simp; omega
          have HE : Hid (cmpV (val P) (val Q) = 1) := e
          clear e
          go_wp2
          go_quiet (fail)
          go_wp2
          go_quiet ((go_at_call 81; exact (order_any _ _).mono (fun e w'' h => ⟨h.1, _, h.2⟩)))
          go_wp2
          go_ret
          exact ⟨by rw [HE.out]; first | rfl | simp [q3] | (simp; omega), by first | exact below_drewN hb _ | exact below_drewN (below_drewN hb _) _⟩
      · have : k = 0 := by omega
        subst this
        have e : cmpV (val P) (val Q) = 0 := by
          rw [List.drop_zero, List.drop_zero] at hd
          rw [hd]; simp [cmpV]
        have HE : Hid (cmpV (val P) (val Q) = 0) := e
        clear hd e h1 h2
        go_wp2
        go_ret
        exact ⟨by rw [HE.out]; rfl, hb⟩
  · have e : cmpV (val P) (val Q) = 1 := by unfold cmpV; have := hgt hl; rw [if_neg (by omega), if_neg (by omega)]
    rw [e]
    have q3 : ¬ (P.length : Int) < (Q.length : Int) := by omega
    clear e hlt hgt h1 h2 hP hQ
    go_enter Tryz.func64, Tryz.ntmps64
    go_wp2_with (first
      | (go_at_call 47; have _t := t1; clear _t t1; refine c1.mono ?_; rintro e w2 ⟨rfl, hw⟩; have hw2 := hw.symm; clear hw; subst hw2)
      | (go_at_call 47; refine c2.mono ?_; rintro e w2 ⟨rfl, hw⟩; have hw2 := hw.symm; clear hw; subst hw2)
      | (go_at_call 81; refine (order_any _ _).mono ?_; rintro e w2 ⟨rfl, hw⟩; have hw2 := hw.symm; clear hw; subst hw2))
    go_ret
    exact ⟨by first | rfl | simp [q3] | (simp; omega), Below.refl _ _⟩
/-- Cmp: the order of the two numbers. -/
theorem cmp_any (A B : List Nat) (ao1 ao2 : Option Addr) (cap1 cap2 : Nat) (w : World) (h1 : Lies w ao1 cap1 (ints .u32 A)) (h2 : Lies w ao2 cap2 (ints .u32 B)) (hA : Small A) (hB : Small B) :
    Calls Tryz.prog 64 #[.slice ao1 A.length cap1, .slice ao2 B.length cap2] w fun e w' => e = .returned (.int .i64 (cmpV (val A) (val B))) ∧ Below w.heap.size w w' := by
  have t1 := trim_any A ao1 cap1 w h1 hA
  have t2 := trim_any B ao2 cap2 w h2 hB
  have l1 : Lies w ao1 cap1 (ints .u32 (nl (val A))) := lies_trim h1 hA
  have l2 : Lies w ao2 cap2 (ints .u32 (nl (val B))) := lies_trim h2 hB
  have := cmp_core A B (nl (val A)) (nl (val B)) ao1 ao2 cap1 cap2 w l1 l2 (t1.mono fun e w' h => ⟨h.1, h.2.1⟩) (t2.mono fun e w' h => ⟨h.1, h.2.1⟩) (small_nl _) (small_nl _)
    (fun h => by rw [val_nl, val_nl]; exact nl_len_lt _ _ h) (fun h => by rw [val_nl, val_nl]; exact nl_len_lt _ _ h)
  rwa [val_nl, val_nl] at this
end Go.Proofs.YtefckmkcbgckfaaGreatDoor.Limb2

/- The length of a number in bits, by Go's library: what bits.Len32 answers. -/
namespace Go.Proofs.YtefckmkcbgckfaaGreatDoor.Len
open Go.RowKit Mem LimbNum
/-- The table of Go's library that tells the length of a byte in bits. -/
def tab : ByteArray := { data := (([0, 1, 2, 2, 3, 3, 3, 3, 4, 4, 4, 4, 4, 4, 4, 4, 5, 5, 5, 5, 5, 5, 5, 5, 5, 5, 5, 5, 5, 5, 5, 5, 6, 6, 6, 6, 6, 6, 6, 6, 6, 6, 6, 6, 6, 6, 6, 6, 6, 6, 6, 6, 6, 6, 6, 6, 6, 6, 6, 6, 6, 6, 6, 6].append [7, 7, 7, 7, 7, 7, 7, 7, 7, 7, 7, 7, 7, 7, 7, 7, 7, 7, 7, 7, 7, 7, 7, 7, 7, 7, 7, 7, 7, 7, 7, 7, 7, 7, 7, 7, 7, 7, 7, 7, 7, 7, 7, 7, 7, 7, 7, 7, 7, 7, 7, 7, 7, 7, 7, 7, 7, 7, 7, 7, 7, 7, 7, 7]).append ([8, 8, 8, 8, 8, 8, 8, 8, 8, 8, 8, 8, 8, 8, 8, 8, 8, 8, 8, 8, 8, 8, 8, 8, 8, 8, 8, 8, 8, 8, 8, 8, 8, 8, 8, 8, 8, 8, 8, 8, 8, 8, 8, 8, 8, 8, 8, 8, 8, 8, 8, 8, 8, 8, 8, 8, 8, 8, 8, 8, 8, 8, 8, 8].append [8, 8, 8, 8, 8, 8, 8, 8, 8, 8, 8, 8, 8, 8, 8, 8, 8, 8, 8, 8, 8, 8, 8, 8, 8, 8, 8, 8, 8, 8, 8, 8, 8, 8, 8, 8, 8, 8, 8, 8, 8, 8, 8, 8, 8, 8, 8, 8, 8, 8, 8, 8, 8, 8, 8, 8, 8, 8, 8, 8, 8, 8, 8, 8])).toArray }
set_option maxRecDepth 100000 in
theorem tab_lit : ({ data := (([0, 1, 2, 2, 3, 3, 3, 3, 4, 4, 4, 4, 4, 4, 4, 4, 5, 5, 5, 5, 5, 5, 5, 5, 5, 5, 5, 5, 5, 5, 5, 5, 6, 6, 6, 6, 6, 6, 6, 6, 6, 6, 6, 6, 6, 6, 6, 6, 6, 6, 6, 6, 6, 6, 6, 6, 6, 6, 6, 6, 6, 6, 6, 6].append [7, 7, 7, 7, 7, 7, 7, 7, 7, 7, 7, 7, 7, 7, 7, 7, 7, 7, 7, 7, 7, 7, 7, 7, 7, 7, 7, 7, 7, 7, 7, 7, 7, 7, 7, 7, 7, 7, 7, 7, 7, 7, 7, 7, 7, 7, 7, 7, 7, 7, 7, 7, 7, 7, 7, 7, 7, 7, 7, 7, 7, 7, 7, 7]).append ([8, 8, 8, 8, 8, 8, 8, 8, 8, 8, 8, 8, 8, 8, 8, 8, 8, 8, 8, 8, 8, 8, 8, 8, 8, 8, 8, 8, 8, 8, 8, 8, 8, 8, 8, 8, 8, 8, 8, 8, 8, 8, 8, 8, 8, 8, 8, 8, 8, 8, 8, 8, 8, 8, 8, 8, 8, 8, 8, 8, 8, 8, 8, 8].append [8, 8, 8, 8, 8, 8, 8, 8, 8, 8, 8, 8, 8, 8, 8, 8, 8, 8, 8, 8, 8, 8, 8, 8, 8, 8, 8, 8, 8, 8, 8, 8, 8, 8, 8, 8, 8, 8, 8, 8, 8, 8, 8, 8, 8, 8, 8, 8, 8, 8, 8, 8, 8, 8, 8, 8, 8, 8, 8, 8, 8, 8, 8, 8])).toArray } : ByteArray) = tab := rfl
theorem tab_size : tab.size = 256 := by decide +kernel
theorem tab_all : ∀ i : Fin 256, ((tab[i.val]'(by rw [tab_size]; exact i.isLt)).toNat : Nat) = bitLen i.val := by decide +kernel
theorem tab_get (i : Nat) (h : i < tab.size) : ((tab[i]'h).toNat : Int) = (bitLen i : Int) := by
  have := tab_all ⟨i, by rw [tab_size] at h; exact h⟩
  exact congrArg (fun n : Nat => (n : Int)) this
theorem tab_ex : ∃ T : ByteArray, tab = T ∧ T.size = 256 ∧ ∀ (i : Nat) (h : i < T.size), ((T[i]'h).toNat : Int) = (bitLen i : Int) := ⟨tab, rfl, tab_size, tab_get⟩
theorem len_shift (x k : Nat) (y : Int) (h : y = (x : Int) / 2 ^ k) (h0 : y ≠ 0) : bitLen x = k + bitLen y.toNat := by
  have e : y.toNat = x / 2 ^ k := by
    rw [h, show (x : Int) / 2 ^ k = ((x / 2 ^ k : Nat) : Int) by simp, Int.toNat_natCast]
  rw [e]
  exact bitLen_shift x k (by rw [← e]; rw [h] at h0 ⊢; have : 0 ≤ (x : Int) / 2 ^ k := Int.ediv_nonneg (by omega) (Int.le_of_lt (Int.pow_pos (by decide))); omega)
theorem bl8 (y : Int) (h : y < 256) (h0 : 0 ≤ y) : (bitLen y.toNat : Int) ≤ 8 := by
  have := bitLen_le8 y.toNat (by omega)
  omega

set_option maxRecDepth 100000 in
set_option maxHeartbeats 1000000 in
theorem len32_int (x : Int) (w : World) (h0 : 0 ≤ x) (hx : x < 4294967296) : Calls Tryz.prog 49 #[.int .u32 x] w fun e w' => e = .returned (.int .i64 (bitLen x.toNat : Int)) ∧ w' = w := by
  obtain ⟨T, hT, hs, hg⟩ := tab_ex
  have hxx : (x.toNat : Int) = x := by omega
  by_cases c1 : x < 65536
  · by_cases c2 : x < 256
    · have hx3 : x < (T.size : Int) := by omega
      have hlt : x.toNat < T.size := by omega
      have hg1 := hg x.toNat hlt
      have hb := bl8 x c2 h0
      clear hg hxx hx
      go_enter Tryz.func49, Tryz.ntmps49
      rw [tab_lit, hT]
      clear hT
      go_wp2
      go_ret
      exact ⟨rfl, rfl⟩
    · have e := len_shift x.toNat 8 (x / 256) (by rw [hxx]; rfl) (by omega)
      have hb := bl8 (x / 256) (by omega) (by omega)
      have hx3 : x / 256 < (T.size : Int) := by omega
      have hlt : (x / 256).toNat < T.size := by omega
      have hg1 := hg (x / 256).toNat hlt
      rw [e]
      clear hg hxx hx e
      go_enter Tryz.func49, Tryz.ntmps49
      rw [tab_lit, hT]
      clear hT
      go_wp2
      go_ret
      exact ⟨by go_num, rfl⟩
  · by_cases c2 : x < 16777216
    · have e := len_shift x.toNat 16 (x / 65536) (by rw [hxx]; rfl) (by omega)
      have hb := bl8 (x / 65536) (by omega) (by omega)
      have hx3 : x / 65536 < (T.size : Int) := by omega
      have hlt : (x / 65536).toNat < T.size := by omega
      have hg1 := hg (x / 65536).toNat hlt
      rw [e]
      clear hg hxx hx e
      go_enter Tryz.func49, Tryz.ntmps49
      rw [tab_lit, hT]
      clear hT
      go_wp2
      go_ret
      exact ⟨by go_num, rfl⟩
    · have e := len_shift x.toNat 24 (x / 65536 / 256) (by rw [hxx]; omega) (by omega)
      have hb := bl8 (x / 65536 / 256) (by omega) (by omega)
      have hx3 : x / 65536 / 256 < (T.size : Int) := by omega
      have hlt : (x / 65536 / 256).toNat < T.size := by omega
      have hg1 := hg (x / 65536 / 256).toNat hlt
      rw [e]
      clear hg hxx e
      go_enter Tryz.func49, Tryz.ntmps49
      rw [tab_lit, hT]
      clear hT
      go_wp2
      go_ret
      exact ⟨by go_num, rfl⟩
theorem len32_any (x : Nat) (w : World) (hx : x < 4294967296) : Calls Tryz.prog 49 #[.int .u32 (x : Int)] w fun e w' => e = .returned (.int .i64 (bitLen x : Int)) ∧ w' = w := by
  have := len32_int (x : Int) w (by omega) (by omega)
  rwa [Int.toNat_natCast] at this
end Go.Proofs.YtefckmkcbgckfaaGreatDoor.Len

/- What the count of bits and the difference of lists of limbs answer, and that the check of answers that the document fixes says yes. -/
namespace Go.Proofs.YtefckmkcbgckfaaGreatDoor.Limb3
open Go.RowKit Mem LimbNum Limb1 Limb2 Len

theorem last_split (P : List Nat) (h : 1 ≤ P.length) : P = P.take (P.length - 1) ++ [P.getD (P.length - 1) 0] := by
  have h1 : P.take (P.length - 1 + 1) = P := List.take_of_length_le (by omega)
  rw [List.take_succ_eq_append_getElem (by omega)] at h1
  have h2 : P.getD (P.length - 1) 0 = P[P.length - 1] := by simp [show P.length - 1 < P.length by omega]
  rw [h2]; exact h1.symm
theorem bits_of (N : Nat) (h : N ≠ 0) : (bitLen N : Int) = 32 * (((nl N).length : Int) - 1) + bitLen ((nl N).getD ((nl N).length - 1) 0) := by
  obtain ⟨h1, h2⟩ := nl_last N h
  have h3 := bitLen_limbs ((nl N).take ((nl N).length - 1)) ((nl N).getD ((nl N).length - 1) 0) (fun x hx => small_nl N x (List.mem_of_mem_take hx)) h2
  rw [← last_split (nl N) h1, val_nl, List.length_take, Nat.min_eq_left (by omega)] at h3
  omega
theorem bl32 (x : Nat) (h : x < 4294967296) : bitLen x ≤ 32 := by
  unfold bitLen
  split
  · omega
  · rename_i h0
    have := (Nat.log2_lt h0).2 (show x < 2 ^ 32 by omega)
    omega

set_option maxRecDepth 20000 in
/-- Bits: how many bits the number has. -/
theorem bits_any (A : List Nat) (ao : Option Addr) (cap : Nat) (w : World) (h : Lies w ao cap (ints .u32 A)) (hA : Small A) (hlen : A.length ≤ 70368744177664) :
    Calls Tryz.prog 23 #[.slice ao A.length cap] w fun e w' => e = .returned (.int .i64 (bitLen (val A) : Int)) ∧ w' = w := by
  have c1 := trim_any A ao cap w h hA
  have hl := lies_trim h hA
  have hk := nl_len A hA
  by_cases h0 : val A = 0
  · rw [h0, nl_zero] at c1
    have e : bitLen (val A) = 0 := by rw [h0]; rfl
    rw [e]
    clear h hl hk h0 e
    go_enter Tryz.func23, Tryz.ntmps23
    go_wp2_with (go_at_call 47; refine c1.mono ?_; rintro e w2 ⟨rfl, hw, _⟩; have hw2 := hw.symm; clear hw; subst hw2)
    go_ret
    exact ⟨rfl, rfl⟩
  · have e := bits_of (val A) h0
    obtain ⟨n1, n2⟩ := nl_last (val A) h0
    have hsm := getD_small (nl (val A)) (small_nl _) ((nl (val A)).length - 1)
    obtain ⟨b, off, rfl, _, hc⟩ := hl.2.2.2 (by rw [ints_length]; omega)
    have hcell := hc ((nl (val A)).length - 1) (by rw [ints_length]; omega)
    rw [ints_get _ _ _ (by omega)] at hcell
    have hb := bl32 _ hsm
    have c2 := fun v => len32_any _ v hsm
    have HE : Hid ((bitLen (val A) : Int) = 32 * (((nl (val A)).length : Int) - 1) + bitLen ((nl (val A)).getD ((nl (val A)).length - 1) 0)) := e
    clear e hc hl h n2
    generalize (nl (val A)).getD ((nl (val A)).length - 1) 0 = x at *
    generalize (nl (val A)).length = n at *
    generalize bitLen x = y at *
    generalize bitLen (val A) = z at *
    have hn1 : (1 : Int) ≤ (n : Int) := by omega
    have hn2 : (n : Int) ≤ 70368744177664 := by omega
    have hy : (y : Int) ≤ 32 := by omega
    clear hb n1 hk hlen
    go_enter Tryz.func23, Tryz.ntmps23
    go_wp2_with (first
      | (go_at_call 47; refine c1.mono ?_; rintro e w2 ⟨rfl, hw, _⟩; have hw2 := hw.symm; clear hw; subst hw2)
      | (go_at_call 49; refine (c2 _).mono ?_; rintro e w2 ⟨rfl, hw⟩; have hw2 := hw.symm; clear hw; subst hw2))
    all_goals go_ret
    all_goals exact ⟨ret_int (by rw [HE.out]), rfl⟩

end Go.Proofs.YtefckmkcbgckfaaGreatDoor.Limb3

/- What the difference of lists of limbs answers, and that the check of answers that the document fixes says yes. -/
namespace Go.Proofs.YtefckmkcbgckfaaGreatDoor.Limb4
open Go.RowKit Mem LimbNum Limb1 Limb2 Limb3

theorem trim_at {A : List Nat} {ao : Option Addr} {cap : Nat} {w : World} (h : Lies w ao cap (ints .u32 A)) (hA : Small A) (W : World) (hb : Below w.heap.size w W) :
    Calls Tryz.prog 47 #[.slice ao A.length cap] W fun e w' => e = .returned (.slice ao (nl (val A)).length cap) ∧ w' = W :=
  (trim_any A ao cap W (h.below hb (Nat.le_refl _)) hA).mono fun _ _ h => ⟨h.1, h.2.1⟩
theorem nl_max : nl 4294967295 = [4294967295] := by rw [nl_pos (by decide), show 4294967295 / 4294967296 = 0 by decide, nl_zero]
theorem lit_lies (W : World) (A : List Nat) (n : Nat) (hn : A.length = n) (hl : n ≤ 1000) : Lies (W.alloc (.cells (ints .u32 A).toArray 48)) (some ⟨W.heap.size, 0, none⟩) n (ints .u32 A) := by
  have := lies_of_owns (World.ownsRow_lit (base := W.heap.size) (e := 48) (size := 1) W (ints .u32 A).toArray n (Nat.le_refl _) (by unfold maxLen; omega) (by simp [ints_length, hn]))
  simpa using this

end Go.Proofs.YtefckmkcbgckfaaGreatDoor.Limb4

/- What the calls between 64-bit words and lists of limbs answer: the program's own and the reference's. -/
namespace Go.Proofs.YtefckmkcbgckfaaGreatDoor.Words
open Go.RowKit Mem LimbNum Limb1 Limb2 RefL

/-- P, and behind it the bits of K, are L. -/
def RestB (P : List Bool) (K : Nat) (L : List Bool) : Prop := P ++ nb K = L
theorem bit1 (K : Nat) : ((K : Int) % 2 == 1) = decide (K % 2 = 1) := by rw [Bool.eq_iff_iff]; simp; omega

set_option maxRecDepth 20000 in
set_option maxHeartbeats 400000 in
theorem rword_core (U : Nat) (L : List Bool) (w : World) (hL : L.length ≤ 64) (hR : RestB [] U L) (hU : U < 18446744073709551616) :
    Calls Tryz.prog 29 #[.int .u64 (U : Int)] w fun e w' => ∃ ao cap, e = .returned (.slice ao L.length cap) ∧ w'.ownsRow w.heap.size 4 1 (.slice ao L.length cap) L.length (bools L) ∧ Below w.heap.size w w' := by
  obtain ⟨i0, hi, hz0, hz1, hz2⟩ := info_parts infoB
  go_enter Tryz.func29, Tryz.ntmps29
  go_wp2
  generalize hbase : w.heap.size = base
  go_loopw [0, 3] (fun u o wr => ∃ (K : Nat) (P : List Bool), u = .int .u64 (K : Int) ∧ K ≤ U ∧ RestB P K L ∧ wr.ownsRow base 4 1 o P.length (bools P) ∧ Below base w wr)
    (fun u _ _ => (intOf u).toNat)
  case atStart =>
    subst hbase
    refine ⟨U, [], rfl, Nat.le_refl _, hR, ?_, (Below.refl _ _).alloc (Nat.le_refl _) _⟩
    exact World.ownsRow_lit w #[] 0 (Nat.le_refl _) (by decide) rfl
  case round =>
    obtain ⟨K, P, rfl, hK, hP, hown, hb⟩ := hrel
    have hs := hb.size
    have hlen : P.length ≤ 64 := by have h1 := congrArg List.length hP; simp at h1; omega
    by_cases h0 : K = 0
    · subst h0
      have hPL : P = L := by unfold RestB at hP; rw [nb_zero, List.append_nil] at hP; exact hP
      subst hPL
      obtain ⟨ao, cap, e2⟩ := owns_shape hown
      rw [e2] at hown ⊢
      clear hP
      go_wp2
      go_ret
      exact ⟨ao, cap, rfl, by first | exact hown | (rw [hbase]; exact hown), by first | exact hb | (rw [hbase]; exact hb)⟩
    · have hbit := bit1 K
      have hP2 : RestB (P ++ [decide (K % 2 = 1)]) (K / 2) L := by unfold RestB at hP ⊢; rw [← hP, nb_pos h0]; simp
      have hpos : (0 : Int) < (K : Int) := by omega
      clear hP
      go_wp2_with (at_builtin; refine wpList_append_own _ rfl _ _ 29 rfl base 4 i0 (.bool false) 1 1 Tryz.underlying29 hi hz0 hz1 hz2 rfl (by decide) _ _ _ rfl (hown.alloc _) ⟨wr.heap.size, 0, none⟩ 1 1 [.bool (decide (K % 2 = 1))] rfl rfl ?c1 ?c2 ?c3 ?c4 ?c5 ?_)
      case c1 =>
        intro j u hj
        match j, hj with
        | 0, hj => simp at hj; subst hj; simp [Addr.add]
      case c2 => intro u hu; simp at hu; subst hu; rfl
      case c3 => unfold maxLen; omega
      case c4 => omega
      case c5 => simp; omega
      intro v' w1 hown' hgrow _
      have hb1 : Below base w w1 := (hb.alloc (by omega) _).grown hgrow (by simp; omega) (fun j hj => (hown.lt j hj).1)
      clear hgrow hown
      go_wp2
      go_roundw
      case rel => exact ⟨K / 2, P ++ [decide (K % 2 = 1)], by go_num, by omega, hP2, by simpa [bools] using hown', hb1⟩
      case measure => simp [intOf]; omega
theorem rword_any (U : Nat) (w : World) (hU : U < 18446744073709551616) :
    Calls Tryz.prog 29 #[.int .u64 (U : Int)] w fun e w' => ∃ ao cap, e = .returned (.slice ao (nb U).length cap) ∧ w'.ownsRow w.heap.size 4 1 (.slice ao (nb U).length cap) (nb U).length (bools (nb U)) ∧ Below w.heap.size w w' :=
  rword_core U (nb U) w (nb_lt 64 U hU) rfl hU

set_option maxRecDepth 20000 in
set_option maxHeartbeats 400000 in
/-- The reference's lowest 64 bits. -/
theorem rlow_any (l : List Bool) (ao : Option Addr) (cap : Nat) (w : World) (hL0 : Lies w ao cap (bools l)) :
    Calls Tryz.prog 60 #[.slice ao l.length cap] w fun e w' => e = .returned (.int .u64 ((fromL (l.take 64) : Nat) : Int)) ∧ w' = w := by
  have m1 := hL0.size
  rw [bools_length] at m1
  unfold maxLen at m1
  obtain ⟨n, hn⟩ : ∃ n, n = min l.length 64 := ⟨_, rfl⟩
  have HN : Hid (n = min l.length 64) := hn
  have hn1 : n ≤ l.length := by omega
  have hn2 : n ≤ 64 := by omega
  clear hn
  go_enter Tryz.func60, Tryz.ntmps60
  go_wp2
  all_goals
    go_loop [3, 4] (fun x i => ∃ k : Nat, k ≤ n ∧ i = .int .i64 ((k : Int) - 1) ∧ x = .int .u64 ((fromL ((l.take n).drop k) : Nat) : Int)) (fun _ i => (intOf i + 1).toNat)
    case atStart => exact ⟨n, Nat.le_refl _, congrArg (Value.int .i64) (by have := HN.out; omega), by rw [List.drop_eq_nil_of_le (by rw [List.length_take]; omega)]; rfl⟩
    case round =>
      obtain ⟨k, hk, rfl, rfl⟩ := hrel
      by_cases hlt : 1 ≤ k
      · obtain ⟨j, rfl⟩ : ∃ j, k = j + 1 := ⟨k - 1, by omega⟩
        obtain ⟨b, off, rfl, _, hc⟩ := hL0.2.2.2 (by rw [bools_length]; omega)
        have hcell := hc j (by rw [bools_length]; omega)
        rw [bools_at _ _ (by omega)] at hcell
        have hd := fromL_drop (l.take n) j (by rw [List.length_take]; omega)
        have hg : (l.take n).getD j false = l.getD j false := by simp [show j < n by omega]
        rw [hg] at hd
        have hf : fromL ((l.take n).drop j) < 18446744073709551616 := by
          have h5 := fromL_lt ((l.take n).drop j)
          rw [List.length_drop, List.length_take, Nat.min_eq_left hn1] at h5
          have h6 : (2 : Nat) ^ (n - j) ≤ 2 ^ 64 := Nat.pow_le_pow_right (by omega) (by omega)
          omega
        obtain ⟨F, hF⟩ : ∃ F, fromL ((l.take n).drop (j + 1)) = F := ⟨_, rfl⟩
        obtain ⟨G, hG⟩ : ∃ G, fromL ((l.take n).drop j) = G := ⟨_, rfl⟩
        rw [hF, hG] at hd
        rw [hG] at hf
        simp only [hF]
        have HG : Hid (fromL ((l.take n).drop j) = G) := hG
        clear hF hG hg hc hL0
        cases hbv : l.getD j false
        · rw [hbv] at hcell hd
          have hd' : G = 2 * F := by simpa using hd
          clear hd hbv
          go_wp2
          go_round
          case rel => exact ⟨j, by omega, by go_num, by rw [HG.out]; go_num⟩
          case measure => simp [intOf]
        · rw [hbv] at hcell hd
          have hd' : G = 1 + 2 * F := by simpa using hd
          clear hd hbv
          go_wp2
          go_round
          case rel => exact ⟨j, by omega, by go_num, by rw [HG.out]; go_num⟩
          case measure => simp [intOf]
      · have ek : k = 0 := by omega
        subst ek
        have e : fromL ((l.take n).drop 0) = fromL (l.take 64) := by
          rw [List.drop_zero]
          have := HN.out
          rcases Nat.lt_or_ge l.length 64 with h1 | h1
          · rw [show n = l.length by omega, List.take_of_length_le (Nat.le_refl _), List.take_of_length_le (by omega)]
          · rw [show n = 64 by omega]
        simp only [e]
        clear hL0 e
        go_wp2
        go_ret
        exact ⟨rfl, rfl⟩
/-- Word: the limbs of a word, in new memory. -/
theorem word_any (U : Nat) (w : World) (hU : U < 18446744073709551616) :
    Calls Tryz.prog 70 #[.int .u64 (U : Int)] w fun e w' => ∃ ao cap, e = .returned (.slice ao (nl U).length cap) ∧ w'.ownsRow w.heap.size 48 1 (.slice ao (nl U).length cap) (nl U).length (ints .u32 (nl U)) ∧ Below w.heap.size w w' := by
  obtain ⟨lo, hlo⟩ : ∃ lo, lo = U % 4294967296 := ⟨_, rfl⟩
  obtain ⟨hi, hhi⟩ : ∃ hi, hi = U / 4294967296 := ⟨_, rfl⟩
  have hs : Small [lo, hi] := by intro x hx; simp only [List.mem_cons, List.not_mem_nil, or_false] at hx; omega
  have hv : val [lo, hi] = U := by simp only [val]; omega
  have e1 : ((U : Int) % 4294967296) = (lo : Int) := by omega
  have e2 : ((U : Int) / 4294967296) = (hi : Int) := by omega
  have e3 : (hi : Int) ≤ 4294967295 := by omega
  have hown := World.ownsRow_lit (base := w.heap.size) (e := 48) (size := 1) w (ints .u32 [lo, hi]).toArray 2 (Nat.le_refl _) (by decide) rfl
  have c1 := trim_own [lo, hi] w.heap.size (some ⟨w.heap.size, 0, none⟩) 2 _ (by simpa using hown) hs
  rw [hv] at c1
  have c2 : Calls Tryz.prog 47 #[.slice (some ⟨w.heap.size, 0, none⟩) 2 2] (w.alloc (.cells #[.int .u32 (lo : Int), .int .u32 (hi : Int)] 48)) fun e w' => e = .returned (.slice (some ⟨w.heap.size, 0, none⟩) (nl U).length 2) ∧ w' = w.alloc (.cells #[.int .u32 (lo : Int), .int .u32 (hi : Int)] 48) ∧
      (w.alloc (.cells #[.int .u32 (lo : Int), .int .u32 (hi : Int)] 48)).ownsRow w.heap.size 48 1 (.slice (some ⟨w.heap.size, 0, none⟩) (nl U).length 2) (nl U).length (ints .u32 (nl U)) := c1
  clear c1 hown hv hs hlo hhi hU
  generalize nl U = L at c2
  go_enter Tryz.func70, Tryz.ntmps70
  go_wp2_with (go_at_call 47; refine c2.mono ?_; rintro e w5 ⟨rfl, hw, hown5⟩; have hw2 := hw.symm; clear hw; subst hw2)
  go_ret
  exact ⟨_, _, rfl, hown5, (Below.refl _ _).alloc (Nat.le_refl _) _⟩

theorem or32 (acc x k : Nat) (hk : k < 2) (h1 : acc < 4294967296 ^ k) (hx : x < 4294967296) :
    ∃ S : Nat, IntKind.u64.wrap ((x : Int) * 2 ^ (32 * k)) = (S : Int) ∧ bits BinOp.or IntKind.u64 (acc : Int) (S : Int) = ((acc + 4294967296 ^ k * x : Nat) : Int) := by
  have h2 : x * 2 ^ (32 * k) < 18446744073709551616 := by
    have h3 : (2 : Nat) ^ (32 * k) ≤ 2 ^ 32 := Nat.pow_le_pow_right (by omega) (by omega)
    have h4 : x * 2 ^ (32 * k) ≤ 4294967295 * 2 ^ 32 := Nat.mul_le_mul (by omega) h3
    omega
  have h5 : acc < 18446744073709551616 := by
    have h3 : (4294967296 : Nat) ^ k ≤ 4294967296 ^ 1 := Nat.pow_le_pow_right (by omega) (by omega)
    omega
  refine ⟨x * 2 ^ (32 * k), ?_, ?_⟩
  · rw [show (x : Int) * 2 ^ (32 * k) = ((x * 2 ^ (32 * k) : Nat) : Int) by simp, IntKind.wrap_u64]; omega
  · rw [u64_or_nat _ _ h5 h2, Nat.or_comm, nat_join (32 * k) _ _ (by simp) (by rw [pow32]; exact h1), Nat.add_comm, pow32, Nat.mul_comm x]
theorem two_bits (N : Nat) : ((nl N).length ≤ 2 ↔ (nb N).length ≤ 64) := by
  constructor
  · intro h
    have h1 := val_lt (nl N) (small_nl N)
    rw [val_nl] at h1
    have h2 : (4294967296 : Nat) ^ (nl N).length ≤ 4294967296 ^ 2 := Nat.pow_le_pow_right (by omega) h
    exact nb_lt 64 N (by omega)
  · intro h
    have h1 := fromL_lt (nb N)
    rw [fromL_nb] at h1
    have h2 : (2 : Nat) ^ (nb N).length ≤ 2 ^ 64 := Nat.pow_le_pow_right (by omega) h
    exact nl_lt 2 N (by omega)
theorem low_val (N : Nat) : val ((nl N).take 2) = N % 18446744073709551616 := by
  have h1 := val_append ((nl N).take 2) ((nl N).drop 2)
  rw [List.take_append_drop, val_nl] at h1
  have hs : Small ((nl N).take 2) := fun x hx => small_nl N x (List.mem_of_mem_take hx)
  rcases Nat.lt_or_ge 2 (nl N).length with h | h
  · rw [List.length_take, Nat.min_eq_left (by omega)] at h1
    have h2 := val_lt _ hs
    rw [List.length_take, Nat.min_eq_left (by omega)] at h2
    omega
  · have h3 := val_lt (nl N) (small_nl N)
    have h4 : (4294967296 : Nat) ^ (nl N).length ≤ 4294967296 ^ 2 := Nat.pow_le_pow_right (by omega) h
    rw [val_nl] at h3
    rw [List.take_of_length_le h, val_nl]
    omega

set_option maxRecDepth 20000 in
set_option maxHeartbeats 400000 in
/-- Low: the number modulo 2^64, and whether that is all of it. -/
theorem low_core (A P : List Nat) (ao : Option Addr) (cap : Nat) (w : World) (hL0 : Lies w ao cap (ints .u32 P)) (hP : Small P)
    (c1 : Calls Tryz.prog 47 #[.slice ao A.length cap] w fun e w' => e = .returned (.slice ao P.length cap) ∧ w' = w) :
    Calls Tryz.prog 69 #[.slice ao A.length cap] w fun e w' => e = .returned (.tuple #[.int .u64 ((val (P.take 2) : Nat) : Int), .bool (decide (P.length ≤ 2))]) ∧ w' = w := by
  have m1 := hL0.size
  rw [ints_length] at m1
  unfold maxLen at m1
  go_enter Tryz.func69, Tryz.ntmps69
  go_wp2_with (go_at_call 47; refine c1.mono ?_; rintro e w2 ⟨rfl, hw⟩; have hw2 := hw.symm; clear hw; subst hw2)
  clear c1
  go_loop [4, 5] (fun u i => ∃ k : Nat, k ≤ P.length ∧ k ≤ 2 ∧ i = .int .i64 k ∧ u = .int .u64 ((val (P.take k) : Nat) : Int)) (fun _ i => 2 - (intOf i).toNat)
  case atStart => exact ⟨0, Nat.zero_le _, by omega, rfl, by simp [val]⟩
  case round =>
    obtain ⟨k, hk1, hk2, rfl, rfl⟩ := hrel
    by_cases hlt : k < P.length ∧ k < 2
    · obtain ⟨q1, q2⟩ := hlt
      obtain ⟨b, off, rfl, _, hc⟩ := hL0.2.2.2 (by rw [ints_length]; omega)
      have hcell := hc k (by rw [ints_length]; omega)
      rw [ints_get _ _ _ q1] at hcell
      have hx := getD_small P hP k
      have hv := val_take P k q1
      obtain ⟨S, s1, s2⟩ := or32 (val (P.take k)) (P.getD k 0) k q2 (take_lt P hP k hk1) hx
      rw [← hv] at s2
      have HV := hv
      generalize P.getD k 0 = x at hcell hx s1
      obtain ⟨X, hX⟩ : ∃ X, val (P.take k) = X := ⟨_, rfl⟩
      obtain ⟨Y, hY⟩ : ∃ Y, val (P.take (k + 1)) = Y := ⟨_, rfl⟩
      rw [hX, hY] at s2
      simp only [hX]
      have HY : Hid (val (P.take (k + 1)) = Y) := hY
      clear hc HV hv hX hY hL0
      go_wp2
      go_round
      case rel => exact ⟨k + 1, by omega, by omega, by go_num, by rw [HY.out]⟩
      case measure => simp [intOf]; omega
    · have e : P.take k = P.take 2 := by
        rcases Nat.lt_or_ge k 2 with h1 | h1
        · rw [List.take_of_length_le (by omega), List.take_of_length_le (by omega)]
        · rw [show k = 2 by omega]
      rw [e]
      by_cases hl : k < P.length
      · have h2 : 2 ≤ k := by omega
        clear hL0 e hlt
        go_wp2
        go_ret2
        exact ⟨by simp; omega, rfl⟩
      · have h2 : P.length ≤ k := by omega
        clear hL0 e hlt
        go_wp2
        go_ret2
        exact ⟨by simp; omega, rfl⟩
theorem low_any (A : List Nat) (ao : Option Addr) (cap : Nat) (w : World) (h : Lies w ao cap (ints .u32 A)) (hA : Small A) :
    Calls Tryz.prog 69 #[.slice ao A.length cap] w fun e w' => e = .returned (.tuple #[.int .u64 ((val A % 18446744073709551616 : Nat) : Int), .bool (decide ((nb (val A)).length ≤ 64))]) ∧ w' = w := by
  have := low_core A (nl (val A)) ao cap w (lies_trim h hA) (small_nl _) ((trim_any A ao cap w h hA).mono fun _ _ h => ⟨h.1, h.2.1⟩)
  rw [low_val] at this
  have e : decide ((nl (val A)).length ≤ 2) = decide ((nb (val A)).length ≤ 64) := by rw [Bool.eq_iff_iff]; simp [two_bits]
  rwa [e] at this
end Go.Proofs.YtefckmkcbgckfaaGreatDoor.Words

/- What the product of lists of limbs answers, and what is cut at its noughts. -/
namespace Go.Proofs.YtefckmkcbgckfaaGreatDoor.NatL
open Go.RowKit Mem LimbNum Limb1 Limb2 Limb4 NatNum

set_option maxRecDepth 20000 in
set_option maxHeartbeats 400000 in
/-- trim: cut at the noughts at its end. -/
theorem ntrim_core (A : List Nat) (ao : Option Addr) (cap : Nat) (w : World) (h : Lies w ao cap (ints .u32 A)) (hs : Small A) :
    Calls Tryz.prog 71 #[.slice ao A.length cap] w fun e w' => ∃ n, A.take n = nl (val A) ∧ n ≤ A.length ∧ e = .returned (.slice ao n cap) ∧ w' = w := by
  have m1 := h.size
  have m2 := h.1
  rw [ints_length] at m1 m2
  unfold maxLen at m1
  go_enter Tryz.func71, Tryz.ntmps71
  go_wp2
  go_loop [3] (fun i => ∃ n : Nat, n ≤ A.length ∧ i = .int .i64 (n : Int) ∧ ∀ j, n ≤ j → j < A.length → A.getD j 0 = 0) (fun i => (intOf i).toNat)
  case atStart => exact ⟨A.length, Nat.le_refl _, rfl, fun j h1 h2 => by omega⟩
  case round =>
    obtain ⟨n, hn, rfl, hz⟩ := hrel
    have HZ : Hid (∀ j, n ≤ j → j < A.length → A.getD j 0 = 0) := hz
    clear hz
    by_cases h0 : n = 0
    · subst h0
      go_wp2
      all_goals go_ret
      all_goals exact ⟨0, trim_is A 0 hs (by omega) HZ.out (.inl rfl), by omega, rfl, rfl⟩
    · obtain ⟨k, rfl⟩ : ∃ k, n = k + 1 := ⟨n - 1, by omega⟩
      obtain ⟨b, off, rfl, _, hc⟩ := h.2.2.2 (by rw [ints_length]; omega)
      have hcell := hc k (by rw [ints_length]; omega)
      rw [ints_get _ _ _ (by omega)] at hcell
      have HT := fun hl => trim_is A (k + 1) hs hn HZ.out hl
      have HT2 : Hid ((k + 1 = 0 ∨ A.getD (k + 1 - 1) 0 ≠ 0) → A.take (k + 1) = nl (val A)) := HT
      obtain ⟨x, hx⟩ : ∃ x, x = A.getD k 0 := ⟨_, rfl⟩
      rw [← hx] at hcell
      have HX : Hid (x = A.getD k 0) := hx
      clear hc h HT hx
      by_cases hx0 : x = 0
      · subst hx0
        go_wp2
        go_round
        case rel =>
          refine ⟨k, by omega, by go_num, fun j h1 h2 => ?_⟩
          rcases Nat.lt_or_ge k j with h3 | h3
          · exact HZ.out j (by omega) h2
          · rw [show j = k by omega]; exact HX.out.symm
        case measure => simp [intOf]
      · go_wp2
        all_goals go_ret
        all_goals exact ⟨k + 1, HT2.out (.inr (by rw [Nat.add_sub_cancel, ← HX.out]; exact hx0)), hn, by first | rfl | simp, rfl⟩
theorem ntrim_any (A : List Nat) (ao : Option Addr) (cap : Nat) (w : World) (h : Lies w ao cap (ints .u32 A)) (hs : Small A) :
    Calls Tryz.prog 71 #[.slice ao A.length cap] w fun e w' => e = .returned (.slice ao (nl (val A)).length cap) ∧ w' = w ∧ Lies w ao cap (ints .u32 (nl (val A))) := by
  refine (ntrim_core A ao cap w h hs).mono ?_
  rintro e w' ⟨n, h1, h2, rfl, rfl⟩
  refine ⟨by rw [Limb1.take_len A n h1 h2], rfl, ?_⟩
  rw [← h1, ints_take]
  exact h.take n
/-- trim of a row of one's own. -/
theorem ntrim_own (A : List Nat) (base : Nat) (ao : Option Addr) (cap : Nat) (w : World) (h : w.ownsRow base 48 1 (.slice ao A.length cap) A.length (ints .u32 A)) (hs : Small A) :
    Calls Tryz.prog 71 #[.slice ao A.length cap] w fun e w' => e = .returned (.slice ao (nl (val A)).length cap) ∧ w' = w ∧ w.ownsRow base 48 1 (.slice ao (nl (val A)).length cap) (nl (val A)).length (ints .u32 (nl (val A))) := by
  refine (ntrim_core A ao cap w (lies_of_owns h) hs).mono ?_
  rintro e w' ⟨n, h1, h2, rfl, rfl⟩
  have h3 := owns_take h n h2
  rw [← ints_take, h1] at h3
  refine ⟨by rw [Limb1.take_len A n h1 h2], rfl, ?_⟩
  have h4 := Limb1.take_len A n h1 h2
  rw [← h4]; exact h3

theorem ntrim_at {A : List Nat} {ao : Option Addr} {cap : Nat} {w : World} (h : Lies w ao cap (ints .u32 A)) (hA : Small A) (W : World) (hb : Below w.heap.size w W) :
    Calls Tryz.prog 71 #[.slice ao A.length cap] W fun e w' => e = .returned (.slice ao (nl (val A)).length cap) ∧ w' = W :=
  (ntrim_any A ao cap W (h.below hb (Nat.le_refl _)) hA).mono fun _ _ h => ⟨h.1, h.2.1⟩

set_option maxRecDepth 20000 in
set_option maxHeartbeats 2000000 in
theorem mul_core (A B P Q : List Nat) (N : Nat) (hN : Hid (N = val P * val Q)) (ao1 ao2 : Option Addr) (cap1 cap2 : Nat) (w : World) (h1 : Lies w ao1 cap1 (ints .u32 P)) (h2 : Lies w ao2 cap2 (ints .u32 Q))
    (c1 : Calls Tryz.prog 71 #[.slice ao1 A.length cap1] w fun e w' => e = .returned (.slice ao1 P.length cap1) ∧ w' = w)
    (c2 : Calls Tryz.prog 71 #[.slice ao2 B.length cap2] w fun e w' => e = .returned (.slice ao2 Q.length cap2) ∧ w' = w)
    (hP : Small P) (hQ : Small Q) (hl : P.length + Q.length ≤ 70368744177664) :
    Calls Tryz.prog 52 #[.slice ao1 A.length cap1, .slice ao2 B.length cap2] w fun e w' => ∃ ao cap, e = .returned (.slice ao (nl N).length cap) ∧
      w'.ownsRow w.heap.size 48 1 (.slice ao (nl N).length cap) (nl N).length (ints .u32 (nl N)) ∧ Below w.heap.size w w' := by
  obtain ⟨i0, hi, hz0, hz1, hz2⟩ := info_parts info32
  have t1 : True := trivial
  obtain ⟨L, hL⟩ : ∃ L, L = P.length + Q.length := ⟨_, rfl⟩
  have HL : Hid (L = P.length + Q.length) := hL
  have hLi : (P.length : Int) + (Q.length : Int) = (L : Int) := by omega
  have hLm : L ≤ 70368744177664 := by omega
  clear hL
  go_enter Tryz.func52, Tryz.ntmps52
  go_wp2_with (first
    | (go_at_call 71; have _t := t1; clear _t t1; refine c1.mono ?_; rintro e w2 ⟨rfl, hw⟩; have hw2 := hw.symm; clear hw; subst hw2)
    | (go_at_call 71; refine c2.mono ?_; rintro e w2 ⟨rfl, hw⟩; have hw2 := hw.symm; clear hw; subst hw2)
    | (at_make; refine wpList_make_full _ rfl _ _ 22 rfl w.heap.size 48 i0 (.int .u32 0) 1 Tryz.underlying22 hi hz0 hz1 .i64 .i64 _ _ L rfl rfl (by first | rfl | exact hLi) (by first | rfl | exact hLi) (by rw [hz2]; omega) (by unfold maxLen; omega) (Nat.le_refl _) ?_; intro w3 hown hgr))
  have hown0 : w3.ownsRow w.heap.size 48 1 (.slice (some ⟨w.heap.size, 0, none⟩) L L) L (ints .u32 (List.replicate L 0)) := by
    rw [ints_zero, ← toList_madeCells_one]; rw [Nat.mul_one] at hown; exact hown
  have hb3 : Below w.heap.size w w3 := (Below.refl _ _).grown hgr (Nat.le_refl _) (by simp)
  clear hown hgr c1 c2 hLi
  generalize hgg : w.heap.size = g at *
  go_loopw [24] (fun i wr => ∃ (k : Nat) (O : List Nat), k ≤ P.length ∧ i = .int .i64 k ∧ Hid (O.length = L) ∧ Small O ∧ Hid (val O = val (P.take k) * val Q) ∧ (∀ j, k + Q.length ≤ j → O.getD j 0 = 0) ∧
      wr.ownsRow g 48 1 (.slice (some ⟨g, 0, none⟩) L L) L (ints .u32 O) ∧ Below g w wr)
    (fun i _ => P.length - (intOf i).toNat)
  case atStart => exact ⟨0, List.replicate L 0, Nat.zero_le _, rfl, by unfold Hid; simp, small_noughts L, by unfold Hid; rw [val_zero _ (fun x hx => (List.mem_replicate.1 hx).2)]; simp [val], fun j _ => by simp [List.getElem?_replicate]; split <;> rfl, hown0, hb3⟩
  case round =>
    clear hown0 hb3
    obtain ⟨k, O, hk, rfl, HO, hOs, HV, hz, hown, hb⟩ := hrel
    have hs := hb.size
    by_cases hlt : k < P.length
    · have g1 := h1.below hb (by omega)
      obtain ⟨b1, off1, rfl, _, hc1⟩ := g1.2.2.2 (by rw [ints_length]; omega)
      have d1 := hc1 k (by rw [ints_length]; omega)
      rw [ints_get _ _ _ (by omega)] at d1
      have hx := getD_small P hP k
      obtain ⟨x, ex⟩ : ∃ x, P.getD k 0 = x := ⟨_, rfl⟩
      rw [ex] at d1 hx
      have HX : Hid (P.getD k 0 = x) := ex
      obtain ⟨X, eX⟩ : ∃ X : Int, X = (x : Int) := ⟨_, rfl⟩
      rw [← eX] at d1
      have hX0 : 0 ≤ X := by omega
      have hX1 : X < 4294967296 := by omega
      have EX : Hid (X = (x : Int)) := eX
      have hkL : k + Q.length < L := by rw [HL.out]; omega
      obtain ⟨T, hT⟩ : ∃ T, T = val (P.take k) * val Q := ⟨_, rfl⟩
      have HT : Hid (T = val (P.take k) * val Q) := hT
      have HV2 : Hid (val O = T) := by unfold Hid; rw [hT]; exact HV.out
      clear hc1 g1 ex hT HV h1 eX
      go_wp2
      go_loopw [8, 31] (fun cy j wr => ∃ (m c : Nat) (C : Int) (O : List Nat), m ≤ Q.length ∧ j = .int .i64 m ∧ cy = .int .u64 C ∧ 0 ≤ C ∧ C < 4294967296 ∧ Hid (C = (c : Int)) ∧ Hid (O.length = L) ∧ Small O ∧ Hid (val O + c * 4294967296 ^ (k + m) = T + x * val (Q.take m) * 4294967296 ^ k) ∧ (∀ j, k + Q.length ≤ j → O.getD j 0 = 0) ∧
          wr.ownsRow g 48 1 (.slice (some ⟨g, 0, none⟩) L L) L (ints .u32 O) ∧ Below g w wr) (fun _ j _ => Q.length - (intOf j).toNat)
      case atStart => exact ⟨0, 0, 0, O, Nat.zero_le _, rfl, rfl, by omega, by omega, rfl, HO, hOs, by unfold Hid; rw [HV2.out]; simp [val], hz, hown, hb⟩
      case round =>
        clear hown hb d1 HO hOs HV2 hz hs O
        obtain ⟨m, c, C, O, hm, rfl, rfl, hC0, hC1, EC, HO, hOs, HI, hz, hown, hb⟩ := hrel
        have hs := hb.size
        have hc : c < 4294967296 := by have := EC.out; omega
        by_cases hm2 : m < Q.length
        · have g2 := h2.below hb (by omega)
          obtain ⟨b2, off2, rfl, _, hc2⟩ := g2.2.2.2 (by rw [ints_length]; omega)
          have d2 := hc2 m (by rw [ints_length]; omega)
          rw [ints_get _ _ _ (by omega)] at d2
          have hy := getD_small Q hQ m
          have ho := getD_small O hOs (k + m)
          have hcw : wr.cell? ⟨g, k + m, none⟩ = some (.int .u32 ((O.getD (k + m) 0 : Nat) : Int)) := by
            rw [hown.cellAt (k + m) (by omega), ints_get _ _ _ (by rw [HO.out]; omega)]
          obtain ⟨y, ey⟩ : ∃ y, Q.getD m 0 = y := ⟨_, rfl⟩
          rw [ey] at d2 hy
          have hlim := mul_limb x y (O.getD (k + m) 0) c hx hy ho hc
          have HN : Hid (val (O.set (k + m) ((x * y + O.getD (k + m) 0 + c) % 4294967296)) + (x * y + O.getD (k + m) 0 + c) / 4294967296 * 4294967296 ^ (k + (m + 1)) = T + x * val (Q.take (m + 1)) * 4294967296 ^ k) := mul_step O Q x y c k m T (by rw [HO.out]; omega) ey HI.out
          obtain ⟨z, ez⟩ : ∃ z, O.getD (k + m) 0 = z := ⟨_, rfl⟩
          rw [ez] at hcw hlim HN ho
          obtain ⟨Y, eY⟩ : ∃ Y : Int, Y = (y : Int) := ⟨_, rfl⟩
          obtain ⟨Z, eZ⟩ : ∃ Z : Int, Z = (z : Int) := ⟨_, rfl⟩
          rw [← eY] at d2
          rw [← eZ] at hcw
          have hY0 : 0 ≤ Y := by omega
          have hY1 : Y < 4294967296 := by omega
          have hZ0 : 0 ≤ Z := by omega
          have hZ1 : Z < 4294967296 := by omega
          have hpe : X * Y = ((x * y : Nat) : Int) := by rw [EX.out, eY, Int.natCast_mul]
          have hp0 : 0 ≤ X * Y := by omega
          have hp1 : X * Y + Z + C < 18446744073709551616 := by have := EC.out; omega
          obtain ⟨p, ep⟩ : ∃ p : Int, X * Y = p := ⟨_, rfl⟩
          rw [ep] at hp0 hp1 hpe
          have fin : ∀ V D : Int, V = (p + Z + C) % 4294967296 → D = (p + Z + C) / 4294967296 →
              ∃ (m1 c1 : Nat) (C1 : Int) (O1 : List Nat), m1 ≤ Q.length ∧ Value.int .i64 ((m : Int) + 1) = .int .i64 m1 ∧ Value.int .u64 D = .int .u64 C1 ∧ 0 ≤ C1 ∧ C1 < 4294967296 ∧ Hid (C1 = (c1 : Int)) ∧ Hid (O1.length = L) ∧ Small O1 ∧ Hid (val O1 + c1 * 4294967296 ^ (k + m1) = T + x * val (Q.take m1) * 4294967296 ^ k) ∧ (∀ j, k + Q.length ≤ j → O1.getD j 0 = 0) ∧
              (wr.setCell ⟨g, k + m, none⟩ (.int .u32 V)).ownsRow g 48 1 (.slice (some ⟨g, 0, none⟩) L L) L (ints .u32 O1) ∧ Below g w (wr.setCell ⟨g, k + m, none⟩ (.int .u32 V)) := by
            intro V D eV eD
            have q2 := EC.out
            obtain ⟨hR1, _⟩ := hown.stored (k + m) (.int .u32 (((x * y + z + c) % 4294967296 : Nat) : Int))
            rw [ints_set] at hR1
            have eV2 : V = (((x * y + z + c) % 4294967296 : Nat) : Int) := by omega
            rw [eV2]
            exact ⟨m + 1, (x * y + z + c) / 4294967296, D, O.set (k + m) ((x * y + z + c) % 4294967296), by omega, by simp, rfl, by omega, by omega, by unfold Hid; omega, by unfold Hid; rw [List.length_set, HO.out], small_put _ _ _ hOs (by omega), HN, fun j hj => by rw [getD_set _ _ _ _ (by omega)]; exact hz j hj, hR1, hb.setCell (by exact Nat.le_refl _) _⟩
          have hf := hown.frozenAt (k + m)
          clear hc2 g2 h2 hpe hlim HN ey ez HI hown hz eY eZ hc ho hx hy
          go_wp2
          go_roundw
          case rel => exact fin _ _ (by first | rfl | go_num) (by first | rfl | go_num)
          case measure => simp [intOf]; omega
        · have em : m = Q.length := by omega
          subst em
          have hV := mul_last O c (k + Q.length) (T + x * val Q * 4294967296 ^ k) (by rw [HO.out]; omega) (hz _ (Nat.le_refl _)) (by have := HI.out; rwa [List.take_of_length_le (Nat.le_refl _)] at this)
          have HN : Hid (val (O.set (k + Q.length) c) = val (P.take (k + 1)) * val Q) := by
            unfold Hid
            rw [hV, val_take_any, HX.out, HT.out]; grind
          have hcw : wr.cell? ⟨g, k + Q.length, none⟩ = some (.int .u32 ((O.getD (k + Q.length) 0 : Nat) : Int)) := by
            rw [hown.cellAt (k + Q.length) (by omega), ints_get _ _ _ (by rw [HO.out]; omega)]
          obtain ⟨hR1, _⟩ := hown.stored (k + Q.length) (.int .u32 (c : Int))
          rw [ints_set, ← EC.out] at hR1
          have hf := hown.frozenAt (k + Q.length)
          have hb4 : Below g w (wr.setCell ⟨g, k + Q.length, none⟩ (.int .u32 C)) := hb.setCell (by exact Nat.le_refl _) _
          have HO2 : Hid ((O.set (k + Q.length) c).length = L) := by unfold Hid; rw [List.length_set, HO.out]
          have hOs2 := small_put O (k + Q.length) c hOs hc
          have hz2 : ∀ j, k + 1 + Q.length ≤ j → (O.set (k + Q.length) c).getD j 0 = 0 := fun j hj => by rw [getD_set _ _ _ _ (by omega)]; exact hz j (by omega)
          clear hV h2 HI hown hz hb hc EC
          go_wp2
          go_roundw
          case rel => exact ⟨k + 1, O.set (k + Q.length) c, by omega, by go_num, HO2, hOs2, HN, hz2, hR1, hb4⟩
          case measure => simp [intOf]; omega
    · have ek : k = P.length := by omega
      subst ek
      have hv : val O = N := by have := HV.out; rw [List.take_of_length_le (Nat.le_refl _)] at this; rw [this, hN.out]
      have c3 := ntrim_own O g (some ⟨g, 0, none⟩) L wr (by rw [HO.out]; exact hown) hOs
      rw [hv, HO.out] at c3
      clear hown HV h1 h2 hz hv hN HO
      go_wp2_with (go_at_call 71; refine c3.mono ?_; rintro e w5 ⟨rfl, hw, hown5⟩; have hw2 := hw.symm; clear hw; subst hw2)
      go_ret
      exact ⟨_, _, rfl, by first | exact hown5 | (rw [hgg]; exact hown5), by first | exact hb | (rw [hgg]; exact hb)⟩
/-- Mul: the product, in new memory. -/
theorem mul_any (A B : List Nat) (ao1 ao2 : Option Addr) (cap1 cap2 : Nat) (w : World) (h1 : Lies w ao1 cap1 (ints .u32 A)) (h2 : Lies w ao2 cap2 (ints .u32 B)) (hA : Small A) (hB : Small B) (hl : A.length + B.length ≤ 70368744177664) :
    Calls Tryz.prog 52 #[.slice ao1 A.length cap1, .slice ao2 B.length cap2] w fun e w' => ∃ ao cap, e = .returned (.slice ao (nl (val A * val B)).length cap) ∧
      w'.ownsRow w.heap.size 48 1 (.slice ao (nl (val A * val B)).length cap) (nl (val A * val B)).length (ints .u32 (nl (val A * val B))) ∧ Below w.heap.size w w' := by
  have k1 := nl_len A hA
  have k2 := nl_len B hB
  exact mul_core A B (nl (val A)) (nl (val B)) (val A * val B) (by unfold Hid; rw [val_nl, val_nl]) ao1 ao2 cap1 cap2 w (lies_trim h1 hA) (lies_trim h2 hB) (ntrim_at h1 hA w (Below.refl _ _)) (ntrim_at h2 hB w (Below.refl _ _)) (small_nl _) (small_nl _) (by omega)
end Go.Proofs.YtefckmkcbgckfaaGreatDoor.NatL

/- Plain facts on the start, a round and the end of a long division. No program is named here. -/
namespace Go.Proofs.YtefckmkcbgckfaaGreatDoor.LongTop
open Go.RowKit LimbNum NatNum DivNum LongNum GuessNum Limb3

theorem bit_lo (b : Nat) (h : b ≠ 0) : 1 ≤ bitLen b ∧ 2 ^ (bitLen b - 1) ≤ b ∧ b < 2 ^ bitLen b := by
  unfold bitLen
  rw [if_neg h]
  exact ⟨by omega, by rw [Nat.add_sub_cancel]; exact Nat.log2_self_le h, Nat.lt_log2_self⟩
/-- The count of bits by which the divisor is shifted. -/
theorem shift_of (b n : Nat) (h : b ≠ 0) (hn : (nl b).length = n) : ∃ s : Nat, bitLen b + s = 32 * n ∧ s ≤ 31 := by
  have h1 := bits_of b h
  obtain ⟨h2, h3⟩ := nl_last b h
  have h4 := bl32 _ (getD_small (nl b) (small_nl b) ((nl b).length - 1))
  have h5 := (bit_lo _ h3).1
  exact ⟨32 * n - bitLen b, by omega, by omega⟩
theorem top_limb (N n : Nat) (hn : 1 ≤ n) (h1 : N < 4294967296 ^ n) (h2 : 2 ^ (32 * n - 1) ≤ N) : (nl N).length = n ∧ 2147483648 ≤ (nl N).getD (n - 1) 0 := by
  have hl := nl_lt n N h1
  have e1 : (2 : Nat) ^ (32 * n - 1) = 4294967296 ^ (n - 1) * 2147483648 := by
    rw [← pow32, show (2147483648 : Nat) = 2 ^ 31 from rfl, ← Nat.pow_add]; congr 1; omega
  have hlen : (nl N).length = n := by
    rcases Nat.lt_or_ge (nl N).length n with h | h
    · have h3 := val_lt (nl N) (small_nl N)
      rw [val_nl] at h3
      have h4 : (4294967296 : Nat) ^ (nl N).length ≤ 4294967296 ^ (n - 1) := Nat.pow_le_pow_right (by omega) (by omega)
      generalize (4294967296 : Nat) ^ (n - 1) = M at *
      omega
    · omega
  refine ⟨hlen, ?_⟩
  have h3 := val_take_any (nl N) (n - 1)
  rw [Nat.sub_add_cancel hn, List.take_of_length_le (by omega), val_nl] at h3
  have h4 := low_lt (nl N) (small_nl N) (n - 1) (by omega)
  rcases Nat.lt_or_ge ((nl N).getD (n - 1) 0) 2147483648 with h | h
  · exfalso
    have h5 : 4294967296 ^ (n - 1) * ((nl N).getD (n - 1) 0 + 1) ≤ 4294967296 ^ (n - 1) * 2147483648 := Nat.mul_le_mul_left _ (by omega)
    rw [Nat.mul_add, Nat.mul_one] at h5
    omega
  · exact h
theorem shifted (b n s : Nat) (h : b ≠ 0) (hn : 1 ≤ n) (hs : bitLen b + s = 32 * n) : (nl (b * 2 ^ s)).length = n ∧ 2147483648 ≤ (nl (b * 2 ^ s)).getD (n - 1) 0 ∧ 2 ^ (32 * n - 1) ≤ b * 2 ^ s := by
  obtain ⟨h1, h2, h3⟩ := bit_lo b h
  have e1 : b * 2 ^ s < 4294967296 ^ n := by
    rw [← pow32, ← hs, Nat.pow_add]
    exact Nat.mul_lt_mul_of_pos_right h3 (Nat.two_pow_pos s)
  have e2 : 2 ^ (32 * n - 1) ≤ b * 2 ^ s := by
    rw [show 32 * n - 1 = (bitLen b - 1) + s by omega, Nat.pow_add]
    exact Nat.mul_le_mul_right _ h2
  obtain ⟨k1, k2⟩ := top_limb _ n hn e1 e2
  exact ⟨k1, k2, e2⟩
theorem moved_len (P : List Nat) (hP : Small P) (s : Nat) (hs : s ≤ 31) : (nl (val P * 2 ^ s)).length ≤ P.length + 1 := by
  apply nl_lt
  have h1 := val_lt P hP
  have h2 : (2 : Nat) ^ s ≤ 2 ^ 32 := Nat.pow_le_pow_right (by omega) (by omega)
  rw [Nat.pow_succ]
  exact Nat.lt_of_lt_of_le (Nat.mul_lt_mul_of_pos_right h1 (Nat.two_pow_pos s)) (Nat.mul_le_mul_left _ h2)
theorem first_lt (P : List Nat) (hP : Small P) (s n K V : Nat) (hs : s ≤ 31) (hn : 1 ≤ n) (hK : K + n = P.length + 1) (hV : 2 ^ (32 * n - 1) ≤ V) : val P * 2 ^ s < V * 4294967296 ^ K := by
  have h1 := val_lt P hP
  have h2 : (2 : Nat) ^ s ≤ 2 ^ 31 := Nat.pow_le_pow_right (by omega) hs
  have h3 : 2 ^ (32 * n - 1) * 4294967296 ^ K ≤ V * 4294967296 ^ K := Nat.mul_le_mul_right _ hV
  have h4 : (2 : Nat) ^ (32 * n - 1) * 4294967296 ^ K = 4294967296 ^ P.length * 2 ^ 31 := by
    rw [← pow32, ← pow32, ← Nat.pow_add, ← Nat.pow_add]; congr 1; omega
  rw [h4] at h3
  exact Nat.lt_of_lt_of_le (Nat.lt_of_lt_of_le (Nat.mul_lt_mul_of_pos_right h1 (Nat.two_pow_pos s)) (Nat.mul_le_mul_left _ h2)) h3
/-- A row that is cut in three: the part that is divided. -/
theorem cut3 (U : List Nat) (j n V : Nat) (hl : j + n + 1 ≤ U.length) (hV : V < 4294967296 ^ n) (hlt : val U < V * 4294967296 ^ (j + 1)) :
    U = U.take j ++ (U.drop j).take (n + 1) ++ U.drop (j + n + 1) ∧ (U.take j).length = j ∧ ((U.drop j).take (n + 1)).length = n + 1 ∧ val (U.drop (j + n + 1)) = 0 ∧ val U = val (U.take j) + 4294967296 ^ j * val ((U.drop j).take (n + 1)) ∧ val ((U.drop j).take (n + 1)) < V * 4294967296 := by
  have e0 : U.take j ++ (U.drop j).take (n + 1) ++ U.drop (j + n + 1) = U := by
    rw [List.append_assoc, show U.drop (j + n + 1) = (U.drop j).drop (n + 1) by rw [List.drop_drop]; congr 1, List.take_append_drop, List.take_append_drop]
  have l1 : (U.take j).length = j := by rw [List.length_take]; omega
  have l2 : ((U.drop j).take (n + 1)).length = n + 1 := by rw [List.length_take, List.length_drop]; omega
  have v0 := congrArg val e0
  rw [val_append, val_append, List.length_append, l1, l2] at v0
  have hz : val (U.drop (j + n + 1)) = 0 := by
    rcases Nat.eq_zero_or_pos (val (U.drop (j + n + 1))) with h | h
    · exact h
    · exfalso
      have h1 : 4294967296 ^ (j + (n + 1)) ≤ 4294967296 ^ (j + (n + 1)) * val (U.drop (j + n + 1)) := Nat.le_mul_of_pos_right _ h
      have h2 : V * 4294967296 ^ (j + 1) ≤ 4294967296 ^ n * 4294967296 ^ (j + 1) := Nat.mul_le_mul_right _ (Nat.le_of_lt hV)
      rw [← Nat.pow_add, show n + (j + 1) = j + (n + 1) by omega] at h2
      omega
  rw [hz, Nat.mul_zero, Nat.add_zero] at v0
  refine ⟨e0.symm, l1, l2, hz, v0.symm, ?_⟩
  rw [← v0, Nat.pow_succ, ← Nat.mul_assoc, Nat.mul_right_comm] at hlt
  have h3 : 4294967296 ^ j * val ((U.drop j).take (n + 1)) < 4294967296 ^ j * (V * 4294967296) := by
    rw [Nat.mul_comm (4294967296 ^ j) (V * 4294967296)]
    omega
  exact Nat.lt_of_mul_lt_mul_left h3
theorem small_part (U : List Nat) (hU : Small U) (j n : Nat) : Small ((U.drop j).take n) := fun x hx => hU x (List.mem_of_mem_drop (List.mem_of_mem_take hx))
theorem small_three (X Y Z : List Nat) (hX : Small X) (hY : Small Y) (hZ : Small Z) : Small (X ++ Y ++ Z) := by
  intro x hx
  simp only [List.mem_append] at hx
  rcases hx with (h | h) | h
  · exact hX x h
  · exact hY x h
  · exact hZ x h
theorem last_take (U : List Nat) (n : Nat) (hn : n ≤ U.length) (h : val U < 4294967296 ^ n) : val (U.take n) = val U := by
  have e := val_append (U.take n) (U.drop n)
  rw [List.take_append_drop, List.length_take, Nat.min_eq_left hn] at e
  rcases Nat.eq_zero_or_pos (val (U.drop n)) with h1 | h1
  · rw [h1] at e; omega
  · have : 4294967296 ^ n ≤ 4294967296 ^ n * val (U.drop n) := Nat.le_mul_of_pos_right _ h1
    omega
theorem long_end (a b s u D : Nat) (hb : 0 < b) (h : a * 2 ^ s = u + b * 2 ^ s * D) (hu : u < b * 2 ^ s) : D = a / b ∧ u / 2 ^ s = a % b := by
  have hp := Nat.two_pow_pos s
  have h1 : D = a * 2 ^ s / (b * 2 ^ s) := by
    rw [h, Nat.add_mul_div_left _ _ (Nat.mul_pos hb hp), Nat.div_eq_of_lt hu, Nat.zero_add]
  have h2 : u = a * 2 ^ s % (b * 2 ^ s) := by
    rw [h, Nat.add_mul_mod_self_left, Nat.mod_eq_of_lt hu]
  refine ⟨by rw [h1, Nat.mul_div_mul_right _ _ hp], ?_⟩
  rw [h2, Nat.mul_mod_mul_right, Nat.mul_div_cancel _ hp]
end Go.Proofs.YtefckmkcbgckfaaGreatDoor.LongTop

/- What is taken away from a part of a row, and put back, in place. -/
namespace Go.Proofs.YtefckmkcbgckfaaGreatDoor.LongL
open Go.RowKit Mem LimbNum Limb1 Limb2 Limb4 NatNum DivNum LongNum NatL

theorem grown_set {w wr : World} {g k : Nat} {v : Value} (h : w.grownBy wr (some g)) : w.grownBy (wr.setCell ⟨g, k, none⟩ v) (some g) :=
  ⟨h.os, h.tape, h.output, by simpa [World.setCell] using h.size, fun j hj hne => by
    rw [heap_setCell_other _ _ _ _ (by intro e; exact hne (by rw [e]))]; exact h.block j hj hne⟩
theorem grown_refl (w : World) (r : Option Nat) : w.grownBy w r := ⟨rfl, rfl, rfl, Nat.le_refl _, fun _ _ _ => rfl⟩
theorem below_of_grown {w0 w w' : World} {g : Nat} (hb : Below g w0 w) (h : w.grownBy w' (some g)) (hg : g ≤ w.heap.size) : Below g w0 w' :=
  hb.grown h hg (fun j hj => by cases hj; exact Nat.le_refl _)
/-- A whole row, cut in three: what lies in the middle part at place j. -/
theorem mid_cell {w : World} {base g L : Nat} {X O Z : List Nat} {i n : Nat} (h : w.ownsRow base 48 1 (.slice (some ⟨g, 0, none⟩) L L) L (ints .u32 (X ++ O ++ Z))) (hX : X.length = i) (hO : O.length = n) (j : Nat) (hj : j < n) :
    w.cell? ⟨g, i + j, none⟩ = some (.int .u32 ((O.getD j 0 : Nat) : Int)) ∧ w.frozen? ⟨g, i + j, none⟩ = false := by
  have hl : (X ++ O ++ Z).length = L := by have := h.1; rw [ints_length] at this; omega
  refine ⟨?_, h.frozenAt _⟩
  rw [h.cellAt (i + j) (by rw [← hl]; simp; omega), ints_get _ _ _ (by simp; omega)]
  congr 3
  subst hX
  rw [List.append_assoc]
  simp only [List.getD_eq_getElem?_getD]
  rw [List.getElem?_append_right (by omega), Nat.add_sub_cancel_left, List.getElem?_append_left (by omega)]

set_option maxRecDepth 20000 in
set_option maxHeartbeats 2000000 in
/-- takeAway: the part less q times v, wrapped where it is below nought. -/
theorem take_core (X U Z V : List Nat) (n i L base g cu q : Nat) (vo : Option Addr) (vc : Nat) (w0 w : World) (hV : Lies w0 vo vc (ints .u32 V)) (hb0 : Below g w0 w) (hg : w0.heap.size ≤ g)
    (hown : w.ownsRow base 48 1 (.slice (some ⟨g, 0, none⟩) L L) L (ints .u32 (X ++ U ++ Z))) (hX : X.length = i) (hU : U.length = n + 1) (hVl : V.length = n) (hUs : Small U) (hVs : Small V) (hq : q < 4294967296) (hn : n ≤ 35184372088832) :
    Calls Tryz.prog 87 #[.slice (some ⟨g, i, none⟩) (n + 1) cu, .slice vo n vc, .int .u64 (q : Int)] w fun e w' => ∃ (U' : List Nat) (b : Nat), e = .returned (.bool (decide (b = 1))) ∧ b ≤ 1 ∧ U'.length = n + 1 ∧ Small U' ∧ val U' + q * val V = val U + b * 4294967296 ^ (n + 1) ∧
      w'.ownsRow base 48 1 (.slice (some ⟨g, 0, none⟩) L L) L (ints .u32 (X ++ U' ++ Z)) ∧ w.grownBy w' (some g) := by
  have hgw : g < w.heap.size := (hown.lt _ rfl).2
  obtain ⟨QI, eQ⟩ : ∃ Q : Int, Q = (q : Int) := ⟨_, rfl⟩
  rw [← eQ]
  have EQ : Hid (QI = (q : Int)) := eQ
  clear eQ
  go_enter Tryz.func87, Tryz.ntmps87
  go_wp2
  go_loopw [7, 8, 16] (fun cv bv iv wr => ∃ (k c b : Nat) (CI BI : Int) (T : List Nat), k ≤ n ∧ iv = .int .i64 k ∧ cv = .int .u64 CI ∧ 0 ≤ CI ∧ CI < 4294967296 ∧ Hid (CI = (c : Int)) ∧ bv = .int .u64 BI ∧ 0 ≤ BI ∧ BI ≤ 1 ∧ Hid (BI = (b : Int)) ∧ Hid (T.length = k) ∧ Small T ∧ Hid (val T + q * val (V.take k) = val (U.take k) + (c + b) * 4294967296 ^ k) ∧
      wr.ownsRow base 48 1 (.slice (some ⟨g, 0, none⟩) L L) L (ints .u32 (X ++ (T ++ U.drop k) ++ Z)) ∧ w.grownBy wr (some g))
    (fun _ _ iv _ => n - (intOf iv).toNat)
  case atStart => exact ⟨0, 0, 0, 0, 0, [], Nat.zero_le _, rfl, rfl, by omega, by omega, rfl, rfl, by omega, by omega, rfl, rfl, by intro x hx; simp at hx, by unfold Hid; simp [val], hown, grown_refl _ _⟩
  case round =>
    clear hown
    obtain ⟨k, c, b, CI, BI, T, hk, rfl, rfl, hC0, hC1, EC, rfl, hB0, hB1, EB, HT, hTs, HI, hown, hgr⟩ := hrel
    have hc : c < 4294967296 := by have := EC.out; omega
    have hb : b ≤ 1 := by have := EB.out; omega
    have hOl : (T ++ U.drop k).length = n + 1 := by have := HT.out; simp; omega
    by_cases hlt : k < n
    · have g2 := hV.below (below_of_grown hb0 hgr (by omega)) hg
      obtain ⟨b2, off2, rfl, _, hc2⟩ := g2.2.2.2 (by rw [ints_length]; omega)
      have d2 := hc2 k (by rw [ints_length]; omega)
      rw [ints_get _ _ _ (by omega)] at d2
      obtain ⟨d1, df⟩ := mid_cell hown hX hOl k (by omega)
      have egm : (T ++ U.drop k).getD k 0 = U.getD k 0 := by have := get_mid [] T U [] 0 k rfl HT.out (by omega); simpa using this
      rw [egm] at d1
      have hx := getD_small U hUs k
      have hy := getD_small V hVs k
      obtain ⟨p, o, b3, c3, D1, D2, e1, e2, e3, e4, e5, e6, e7, e8, e9, e10, e11, e12, e13⟩ := take_limb (U.getD k 0) (V.getD k 0) q c b hx hy hq hc hb
      have HN : Hid (val (T ++ [o]) + q * val (V.take (k + 1)) = val (U.take (k + 1)) + (c3 + b3) * 4294967296 ^ (k + 1)) := take_step U V T k _ _ q c b o c3 b3 HT.out rfl rfl e11 HI.out
      obtain ⟨XI, eX⟩ : ∃ X : Int, X = ((U.getD k 0 : Nat) : Int) := ⟨_, rfl⟩
      obtain ⟨YI, eY⟩ : ∃ X : Int, X = ((V.getD k 0 : Nat) : Int) := ⟨_, rfl⟩
      rw [← eX] at d1
      rw [← eY] at d2
      have hX0 : 0 ≤ XI := by omega
      have hX1 : XI < 4294967296 := by omega
      have hY0 : 0 ≤ YI := by omega
      have hY1 : YI < 4294967296 := by omega
      have hm : QI * YI = ((q * V.getD k 0 : Nat) : Int) := by rw [EQ.out, eY, Int.natCast_mul]
      have hm0 : 0 ≤ QI * YI := by rw [hm]; exact Int.natCast_nonneg _
      have hP : QI * YI + CI = (p : Int) := by rw [hm, EC.out, ← e1, Int.natCast_add]
      have hp1 : QI * YI + CI < 18446744073709551616 := by rw [hP]; omega
      obtain ⟨M, eM⟩ : ∃ M : Int, QI * YI = M := ⟨_, rfl⟩
      rw [eM] at hm0 hP hp1
      have f1 : IntKind.u64.wrap (XI - (M + CI) % 4294967296) = (D1 : Int) := by rw [hP, eX, ← e5]; congr 1
      have f2 : IntKind.u64.wrap ((D1 : Int) - BI) = (D2 : Int) := by rw [EB.out]; exact e6
      have f5 : (M + CI) / 4294967296 = (c3 : Int) := by rw [hP]; omega
      obtain ⟨D1I, eD1⟩ : ∃ D : Int, D = (D1 : Int) := ⟨_, rfl⟩
      obtain ⟨D2I, eD2⟩ : ∃ D : Int, D = (D2 : Int) := ⟨_, rfl⟩
      obtain ⟨OI, eO⟩ : ∃ D : Int, D = (o : Int) := ⟨_, rfl⟩
      obtain ⟨CI2, eC2⟩ : ∃ D : Int, D = (c3 : Int) := ⟨_, rfl⟩
      obtain ⟨BI2, eB2⟩ : ∃ D : Int, D = (b3 : Int) := ⟨_, rfl⟩
      rw [← eD1] at f1 f2
      rw [← eD2] at f2 e7 e8
      rw [← eO] at e7
      rw [← eC2] at f5
      rw [← eB2] at e8
      have hD10 : 0 ≤ D1I := by omega
      have hD11 : D1I < 18446744073709551616 := by omega
      have hD20 : 0 ≤ D2I := by omega
      have hD21 : D2I < 18446744073709551616 := by omega
      have hO0 : 0 ≤ OI := by omega
      have hO1 : OI < 4294967296 := by omega
      obtain ⟨hR1, _⟩ := hown.stored (i + k) (.int .u32 (o : Int))
      rw [ints_set, set_mid X T U Z i k o hX HT.out (by omega), ← eO] at hR1
      have hgr2 : w.grownBy (wr.setCell ⟨g, i + k, none⟩ (.int .u32 OI)) (some g) := grown_set hgr
      have HT2 : Hid ((T ++ [o]).length = k + 1) := by have := HT.out; unfold Hid; simp; omega
      have hTs2 := small_push T o hTs e9
      have EC2 : Hid (CI2 = (c3 : Int)) := eC2
      have EB2 : Hid (BI2 = (b3 : Int)) := eB2
      have hC20 : 0 ≤ CI2 := by omega
      have hC21 : CI2 < 4294967296 := by omega
      have hB20 : 0 ≤ BI2 := by omega
      have hB21 : BI2 ≤ 1 := by omega
      clear hc2 g2 hV hown hgr HI egm e1 e2 e3 e4 e5 e6 e9 e10 e11 e12 e13 hm hP eX eY eD1 eD2 eO eC2 eB2 hx hy hc hb hOl HT hTs EC EB
      go_wp2
      go_roundw
      case rel => exact ⟨k + 1, c3, b3, CI2, BI2, T ++ [o], by omega, by go_num, by first | rfl | go_num, hC20, hC21, EC2, by first | rfl | go_num, hB20, hB21, EB2, HT2, hTs2, HN, hR1, hgr2⟩
      case measure => simp [intOf]; omega
    · have ek : k = n := by omega
      subst ek
      obtain ⟨d1, df⟩ := mid_cell hown hX hOl k (by omega)
      have egm : (T ++ U.drop k).getD k 0 = U.getD k 0 := by have := get_mid [] T U [] 0 k rfl HT.out (by omega); simpa using this
      rw [egm] at d1
      have hx := getD_small U hUs k
      obtain ⟨o, b3, D1, D2, e5, e6, e7, e8, e9, e10, e11, e12, e13⟩ := take_top (U.getD k 0) c b hx hc hb
      have HN := take_last U V T k _ q c b o b3 HT.out hU hVl rfl e11 HI.out
      obtain ⟨XI, eX⟩ : ∃ X : Int, X = ((U.getD k 0 : Nat) : Int) := ⟨_, rfl⟩
      rw [← eX] at d1
      have hX0 : 0 ≤ XI := by omega
      have hX1 : XI < 4294967296 := by omega
      have f1 : IntKind.u64.wrap (XI - CI) = (D1 : Int) := by rw [eX, EC.out]; exact e5
      have f2 : IntKind.u64.wrap ((D1 : Int) - BI) = (D2 : Int) := by rw [EB.out]; exact e6
      obtain ⟨D1I, eD1⟩ : ∃ D : Int, D = (D1 : Int) := ⟨_, rfl⟩
      obtain ⟨D2I, eD2⟩ : ∃ D : Int, D = (D2 : Int) := ⟨_, rfl⟩
      obtain ⟨OI, eO⟩ : ∃ D : Int, D = (o : Int) := ⟨_, rfl⟩
      obtain ⟨BI2, eB2⟩ : ∃ D : Int, D = (b3 : Int) := ⟨_, rfl⟩
      rw [← eD1] at f1 f2
      rw [← eD2] at f2 e7 e8
      rw [← eO] at e7
      rw [← eB2] at e8
      have hD10 : 0 ≤ D1I := by omega
      have hD11 : D1I < 18446744073709551616 := by omega
      have hD20 : 0 ≤ D2I := by omega
      have hD21 : D2I < 18446744073709551616 := by omega
      have hO0 : 0 ≤ OI := by omega
      have hO1 : OI < 4294967296 := by omega
      obtain ⟨hR1, _⟩ := hown.stored (i + k) (.int .u32 (o : Int))
      rw [ints_set, set_mid X T U Z i k o hX HT.out (by omega), ← eO, List.drop_eq_nil_of_le (by omega), List.append_nil] at hR1
      have hgr2 : w.grownBy (wr.setCell ⟨g, i + k, none⟩ (.int .u32 OI)) (some g) := grown_set hgr
      have hT2 : (T ++ [o]).length = k + 1 := by have := HT.out; simp; omega
      have hTs2 := small_push T o hTs e9
      have EB2 : Hid (BI2 = (b3 : Int)) := eB2
      have HN2 : Hid (val (T ++ [o]) + q * val V = val U + b3 * 4294967296 ^ (k + 1)) := HN
      have HT3 : Hid ((T ++ [o]).length = k + 1) := hT2
      have hb3 : b3 ≤ 1 := e10
      clear hV hown hgr HI egm e5 e6 e9 e10 e11 e12 e13 eX eD1 eD2 eO eB2 hx hc hb hOl HT hTs EC EB HN hT2 hU hVl
      go_wp2
      go_ret
      have fin : Ending.returned (.bool (BI2 == 1)) = .returned (.bool (decide (b3 = 1))) := by
        rw [EB2.out]
        rcases (show b3 = 0 ∨ b3 = 1 by omega) with rfl | rfl <;> rfl
      exact ⟨T ++ [o], b3, fin, hb3, HT3.out, hTs2, HN2.out, hR1, hgr2⟩

set_option maxRecDepth 20000 in
set_option maxHeartbeats 2000000 in
/-- putBack: the part and v, without what is carried beyond. -/
theorem back_core (X U Z V : List Nat) (n i L base g cu : Nat) (vo : Option Addr) (vc : Nat) (w0 w : World) (hV : Lies w0 vo vc (ints .u32 V)) (hb0 : Below g w0 w) (hg : w0.heap.size ≤ g)
    (hown : w.ownsRow base 48 1 (.slice (some ⟨g, 0, none⟩) L L) L (ints .u32 (X ++ U ++ Z))) (hX : X.length = i) (hU : U.length = n + 1) (hVl : V.length = n) (hUs : Small U) (hVs : Small V) (hn : n ≤ 35184372088832) :
    Calls Tryz.prog 88 #[.slice (some ⟨g, i, none⟩) (n + 1) cu, .slice vo n vc] w fun e w' => ∃ (U' : List Nat), e = .returned (.tuple #[]) ∧ U'.length = n + 1 ∧ Small U' ∧ val U' = (val U + val V) % 4294967296 ^ (n + 1) ∧
      w'.ownsRow base 48 1 (.slice (some ⟨g, 0, none⟩) L L) L (ints .u32 (X ++ U' ++ Z)) ∧ w.grownBy w' (some g) := by
  have hgw : g < w.heap.size := (hown.lt _ rfl).2
  go_enter Tryz.func88, Tryz.ntmps88
  go_wp2
  go_loopw [4, 10] (fun cv iv wr => ∃ (k c : Nat) (CI : Int) (T : List Nat), k ≤ n ∧ iv = .int .i64 k ∧ cv = .int .u64 CI ∧ 0 ≤ CI ∧ CI ≤ 1 ∧ Hid (CI = (c : Int)) ∧ Hid (T.length = k) ∧ Small T ∧ Hid (val T + c * 4294967296 ^ k = val (U.take k) + val (V.take k)) ∧
      wr.ownsRow base 48 1 (.slice (some ⟨g, 0, none⟩) L L) L (ints .u32 (X ++ (T ++ U.drop k) ++ Z)) ∧ w.grownBy wr (some g))
    (fun _ iv _ => n - (intOf iv).toNat)
  case atStart => exact ⟨0, 0, 0, [], Nat.zero_le _, rfl, rfl, by omega, by omega, rfl, rfl, by intro x hx; simp at hx, by unfold Hid; simp [val], hown, grown_refl _ _⟩
  case round =>
    clear hown
    obtain ⟨k, c, CI, T, hk, rfl, rfl, hC0, hC1, EC, HT, hTs, HI, hown, hgr⟩ := hrel
    have hc : c ≤ 1 := by have := EC.out; omega
    have hOl : (T ++ U.drop k).length = n + 1 := by have := HT.out; simp; omega
    by_cases hlt : k < n
    · have g2 := hV.below (below_of_grown hb0 hgr (by omega)) hg
      obtain ⟨b2, off2, rfl, _, hc2⟩ := g2.2.2.2 (by rw [ints_length]; omega)
      have d2 := hc2 k (by rw [ints_length]; omega)
      rw [ints_get _ _ _ (by omega)] at d2
      obtain ⟨d1, df⟩ := mid_cell hown hX hOl k (by omega)
      have egm : (T ++ U.drop k).getD k 0 = U.getD k 0 := by have := get_mid [] T U [] 0 k rfl HT.out (by omega); simpa using this
      rw [egm] at d1
      have hx := getD_small U hUs k
      have hy := getD_small V hVs k
      have e11 : (U.getD k 0 + V.getD k 0 + c) % 4294967296 + (U.getD k 0 + V.getD k 0 + c) / 4294967296 * 4294967296 = U.getD k 0 + V.getD k 0 + c := by omega
      have HN : Hid (val (T ++ [(U.getD k 0 + V.getD k 0 + c) % 4294967296]) + (U.getD k 0 + V.getD k 0 + c) / 4294967296 * 4294967296 ^ (k + 1) = val (U.take (k + 1)) + val (V.take (k + 1))) := add_step U V T k _ _ c _ _ HT.out rfl rfl e11 HI.out
      have ho : (U.getD k 0 + V.getD k 0 + c) % 4294967296 < 4294967296 := by omega
      have hc3 : (U.getD k 0 + V.getD k 0 + c) / 4294967296 ≤ 1 := by omega
      obtain ⟨XI, eX⟩ : ∃ X : Int, X = ((U.getD k 0 : Nat) : Int) := ⟨_, rfl⟩
      obtain ⟨YI, eY⟩ : ∃ X : Int, X = ((V.getD k 0 : Nat) : Int) := ⟨_, rfl⟩
      rw [← eX] at d1
      rw [← eY] at d2
      have hX0 : 0 ≤ XI := by omega
      have hX1 : XI < 4294967296 := by omega
      have hY0 : 0 ≤ YI := by omega
      have hY1 : YI < 4294967296 := by omega
      have f3 : (XI + YI + CI) % 4294967296 = (((U.getD k 0 + V.getD k 0 + c) % 4294967296 : Nat) : Int) := by have := EC.out; omega
      have f5 : (XI + YI + CI) / 4294967296 = (((U.getD k 0 + V.getD k 0 + c) / 4294967296 : Nat) : Int) := by have := EC.out; omega
      generalize (U.getD k 0 + V.getD k 0 + c) % 4294967296 = o at *
      generalize (U.getD k 0 + V.getD k 0 + c) / 4294967296 = c3 at *
      obtain ⟨OI, eO⟩ : ∃ D : Int, D = (o : Int) := ⟨_, rfl⟩
      obtain ⟨CI2, eC2⟩ : ∃ D : Int, D = (c3 : Int) := ⟨_, rfl⟩
      rw [← eO] at f3
      rw [← eC2] at f5
      have hO0 : 0 ≤ OI := by omega
      have hO1 : OI < 4294967296 := by omega
      obtain ⟨hR1, _⟩ := hown.stored (i + k) (.int .u32 (o : Int))
      rw [ints_set, set_mid X T U Z i k o hX HT.out (by omega), ← eO] at hR1
      have hgr2 : w.grownBy (wr.setCell ⟨g, i + k, none⟩ (.int .u32 OI)) (some g) := grown_set hgr
      have HT2 : Hid ((T ++ [o]).length = k + 1) := by have := HT.out; unfold Hid; simp; omega
      have hTs2 := small_push T o hTs ho
      have EC2 : Hid (CI2 = (c3 : Int)) := eC2
      have hC20 : 0 ≤ CI2 := by omega
      have hC21 : CI2 ≤ 1 := by omega
      clear hc2 g2 hV hown hgr HI egm e11 eX eY eO eC2 hx hy hc hOl HT hTs EC ho hc3
      go_wp2
      go_roundw
      case rel => exact ⟨k + 1, c3, CI2, T ++ [o], by omega, by go_num, by first | rfl | go_num, hC20, hC21, EC2, HT2, hTs2, HN, hR1, hgr2⟩
      case measure => simp [intOf]; omega
    · have ek : k = n := by omega
      subst ek
      obtain ⟨d1, df⟩ := mid_cell hown hX hOl k (by omega)
      have egm : (T ++ U.drop k).getD k 0 = U.getD k 0 := by have := get_mid [] T U [] 0 k rfl HT.out (by omega); simpa using this
      rw [egm] at d1
      have hx := getD_small U hUs k
      have HN := back_last U V T k _ c _ HT.out hTs hU hVl rfl rfl HI.out
      obtain ⟨XI, eX⟩ : ∃ X : Int, X = ((U.getD k 0 : Nat) : Int) := ⟨_, rfl⟩
      rw [← eX] at d1
      have hX0 : 0 ≤ XI := by omega
      have hX1 : XI < 4294967296 := by omega
      have f1 : IntKind.u32.wrap (XI + CI) = (((U.getD k 0 + c) % 4294967296 : Nat) : Int) := by have := EC.out; rw [IntKind.wrap_u32]; omega
      have ho : (U.getD k 0 + c) % 4294967296 < 4294967296 := by omega
      generalize (U.getD k 0 + c) % 4294967296 = o at *
      obtain ⟨OI, eO⟩ : ∃ D : Int, D = (o : Int) := ⟨_, rfl⟩
      rw [← eO] at f1
      have hO0 : 0 ≤ OI := by omega
      have hO1 : OI < 4294967296 := by omega
      obtain ⟨hR1, _⟩ := hown.stored (i + k) (.int .u32 (o : Int))
      rw [ints_set, set_mid X T U Z i k o hX HT.out (by omega), ← eO, List.drop_eq_nil_of_le (by omega), List.append_nil] at hR1
      have hgr2 : w.grownBy (wr.setCell ⟨g, i + k, none⟩ (.int .u32 OI)) (some g) := grown_set hgr
      have hT2 : (T ++ [o]).length = k + 1 := by have := HT.out; simp; omega
      have hTs2 := small_push T o hTs ho
      have HN2 : Hid (val (T ++ [o]) = (val U + val V) % 4294967296 ^ (k + 1)) := HN
      have HT3 : Hid ((T ++ [o]).length = k + 1) := hT2
      clear hV hown hgr HI egm eX eO hx hc hOl HT hTs EC HN hT2 hU hVl ho
      go_wp2
      go_end0
      exact ⟨T ++ [o], rfl, HT3.out, hTs2, HN2.out, hR1, hgr2⟩
end Go.Proofs.YtefckmkcbgckfaaGreatDoor.LongL

/- What the shifts of lists of limbs answer. -/
namespace Go.Proofs.YtefckmkcbgckfaaGreatDoor.ShiftL
open Go.RowKit Mem LimbNum ShiftNum Limb1 Limb2 Limb4

theorem shl_no (A : List Nat) (n : Int) (ao : Option Addr) (cap : Nat) (w : World) (h : n < 0 ∨ 100000 < n) :
    Calls Tryz.prog 85 #[.slice ao A.length cap, .int .i64 n] w fun e w' => e = .returned (.tuple #[.slice none 0 0, .bool false]) ∧ w' = w := by
  rcases h with h | h
  · go_enter Tryz.func85, Tryz.ntmps85
    go_wp2
    go_ret2
    exact ⟨rfl, rfl⟩
  · have h0 : 0 ≤ n := by omega
    go_enter Tryz.func85, Tryz.ntmps85
    go_wp2
    go_ret2
    exact ⟨rfl, rfl⟩
theorem shr_no (A : List Nat) (n : Int) (ao : Option Addr) (cap : Nat) (w : World) (h : n < 0 ∨ 100000 < n) :
    Calls Tryz.prog 21 #[.slice ao A.length cap, .int .i64 n] w fun e w' => e = .returned (.tuple #[.slice none 0 0, .bool false]) ∧ w' = w := by
  rcases h with h | h
  · go_enter Tryz.func21, Tryz.ntmps21
    go_wp2
    go_ret2
    exact ⟨rfl, rfl⟩
  · have h0 : 0 ≤ n := by omega
    go_enter Tryz.func21, Tryz.ntmps21
    go_wp2
    go_ret2
    exact ⟨rfl, rfl⟩

set_option maxRecDepth 20000 in
set_option maxHeartbeats 2000000 in
theorem shl_core (A P : List Nat) (n : Int) (W p N : Nat) (hN : Hid (N = val P * 2 ^ (32 * W + p))) (ao : Option Addr) (cap : Nat) (w : World) (h0 : 0 ≤ n) (h1 : n ≤ 100000) (hw : n / 32 = (W : Int)) (hp : bits BinOp.and IntKind.i64 n 31 = (p : Int)) (hp2 : p < 32) (hw2 : W ≤ 3125)
    (hl : Lies w ao cap (ints .u32 P)) (hP : Small P) (hlen : P.length + W + 1 ≤ 70368744177664)
    (c1 : Calls Tryz.prog 47 #[.slice ao A.length cap] w fun e w' => e = .returned (.slice ao P.length cap) ∧ w' = w) :
    Calls Tryz.prog 85 #[.slice ao A.length cap, .int .i64 n] w fun e w' => ∃ ao' cap', e = .returned (.tuple #[.slice ao' (nl N).length cap', .bool true]) ∧ w'.ownsRow w.heap.size 48 1 (.slice ao' (nl N).length cap') (nl N).length (ints .u32 (nl N)) ∧ Below w.heap.size w w' := by
  obtain ⟨i0, hi, hz0, hz1, hz2⟩ := info_parts info32
  by_cases hP0 : P.length = 0
  · have hN0 : N = 0 := by rw [hN.out, List.length_eq_zero_iff.1 hP0]; simp [val]
    subst hN0
    have e0 := nl_zero
    clear hN hl hP
    go_enter Tryz.func85, Tryz.ntmps85
    go_wp2_with (go_at_call 47; refine c1.mono ?_; rintro e w2 ⟨rfl, hw⟩; have hw2 := hw.symm; clear hw; subst hw2)
    go_ret2
    exact ⟨none, 0, by rw [e0]; rfl, by rw [e0]; exact World.ownsRow_nil _ _ _ _, Below.refl _ _⟩
  · go_enter Tryz.func85, Tryz.ntmps85
    go_wp2_with (first
      | (go_at_call 47; refine c1.mono ?_; rintro e w2 ⟨rfl, hw⟩; have hw2 := hw.symm; clear hw; subst hw2)
      | (at_make; refine wpList_make_full _ rfl _ _ 22 rfl w.heap.size 48 i0 (.int .u32 0) 1 Tryz.underlying22 hi hz0 hz1 .i64 .i64 ((P.length : Int) + (W : Int) + 1) ((P.length : Int) + (W : Int) + 1) (P.length + W + 1) rfl rfl (by omega) (by omega) (by rw [hz2]; omega) (by unfold maxLen; omega) (Nat.le_refl _) ?_; intro w3 hown hgr))
    have hown0 : w3.ownsRow w.heap.size 48 1 (.slice (some ⟨w.heap.size, 0, none⟩) (P.length + W + 1) (P.length + W + 1)) (P.length + W + 1) (ints .u32 (List.replicate W 0 ++ [0] ++ List.replicate (P.length - 0) 0)) := by
      rw [show List.replicate W 0 ++ [0] ++ List.replicate (P.length - 0) 0 = List.replicate (P.length + W + 1) 0 by
        rw [show ([0] : List Nat) = List.replicate 1 0 from rfl, List.replicate_append_replicate, List.replicate_append_replicate]; congr 1; omega]
      rw [ints_zero, ← toList_madeCells_one]; rw [Nat.mul_one] at hown; exact hown
    have hb3 : Below w.heap.size w w3 := (Below.refl _ _).grown hgr (Nat.le_refl _) (by simp)
    clear hown hgr c1
    generalize hgg : w.heap.size = g at *
    go_loopw [36] (fun i wr => ∃ (k d : Nat) (Z : List Nat), k ≤ P.length ∧ i = .int .i64 k ∧ Z.length = k + W ∧ Small Z ∧ Hid (d < 2 ^ p) ∧ Hid (val (Z ++ [d]) = 4294967296 ^ W * (val (P.take k) * 2 ^ p)) ∧
        wr.ownsRow g 48 1 (.slice (some ⟨g, 0, none⟩) (P.length + W + 1) (P.length + W + 1)) (P.length + W + 1) (ints .u32 (Z ++ [d] ++ List.replicate (P.length - k) 0)) ∧ Below g w wr)
      (fun i _ => P.length - (intOf i).toNat)
    case atStart =>
      refine ⟨0, 0, List.replicate W 0, Nat.zero_le _, rfl, by simp, by intro x hx; rw [List.eq_of_mem_replicate hx]; omega, Nat.two_pow_pos p, ?_, hown0, hb3⟩
      unfold Hid
      rw [val_append, val_zero (List.replicate W 0) (fun x hx => List.eq_of_mem_replicate hx)]; simp [val]
    case round =>
      clear hown0 hb3
      obtain ⟨k, d, Z, hk, rfl, hZ, hZs, HD, HV, hown, hb⟩ := hrel
      by_cases hlt : k < P.length
      · have g1 := hl.below hb (by omega)
        obtain ⟨b1, off1, rfl, _, hc1⟩ := g1.2.2.2 (by rw [ints_length]; omega)
        have d1 := hc1 k (by rw [ints_length]; omega)
        rw [ints_get _ _ _ hlt] at d1
        have hx := getD_small P hP k
        obtain ⟨x, ex⟩ : ∃ x, P.getD k 0 = x := ⟨_, rfl⟩
        rw [ex] at d1 hx
        obtain ⟨t, lo, s, hi2, e1, e2, e3, e4, e5, e6, e7, e8, e9⟩ := shl_limb x d p hp2 hx HD
        have HN : Hid (val (Z ++ [s] ++ [hi2]) = 4294967296 ^ W * (val (P.take (k + 1)) * 2 ^ p)) := shl_step P Z W k p x d s hi2 hZ hlt ex e9 HV
        have HD2 : Hid (hi2 < 2 ^ p) := e6
        have hZ2 := small_push Z s hZs e5
        obtain ⟨m, hm⟩ : ∃ m, P.length - k = m + 1 := ⟨P.length - k - 1, by omega⟩
        have hm2 : P.length - (k + 1) = m := by omega
        rw [hm] at hown
        have hfr := hown.frozenAt (k + W)
        have hfr2 := hown.frozenAt (k + W + 1)
        have hcw : wr.cell? ⟨g, k + W, none⟩ = some (.int .u32 (d : Int)) := by
          rw [hown.cellAt (k + W) (by omega), ints_get _ _ _ (by simp; omega)]
          simp [← hZ]
        obtain ⟨hR1, hG1⟩ := hown.stored (k + W) (.int .u32 (s : Int))
        have hcw2 : (wr.setCell ⟨g, k + W, none⟩ (.int .u32 (s : Int))).cell? ⟨g, k + W + 1, none⟩ = some (.int .u32 0) := by
          rw [hR1.cellAt (k + W + 1) (by omega), ints_set, ints_get _ _ _ (by simp; omega)]
          simp [← hZ]
        have hfr3 := hR1.frozenAt (k + W + 1)
        obtain ⟨hR2, _⟩ := hR1.stored (k + W + 1) (.int .u32 (hi2 : Int))
        rw [ints_set, ints_set, shl_fill Z (k + W) m d s hi2 hZ] at hR2
        have hb4 : Below g w ((wr.setCell ⟨g, k + W, none⟩ (.int .u32 (s : Int))).setCell ⟨g, k + W + 1, none⟩ (.int .u32 (hi2 : Int))) := (hb.setCell (by exact Nat.le_refl _) _).setCell (by exact Nat.le_refl _) _
        clear hc1 g1 hl hown hb HV HD ex e9 e6 hR1 hG1 hm hZs
        go_wp2
        go_roundw
        case rel => exact ⟨k + 1, hi2, Z ++ [s], by omega, by go_num, by simp; omega, hZ2, HD2, HN, by rw [hm2]; exact hR2, hb4⟩
        case measure => simp [intOf]; omega
      · have ek : k = P.length := by omega
        subst ek
        have hv : val (Z ++ [d]) = N := by
          have := HV.out
          rw [List.take_of_length_le (Nat.le_refl _)] at this
          rw [this, shl_pow, hN.out]
        have hd2 : d < 4294967296 := by
          have h1 := HD.out
          have h2 : (2 : Nat) ^ p ≤ 2 ^ 32 := Nat.pow_le_pow_right (by omega) (by omega)
          omega
        have hZ2 := small_push Z d hZs hd2
        rw [Nat.sub_self, List.replicate_zero, List.append_nil] at hown
        have hll : (Z ++ [d]).length = P.length + W + 1 := by simp; omega
        have c3 := trim_own (Z ++ [d]) g (some ⟨g, 0, none⟩) (P.length + W + 1) wr (by rw [hll]; exact hown) hZ2
        rw [hv, hll] at c3
        clear hown HV HD hl hv hll hZ hZs hZ2 hd2 hN
        go_wp2_with (go_at_call 47; refine c3.mono ?_; rintro e w5 ⟨rfl, hw, hown5⟩; have hw2 := hw.symm; clear hw; subst hw2)
        go_ret2
        exact ⟨_, _, rfl, by first | exact hown5 | (rw [hgg]; exact hown5), by first | exact hb | (rw [hgg]; exact hb)⟩
theorem split32 (n : Int) (h0 : 0 ≤ n) (h1 : n ≤ 100000) : ∃ W p : Nat, n / 32 = (W : Int) ∧ bits BinOp.and IntKind.i64 n 31 = (p : Int) ∧ p < 32 ∧ W ≤ 3125 ∧ n.toNat = 32 * W + p := by
  refine ⟨(n / 32).toNat, (n % 32).toNat, by omega, by rw [and31]; omega, by omega, by omega, by omega⟩
/-- Shl: the product by a power of two, in new memory. -/
theorem shl_any (A : List Nat) (n : Int) (ao : Option Addr) (cap : Nat) (w : World) (h0 : 0 ≤ n) (h1 : n ≤ 100000) (hl : Lies w ao cap (ints .u32 A)) (hA : Small A) (hlen : A.length ≤ 35184372088832) :
    Calls Tryz.prog 85 #[.slice ao A.length cap, .int .i64 n] w fun e w' => ∃ ao' cap', e = .returned (.tuple #[.slice ao' (nl (val A * 2 ^ n.toNat)).length cap', .bool true]) ∧ w'.ownsRow w.heap.size 48 1 (.slice ao' (nl (val A * 2 ^ n.toNat)).length cap') (nl (val A * 2 ^ n.toNat)).length (ints .u32 (nl (val A * 2 ^ n.toNat))) ∧ Below w.heap.size w w' := by
  obtain ⟨W, p, e1, e2, e3, e4, e5⟩ := split32 n h0 h1
  have hk := nl_len A hA
  exact shl_core A (nl (val A)) n W p (val A * 2 ^ n.toNat) (by unfold Hid; rw [val_nl, e5]) ao cap w h0 h1 e1 e2 e3 e4 (lies_trim hl hA) (small_nl _) (by omega) (trim_at hl hA w (Below.refl _ _))

/-- Shl by less than a limb, of a list of whatever length. -/
theorem shl_far (A : List Nat) (n : Int) (ao : Option Addr) (cap : Nat) (w : World) (h0 : 0 ≤ n) (h1 : n ≤ 31) (hl : Lies w ao cap (ints .u32 A)) (hA : Small A) (hlen : A.length + 1 ≤ 70368744177664) :
    Calls Tryz.prog 85 #[.slice ao A.length cap, .int .i64 n] w fun e w' => ∃ ao' cap', e = .returned (.tuple #[.slice ao' (nl (val A * 2 ^ n.toNat)).length cap', .bool true]) ∧ w'.ownsRow w.heap.size 48 1 (.slice ao' (nl (val A * 2 ^ n.toNat)).length cap') (nl (val A * 2 ^ n.toNat)).length (ints .u32 (nl (val A * 2 ^ n.toNat))) ∧ Below w.heap.size w w' := by
  obtain ⟨W, p, e1, e2, e3, e4, e5⟩ := split32 n h0 (by omega)
  have hk := nl_len A hA
  exact shl_core A (nl (val A)) n W p (val A * 2 ^ n.toNat) (by unfold Hid; rw [val_nl, e5]) ao cap w h0 (by omega) e1 e2 e3 e4 (lies_trim hl hA) (small_nl _) (by omega) (trim_at hl hA w (Below.refl _ _))

set_option maxRecDepth 20000 in
set_option maxHeartbeats 2000000 in
theorem shr_core (A P : List Nat) (n : Int) (W p V : Nat) (hV : Hid (V = val P / 2 ^ (32 * W + p))) (ao : Option Addr) (cap : Nat) (w : World) (h0 : 0 ≤ n) (h1 : n ≤ 100000) (hw : n / 32 = (W : Int)) (hp : bits BinOp.and IntKind.i64 n 31 = (p : Int)) (hp2 : p < 32) (hw2 : W ≤ 3125)
    (hl : Lies w ao cap (ints .u32 P)) (hP : Small P) (hlen : P.length ≤ 35184372088832)
    (c1 : Calls Tryz.prog 47 #[.slice ao A.length cap] w fun e w' => e = .returned (.slice ao P.length cap) ∧ w' = w) :
    Calls Tryz.prog 21 #[.slice ao A.length cap, .int .i64 n] w fun e w' => ∃ ao' cap', e = .returned (.tuple #[.slice ao' (nl V).length cap', .bool true]) ∧ w'.ownsRow w.heap.size 48 1 (.slice ao' (nl V).length cap') (nl V).length (ints .u32 (nl V)) ∧ Below w.heap.size w w' := by
  obtain ⟨i0, hi, hz0, hz1, hz2⟩ := info_parts info32
  by_cases hP0 : P.length ≤ W
  · have hN0 : V = 0 := by rw [hV.out]; exact shr_none P hP W p hP0
    subst hN0
    have e0 := nl_zero
    clear hV hl hP
    go_enter Tryz.func21, Tryz.ntmps21
    go_wp2_with (go_at_call 47; refine c1.mono ?_; rintro e w2 ⟨rfl, hw⟩; have hw2 := hw.symm; clear hw; subst hw2)
    go_ret2
    exact ⟨none, 0, by rw [e0]; rfl, by rw [e0]; exact World.ownsRow_nil _ _ _ _, Below.refl _ _⟩
  · obtain ⟨m, hm⟩ : ∃ m, P.length = W + m := ⟨P.length - W, by omega⟩
    have hcap := hl.1
    rw [ints_length] at hcap
    obtain ⟨b1, off1, rfl, hb1, hc1⟩ := hl.2.2.2 (by rw [ints_length]; omega)
    rw [hm] at c1 hcap hlen hP0
    have hcells : ∀ W' : World, Below w.heap.size w W' → ∀ i, i < m → W'.cell? ⟨b1, off1 + W + i, none⟩ = some (.int .u32 ((P.getD (W + i) 0 : Nat) : Int)) := fun W' hb i hi => by
      rw [hb.cell (p := ⟨b1, off1 + W + i, none⟩) hb1, Nat.add_assoc, hc1 (W + i) (by rw [ints_length]; omega), ints_get _ _ _ (by omega)]
    have HC : Hid (∀ W' : World, Below w.heap.size w W' → ∀ i, i < m → W'.cell? ⟨b1, off1 + W + i, none⟩ = some (.int .u32 ((P.getD (W + i) 0 : Nat) : Int))) := hcells
    have HM : Hid (P.length = W + m) := hm
    have hm1 : 1 ≤ m := by omega
    clear hc1 hcells hl hm
    go_enter Tryz.func21, Tryz.ntmps21
    go_wp2_with (first
      | (go_at_call 47; refine c1.mono ?_; rintro e w2 ⟨rfl, hw⟩; have hw2 := hw.symm; clear hw; subst hw2)
      | (at_make; refine wpList_make_full _ rfl _ _ 22 rfl w.heap.size 48 i0 (.int .u32 0) 1 Tryz.underlying22 hi hz0 hz1 .i64 .i64 (m : Int) (m : Int) m rfl rfl rfl rfl (by rw [hz2]; omega) (by unfold maxLen; omega) (Nat.le_refl _) ?_; intro w3 hown hgr))
    have hown0 : w3.ownsRow w.heap.size 48 1 (.slice (some ⟨w.heap.size, 0, none⟩) m m) m (ints .u32 ([] ++ List.replicate (m - 0) 0)) := by
      rw [List.nil_append, ints_zero, Nat.sub_zero, ← toList_madeCells_one]; rw [Nat.mul_one] at hown; exact hown
    have hb3 : Below w.heap.size w w3 := (Below.refl _ _).grown hgr (Nat.le_refl _) (by simp)
    clear hown hgr c1
    generalize hgg : w.heap.size = g at *
    go_loopw [37] (fun i wr => ∃ (k : Nat) (O : List Nat), k ≤ m ∧ i = .int .i64 k ∧ O.length = k ∧ Small O ∧ Hid (val O = V % 4294967296 ^ k) ∧
        wr.ownsRow g 48 1 (.slice (some ⟨g, 0, none⟩) m m) m (ints .u32 (O ++ List.replicate (m - k) 0)) ∧ Below g w wr)
      (fun i _ => m - (intOf i).toNat)
    case atStart => exact ⟨0, [], Nat.zero_le _, rfl, rfl, by intro x hx; simp at hx, by unfold Hid; simp [val]; omega, hown0, hb3⟩
    case round =>
      clear hown0 hb3
      obtain ⟨k, O, hk, rfl, hO, hOs, HV, hown, hb⟩ := hrel
      by_cases hlt : k < m
      · have d1 := HC.out wr hb k hlt
        have hx := getD_small P hP (W + k)
        have hy := getD_small P hP (W + k + 1)
        have d2 : k + 1 < m → wr.cell? ⟨b1, off1 + W + (k + 1), none⟩ = some (.int .u32 ((P.getD (W + k + 1) 0 : Nat) : Int)) := fun hq => HC.out wr hb (k + 1) hq
        have d3 : m ≤ k + 1 → P.getD (W + k + 1) 0 = 0 := fun hq => by have := HM.out; simp [show P.length ≤ W + k + 1 by omega]
        have hdg := shr_digit P hP W k p V hp2 hV
        obtain ⟨x, ex⟩ : ∃ x, P.getD (W + k) 0 = x := ⟨_, rfl⟩
        obtain ⟨y, ey⟩ : ∃ y, P.getD (W + k + 1) 0 = y := ⟨_, rfl⟩
        rw [ex] at d1 hx hdg
        rw [ey] at hy d2 d3 hdg
        obtain ⟨q, hq⟩ : ∃ q, q = (x + 4294967296 * y) / 2 ^ p % 4294967296 := ⟨_, rfl⟩
        rw [← hq] at hdg
        obtain ⟨Y, S, e1, e2, e3, e4, e5⟩ := shr_limb x y p q hx hy hq
        have HN : Hid (val (O ++ [q]) = V % 4294967296 ^ (k + 1)) := shr_step O V k q hO hdg.symm HV
        have hOs2 := small_push O q hOs e5
        have hfr := hown.frozenAt k
        have hcw : wr.cell? ⟨g, k, none⟩ = some (.int .u32 (((O ++ List.replicate (m - k) 0).getD k 0 : Nat) : Int)) := by
          rw [hown.cellAt k (by omega), ints_get _ _ _ (by simp; omega)]
        obtain ⟨hR1, _⟩ := hown.stored k (.int .u32 (q : Int))
        rw [ints_set, fill_step O m k q hO hlt] at hR1
        have hb4 : Below g w (wr.setCell ⟨g, k, none⟩ (.int .u32 (q : Int))) := hb.setCell (by exact Nat.le_refl _) _
        clear hown hb HV hOs ex ey hdg hq HC hV
        by_cases hq2 : k + 1 < m
        · have d4 := d2 hq2
          clear d2 d3 e4
          go_wp2
          go_roundw
          case rel => exact ⟨k + 1, O ++ [q], by omega, by go_num, by simp; omega, hOs2, HN, hR1, hb4⟩
          case measure => simp [intOf]; omega
        · have d5 := e4 (d3 (by omega))
          clear d2 d3 e4 e1 e2 e3
          go_wp2
          go_roundw
          case rel => exact ⟨k + 1, O ++ [q], by omega, by go_num, by simp; omega, hOs2, HN, hR1, hb4⟩
          case measure => simp [intOf]; omega
      · have ek : k = m := by omega
        subst ek
        have hv : val O = V := by rw [HV.out]; exact shr_end P hP W k p V HM.out hV
        rw [Nat.sub_self, List.replicate_zero, List.append_nil] at hown
        have c3 := trim_own O g (some ⟨g, 0, none⟩) k wr (by rw [hO]; exact hown) hOs
        rw [hv, hO] at c3
        clear hown HV hv hV HC hO
        go_wp2_with (go_at_call 47; refine c3.mono ?_; rintro e w5 ⟨rfl, hw, hown5⟩; have hw2 := hw.symm; clear hw; subst hw2)
        go_ret2
        exact ⟨_, _, rfl, by first | exact hown5 | (rw [hgg]; exact hown5), by first | exact hb | (rw [hgg]; exact hb)⟩
/-- Shr: the quotient by a power of two, in new memory. -/
theorem shr_any (A : List Nat) (n : Int) (ao : Option Addr) (cap : Nat) (w : World) (h0 : 0 ≤ n) (h1 : n ≤ 100000) (hl : Lies w ao cap (ints .u32 A)) (hA : Small A) (hlen : A.length ≤ 35184372088832) :
    Calls Tryz.prog 21 #[.slice ao A.length cap, .int .i64 n] w fun e w' => ∃ ao' cap', e = .returned (.tuple #[.slice ao' (nl (val A / 2 ^ n.toNat)).length cap', .bool true]) ∧ w'.ownsRow w.heap.size 48 1 (.slice ao' (nl (val A / 2 ^ n.toNat)).length cap') (nl (val A / 2 ^ n.toNat)).length (ints .u32 (nl (val A / 2 ^ n.toNat))) ∧ Below w.heap.size w w' := by
  obtain ⟨W, p, e1, e2, e3, e4, e5⟩ := split32 n h0 h1
  have hk := nl_len A hA
  exact shr_core A (nl (val A)) n W p (val A / 2 ^ n.toNat) (by unfold Hid; rw [val_nl, e5]) ao cap w h0 h1 e1 e2 e3 e4 (lies_trim hl hA) (small_nl _) (by omega) (trim_at hl hA w (Below.refl _ _))
end Go.Proofs.YtefckmkcbgckfaaGreatDoor.ShiftL

/- What the sum of lists of limbs answers. -/
namespace Go.Proofs.YtefckmkcbgckfaaGreatDoor.AddL
open Go.RowKit Mem LimbNum Limb1 Limb2 Limb4

set_option maxRecDepth 20000 in
set_option maxHeartbeats 2000000 in
theorem add_core (A B P Q : List Nat) (ao1 ao2 : Option Addr) (cap1 cap2 : Nat) (w : World) (h1 : Lies w ao1 cap1 (ints .u32 P)) (h2 : Lies w ao2 cap2 (ints .u32 Q))
    (c1 : Calls Tryz.prog 47 #[.slice ao1 A.length cap1] w fun e w' => e = .returned (.slice ao1 P.length cap1) ∧ w' = w)
    (c2 : Calls Tryz.prog 47 #[.slice ao2 B.length cap2] w fun e w' => e = .returned (.slice ao2 Q.length cap2) ∧ w' = w)
    (hP : Small P) (hQ : Small Q) (hl1 : P.length ≤ 35184372088832) (hl2 : Q.length ≤ 35184372088832) :
    Calls Tryz.prog 79 #[.slice ao1 A.length cap1, .slice ao2 B.length cap2] w fun e w' => ∃ ao cap, e = .returned (.slice ao (nl (val P + val Q)).length cap) ∧
      w'.ownsRow w.heap.size 48 1 (.slice ao (nl (val P + val Q)).length cap) (nl (val P + val Q)).length (ints .u32 (nl (val P + val Q))) ∧ Below w.heap.size w w' := by
  obtain ⟨i0, hi, hz0, hz1, hz2⟩ := info_parts info32
  have m1 := h1.size
  have m2 := h2.size
  rw [ints_length] at m1 m2
  unfold maxLen at m1 m2
  have t1 : True := trivial
  by_cases hsw : P.length < Q.length
  · go_enter Tryz.func79, Tryz.ntmps79
    go_wp2_with (first
      | (go_at_call 47; have _t := t1; clear _t t1; refine c1.mono ?_; rintro e w2 ⟨rfl, hw⟩; have hw2 := hw.symm; clear hw; subst hw2)
      | (go_at_call 47; refine c2.mono ?_; rintro e w2 ⟨rfl, hw⟩; have hw2 := hw.symm; clear hw; subst hw2)
      | (at_make; refine wpList_make_full _ rfl _ _ 22 rfl w.heap.size 48 i0 (.int .u32 0) 1 Tryz.underlying22 hi hz0 hz1 .i64 .i64 ((Q.length : Int) + 1) ((Q.length : Int) + 1) (Q.length + 1) rfl rfl (by omega) (by omega) (by rw [hz2]; omega) (by unfold maxLen; omega) (Nat.le_refl _) ?_; intro w3 hown hgr))
    have hown0 : w3.ownsRow w.heap.size 48 1 (.slice (some ⟨w.heap.size, 0, none⟩) (Q.length + 1) (Q.length + 1)) (Q.length + 1) (ints .u32 ([] ++ List.replicate (Q.length + 1 - 0) 0)) := by
      rw [List.nil_append, ints_zero, Nat.sub_zero, ← toList_madeCells_one]; rw [Nat.mul_one] at hown; exact hown
    have hb3 : Below w.heap.size w w3 := (Below.refl _ _).grown hgr (Nat.le_refl _) (by simp)
    clear hown hgr c1 c2
    generalize hgg : w.heap.size = g at *
    go_loopw [6, 27] (fun bo i wr => ∃ (k cy : Nat) (O : List Nat), k ≤ Q.length ∧ i = .int .i64 k ∧ bo = .int .u64 (cy : Int) ∧ cy ≤ 1 ∧ O.length = k ∧ Small O ∧ Hid (val O + cy * 4294967296 ^ k = val (Q.take k) + val (P.take k)) ∧
        wr.ownsRow g 48 1 (.slice (some ⟨g, 0, none⟩) (Q.length + 1) (Q.length + 1)) (Q.length + 1) (ints .u32 (O ++ List.replicate (Q.length + 1 - k) 0)) ∧ Below g w wr)
      (fun _ i _ => Q.length - (intOf i).toNat)
    case atStart => exact ⟨0, 0, [], Nat.zero_le _, rfl, rfl, by omega, rfl, by intro x hx; simp at hx, by unfold Hid; simp [val], hown0, hb3⟩
    case round =>
      clear hown0 hb3
      obtain ⟨k, cy, O, hk, rfl, rfl, hcy, hO, hOs, HI, hown, hb⟩ := hrel
      by_cases hlt : k < Q.length
      · have g1 := h2.below hb (by omega)
        obtain ⟨b1, off1, rfl, _, hc1⟩ := g1.2.2.2 (by rw [ints_length]; omega)
        have d1 := hc1 k (by rw [ints_length]; omega)
        rw [ints_get _ _ _ (by omega)] at d1
        have hx := getD_small Q hQ k
        have hy := getD_small P hP k
        have d2 : k < P.length → ∃ b2 off2, ao1 = some ⟨b2, off2, none⟩ ∧ wr.cell? ⟨b2, off2 + k, none⟩ = some (.int .u32 ((P.getD k 0 : Nat) : Int)) := fun hq => by
          have g2 := h1.below hb (by omega)
          obtain ⟨b2, off2, e, _, hc2⟩ := g2.2.2.2 (by rw [ints_length]; omega)
          refine ⟨b2, off2, e, ?_⟩
          rw [hc2 k (by rw [ints_length]; omega), ints_get _ _ _ hq]
        have d3 : P.length ≤ k → P.getD k 0 = 0 := fun hq => by simp [hq]
        obtain ⟨x, ex⟩ : ∃ x, Q.getD k 0 = x := ⟨_, rfl⟩
        obtain ⟨y, ey⟩ : ∃ y, P.getD k 0 = y := ⟨_, rfl⟩
        rw [ex] at d1 hx
        rw [ey] at hy d2 d3
        obtain ⟨o, c2, e1, e2, e3, e6, e7, e8⟩ := add_limb x y cy hx hy hcy
        have HN : Hid (val (O ++ [o]) + c2 * 4294967296 ^ (k + 1) = val (Q.take (k + 1)) + val (P.take (k + 1))) := add_step Q P O k x y cy o c2 hO ex ey e8 HI
        have hOs2 := small_push O o hOs e6
        have hf := hown.frozenAt k
        have hcw : wr.cell? ⟨g, k, none⟩ = some (.int .u32 (((O ++ List.replicate (Q.length + 1 - k) 0).getD k 0 : Nat) : Int)) := by
          rw [hown.cellAt k (by omega), ints_get _ _ _ (by simp; omega)]
        obtain ⟨hR1, _⟩ := hown.stored k (.int .u32 (o : Int))
        rw [ints_set, fill_step O (Q.length + 1) k o hO (by omega)] at hR1
        have hb4 : Below g w (wr.setCell ⟨g, k, none⟩ (.int .u32 (o : Int))) := hb.setCell (by exact Nat.le_refl _) _
        clear hc1 g1 h2 h1 hown hb HI hOs ex ey e8
        by_cases hq : k < P.length
        · obtain ⟨b3, off3, rfl, d4⟩ := d2 hq
          clear d2 d3 e3
          go_wp2
          go_roundw
          case rel => exact ⟨k + 1, c2, O ++ [o], by omega, by go_num, by first | rfl | go_num, e7, by simp; omega, hOs2, HN, hR1, hb4⟩
          case measure => simp [intOf]; omega
        · obtain ⟨e4, e5⟩ := e3 (d3 (by omega))
          clear d2 d3 e3 e1 e2
          go_wp2
          go_roundw
          case rel => exact ⟨k + 1, c2, O ++ [o], by omega, by go_num, by first | rfl | go_num, e7, by simp; omega, hOs2, HN, hR1, hb4⟩
          case measure => simp [intOf]; omega
      · have ek : k = Q.length := by omega
        subst ek
        have hv : val (O ++ [cy]) = val Q + val P := by
          have := HI.out
          rw [List.take_of_length_le (Nat.le_refl _), List.take_of_length_le (by omega)] at this
          rw [val_append, hO, Nat.mul_comm, ← this]; simp [val]
        have hOs2 := small_push O cy hOs (by omega)
        have hf := hown.frozenAt Q.length
        have hcw : wr.cell? ⟨g, Q.length, none⟩ = some (.int .u32 (((O ++ List.replicate (Q.length + 1 - Q.length) 0).getD Q.length 0 : Nat) : Int)) := by
          rw [hown.cellAt Q.length (by omega), ints_get _ _ _ (by simp; omega)]
        obtain ⟨hR1, _⟩ := hown.stored Q.length (.int .u32 (cy : Int))
        rw [ints_set, fill_step O (Q.length + 1) Q.length cy hO (by omega), Nat.sub_self, List.replicate_zero, List.append_nil] at hR1
        have hb4 : Below g w (wr.setCell ⟨g, Q.length, none⟩ (.int .u32 (cy : Int))) := hb.setCell (by exact Nat.le_refl _) _
        have hll : (O ++ [cy]).length = Q.length + 1 := by simp; omega
        have c3 := trim_own (O ++ [cy]) g (some ⟨g, 0, none⟩) (Q.length + 1) _ (by rw [hll]; exact hR1) hOs2
        rw [hv, hll] at c3
        have hcy2 : (cy : Int) ≤ 1 := by omega
        clear hown HI h2 h1 hb hv hll hO hOs hOs2 hcy
        rw [Nat.add_comm (val Q)] at c3
        go_wp2_with (go_at_call 47; refine c3.mono ?_; rintro e w5 ⟨rfl, hw, hown5⟩; have hw2 := hw.symm; clear hw; subst hw2)
        go_ret
        exact ⟨_, _, rfl, by first | exact hown5 | (rw [hgg]; exact hown5), by first | exact hb4 | (rw [hgg]; exact hb4)⟩
  · go_enter Tryz.func79, Tryz.ntmps79
    go_wp2_with (first
      | (go_at_call 47; have _t := t1; clear _t t1; refine c1.mono ?_; rintro e w2 ⟨rfl, hw⟩; have hw2 := hw.symm; clear hw; subst hw2)
      | (go_at_call 47; refine c2.mono ?_; rintro e w2 ⟨rfl, hw⟩; have hw2 := hw.symm; clear hw; subst hw2)
      | (at_make; refine wpList_make_full _ rfl _ _ 22 rfl w.heap.size 48 i0 (.int .u32 0) 1 Tryz.underlying22 hi hz0 hz1 .i64 .i64 ((P.length : Int) + 1) ((P.length : Int) + 1) (P.length + 1) rfl rfl (by omega) (by omega) (by rw [hz2]; omega) (by unfold maxLen; omega) (Nat.le_refl _) ?_; intro w3 hown hgr))
    have hown0 : w3.ownsRow w.heap.size 48 1 (.slice (some ⟨w.heap.size, 0, none⟩) (P.length + 1) (P.length + 1)) (P.length + 1) (ints .u32 ([] ++ List.replicate (P.length + 1 - 0) 0)) := by
      rw [List.nil_append, ints_zero, Nat.sub_zero, ← toList_madeCells_one]; rw [Nat.mul_one] at hown; exact hown
    have hb3 : Below w.heap.size w w3 := (Below.refl _ _).grown hgr (Nat.le_refl _) (by simp)
    clear hown hgr c1 c2
    generalize hgg : w.heap.size = g at *
    go_loopw [6, 27] (fun bo i wr => ∃ (k cy : Nat) (O : List Nat), k ≤ P.length ∧ i = .int .i64 k ∧ bo = .int .u64 (cy : Int) ∧ cy ≤ 1 ∧ O.length = k ∧ Small O ∧ Hid (val O + cy * 4294967296 ^ k = val (P.take k) + val (Q.take k)) ∧
        wr.ownsRow g 48 1 (.slice (some ⟨g, 0, none⟩) (P.length + 1) (P.length + 1)) (P.length + 1) (ints .u32 (O ++ List.replicate (P.length + 1 - k) 0)) ∧ Below g w wr)
      (fun _ i _ => P.length - (intOf i).toNat)
    case atStart => exact ⟨0, 0, [], Nat.zero_le _, rfl, rfl, by omega, rfl, by intro x hx; simp at hx, by unfold Hid; simp [val], hown0, hb3⟩
    case round =>
      clear hown0 hb3
      obtain ⟨k, cy, O, hk, rfl, rfl, hcy, hO, hOs, HI, hown, hb⟩ := hrel
      by_cases hlt : k < P.length
      · have g1 := h1.below hb (by omega)
        obtain ⟨b1, off1, rfl, _, hc1⟩ := g1.2.2.2 (by rw [ints_length]; omega)
        have d1 := hc1 k (by rw [ints_length]; omega)
        rw [ints_get _ _ _ (by omega)] at d1
        have hx := getD_small P hP k
        have hy := getD_small Q hQ k
        have d2 : k < Q.length → ∃ b2 off2, ao2 = some ⟨b2, off2, none⟩ ∧ wr.cell? ⟨b2, off2 + k, none⟩ = some (.int .u32 ((Q.getD k 0 : Nat) : Int)) := fun hq => by
          have g2 := h2.below hb (by omega)
          obtain ⟨b2, off2, e, _, hc2⟩ := g2.2.2.2 (by rw [ints_length]; omega)
          refine ⟨b2, off2, e, ?_⟩
          rw [hc2 k (by rw [ints_length]; omega), ints_get _ _ _ hq]
        have d3 : Q.length ≤ k → Q.getD k 0 = 0 := fun hq => by simp [hq]
        obtain ⟨x, ex⟩ : ∃ x, P.getD k 0 = x := ⟨_, rfl⟩
        obtain ⟨y, ey⟩ : ∃ y, Q.getD k 0 = y := ⟨_, rfl⟩
        rw [ex] at d1 hx
        rw [ey] at hy d2 d3
        obtain ⟨o, c2, e1, e2, e3, e6, e7, e8⟩ := add_limb x y cy hx hy hcy
        have HN : Hid (val (O ++ [o]) + c2 * 4294967296 ^ (k + 1) = val (P.take (k + 1)) + val (Q.take (k + 1))) := add_step P Q O k x y cy o c2 hO ex ey e8 HI
        have hOs2 := small_push O o hOs e6
        have hf := hown.frozenAt k
        have hcw : wr.cell? ⟨g, k, none⟩ = some (.int .u32 (((O ++ List.replicate (P.length + 1 - k) 0).getD k 0 : Nat) : Int)) := by
          rw [hown.cellAt k (by omega), ints_get _ _ _ (by simp; omega)]
        obtain ⟨hR1, _⟩ := hown.stored k (.int .u32 (o : Int))
        rw [ints_set, fill_step O (P.length + 1) k o hO (by omega)] at hR1
        have hb4 : Below g w (wr.setCell ⟨g, k, none⟩ (.int .u32 (o : Int))) := hb.setCell (by exact Nat.le_refl _) _
        clear hc1 g1 h1 h2 hown hb HI hOs ex ey e8
        by_cases hq : k < Q.length
        · obtain ⟨b3, off3, rfl, d4⟩ := d2 hq
          clear d2 d3 e3
          go_wp2
          go_roundw
          case rel => exact ⟨k + 1, c2, O ++ [o], by omega, by go_num, by first | rfl | go_num, e7, by simp; omega, hOs2, HN, hR1, hb4⟩
          case measure => simp [intOf]; omega
        · obtain ⟨e4, e5⟩ := e3 (d3 (by omega))
          clear d2 d3 e3 e1 e2
          go_wp2
          go_roundw
          case rel => exact ⟨k + 1, c2, O ++ [o], by omega, by go_num, by first | rfl | go_num, e7, by simp; omega, hOs2, HN, hR1, hb4⟩
          case measure => simp [intOf]; omega
      · have ek : k = P.length := by omega
        subst ek
        have hv : val (O ++ [cy]) = val P + val Q := by
          have := HI.out
          rw [List.take_of_length_le (Nat.le_refl _), List.take_of_length_le (by omega)] at this
          rw [val_append, hO, Nat.mul_comm, ← this]; simp [val]
        have hOs2 := small_push O cy hOs (by omega)
        have hf := hown.frozenAt P.length
        have hcw : wr.cell? ⟨g, P.length, none⟩ = some (.int .u32 (((O ++ List.replicate (P.length + 1 - P.length) 0).getD P.length 0 : Nat) : Int)) := by
          rw [hown.cellAt P.length (by omega), ints_get _ _ _ (by simp; omega)]
        obtain ⟨hR1, _⟩ := hown.stored P.length (.int .u32 (cy : Int))
        rw [ints_set, fill_step O (P.length + 1) P.length cy hO (by omega), Nat.sub_self, List.replicate_zero, List.append_nil] at hR1
        have hb4 : Below g w (wr.setCell ⟨g, P.length, none⟩ (.int .u32 (cy : Int))) := hb.setCell (by exact Nat.le_refl _) _
        have hll : (O ++ [cy]).length = P.length + 1 := by simp; omega
        have c3 := trim_own (O ++ [cy]) g (some ⟨g, 0, none⟩) (P.length + 1) _ (by rw [hll]; exact hR1) hOs2
        rw [hv, hll] at c3
        have hcy2 : (cy : Int) ≤ 1 := by omega
        clear hown HI h1 h2 hb hv hll hO hOs hOs2 hcy
        skip
        go_wp2_with (go_at_call 47; refine c3.mono ?_; rintro e w5 ⟨rfl, hw, hown5⟩; have hw2 := hw.symm; clear hw; subst hw2)
        go_ret
        exact ⟨_, _, rfl, by first | exact hown5 | (rw [hgg]; exact hown5), by first | exact hb4 | (rw [hgg]; exact hb4)⟩
/-- Add: the sum, in new memory. -/
theorem add_any (A B : List Nat) (ao1 ao2 : Option Addr) (cap1 cap2 : Nat) (w : World) (h1 : Lies w ao1 cap1 (ints .u32 A)) (h2 : Lies w ao2 cap2 (ints .u32 B)) (hA : Small A) (hB : Small B) (hl1 : A.length ≤ 35184372088832) (hl2 : B.length ≤ 35184372088832) :
    Calls Tryz.prog 79 #[.slice ao1 A.length cap1, .slice ao2 B.length cap2] w fun e w' => ∃ ao cap, e = .returned (.slice ao (nl (val A + val B)).length cap) ∧
      w'.ownsRow w.heap.size 48 1 (.slice ao (nl (val A + val B)).length cap) (nl (val A + val B)).length (ints .u32 (nl (val A + val B))) ∧ Below w.heap.size w w' := by
  have k1 := nl_len A hA
  have k2 := nl_len B hB
  have := add_core A B (nl (val A)) (nl (val B)) ao1 ao2 cap1 cap2 w (lies_trim h1 hA) (lies_trim h2 hB) (trim_at h1 hA w (Below.refl _ _)) (trim_at h2 hB w (Below.refl _ _)) (small_nl _) (small_nl _) (by omega) (by omega)
  rwa [val_nl, val_nl] at this
end Go.Proofs.YtefckmkcbgckfaaGreatDoor.AddL

/- The length of a small number in bits, by Go's library: what bits.Len answers. -/
namespace Go.Proofs.YtefckmkcbgckfaaGreatDoor.Len64
open Go.RowKit Mem LimbNum Len

set_option maxRecDepth 100000 in
set_option maxHeartbeats 1000000 in
theorem len64_int (x : Int) (w : World) (h0 : 0 ≤ x) (hx : x < 65536) : Calls Tryz.prog 98 #[.int .u64 x] w fun e w' => e = .returned (.int .i64 (bitLen x.toNat : Int)) ∧ w' = w := by
  obtain ⟨T, hT, hs, hg⟩ := tab_ex
  have hxx : (x.toNat : Int) = x := by omega
  by_cases c2 : x < 256
  · have hx3 : x < (T.size : Int) := by omega
    have hlt : x.toNat < T.size := by omega
    have hg1 := hg x.toNat hlt
    have hb := bl8 x c2 h0
    clear hg hxx hx
    go_enter Tryz.func98, Tryz.ntmps98
    rw [tab_lit, hT]
    clear hT
    go_wp2
    go_ret
    exact ⟨rfl, rfl⟩
  · have e := len_shift x.toNat 8 (x / 256) (by rw [hxx]; rfl) (by omega)
    have hb := bl8 (x / 256) (by omega) (by omega)
    have hx3 : x / 256 < (T.size : Int) := by omega
    have hlt : (x / 256).toNat < T.size := by omega
    have hg1 := hg (x / 256).toNat hlt
    rw [e]
    clear hg hxx e
    go_enter Tryz.func98, Tryz.ntmps98
    rw [tab_lit, hT]
    clear hT
    go_wp2
    go_ret
    exact ⟨by go_num, rfl⟩
theorem len_int (x : Int) (w : World) (h0 : 0 ≤ x) (hx : x < 65536) : Calls Tryz.prog 84 #[.int .u64 x] w fun e w' => e = .returned (.int .i64 (bitLen x.toNat : Int)) ∧ w' = w := by
  have c := len64_int x w h0 hx
  go_enter Tryz.func84, Tryz.ntmps84
  go_wp2_with (go_at_call 98; refine c.mono ?_; rintro e w2 ⟨rfl, hw⟩; have hw2 := hw.symm; clear hw; subst hw2)
  go_ret
  exact ⟨rfl, rfl⟩
end Go.Proofs.YtefckmkcbgckfaaGreatDoor.Len64

/- What the power of a list of limbs answers. -/
namespace Go.Proofs.YtefckmkcbgckfaaGreatDoor.PowL
open Go.RowKit Mem LimbNum Limb1 Limb2 Limb3 Limb4 NatNum NatL Len64

theorem and_one (x : Nat) : bits BinOp.and IntKind.i64 (x : Int) 1 = ((x % 2 : Nat) : Int) := by
  show IntKind.i64.wrap ((BitVec.ofInt 64 (x : Int) &&& BitVec.ofInt 64 1).toNat : Int) = _
  have e : (BitVec.ofInt 64 1).toNat = 2 ^ 1 - 1 := by decide
  rw [BitVec.toNat_and, e, Nat.and_two_pow_sub_one_eq_mod, BitVec.toNat_ofInt]
  simp [IntKind.wrap, IntKind.bits, IntKind.signed]
  omega
theorem pow_len (A : List Nat) (m n : Nat) (hm : m ≤ n) (hb : bitLen (val A) * n ≤ 100000) : (nl (val A ^ m)).length ≤ 3126 := by
  obtain ⟨K, hK⟩ : ∃ K, 3126 = K := ⟨_, rfl⟩
  rw [hK]
  apply nl_lt
  have h1 : val A < 2 ^ bitLen (val A) := by have := fromL_lt (nb (val A)); rwa [fromL_nb, len_nb] at this
  have h2 : val A ^ m ≤ (2 ^ bitLen (val A)) ^ m := Nat.pow_le_pow_left (by omega) m
  rw [← Nat.pow_mul] at h2
  have h3 : bitLen (val A) * m ≤ bitLen (val A) * n := Nat.mul_le_mul_left _ hm
  have h5 : (2 : Nat) ^ (bitLen (val A) * m) < 2 ^ (32 * K) := Nat.pow_lt_pow_right (by omega) (by omega)
  rw [← pow32]
  exact Nat.lt_of_le_of_lt h2 h5
theorem mul_limbs (A B : List Nat) (hA : Small A) (hB : Small B) : (nl (val A * val B)).length ≤ A.length + B.length := by
  apply nl_lt
  rw [Nat.pow_add]
  exact Nat.mul_lt_mul'' (val_lt A hA) (val_lt B hB)
theorem half (n j : Nat) : n / 2 ^ j = 2 * (n / 2 ^ (j + 1)) + n / 2 ^ j % 2 := by
  rw [Nat.pow_succ, ← Nat.div_div_eq_div_mul]; omega
set_option maxRecDepth 20000 in
/-- Pow, where it is refused by the exponent. -/
theorem pow_out (A : List Nat) (n : Int) (ao : Option Addr) (cap : Nat) (w : World) (h : n < 0 ∨ 1000 < n) :
    Calls Tryz.prog 73 #[.slice ao A.length cap, .int .i64 n] w fun e w' => e = .returned (.tuple #[.slice none 0 0, .bool false]) ∧ Below w.heap.size w w' := by
  rcases h with h | h
  · have d1 : decide (n < 0) = true := by simp; omega
    go_enter Tryz.func73, Tryz.ntmps73
    go_wp2
    go_quiet (fail)
    go_wp2
    go_ret2
    exact ⟨rfl, below_drewN (Below.refl _ _) _⟩
  · have d1 : decide (n < 0) = false := by simp; omega
    have d2 : decide (1000 < n) = true := by simp; omega
    go_enter Tryz.func73, Tryz.ntmps73
    go_wp2
    go_quiet (fail)
    go_wp2
    go_ret2
    exact ⟨rfl, below_drewN (Below.refl _ _) _⟩
set_option maxRecDepth 20000 in
/-- Pow, where the power would be too great. -/
theorem pow_big (A : List Nat) (n : Int) (ao : Option Addr) (cap : Nat) (w : World) (h : Lies w ao cap (ints .u32 A)) (hA : Small A) (hlen : A.length ≤ 70368744177664) (h0 : 0 < n) (h1 : n ≤ 1000) (hb : 100000 / n < (bitLen (val A) : Int)) :
    Calls Tryz.prog 73 #[.slice ao A.length cap, .int .i64 n] w fun e w' => e = .returned (.tuple #[.slice none 0 0, .bool false]) ∧ Below w.heap.size w w' := by
  have cB := fun W : World => fun (hW : Below w.heap.size w W) => bits_any A ao cap W (h.below hW (Nat.le_refl _)) hA hlen
  have ht : (100000 : Int).tdiv n = 100000 / n := Int.tdiv_eq_ediv_of_nonneg (by omega)
  have hD0 : 0 ≤ (100000 : Int) / n := Int.ediv_nonneg (by omega) (by omega)
  have hD1 : (100000 : Int) / n ≤ 100000 := Int.ediv_le_self _ (by omega)
  generalize (100000 : Int) / n = D at *
  clear h hA hlen
  generalize bitLen (val A) = L at *
  have d1 : decide (n < 0) = false := by simp; omega
  have d2 : decide (1000 < n) = false := by simp; omega
  have d3 : decide (0 < n) = true := by simp; omega
  go_enter Tryz.func73, Tryz.ntmps73
  go_wp2
  go_quiet ((go_at_call 23; exact (cB _ (by first | exact Below.refl _ _ | exact below_drewN (Below.refl _ _) _)).mono (fun e w'' h => ⟨h.1, _, h.2⟩)))
  go_wp2
  go_ret2
  exact ⟨rfl, below_drewN (Below.refl _ _) _⟩

set_option maxRecDepth 20000 in
set_option maxHeartbeats 1000000 in
theorem pow_zero (A : List Nat) (ao : Option Addr) (cap : Nat) (w : World) :
    Calls Tryz.prog 73 #[.slice ao A.length cap, .int .i64 0] w fun e w' => ∃ ao' cap', e = .returned (.tuple #[.slice ao' (nl 1).length cap', .bool true]) ∧ w'.ownsRow w.heap.size 48 1 (.slice ao' (nl 1).length cap') (nl 1).length (ints .u32 (nl 1)) ∧ Below w.heap.size w w' := by
  have cL := fun W : World => len_int 0 W (by omega) (by omega)
  have e0 : bitLen (0 : Int).toNat = 0 := by decide
  rw [e0] at cL
  have e1 : nl 1 = [1] := by rw [nl_pos (by decide), show 1 / 4294967296 = 0 by decide, nl_zero]
  rw [e1]
  go_enter Tryz.func73, Tryz.ntmps73
  go_wp2
  go_quiet (fail)
  go_wp2_with (go_at_call 84; refine (cL _).mono ?_; rintro e w2 ⟨rfl, hw⟩; have hw2 := hw.symm; clear hw; subst hw2)
  generalize hg : w.heap.size = g
  have hown : ((w.drewN nq).alloc (.cells #[.int .u32 1] 48)).ownsRow g 48 1 (.slice (some ⟨g, 0, none⟩) 1 1) 1 (ints .u32 [1]) := by
    subst hg
    exact World.ownsRow_lit (base := w.heap.size) (e := 48) (size := 1) (w.drewN nq) #[.int .u32 1] 1 (Nat.le_refl _) (by decide) rfl
  have hb : Below g w ((w.drewN nq).alloc (.cells #[.int .u32 1] 48)) := by
    subst hg
    exact (below_drewN (Below.refl _ _) _).alloc (Nat.le_refl _) _
  generalize (w.drewN nq).alloc (.cells #[.int .u32 1] 48) = W at *
  go_loopw [6, 7] (fun v i wr => v = .slice (some ⟨g, 0, none⟩) 1 1 ∧ i = .int .i64 (-1) ∧ wr = W) (fun _ _ _ => 0)
  case atStart => exact ⟨rfl, rfl, rfl⟩
  case round =>
    obtain ⟨rfl, rfl, rfl⟩ := hrel
    go_wp2
    go_ret2
    exact ⟨_, _, rfl, by rw [hg]; exact hown, by rw [hg]; exact hb⟩
set_option maxRecDepth 20000 in
set_option maxHeartbeats 1000000 in
theorem pow_core (A : List Nat) (n : Nat) (ao : Option Addr) (cap : Nat) (w : World) (h : Lies w ao cap (ints .u32 A)) (hA : Small A) (hlen : A.length ≤ 35184372000000) (h0 : 0 < n) (h1 : n ≤ 1000) (hbt : bitLen (val A) * n ≤ 100000) :
    Calls Tryz.prog 73 #[.slice ao A.length cap, .int .i64 (n : Int)] w fun e w' => ∃ ao' cap', e = .returned (.tuple #[.slice ao' (nl (val A ^ n)).length cap', .bool true]) ∧ w'.ownsRow w.heap.size 48 1 (.slice ao' (nl (val A ^ n)).length cap') (nl (val A ^ n)).length (ints .u32 (nl (val A ^ n))) ∧ Below w.heap.size w w' := by
  have cB := fun W : World => fun (hW : Below w.heap.size w W) => bits_any A ao cap W (h.below hW (Nat.le_refl _)) hA (by omega)
  have ht : (100000 : Int).tdiv (n : Int) = 100000 / (n : Int) := Int.tdiv_eq_ediv_of_nonneg (by omega)
  have hle : (bitLen (val A) : Int) ≤ 100000 / (n : Int) := by
    rw [Int.le_ediv_iff_mul_le (by omega)]
    have : ((bitLen (val A) * n : Nat) : Int) ≤ 100000 := by omega
    rwa [Int.natCast_mul] at this
  have hD0 : 0 ≤ (100000 : Int) / (n : Int) := Int.ediv_nonneg (by omega) (by omega)
  have hD1 : (100000 : Int) / (n : Int) ≤ 100000 := Int.ediv_le_self _ (by omega)
  generalize (100000 : Int) / (n : Int) = D at *
  have cL := fun W : World => len_int (n : Int) W (by omega) (by omega)
  rw [Int.toNat_natCast] at cL
  have hK : bitLen n ≤ 10 := by
    have := nb_lt 10 n (by omega)
    rwa [len_nb] at this
  have hK2 : n < 2 ^ bitLen n := by have := fromL_lt (nb n); rwa [fromL_nb, len_nb] at this
  obtain ⟨x, ex⟩ : ∃ x : Int, x = (n : Int) := ⟨_, rfl⟩
  rw [← ex]
  rw [← ex] at ht cL
  have d1 : decide (x < 0) = false := by simp; omega
  have d2 : decide (1000 < x) = false := by simp; omega
  have d3 : decide (0 < x) = true := by simp; omega
  have hx0 : 0 < x := by omega
  have hx1 : x ≤ 1000 := by omega
  have EX : Hid (x = (n : Int)) := ex
  obtain ⟨L, hL⟩ : ∃ L, L = bitLen (val A) := ⟨_, rfl⟩
  rw [← hL] at cB hle
  have d4 : decide (D < (L : Int)) = false := by simp; omega
  clear ex hL
  generalize bitLen n = K at *
  go_enter Tryz.func73, Tryz.ntmps73
  go_wp2
  go_quiet ((go_at_call 23; exact (cB _ (by first | exact Below.refl _ _ | exact below_drewN (Below.refl _ _) _)).mono (fun e w'' h => ⟨h.1, _, h.2⟩)))
  go_wp2_with (go_at_call 84; refine (cL _).mono ?_; rintro e w2 ⟨rfl, hw⟩; have hw2 := hw.symm; clear hw; subst hw2)
  generalize hg : w.heap.size = g
  have e1 : nl 1 = [1] := by rw [nl_pos (by decide), show 1 / 4294967296 = 0 by decide, nl_zero]
  have hown : ((w.drewN nq).alloc (.cells #[.int .u32 1] 48)).ownsRow g 48 1 (.slice (some ⟨g, 0, none⟩) 1 1) 1 (ints .u32 [1]) := by
    subst hg
    exact World.ownsRow_lit (base := w.heap.size) (e := 48) (size := 1) (w.drewN nq) #[.int .u32 1] 1 (Nat.le_refl _) (by decide) rfl
  have hb3 : Below g w ((w.drewN nq).alloc (.cells #[.int .u32 1] 48)) := by
    subst hg
    exact (below_drewN (Below.refl _ _) _).alloc (Nat.le_refl _) _
  generalize (w.drewN nq).alloc (.cells #[.int .u32 1] 48) = W at *
  clear cB cL ht d1 d2 d3 d4 hD0 hD1 hle
  go_loopw [6, 7] (fun v i wr => ∃ (k M : Nat) (o : Option Addr) (c : Nat), k ≤ K ∧ i = .int .i64 ((k : Int) - 1) ∧ Hid (M = val A ^ (n / 2 ^ k)) ∧ v = .slice o (nl M).length c ∧ wr.ownsRow g 48 1 v (nl M).length (ints .u32 (nl M)) ∧ Below g w wr)
    (fun _ i _ => (intOf i + 1).toNat)
  case atStart => exact ⟨K, 1, some ⟨g, 0, none⟩, 1, Nat.le_refl _, by go_num, by unfold Hid; rw [Nat.div_eq_of_lt hK2]; rfl, by rw [e1]; rfl, by rw [e1]; exact hown, hb3⟩
  case round =>
    clear hown hb3 e1
    obtain ⟨k, M, o, c, hk, rfl, HM, rfl, hown, hb⟩ := hrel
    have hs := hb.size
    by_cases hk0 : 1 ≤ k
    · obtain ⟨j, rfl⟩ : ∃ j, k = j + 1 := ⟨k - 1, by omega⟩
      have hMl : (nl M).length ≤ 3126 := by rw [HM.out]; exact pow_len A (n / 2 ^ (j + 1)) n (Nat.div_le_self _ _) hbt
      have hM2 : (nl (M * M)).length ≤ 6252 := by
        have h3 := mul_limbs (nl M) (nl M) (small_nl M) (small_nl M)
        rw [val_nl] at h3
        omega
      have cM := mul_any (nl M) (nl M) o o c c wr (lies_of_owns hown) (lies_of_owns hown) (small_nl _) (small_nl _) (by omega)
      rw [val_nl] at cM
      have cM2 := fun (W : World) (hbW : Below g w W) (o1 : Option Addr) (c1 : Nat) (hW : Lies W o1 c1 (ints .u32 (nl (M * M)))) => mul_any (nl (M * M)) A o1 ao c1 cap W hW (h.below hbW (by omega)) (small_nl _) hA (by omega)
      rw [val_nl] at cM2
      have hsq : M * M = val A ^ (2 * (n / 2 ^ (j + 1))) := by rw [HM.out, ← Nat.pow_add]; congr 1; omega
      have hh := half n j
      have hj : j < 64 := by omega
      have hand := and_one (n / 2 ^ j)
      have hsh : x / 2 ^ j = ((n / 2 ^ j : Nat) : Int) := by rw [EX.out]; simp
      rcases Nat.mod_two_eq_zero_or_one (n / 2 ^ j) with hb0 | hb0
      · rw [hb0] at hand hh
        have HN : Hid (M * M = val A ^ (n / 2 ^ j)) := by unfold Hid; rw [hsq, hh]; rfl
        generalize n / 2 ^ j = Y at hand hsh
        clear HM hsq hh hb0 h hA hown
        go_wp2_with (go_at_call 52; refine cM.mono ?_; rintro e w1 ⟨o1, c1, rfl, hown1, hb1⟩)
        have hs1 := hb1.size
        go_roundw
        case rel => exact ⟨j, M * M, o1, c1, by omega, by go_num, HN, rfl, owns_base hown1 (by omega), hb.trans (hb1.mono (by omega))⟩
        case measure => simp [intOf]
      · rw [hb0] at hand hh
        have HN : Hid (M * M * val A = val A ^ (n / 2 ^ j)) := by unfold Hid; rw [hsq, ← Nat.pow_succ, show (2 * (n / 2 ^ (j + 1))).succ = n / 2 ^ j by omega]
        generalize n / 2 ^ j = Y at hand hsh
        clear HM hsq hh hb0 h hA hown
        have t1 : True := trivial
        go_wp2_with (first
          | (go_at_call 52; have _t := t1; clear _t t1; refine cM.mono ?_; rintro e w1 ⟨o1, c1, rfl, hown1, hb1⟩; have H1 := hb.trans (hb1.mono (by omega)))
          | (go_at_call 52; refine (cM2 _ H1 _ _ (lies_of_owns hown1)).mono ?_; rintro e w2 ⟨o2, c2, rfl, hown2, hb2⟩))
        have hs1 := H1.size
        have hs2 := hb2.size
        go_roundw
        case rel => exact ⟨j, M * M * val A, o2, c2, by omega, by go_num, HN, rfl, owns_base hown2 (by omega), H1.trans (hb2.mono (by omega))⟩
        case measure => simp [intOf]
    · have : k = 0 := by omega
      subst this
      have e : M = val A ^ n := by have := HM.out; rwa [Nat.pow_zero, Nat.div_one] at this
      subst e
      clear HM
      go_wp2
      go_ret2
      exact ⟨_, _, rfl, by rw [hg]; exact hown, by rw [hg]; exact hb⟩
end Go.Proofs.YtefckmkcbgckfaaGreatDoor.PowL

/- What the powers of ten answer. -/
namespace Go.Proofs.YtefckmkcbgckfaaGreatDoor.TensL
open Go.RowKit Mem LimbNum Limb1 Limb2 Limb3 Limb4 NatNum NatL Len64 PowL OutL

theorem pow_all (A : List Nat) (n : Nat) (o : Option Addr) (c : Nat) (W : World) (h : Lies W o c (ints .u32 A)) (hA : Small A) (hl : A.length ≤ 1000000) (hn : n ≤ 1000) (hbt : bitLen (val A) * n ≤ 100000) :
    Calls Tryz.prog 73 #[.slice o A.length c, .int .i64 (n : Int)] W fun e w' => ∃ ao' cap', e = .returned (.tuple #[.slice ao' (nl (val A ^ n)).length cap', .bool true]) ∧ w'.ownsRow W.heap.size 48 1 (.slice ao' (nl (val A ^ n)).length cap') (nl (val A ^ n)).length (ints .u32 (nl (val A ^ n))) ∧ Below W.heap.size W w' := by
  rcases Nat.eq_zero_or_pos n with rfl | h0
  · exact pow_zero A o c W
  · exact pow_core A n o c W h hA (by omega) h0 hn hbt
theorem bits10 (n : Nat) : bitLen (10 ^ n) ≤ 4 * n + 1 := by
  rw [← len_nb]
  apply nb_lt
  have h2 : 10 ^ n ≤ (2 ^ 4) ^ n := Nat.pow_le_pow_left (by omega) n
  rw [← Nat.pow_mul] at h2
  have h3 : (2 : Nat) ^ (4 * n) < 2 ^ (4 * n + 1) := Nat.pow_lt_pow_right (by omega) (by omega)
  omega
theorem limbs10 (n m : Nat) (h : 4 * n + 1 ≤ 32 * m) : (nl (10 ^ n)).length ≤ m := by
  apply nl_lt
  have h2 : 10 ^ n ≤ (2 ^ 4) ^ n := Nat.pow_le_pow_left (by omega) n
  rw [← Nat.pow_mul] at h2
  have h3 : (2 : Nat) ^ (4 * n) < 2 ^ (32 * m) := Nat.pow_lt_pow_right (by omega) (by omega)
  rw [← pow32]; omega
set_option maxRecDepth 20000 in
set_option maxHeartbeats 1000000 in
theorem tens_small (n : Nat) (w : World) (hn : n < 1000) :
    Calls Tryz.prog 50 #[.int .i64 (n : Int)] w fun e w' => ∃ o c, e = .returned (.tuple #[.slice o (nl (10 ^ n)).length c, .int .i64 0]) ∧ w'.ownsRow w.heap.size 48 1 (.slice o (nl (10 ^ n)).length c) (nl (10 ^ n)).length (ints .u32 (nl (10 ^ n))) ∧ Below w.heap.size w w' := by
  have e10 : val [10] = 10 := by decide
  have eb : bitLen (val [10]) = 4 := by decide
  have cP := fun W : World => pow_all [10] n (some ⟨W.heap.size, 0, none⟩) 1 (W.alloc (.cells #[.int .u32 10] 48)) (lit_lies W [10] 1 rfl (by decide)) (by intro x hx; simp at hx; omega) (by decide) (by omega) (by rw [eb]; omega)
  rw [e10] at cP
  simp only [List.length_cons, List.length_nil] at cP
  have cO := outside_in (n : Int) w (by omega) (by omega)
  obtain ⟨x, ex⟩ : ∃ x : Int, x = (n : Int) := ⟨_, rfl⟩
  rw [← ex] at cP cO
  rw [← ex]
  have x0 : 0 ≤ x := by omega
  have x1 : x < 1000 := by omega
  have xm : x % 1000 = x := by omega
  clear ex e10 eb
  go_enter Tryz.func50, Tryz.ntmps50
  go_wp2_with (first
    | (go_at_call 72; refine cO.mono ?_; rintro e w2 ⟨rfl, hw⟩; have hw2 := hw.symm; clear hw; subst hw2)
    | (go_at_call 73; refine (cP _).mono ?_; rintro e w3 ⟨o3, c3, rfl, hown3, hb3⟩))
  all_goals go_ret2
  all_goals exact ⟨_, _, rfl, owns_base hown3 (by simp), ((Below.refl _ _).alloc (Nat.le_refl _) _).trans (hb3.mono (by simp))⟩
set_option maxRecDepth 20000 in
set_option maxHeartbeats 1000000 in
theorem tens_big (n q r T : Nat) (w : World) (hT : T = 1000) (hq : (n : Int) / 1000 = (q : Int)) (hr : (n : Int) % 1000 = (r : Int)) (hnq : n = T * q + r) (hq2 : q ≤ 20) (hq1 : 1 ≤ q) (hn : n ≤ 20000) :
    Calls Tryz.prog 50 #[.int .i64 (n : Int)] w fun e w' => ∃ o c, e = .returned (.tuple #[.slice o (nl (10 ^ n)).length c, .int .i64 0]) ∧ w'.ownsRow w.heap.size 48 1 (.slice o (nl (10 ^ n)).length c) (nl (10 ^ n)).length (ints .u32 (nl (10 ^ n))) ∧ Below w.heap.size w w' := by
  have e10 : val [10] = 10 := by decide
  have eb : bitLen (val [10]) = 4 := by decide
  have eT : (1000 : Int) = (T : Int) := by omega
  have s10 : Small [10] := by intro x hx; simp at hx; omega
  have cL := fun W : World => pow_all [10] r (some ⟨W.heap.size, 0, none⟩) 1 (W.alloc (.cells #[.int .u32 10] 48)) (lit_lies W [10] 1 rfl (by decide)) s10 (by decide) (by omega) (by rw [eb]; omega)
  have cT := fun W : World => pow_all [10] T (some ⟨W.heap.size, 0, none⟩) 1 (W.alloc (.cells #[.int .u32 10] 48)) (lit_lies W [10] 1 rfl (by decide)) s10 (by decide) (by omega) (by rw [eb]; omega)
  have hb1 := bits10 T
  have hl1 := limbs10 T 126 (by omega)
  have cH := fun (W : World) (o : Option Addr) (c : Nat) (h : Lies W o c (ints .u32 (nl (10 ^ T)))) => pow_all (nl (10 ^ T)) q o c W h (small_nl _) (by omega) (by omega) (by
    rw [val_nl]
    have h5 : bitLen (10 ^ T) * q ≤ (4 * T + 1) * 20 := Nat.mul_le_mul hb1 hq2
    omega)
  rw [e10, ← eT] at cT
  rw [e10] at cL
  rw [val_nl, ← Nat.pow_mul] at cH
  simp only [List.length_cons, List.length_nil] at cL cT
  have hl2 := limbs10 (T * q) 2501 (by omega)
  have hl3 := limbs10 r 126 (by omega)
  have cM := fun (W : World) (o1 o2 : Option Addr) (c1 c2 : Nat) (h1 : Lies W o1 c1 (ints .u32 (nl (10 ^ (T * q))))) (h2 : Lies W o2 c2 (ints .u32 (nl (10 ^ r)))) => mul_any (nl (10 ^ (T * q))) (nl (10 ^ r)) o1 o2 c1 c2 W h1 h2 (small_nl _) (small_nl _) (by omega)
  rw [val_nl, val_nl, ← Nat.pow_add, ← hnq] at cM
  have cO := outside_in (n : Int) w (by omega) (by omega)
  rw [← hr] at cL
  rw [← hq] at cH
  obtain ⟨x, ex⟩ : ∃ x : Int, x = (n : Int) := ⟨_, rfl⟩
  rw [← ex] at cO cL cH
  rw [← ex]
  have x0 : 1000 ≤ x := by omega
  have x1 : x ≤ 20000 := by omega
  clear hr hq hb1 hl1 hl2 hl3 e10 eb eT s10 ex hT
  generalize nl (10 ^ (T * q)) = NH at *
  generalize nl (10 ^ T) = NT at *
  generalize nl (10 ^ r) = NL at *
  clear hnq hq2 hq1 hn
  have t1 : True := trivial
  have t2 : True := trivial
  go_enter Tryz.func50, Tryz.ntmps50
  go_wp2_with (first
    | (go_at_call 72; refine cO.mono ?_; rintro e w2 ⟨rfl, hw⟩; have hw2 := hw.symm; clear hw; subst hw2)
    | (go_at_call 73; have _t := t1; clear _t t1; refine (cL _).mono ?_; rintro e w3 ⟨o3, c3, rfl, hown3, hb3⟩; have B3 := ((Below.refl w.heap.size w).alloc (Nat.le_refl _) (.cells #[.int .u32 10] 48)); have H3 := bt B3 hb3)
    | (go_at_call 73; have _t := t2; clear _t t2; refine (cT _).mono ?_; rintro e w4 ⟨o4, c4, rfl, hown4, hb4⟩; have B4 := ((Below.refl w3.heap.size w3).alloc (Nat.le_refl _) (.cells #[.int .u32 10] 48)); have d4 := bt B4 hb4)
    | (go_at_call 73; refine (cH _ _ _ (lies_of_owns hown4)).mono ?_; rintro e w5 ⟨o5, c5, rfl, hown5, hb5⟩)
    | (go_at_call 52; refine (cM _ _ _ _ _ (lies_of_owns hown5) (lies_of_owns (keep (keep hown3 d4) hb5))).mono ?_; rintro e w6 ⟨o6, c6, rfl, hown6, hb6⟩))
  all_goals go_ret2
  have s3 := H3.size
  have s4 := d4.size
  have s5 := hb5.size
  exact ⟨_, _, rfl, owns_base hown6 (by omega), bt (bt (bt H3 d4) hb5) hb6⟩
end Go.Proofs.YtefckmkcbgckfaaGreatDoor.TensL

/- What the powers of ten answer, at every count. -/
namespace Go.Proofs.YtefckmkcbgckfaaGreatDoor.TensAll
open Go.RowKit Mem LimbNum Limb1 Limb2 Limb3 Limb4 NatNum NatL Len64 PowL OutL TensL

theorem tens_any (n : Nat) (w : World) (hn : n ≤ 20000) :
    Calls Tryz.prog 50 #[.int .i64 (n : Int)] w fun e w' => ∃ o c, e = .returned (.tuple #[.slice o (nl (10 ^ n)).length c, .int .i64 0]) ∧ w'.ownsRow w.heap.size 48 1 (.slice o (nl (10 ^ n)).length c) (nl (10 ^ n)).length (ints .u32 (nl (10 ^ n))) ∧ Below w.heap.size w w' := by
  by_cases h : n < 1000
  · exact tens_small n w h
  · exact tens_big n (n / 1000) (n % 1000) 1000 w rfl (by omega) (by omega) (by omega) (by omega) (by omega) hn
set_option maxRecDepth 20000 in
theorem tens_low (n : Int) (w : World) (h : n < 0) :
    Calls Tryz.prog 50 #[.int .i64 n] w fun e w' => e = .returned (.tuple #[.slice none 0 0, .int .i64 1]) ∧ w' = w := by
  have cO := outside_low n w h
  go_enter Tryz.func50, Tryz.ntmps50
  go_wp2_with (go_at_call 72; refine cO.mono ?_; rintro e w2 ⟨rfl, hw⟩; have hw2 := hw.symm; clear hw; subst hw2)
  go_ret2
  exact ⟨rfl, rfl⟩
set_option maxRecDepth 20000 in
theorem tens_high (n : Int) (w : World) (h : 20000 < n) :
    Calls Tryz.prog 50 #[.int .i64 n] w fun e w' => e = .returned (.tuple #[.slice none 0 0, .int .i64 2]) ∧ w' = w := by
  have cO := outside_high n w h
  go_enter Tryz.func50, Tryz.ntmps50
  go_wp2_with (go_at_call 72; refine cO.mono ?_; rintro e w2 ⟨rfl, hw⟩; have hw2 := hw.symm; clear hw; subst hw2)
  go_ret2
  exact ⟨rfl, rfl⟩
end Go.Proofs.YtefckmkcbgckfaaGreatDoor.TensAll

/- Trailing noughts of a word (by the library's table), one bit of a list, twos of a list. -/
namespace Go.Proofs.YtefckmkcbgckfaaGreatDoor.TwoL
open Go.RowKit Mem LimbNum Limb1 Limb2 Limb4 TwoN ShiftNum

/-- The library's table lies in block 0. -/
def Tabl (w : World) : Prop := ∀ i, i < 32 → w.cell? ⟨0, i, none⟩ = some (.int .u8 (tab.getD i 0))
theorem Tabl.below {w w' : World} (h : Tabl w) (hb : Below w.heap.size w w') : Tabl w' := fun i hi => by
  rw [hb.cell (World.block_lt_of_cell? w _ (h i hi))]; exact h i hi
set_option maxRecDepth 20000 in
theorem tz_any (X k : Nat) (hX : X < 4294967296) (h : IsTwo X k) (w : World) (hT : Tabl w) :
    Calls Tryz.prog 46 #[.int .u32 (X : Int)] w fun e w' => e = .returned (.int .i64 (k : Int)) ∧ w' = w := by
  have hp : ¬ (X : Int) = 0 := by have := h.pos; omega
  have hp2 : ((X : Int) == 0) = false := by simpa using hp
  have hk : k < 32 := h.lt (by omega)
  have eA := and_neg hX h
  obtain ⟨t1, t2⟩ := tab_all k hk
  obtain ⟨j, ej⟩ : ∃ j, 2 ^ k * 125613361 % 4294967296 / 134217728 = j := ⟨_, rfl⟩
  rw [ej] at t1 t2
  have eJ : ((2 ^ k : Nat) : Int) * 125613361 % 4294967296 / 134217728 = (j : Int) := by rw [← ej]; generalize (2 : Nat) ^ k = Z; omega
  have hc := hT j t1
  rw [t2] at hc
  obtain ⟨Z, eZ⟩ : ∃ Z : Int, ((2 ^ k : Nat) : Int) = Z := ⟨_, rfl⟩
  rw [eZ] at eA eJ
  clear ej t2 hT h eZ hp
  have hK0 : 0 ≤ (k : Int) := by omega
  have hK1 : (k : Int) < 32 := by omega
  generalize (k : Int) = K at *
  go_enter Tryz.func46, Tryz.ntmps46
  go_wp2
  go_ret
  exact ⟨rfl, rfl⟩
theorem and_one (x p : Nat) : (bits BinOp.and IntKind.u32 ((x : Int) / 2 ^ p) 1 == 1) = x.testBit p := by
  have e : bits BinOp.and IntKind.u32 ((x : Int) / 2 ^ p) 1 = ((x / 2 ^ p % 2 : Nat) : Int) := by
    have e0 : (x : Int) / 2 ^ p = ((x / 2 ^ p : Nat) : Int) := by simp
    rw [e0]
    have h1 : x / 2 ^ p ≤ x := Nat.div_le_self _ _
    generalize x / 2 ^ p = y at *
    show IntKind.u32.wrap ((BitVec.ofInt 32 (y : Int) &&& BitVec.ofInt 32 1).toNat : Int) = _
    have e : (BitVec.ofInt 32 1).toNat = 2 ^ 1 - 1 := by decide
    rw [BitVec.toNat_and, e, Nat.and_two_pow_sub_one_eq_mod, BitVec.toNat_ofInt]
    simp [IntKind.wrap, IntKind.bits, IntKind.signed]
    omega
  rw [e, Nat.testBit_eq_decide_div_mod_eq]
  generalize x / 2 ^ p % 2 = y
  rw [Bool.eq_iff_iff]
  simp
  omega
set_option maxRecDepth 20000 in
set_option maxHeartbeats 1000000 in
theorem twos_any (A : List Nat) (t : Nat) (ht : IsTwo (val A) t ∨ (val A = 0 ∧ t = 0)) (ao : Option Addr) (cap : Nat) (w : World) (h : Lies w ao cap (ints .u32 A)) (hA : Small A) (hlen : A.length ≤ 2097152) (hT : Tabl w) :
    Calls Tryz.prog 20 #[.slice ao A.length cap] w fun e w' => e = .returned (.int .i64 (t : Int)) ∧ w' = w := by
  obtain ⟨T, eT⟩ : ∃ T : Int, (t : Int) = T := ⟨_, rfl⟩
  rw [eT]
  have HT : Hid ((IsTwo (val A) t ∨ (val A = 0 ∧ t = 0)) ∧ (t : Int) = T) := ⟨ht, eT⟩
  have HL : Hid (Lies w ao cap (ints .u32 A)) := h
  have HTab : Hid (Tabl w) := hT
  clear ht eT h hT
  generalize eL : A.length = L at *
  have HLen : Hid (A.length = L) := eL
  clear eL
  go_enter Tryz.func20, Tryz.ntmps20
  go_wp2
  go_loopw [7] (fun iv wr => ∃ i : Nat, i ≤ L ∧ iv = .int .i64 i ∧ wr = w ∧ Hid (∀ j, j < i → A.getD j 0 = 0)) (fun iv _ => L - (intOf iv).toNat)
  case atStart => exact ⟨0, Nat.zero_le _, rfl, rfl, fun j hj => by omega⟩
  case round =>
    obtain ⟨i, hi, rfl, hw, HZ⟩ := hrel
    have hw' := hw.symm
    clear hw
    subst hw'
    by_cases hlt : i < L
    · obtain ⟨b, off, rfl, hb, hc⟩ := HL.out.2.2.2 (by rw [ints_length, HLen.out]; omega)
      have hcell := hc i (by rw [ints_length, HLen.out]; exact hlt)
      rw [ints_get _ _ _ (by rw [HLen.out]; exact hlt)] at hcell
      have hx : A.getD i 0 < 4294967296 := by
        have hl : i < A.length := by rw [HLen.out]; exact hlt
        have e : A.getD i 0 = A[i] := by simp [hl]
        rw [e]
        exact hA _ (List.getElem_mem _)
      by_cases hz : A.getD i 0 = 0
      · rw [hz] at hcell
        have hn : Hid (∀ j, j < i + 1 → A.getD j 0 = 0) := fun j hj => by
          rcases Nat.lt_or_ge j i with h1 | h1
          · exact HZ.out j h1
          · rw [show j = i by omega]; exact hz
        clear hc hx hz
        go_wp2
        go_roundw
        case rel => exact ⟨i + 1, by omega, by simp, trivial, hn⟩
        case measure => simp [intOf]; omega
      · obtain ⟨k, hk⟩ := two_some _ hz
        have hk32 : k < 32 := hk.lt (by omega)
        have cT := tz_any (A.getD i 0) k hx hk w HTab.out
        have hTv := two_of A hA i k HZ.out hk hk32
        have eT : T = 32 * (i : Int) + (k : Int) := by
          obtain ⟨h1 | ⟨h1, _⟩, h2⟩ := HT.out
          · have := h1.uniq hTv; omega
          · exact absurd h1 hTv.pos
        have hne : ((A.getD i 0 : Nat) : Int) ≠ 0 := by omega
        have hne2 : (((A.getD i 0 : Nat) : Int) == 0) = false := by simpa using hne
        generalize ((A.getD i 0 : Nat) : Int) = x at *
        clear hc hz hk hTv hne
        go_wp2_with (go_at_call 46; refine cT.mono ?_; rintro e w1 ⟨rfl, hw1⟩; have hw2 := hw1.symm; clear hw1; subst hw2)
        go_ret
        refine ⟨?_, rfl⟩
        rw [eT]
        rfl
    · obtain rfl : i = L := by omega
      have hv : val A = 0 := val_nought A (fun j hj => HZ.out j (by rw [← HLen.out]; exact hj))
      obtain rfl : T = 0 := by
        obtain ⟨h1 | ⟨_, h1⟩, h2⟩ := HT.out
        · exact absurd hv h1.pos
        · omega
      go_wp2
      go_ret
      exact ⟨rfl, rfl⟩
end Go.Proofs.YtefckmkcbgckfaaGreatDoor.TwoL

/- What the reference's powers of ten answer. -/
namespace Go.Proofs.YtefckmkcbgckfaaGreatDoor.RTens
open Go.RowKit Mem LimbNum Limb1 RefL BitMul Words

theorem tlen (k : Nat) (h : k ≤ 120) : (nb (10 ^ k)).length ≤ 481 := by
  apply nb_lt
  have h2 : 10 ^ k ≤ (2 ^ 4) ^ k := Nat.pow_le_pow_left (by omega) k
  rw [← Nat.pow_mul] at h2
  obtain ⟨K, hK⟩ : ∃ K, 481 = K := ⟨_, rfl⟩
  rw [hK]
  have h3 : (2 : Nat) ^ (4 * k) < 2 ^ K := Nat.pow_lt_pow_right (by omega) (by omega)
  omega
set_option maxRecDepth 20000 in
set_option maxHeartbeats 1000000 in
theorem rtens_any (n : Nat) (w : World) (hn : n ≤ 120) :
    Calls Tryz.prog 30 #[.int .i64 (n : Int)] w fun e w' => ∃ o c, e = .returned (.slice o (nb (10 ^ n)).length c) ∧ w'.ownsRow w.heap.size 4 1 (.slice o (nb (10 ^ n)).length c) (nb (10 ^ n)).length (bools (nb (10 ^ n))) ∧ Below w.heap.size w w' := by
  have cW := rword_any 1 w (by omega)
  have hl10 : (nb 10).length ≤ 4 := nb_lt _ _ (by omega)
  go_enter Tryz.func30, Tryz.ntmps30
  go_wp2_with (go_at_call 29; refine cW.mono ?_; rintro e w1 ⟨o1, c1, rfl, hown1, hb1⟩)
  clear cW
  generalize hbase : w.heap.size = base at *
  go_loopw [3, 4] (fun v i wr => ∃ (k : Nat) (o : Option Addr) (c : Nat), k ≤ n ∧ i = .int .i64 (k : Int) ∧ v = .slice o (nb (10 ^ k)).length c ∧ wr.ownsRow base 4 1 v (nb (10 ^ k)).length (bools (nb (10 ^ k))) ∧ Below base w wr)
    (fun _ i _ => n - (intOf i).toNat)
  case atStart => exact ⟨0, o1, c1, Nat.zero_le _, rfl, rfl, hown1, hb1⟩
  case round =>
    clear hown1 hb1
    obtain ⟨k, o, c, hk, rfl, rfl, hown, hbw⟩ := hrel
    have hs := hbw.size
    by_cases hlt : k < n
    · have hML := tlen k (by omega)
      have cT := rword_any 10 wr (by omega)
      have cM := fun (W : World) (hW : Below wr.heap.size wr W) (oT : Option Addr) (cT : Nat) (hT : Lies W oT cT (bools (nb 10))) => rmul_core (nb (10 ^ k)) (nb 10) (10 ^ (k + 1)) (by unfold Hid; rw [fromL_nb, fromL_nb, Nat.pow_succ]) o oT c cT W (lies_of_owns (keep hown hW)) hT (by omega) (by omega)
      clear hML
      go_wp2_with (first
        | (go_at_call 29; refine cT.mono ?_; rintro e w2 ⟨o2, c2, rfl, hown2, hb2⟩)
        | (go_at_call 28; refine (cM _ hb2 _ _ (lies_of_owns hown2)).mono ?_; rintro e w3 ⟨o3, c3, rfl, hown3, hb3⟩))
      have hs2 := hb2.size
      have hs3 := hb3.size
      go_roundw
      case rel => exact ⟨k + 1, o3, c3, by omega, by go_num, rfl, owns_base hown3 (by omega), (hbw.trans (hb2.mono (by omega))).trans (hb3.mono (by omega))⟩
      case measure => simp [intOf]; omega
    · have ek : k = n := by omega
      subst ek
      go_wp2
      go_ret
      exact ⟨_, _, rfl, by first | exact hown | (rw [hbase]; exact hown), by first | exact hbw | (rw [hbase]; exact hbw)⟩
end Go.Proofs.YtefckmkcbgckfaaGreatDoor.RTens
