/- What the reference's helpers on lists of bits answer: the bits of limbs, the limbs of bits, cut at their end. -/
import Derived.Test.YtbhmgafiookjnadLimb1
namespace Go.Proofs.Ytbhmgafiookjnad.RefL
open Go.RowKit Mem LimbNum Limb1

theorem infoB : (Try.prog.info? 4).map (fun i => (i.zero, i.size, i.bytes)) = some (some (.bool false), 1, 1) := by kernel_rfl
def bools (l : List Bool) : List Value := l.map Value.bool
theorem bools_length (l : List Bool) : (bools l).length = l.length := by simp [bools]
theorem bools_at (l : List Bool) (j : Nat) (h : j < l.length) : (bools l)[j]? = some (.bool (l.getD j false)) := by simp [bools, h]

set_option maxRecDepth 20000 in
set_option maxHeartbeats 400000 in
theorem cut_core (l : List Bool) (ao : Option Addr) (cap : Nat) (w : World) (h : Lies w ao cap (bools l)) :
    Calls Try.prog 86 #[.slice ao l.length cap] w fun e w' => ∃ n, l.take n = nb (fromL l) ∧ n ≤ l.length ∧ e = .returned (.slice ao n cap) ∧ w' = w := by
  have m1 := h.size
  have m2 := h.1
  rw [bools_length] at m1 m2
  unfold maxLen at m1
  go_enter Try.func86, Try.ntmps86
  go_wp2
  go_loop [3] (fun i => ∃ n : Nat, n ≤ l.length ∧ i = .int .i64 (n : Int) ∧ ∀ j, n ≤ j → j < l.length → l.getD j false = false) (fun i => (intOf i).toNat)
  case atStart => exact ⟨l.length, Nat.le_refl _, rfl, fun j h1 h2 => by omega⟩
  case round =>
    obtain ⟨n, hn, rfl, hz⟩ := hrel
    have HZ : Hid (∀ j, n ≤ j → j < l.length → l.getD j false = false) := hz
    clear hz
    by_cases h0 : n = 0
    · subst h0
      go_wp2
      all_goals go_ret
      all_goals exact ⟨0, cut_is l 0 (by omega) HZ.out (.inl rfl), by omega, rfl, rfl⟩
    · obtain ⟨k, rfl⟩ : ∃ k, n = k + 1 := ⟨n - 1, by omega⟩
      obtain ⟨b, off, rfl, _, hc⟩ := h.2.2.2 (by rw [bools_length]; omega)
      have hcell := hc k (by rw [bools_length]; omega)
      rw [bools_at _ _ (by omega)] at hcell
      have HT := fun hl => cut_is l (k + 1) hn HZ.out hl
      have HT2 : Hid ((k + 1 = 0 ∨ l.getD (k + 1 - 1) false = true) → l.take (k + 1) = nb (fromL l)) := HT
      obtain ⟨x, hx⟩ : ∃ x, x = l.getD k false := ⟨_, rfl⟩
      rw [← hx] at hcell
      have HX : Hid (x = l.getD k false) := hx
      clear hc h HT hx
      cases x
      · go_wp2
        go_round
        case rel =>
          refine ⟨k, by omega, by go_num, fun j h1 h2 => ?_⟩
          rcases Nat.lt_or_ge k j with h3 | h3
          · exact HZ.out j (by omega) h2
          · rw [show j = k by omega]; exact HX.out.symm
        case measure => simp [intOf]
      · go_wp2
        all_goals go_ret
        all_goals exact ⟨k + 1, HT2.out (.inr (by rw [Nat.add_sub_cancel, ← HX.out])), hn, by first | rfl | simp, rfl⟩
theorem cut_len (l : List Bool) (n : Nat) (h : l.take n = nb (fromL l)) (hn : n ≤ l.length) : n = (nb (fromL l)).length := by rw [← h, List.length_take, Nat.min_eq_left hn]
theorem bools_take (l : List Bool) (n : Nat) : bools (l.take n) = (bools l).take n := by rw [bools, bools, List.map_take]
theorem cut_own (l : List Bool) (base : Nat) (ao : Option Addr) (cap : Nat) (w : World) (h : w.ownsRow base 4 1 (.slice ao l.length cap) l.length (bools l)) :
    Calls Try.prog 86 #[.slice ao l.length cap] w fun e w' => e = .returned (.slice ao (nb (fromL l)).length cap) ∧ w' = w ∧ w.ownsRow base 4 1 (.slice ao (nb (fromL l)).length cap) (nb (fromL l)).length (bools (nb (fromL l))) := by
  refine (cut_core l ao cap w (lies_of_owns h)).mono ?_
  rintro e w' ⟨n, h1, h2, rfl, rfl⟩
  have h3 := owns_take h n h2
  rw [← bools_take, h1] at h3
  refine ⟨by rw [cut_len l n h1 h2], rfl, ?_⟩
  have h4 := cut_len l n h1 h2
  rw [← h4]; exact h3

set_option maxRecDepth 20000 in
set_option maxHeartbeats 1000000 in
/-- Of: the bits of a number, in new memory. -/
theorem of_core (A : List Nat) (N : Nat) (hN : Hid (N = val A)) (ao : Option Addr) (cap : Nat) (w : World) (h : Lies w ao cap (ints .u32 A)) (hA : Small A) (hlen : A.length ≤ 2097152) :
    Calls Try.prog 45 #[.slice ao A.length cap] w fun e w' => ∃ ao' cap', e = .returned (.slice ao' (nb N).length cap') ∧ w'.ownsRow w.heap.size 4 1 (.slice ao' (nb N).length cap') (nb N).length (bools (nb N)) ∧ Below w.heap.size w w' := by
  obtain ⟨i0, hi, hz0, hz1, hz2⟩ := info_parts infoB
  go_enter Try.func45, Try.ntmps45
  go_wp2
  generalize hbase : w.heap.size = base
  go_loopw [3, 10] (fun v i wr => ∃ (k : Nat) (F : List Bool), k ≤ A.length ∧ i = .int .i64 k ∧ F.length = 32 * k ∧ Hid (fromL F = val (A.take k)) ∧ wr.ownsRow base 4 1 v F.length (bools F) ∧ Below base w wr)
    (fun _ i _ => A.length - (intOf i).toNat)
  case atStart =>
    subst hbase
    refine ⟨0, [], Nat.zero_le _, rfl, rfl, by unfold Hid; simp [fromL, val], ?_, (Below.refl _ _).alloc (Nat.le_refl _) _⟩
    exact World.ownsRow_lit w #[] 0 (Nat.le_refl _) (by decide) rfl
  case round =>
    obtain ⟨k, F, hk, rfl, hFl, HF, hown, hb⟩ := hrel
    by_cases hlt : k < A.length
    · have g1 := h.below hb (by omega)
      obtain ⟨b1, off1, rfl, _, hc1⟩ := g1.2.2.2 (by rw [ints_length]; omega)
      have d1 := hc1 k (by rw [ints_length]; omega)
      rw [ints_get _ _ _ hlt] at d1
      have HS : Hid (fromL (F ++ bl (A.getD k 0) 32) = val (A.take (k + 1))) := of_step A F k hA hlt HF hFl
      have hx := getD_small A hA k
      generalize A.getD k 0 = x at d1 HS hx
      clear hc1 g1
      go_wp2
      go_loopw [3, 5, 6] (fun v u j wr => ∃ m : Nat, m ≤ 32 ∧ j = .int .i64 m ∧ u = .int .u32 ((x / 2 ^ m : Nat) : Int) ∧ wr.ownsRow base 4 1 v (F.length + m) (bools (F ++ bl x m)) ∧ Below base w wr) (fun _ _ j _ => 32 - (intOf j).toNat)
      case atStart => exact ⟨0, by omega, rfl, by simp, by simpa [bl] using hown, hb⟩
      case round =>
        clear hown hb d1
        obtain ⟨m, hm, rfl, rfl, hown, hb⟩ := hrel
        have hsz := hb.size
        have hbit := bit_of x m
        have hq : x / 2 ^ m ≤ x := Nat.div_le_self _ _
        have hq2 : ((x / 2 ^ m : Nat) : Int) ≤ 4294967295 := by omega
        have hq1 : 0 ≤ ((x / 2 ^ m : Nat) : Int) := Int.natCast_nonneg _
        have hst := div_step x m
        obtain ⟨q, hQ⟩ : ∃ q, x / 2 ^ m = q := ⟨_, rfl⟩
        rw [hQ] at hbit hq hq2 hq1 hst
        simp only [hQ]
        clear hQ
        by_cases hm2 : m < 32
        · go_wp2_with (at_builtin; refine wpList_append_own _ rfl _ _ 29 rfl base 4 i0 (.bool false) 1 1 Try.underlying29 hi hz0 hz1 hz2 rfl (by decide) _ _ _ rfl (hown.alloc _) ⟨wr.heap.size, 0, none⟩ 1 1 [.bool (x.testBit m)] rfl rfl ?c1 ?c2 ?c3 ?c4 ?c5 ?_)
          case c1 =>
            intro j u hj
            match j, hj with
            | 0, hj => simp at hj; subst hj; simp [Addr.add]
          case c2 => intro u hu; simp at hu; subst hu; rfl
          case c3 => unfold maxLen; omega
          case c4 => omega
          case c5 => simp; omega
          intro v' w1 hown' hgrow _
          have hb1 : Below base w w1 := (hb.alloc (by omega) _).grown hgrow (by simp; omega) (fun j hj => (hown.lt j hj).1)
          clear hgrow hown
          go_wp2
          go_roundw
          case rel => exact ⟨m + 1, by omega, by go_num, by rw [← hst]; go_num, by rw [bl_succ]; simpa [bools, Nat.add_assoc, hFl] using hown', hb1⟩
          case measure => simp [intOf]; omega
        · have hm3 : m = 32 := by omega
          subst hm3
          go_wp2
          go_roundw
          case rel => exact ⟨k + 1, F ++ bl x 32, by omega, by go_num, by rw [List.length_append, bl_length]; omega, HS, by rw [List.length_append, bl_length]; exact hown, hb⟩
          case measure => simp [intOf]; omega
    · have ek : k = A.length := by omega
      subst ek
      have hF2 : fromL F = N := by have := HF.out; rw [List.take_of_length_le (Nat.le_refl _)] at this; rw [this, hN.out]
      obtain ⟨ao2, cap2, e2⟩ := owns_shape hown
      rw [e2] at hown ⊢
      have c1 := cut_own F base ao2 cap2 wr hown
      rw [hF2] at c1
      clear hown HF h hF2 hFl
      subst hbase
      go_wp2_with (go_at_call 86; refine c1.mono ?_; rintro e w5 ⟨rfl, hw, hown5⟩; have hw2 := hw.symm; clear hw; subst hw2)
      go_ret
      exact ⟨ao2, cap2, rfl, hown5, hb⟩
theorem of_any (A : List Nat) (ao : Option Addr) (cap : Nat) (w : World) (h : Lies w ao cap (ints .u32 A)) (hA : Small A) (hlen : A.length ≤ 2097152) :
    Calls Try.prog 45 #[.slice ao A.length cap] w fun e w' => ∃ ao' cap', e = .returned (.slice ao' (nb (val A)).length cap') ∧ w'.ownsRow w.heap.size 4 1 (.slice ao' (nb (val A)).length cap') (nb (val A)).length (bools (nb (val A))) ∧ Below w.heap.size w w' :=
  of_core A (val A) rfl ao cap w h hA hlen

end Go.Proofs.Ytbhmgafiookjnad.RefL
