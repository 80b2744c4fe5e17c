/- What the reference's helpers on lists of bits answer: the bits of limbs, the limbs of bits, cut at their end. -/
import Derived.Test.YtjehfgfgnijkoaaDoorLimb1
namespace Go.Proofs.YtjehfgfgnijkoaaDoor.RefL
open Go.RowKit Mem LimbNum Limb1

theorem infoB : (Tryd.prog.info? 4).map (fun i => (i.zero, i.size, i.bytes)) = some (some (.bool false), 1, 1) := by kernel_rfl
def bools (l : List Bool) : List Value := l.map Value.bool
theorem bools_length (l : List Bool) : (bools l).length = l.length := by simp [bools]
theorem bools_at (l : List Bool) (j : Nat) (h : j < l.length) : (bools l)[j]? = some (.bool (l.getD j false)) := by simp [bools, h]

set_option maxRecDepth 20000 in
set_option maxHeartbeats 400000 in
theorem cut_core (l : List Bool) (ao : Option Addr) (cap : Nat) (w : World) (h : Lies w ao cap (bools l)) :
    Calls Tryd.prog 15 #[.slice ao l.length cap] w fun e w' => ∃ n, l.take n = nb (fromL l) ∧ n ≤ l.length ∧ e = .returned (.slice ao n cap) ∧ w' = w := by
  have m1 := h.size
  have m2 := h.1
  rw [bools_length] at m1 m2
  unfold maxLen at m1
  go_enter Tryd.func15, Tryd.ntmps15
  go_wp2
  go_loop [3] (fun i => ∃ n : Nat, n ≤ l.length ∧ i = .int .i64 (n : Int) ∧ ∀ j, n ≤ j → j < l.length → l.getD j false = false) (fun i => (intOf i).toNat)
  case atStart => exact ⟨l.length, Nat.le_refl _, rfl, fun j h1 h2 => by omega⟩
  case round =>
    obtain ⟨n, hn, rfl, hz⟩ := hrel
    have HZ : Hid (∀ j, n ≤ j → j < l.length → l.getD j false = false) := hz
    clear hz
    by_cases h0 : n = 0
    · subst h0
      go_wp2
      all_goals go_ret
      all_goals exact ⟨0, cut_is l 0 (by omega) HZ.out (.inl rfl), by omega, rfl, rfl⟩
    · obtain ⟨k, rfl⟩ : ∃ k, n = k + 1 := ⟨n - 1, by omega⟩
      obtain ⟨b, off, rfl, _, hc⟩ := h.2.2.2 (by rw [bools_length]; omega)
      have hcell := hc k (by rw [bools_length]; omega)
      rw [bools_at _ _ (by omega)] at hcell
      have HT := fun hl => cut_is l (k + 1) hn HZ.out hl
      have HT2 : Hid ((k + 1 = 0 ∨ l.getD (k + 1 - 1) false = true) → l.take (k + 1) = nb (fromL l)) := HT
      obtain ⟨x, hx⟩ : ∃ x, x = l.getD k false := ⟨_, rfl⟩
      rw [← hx] at hcell
      have HX : Hid (x = l.getD k false) := hx
      clear hc h HT hx
      cases x
      · go_wp2
        go_round
        case rel =>
          refine ⟨k, by omega, by go_num, fun j h1 h2 => ?_⟩
          rcases Nat.lt_or_ge k j with h3 | h3
          · exact HZ.out j (by omega) h2
          · rw [show j = k by omega]; exact HX.out.symm
        case measure => simp [intOf]
      · go_wp2
        all_goals go_ret
        all_goals exact ⟨k + 1, HT2.out (.inr (by rw [Nat.add_sub_cancel, ← HX.out])), hn, by first | rfl | simp, rfl⟩
theorem cut_len (l : List Bool) (n : Nat) (h : l.take n = nb (fromL l)) (hn : n ≤ l.length) : n = (nb (fromL l)).length := by rw [← h, List.length_take, Nat.min_eq_left hn]
theorem bools_take (l : List Bool) (n : Nat) : bools (l.take n) = (bools l).take n := by rw [bools, bools, List.map_take]
theorem cut_own (l : List Bool) (base : Nat) (ao : Option Addr) (cap : Nat) (w : World) (h : w.ownsRow base 4 1 (.slice ao l.length cap) l.length (bools l)) :
    Calls Tryd.prog 15 #[.slice ao l.length cap] w fun e w' => e = .returned (.slice ao (nb (fromL l)).length cap) ∧ w' = w ∧ w.ownsRow base 4 1 (.slice ao (nb (fromL l)).length cap) (nb (fromL l)).length (bools (nb (fromL l))) := by
  refine (cut_core l ao cap w (lies_of_owns h)).mono ?_
  rintro e w' ⟨n, h1, h2, rfl, rfl⟩
  have h3 := owns_take h n h2
  rw [← bools_take, h1] at h3
  refine ⟨by rw [cut_len l n h1 h2], rfl, ?_⟩
  have h4 := cut_len l n h1 h2
  rw [← h4]; exact h3

set_option maxRecDepth 20000 in
set_option maxHeartbeats 1000000 in
/-- Of: the bits of a number, in new memory. -/
theorem of_core (A : List Nat) (N : Nat) (hN : Hid (N = val A)) (ao : Option Addr) (cap : Nat) (w : World) (h : Lies w ao cap (ints .u32 A)) (hA : Small A) (hlen : A.length ≤ 2097152) :
    Calls Tryd.prog 4 #[.slice ao A.length cap] w fun e w' => ∃ ao' cap', e = .returned (.slice ao' (nb N).length cap') ∧ w'.ownsRow w.heap.size 4 1 (.slice ao' (nb N).length cap') (nb N).length (bools (nb N)) ∧ Below w.heap.size w w' := by
  obtain ⟨i0, hi, hz0, hz1, hz2⟩ := info_parts infoB
  go_enter Tryd.func4, Tryd.ntmps4
  go_wp2
  generalize hbase : w.heap.size = base
  go_loopw [3, 10] (fun v i wr => ∃ (k : Nat) (F : List Bool), k ≤ A.length ∧ i = .int .i64 k ∧ F.length = 32 * k ∧ Hid (fromL F = val (A.take k)) ∧ wr.ownsRow base 4 1 v F.length (bools F) ∧ Below base w wr)
    (fun _ i _ => A.length - (intOf i).toNat)
  case atStart =>
    subst hbase
    refine ⟨0, [], Nat.zero_le _, rfl, rfl, by unfold Hid; simp [fromL, val], ?_, (Below.refl _ _).alloc (Nat.le_refl _) _⟩
    exact World.ownsRow_lit w #[] 0 (Nat.le_refl _) (by decide) rfl
  case round =>
    obtain ⟨k, F, hk, rfl, hFl, HF, hown, hb⟩ := hrel
    by_cases hlt : k < A.length
    · have g1 := h.below hb (by omega)
      obtain ⟨b1, off1, rfl, _, hc1⟩ := g1.2.2.2 (by rw [ints_length]; omega)
      have d1 := hc1 k (by rw [ints_length]; omega)
      rw [ints_get _ _ _ hlt] at d1
      have HS : Hid (fromL (F ++ bl (A.getD k 0) 32) = val (A.take (k + 1))) := of_step A F k hA hlt HF hFl
      have hx := getD_small A hA k
      generalize A.getD k 0 = x at d1 HS hx
      clear hc1 g1
      go_wp2
      go_loopw [3, 5, 6] (fun v u j wr => ∃ m : Nat, m ≤ 32 ∧ j = .int .i64 m ∧ u = .int .u32 ((x / 2 ^ m : Nat) : Int) ∧ wr.ownsRow base 4 1 v (F.length + m) (bools (F ++ bl x m)) ∧ Below base w wr) (fun _ _ j _ => 32 - (intOf j).toNat)
      case atStart => exact ⟨0, by omega, rfl, by simp, by simpa [bl] using hown, hb⟩
      case round =>
        clear hown hb d1
        obtain ⟨m, hm, rfl, rfl, hown, hb⟩ := hrel
        have hsz := hb.size
        have hbit := bit_of x m
        have hq : x / 2 ^ m ≤ x := Nat.div_le_self _ _
        have hq2 : ((x / 2 ^ m : Nat) : Int) ≤ 4294967295 := by omega
        have hq1 : 0 ≤ ((x / 2 ^ m : Nat) : Int) := Int.natCast_nonneg _
        have hst := div_step x m
        obtain ⟨q, hQ⟩ : ∃ q, x / 2 ^ m = q := ⟨_, rfl⟩
        rw [hQ] at hbit hq hq2 hq1 hst
        simp only [hQ]
        clear hQ
        by_cases hm2 : m < 32
        · go_wp2_with (at_builtin; refine wpList_append_own _ rfl _ _ 23 rfl base 4 i0 (.bool false) 1 1 Tryd.underlying23 hi hz0 hz1 hz2 rfl (by decide) _ _ _ rfl (hown.alloc _) ⟨wr.heap.size, 0, none⟩ 1 1 [.bool (x.testBit m)] rfl rfl ?c1 ?c2 ?c3 ?c4 ?c5 ?_)
          case c1 =>
            intro j u hj
            match j, hj with
            | 0, hj => simp at hj; subst hj; simp [Addr.add]
          case c2 => intro u hu; simp at hu; subst hu; rfl
          case c3 => unfold maxLen; omega
          case c4 => omega
          case c5 => simp; omega
          intro v' w1 hown' hgrow _
          have hb1 : Below base w w1 := (hb.alloc (by omega) _).grown hgrow (by simp; omega) (fun j hj => (hown.lt j hj).1)
          clear hgrow hown
          go_wp2
          go_roundw
          case rel => exact ⟨m + 1, by omega, by go_num, by rw [← hst]; go_num, by rw [bl_succ]; simpa [bools, Nat.add_assoc, hFl] using hown', hb1⟩
          case measure => simp [intOf]; omega
        · have hm3 : m = 32 := by omega
          subst hm3
          go_wp2
          go_roundw
          case rel => exact ⟨k + 1, F ++ bl x 32, by omega, by go_num, by rw [List.length_append, bl_length]; omega, HS, by rw [List.length_append, bl_length]; exact hown, hb⟩
          case measure => simp [intOf]; omega
    · have ek : k = A.length := by omega
      subst ek
      have hF2 : fromL F = N := by have := HF.out; rw [List.take_of_length_le (Nat.le_refl _)] at this; rw [this, hN.out]
      obtain ⟨ao2, cap2, e2⟩ := owns_shape hown
      rw [e2] at hown ⊢
      have c1 := cut_own F base ao2 cap2 wr hown
      rw [hF2] at c1
      clear hown HF h hF2 hFl
      subst hbase
      go_wp2_with (go_at_call 15; refine c1.mono ?_; rintro e w5 ⟨rfl, hw, hown5⟩; have hw2 := hw.symm; clear hw; subst hw2)
      go_ret
      exact ⟨ao2, cap2, rfl, hown5, hb⟩
theorem of_any (A : List Nat) (ao : Option Addr) (cap : Nat) (w : World) (h : Lies w ao cap (ints .u32 A)) (hA : Small A) (hlen : A.length ≤ 2097152) :
    Calls Tryd.prog 4 #[.slice ao A.length cap] w fun e w' => ∃ ao' cap', e = .returned (.slice ao' (nb (val A)).length cap') ∧ w'.ownsRow w.heap.size 4 1 (.slice ao' (nb (val A)).length cap') (nb (val A)).length (bools (nb (val A))) ∧ Below w.heap.size w w' :=
  of_core A (val A) rfl ao cap w h hA hlen

set_option maxRecDepth 20000 in
set_option maxHeartbeats 1000000 in
/-- To: the limbs of bits, in new memory. -/
theorem to_any (l : List Bool) (ao : Option Addr) (cap : Nat) (w : World) (h : Lies w ao cap (bools l)) (hlen : l.length ≤ 2147483648) :
    Calls Tryd.prog 9 #[.slice ao l.length cap] w fun e w' => ∃ ao' cap', e = .returned (.slice ao' (nl (fromL l)).length cap') ∧ w'.ownsRow w.heap.size 34 1 (.slice ao' (nl (fromL l)).length cap') (nl (fromL l)).length (ints .u32 (nl (fromL l))) ∧ Below w.heap.size w w' := by
  obtain ⟨i0, hi, hz0, hz1, hz2⟩ := info_parts info32
  go_enter Tryd.func9, Tryd.ntmps9
  go_wp2
  generalize hbase : w.heap.size = base
  go_loopw [3, 4] (fun v i wr => ∃ (k : Nat) (O : List Nat), 32 * k < l.length + 32 ∧ i = .int .i64 (32 * (k : Int)) ∧ O.length = k ∧ Small O ∧ Hid (val O = fromL (l.take (32 * k))) ∧ wr.ownsRow base 34 1 v O.length (ints .u32 O) ∧ Below base w wr)
    (fun _ i _ => l.length + 32 - (intOf i).toNat)
  case atStart =>
    subst hbase
    refine ⟨0, [], by omega, rfl, rfl, by intro x hx; simp at hx, by unfold Hid; simp [fromL, val], ?_, (Below.refl _ _).alloc (Nat.le_refl _) _⟩
    exact World.ownsRow_lit w #[] 0 (Nat.le_refl _) (by decide) rfl
  case round =>
    obtain ⟨k, O, hk, rfl, hO, hOs, HV, hown, hb⟩ := hrel
    by_cases hlt : 32 * k < l.length
    · obtain ⟨e, he⟩ : ∃ e, e = min (32 * k + 32) l.length := ⟨_, rfl⟩
      have HS := to_step l O k e hO HV he hlt
      have HS1 : Hid (val (O ++ [fromL ((l.take e).drop (32 * k))]) = fromL (l.take (32 * (k + 1)))) := HS.1
      have hsm := HS.2
      have he1 : 32 * k < e ∧ e ≤ l.length ∧ e ≤ 32 * k + 32 := by omega
      have HE : Hid (e = min (32 * k + 32) l.length) := he
      have hmin : min (32 * (k : Int) + 32) (l.length : Int) = (e : Int) := by omega
      have g1 := h.below hb (by omega)
      obtain ⟨b1, off1, rfl, _, hc1⟩ := g1.2.2.2 (by rw [bools_length]; omega)
      obtain ⟨he2, he3, he4⟩ := he1
      clear HS he hmin
      go_wp2
      all_goals
        go_loop [5, 6] (fun u i => ∃ j : Nat, 32 * k ≤ j ∧ j ≤ e ∧ i = .int .i64 ((j : Int) - 1) ∧ u = .int .u32 ((fromL ((l.take e).drop j) : Nat) : Int)) (fun _ i => (intOf i + 1).toNat)
        case atStart => exact ⟨e, by omega, Nat.le_refl _, congrArg (Value.int .i64) (by have := HE.out; omega), by rw [List.drop_eq_nil_of_le (by rw [List.length_take]; omega)]; rfl⟩
        case round =>
          obtain ⟨j, hj1, hj2, rfl, rfl⟩ := hrel
          by_cases hj : 32 * k < j
          · obtain ⟨m, rfl⟩ : ∃ m, j = m + 1 := ⟨j - 1, by omega⟩
            have hcell := hc1 m (by rw [bools_length]; omega)
            rw [bools_at _ _ (by omega)] at hcell
            have hd := fromL_drop (l.take e) m (by rw [List.length_take]; omega)
            have hg : (l.take e).getD m false = l.getD m false := by simp [show m < e by omega]
            rw [hg] at hd
            have hbd : fromL ((l.take e).drop m) < 4294967296 := by
              have h5 := fromL_lt ((l.take e).drop m)
              rw [List.length_drop, List.length_take, Nat.min_eq_left (by omega)] at h5
              have h6 : (2 : Nat) ^ (e - m) ≤ 2 ^ 32 := Nat.pow_le_pow_right (by omega) (by omega)
              omega
            obtain ⟨X, hX⟩ : ∃ X, fromL ((l.take e).drop (m + 1)) = X := ⟨_, rfl⟩
            obtain ⟨Y, hY⟩ : ∃ Y, fromL ((l.take e).drop m) = Y := ⟨_, rfl⟩
            rw [hX, hY] at hd
            rw [hY] at hbd
            simp only [hX]
            have HY : Hid (fromL ((l.take e).drop m) = Y) := hY
            clear hX hY hg hc1 hsm
            cases hbv : l.getD m false
            · rw [hbv] at hcell hd
              have hd' : Y = 2 * X := by simpa using hd
              clear hd hbv
              go_wp2
              go_round
              case rel => exact ⟨m, by omega, by omega, by go_num, by rw [HY.out]; go_num⟩
              case measure => simp [intOf]
            · rw [hbv] at hcell hd
              have hd' : Y = 1 + 2 * X := by simpa using hd
              clear hd hbv
              go_wp2
              go_round
              case rel => exact ⟨m, by omega, by omega, by go_num, by rw [HY.out]; go_num⟩
              case measure => simp [intOf]
          · have ej : j = 32 * k := by omega
            subst ej
            obtain ⟨d, hd⟩ : ∃ d, fromL ((l.take e).drop (32 * k)) = d := ⟨_, rfl⟩
            have HS2 := HS1.out
            rw [hd] at HS2 hsm
            simp only [hd]
            have HS3 : Hid (val (O ++ [d]) = fromL (l.take (32 * (k + 1)))) := HS2
            have hOs2 := small_push O d hOs hsm
            have hsz := hb.size
            clear HS2 HS1 hd hc1 HV
            go_wp2_with (at_builtin; refine wpList_append_own _ rfl _ _ 22 rfl base 34 i0 (.int .u32 0) 1 4 Tryd.underlying22 hi hz0 hz1 hz2 rfl (by decide) _ _ _ rfl (hown.alloc _) ⟨wr.heap.size, 0, none⟩ 1 1 [.int .u32 (d : Int)] rfl rfl (cells1 wr _ _) (by intro u hu; simp at hu; subst hu; rfl) (by unfold maxLen; omega) (by omega) (by simp; omega) ?_; intro v' w1 hown' hgrow _)
            have hb1 : Below base w w1 := (hb.alloc (by omega) _).grown hgrow (by simp; omega) (fun j hj => (hown.lt j hj).1)
            clear hgrow hown
            go_wp2
            go_roundw
            case rel => exact ⟨k + 1, O ++ [d], by omega, by go_num, by simp; omega, hOs2, HS3, by simpa [ints, hO] using hown', hb1⟩
            case measure => simp [intOf]; omega
    · have hv : val O = fromL l := by
        have := HV.out
        rwa [List.take_of_length_le (by omega)] at this
      obtain ⟨ao2, cap2, e2⟩ := owns_shape hown
      rw [e2] at hown ⊢
      have hl2 := lies_of_owns hown
      have m1 := hl2.size
      have m2 := hl2.1
      rw [ints_length] at m1 m2
      unfold maxLen at m1
      have HV2 : Hid (val O = fromL l) := hv
      subst hO
      clear HV hv h
      go_wp2
      go_loop [7] (fun i => ∃ n : Nat, n ≤ O.length ∧ i = .int .i64 (n : Int) ∧ ∀ j, n ≤ j → j < O.length → O.getD j 0 = 0) (fun i => (intOf i).toNat)
      case atStart => exact ⟨O.length, Nat.le_refl _, by first | rfl | (congr 2; omega), fun j h1 h2 => by omega⟩
      case round =>
        obtain ⟨n, hn, rfl, hz⟩ := hrel
        have HZ : Hid (∀ j, n ≤ j → j < O.length → O.getD j 0 = 0) := hz
        have fin : ∀ n, O.take n = nl (val O) → n ≤ O.length → n = (nl (fromL l)).length ∧ wr.ownsRow base 34 1 (.slice ao2 n cap2) n (ints .u32 (nl (fromL l))) := fun n h1 h2 => by
          have h3 := owns_take hown n h2
          rw [← ints_take, h1, HV2.out] at h3
          have h4 := Limb1.take_len O n h1 h2
          rw [HV2.out] at h4
          exact ⟨h4, h3⟩
        have FIN : Hid (∀ n, O.take n = nl (val O) → n ≤ O.length → n = (nl (fromL l)).length ∧ wr.ownsRow base 34 1 (.slice ao2 n cap2) n (ints .u32 (nl (fromL l)))) := fin
        clear hz fin
        by_cases h0 : n = 0
        · subst h0
          obtain ⟨f1, f2⟩ := FIN.out 0 (trim_is O 0 hOs (by omega) HZ.out (.inl rfl)) (by omega)
          have F1 : Hid (0 = (nl (fromL l)).length) := f1
          clear FIN HZ hl2 hown f1
          go_wp2
          all_goals go_ret
          all_goals exact ⟨ao2, cap2, by rw [← F1.out]; rfl, by rw [← F1.out]; first | exact f2 | (rw [hbase]; exact f2), by first | exact hb | (rw [hbase]; exact hb)⟩
        · obtain ⟨j, rfl⟩ : ∃ j, n = j + 1 := ⟨n - 1, by omega⟩
          obtain ⟨b, off, rfl, _, hc⟩ := hl2.2.2.2 (by rw [ints_length]; omega)
          have hcell := hc j (by rw [ints_length]; omega)
          rw [ints_get _ _ _ (by omega)] at hcell
          have HT := fun hl => trim_is O (j + 1) hOs hn HZ.out hl
          have HT2 : Hid ((j + 1 = 0 ∨ O.getD (j + 1 - 1) 0 ≠ 0) → O.take (j + 1) = nl (val O)) := HT
          obtain ⟨x, hx⟩ : ∃ x, x = O.getD j 0 := ⟨_, rfl⟩
          rw [← hx] at hcell
          have HX : Hid (x = O.getD j 0) := hx
          clear hc hl2 HT hx hown
          by_cases hx0 : x = 0
          · subst hx0
            clear FIN
            go_wp2
            go_round
            case rel =>
              refine ⟨j, by omega, by go_num, fun q h1 h2 => ?_⟩
              rcases Nat.lt_or_ge j q with h3 | h3
              · exact HZ.out q (by omega) h2
              · rw [show q = j by omega]; exact HX.out.symm
            case measure => simp [intOf]
          · obtain ⟨f1, f2⟩ := FIN.out (j + 1) (HT2.out (.inr (by rw [Nat.add_sub_cancel, ← HX.out]; exact hx0))) hn
            have F1 : Hid (j + 1 = (nl (fromL l)).length) := f1
            clear FIN f1
            go_wp2
            all_goals go_ret
            all_goals exact ⟨_, cap2, by rw [← F1.out]; first | rfl | simp, by rw [← F1.out]; first | exact f2 | (rw [hbase]; exact f2), by first | exact hb | (rw [hbase]; exact hb)⟩
end Go.Proofs.YtjehfgfgnijkoaaDoor.RefL
