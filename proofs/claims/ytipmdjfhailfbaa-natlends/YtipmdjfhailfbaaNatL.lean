/- What the product of lists of limbs answers, and what is cut at its noughts. -/
import Derived.Test.YtipmdjfhailfbaaLimb4
import Derived.Test.YtipmdjfhailfbaaNatNum
namespace Go.Proofs.Ytipmdjfhailfbaa.NatL
open Go.RowKit Mem LimbNum Limb1 Limb2 Limb4 NatNum

set_option maxRecDepth 20000 in
set_option maxHeartbeats 400000 in
/-- trim: cut at the noughts at its end. -/
theorem ntrim_core (A : List Nat) (ao : Option Addr) (cap : Nat) (w : World) (h : Lies w ao cap (ints .u32 A)) (hs : Small A) :
    Calls Try.prog 26 #[.slice ao A.length cap] w fun e w' => ∃ n, A.take n = nl (val A) ∧ n ≤ A.length ∧ e = .returned (.slice ao n cap) ∧ w' = w := by
  have m1 := h.size
  have m2 := h.1
  rw [ints_length] at m1 m2
  unfold maxLen at m1
  go_enter Try.func26, Try.ntmps26
  go_wp2
  go_loop [3] (fun i => ∃ n : Nat, n ≤ A.length ∧ i = .int .i64 (n : Int) ∧ ∀ j, n ≤ j → j < A.length → A.getD j 0 = 0) (fun i => (intOf i).toNat)
  case atStart => exact ⟨A.length, Nat.le_refl _, rfl, fun j h1 h2 => by omega⟩
  case round =>
    obtain ⟨n, hn, rfl, hz⟩ := hrel
    have HZ : Hid (∀ j, n ≤ j → j < A.length → A.getD j 0 = 0) := hz
    clear hz
    by_cases h0 : n = 0
    · subst h0
      go_wp2
      all_goals go_ret
      all_goals exact ⟨0, trim_is A 0 hs (by omega) HZ.out (.inl rfl), by omega, rfl, rfl⟩
    · obtain ⟨k, rfl⟩ : ∃ k, n = k + 1 := ⟨n - 1, by omega⟩
      obtain ⟨b, off, rfl, _, hc⟩ := h.2.2.2 (by rw [ints_length]; omega)
      have hcell := hc k (by rw [ints_length]; omega)
      rw [ints_get _ _ _ (by omega)] at hcell
      have HT := fun hl => trim_is A (k + 1) hs hn HZ.out hl
      have HT2 : Hid ((k + 1 = 0 ∨ A.getD (k + 1 - 1) 0 ≠ 0) → A.take (k + 1) = nl (val A)) := HT
      obtain ⟨x, hx⟩ : ∃ x, x = A.getD k 0 := ⟨_, rfl⟩
      rw [← hx] at hcell
      have HX : Hid (x = A.getD k 0) := hx
      clear hc h HT hx
      by_cases hx0 : x = 0
      · subst hx0
        go_wp2
        go_round
        case rel =>
          refine ⟨k, by omega, by go_num, fun j h1 h2 => ?_⟩
          rcases Nat.lt_or_ge k j with h3 | h3
          · exact HZ.out j (by omega) h2
          · rw [show j = k by omega]; exact HX.out.symm
        case measure => simp [intOf]
      · go_wp2
        all_goals go_ret
        all_goals exact ⟨k + 1, HT2.out (.inr (by rw [Nat.add_sub_cancel, ← HX.out]; exact hx0)), hn, by first | rfl | simp, rfl⟩
theorem ntrim_any (A : List Nat) (ao : Option Addr) (cap : Nat) (w : World) (h : Lies w ao cap (ints .u32 A)) (hs : Small A) :
    Calls Try.prog 26 #[.slice ao A.length cap] w fun e w' => e = .returned (.slice ao (nl (val A)).length cap) ∧ w' = w ∧ Lies w ao cap (ints .u32 (nl (val A))) := by
  refine (ntrim_core A ao cap w h hs).mono ?_
  rintro e w' ⟨n, h1, h2, rfl, rfl⟩
  refine ⟨by rw [Limb1.take_len A n h1 h2], rfl, ?_⟩
  rw [← h1, ints_take]
  exact h.take n
/-- trim of a row of one's own. -/
theorem ntrim_own (A : List Nat) (base : Nat) (ao : Option Addr) (cap : Nat) (w : World) (h : w.ownsRow base 33 1 (.slice ao A.length cap) A.length (ints .u32 A)) (hs : Small A) :
    Calls Try.prog 26 #[.slice ao A.length cap] w fun e w' => e = .returned (.slice ao (nl (val A)).length cap) ∧ w' = w ∧ w.ownsRow base 33 1 (.slice ao (nl (val A)).length cap) (nl (val A)).length (ints .u32 (nl (val A))) := by
  refine (ntrim_core A ao cap w (lies_of_owns h) hs).mono ?_
  rintro e w' ⟨n, h1, h2, rfl, rfl⟩
  have h3 := owns_take h n h2
  rw [← ints_take, h1] at h3
  refine ⟨by rw [Limb1.take_len A n h1 h2], rfl, ?_⟩
  have h4 := Limb1.take_len A n h1 h2
  rw [← h4]; exact h3

theorem ntrim_at {A : List Nat} {ao : Option Addr} {cap : Nat} {w : World} (h : Lies w ao cap (ints .u32 A)) (hA : Small A) (W : World) (hb : Below w.heap.size w W) :
    Calls Try.prog 26 #[.slice ao A.length cap] W fun e w' => e = .returned (.slice ao (nl (val A)).length cap) ∧ w' = W :=
  (ntrim_any A ao cap W (h.below hb (Nat.le_refl _)) hA).mono fun _ _ h => ⟨h.1, h.2.1⟩

set_option maxRecDepth 20000 in
set_option maxHeartbeats 2000000 in
theorem mul_core (A B P Q : List Nat) (N : Nat) (hN : Hid (N = val P * val Q)) (ao1 ao2 : Option Addr) (cap1 cap2 : Nat) (w : World) (h1 : Lies w ao1 cap1 (ints .u32 P)) (h2 : Lies w ao2 cap2 (ints .u32 Q))
    (c1 : Calls Try.prog 26 #[.slice ao1 A.length cap1] w fun e w' => e = .returned (.slice ao1 P.length cap1) ∧ w' = w)
    (c2 : Calls Try.prog 26 #[.slice ao2 B.length cap2] w fun e w' => e = .returned (.slice ao2 Q.length cap2) ∧ w' = w)
    (hP : Small P) (hQ : Small Q) (hl : P.length + Q.length ≤ 70368744177664) :
    Calls Try.prog 15 #[.slice ao1 A.length cap1, .slice ao2 B.length cap2] w fun e w' => ∃ ao cap, e = .returned (.slice ao (nl N).length cap) ∧
      w'.ownsRow w.heap.size 33 1 (.slice ao (nl N).length cap) (nl N).length (ints .u32 (nl N)) ∧ Below w.heap.size w w' := by
  obtain ⟨i0, hi, hz0, hz1, hz2⟩ := info_parts info32
  have t1 : True := trivial
  obtain ⟨L, hL⟩ : ∃ L, L = P.length + Q.length := ⟨_, rfl⟩
  have HL : Hid (L = P.length + Q.length) := hL
  have hLi : (P.length : Int) + (Q.length : Int) = (L : Int) := by omega
  have hLm : L ≤ 70368744177664 := by omega
  clear hL
  go_enter Try.func15, Try.ntmps15
  go_wp2_with (first
    | (go_at_call 26; have _t := t1; clear _t t1; refine c1.mono ?_; rintro e w2 ⟨rfl, hw⟩; have hw2 := hw.symm; clear hw; subst hw2)
    | (go_at_call 26; refine c2.mono ?_; rintro e w2 ⟨rfl, hw⟩; have hw2 := hw.symm; clear hw; subst hw2)
    | (at_make; refine wpList_make_full _ rfl _ _ 22 rfl w.heap.size 33 i0 (.int .u32 0) 1 Try.underlying22 hi hz0 hz1 .i64 .i64 _ _ L rfl rfl (by first | rfl | exact hLi) (by first | rfl | exact hLi) (by rw [hz2]; omega) (by unfold maxLen; omega) (Nat.le_refl _) ?_; intro w3 hown hgr))
  have hown0 : w3.ownsRow w.heap.size 33 1 (.slice (some ⟨w.heap.size, 0, none⟩) L L) L (ints .u32 (List.replicate L 0)) := by
    rw [ints_zero, ← toList_madeCells_one]; rw [Nat.mul_one] at hown; exact hown
  have hb3 : Below w.heap.size w w3 := (Below.refl _ _).grown hgr (Nat.le_refl _) (by simp)
  clear hown hgr c1 c2 hLi
  generalize hgg : w.heap.size = g at *
  go_loopw [24] (fun i wr => ∃ (k : Nat) (O : List Nat), k ≤ P.length ∧ i = .int .i64 k ∧ Hid (O.length = L) ∧ Small O ∧ Hid (val O = val (P.take k) * val Q) ∧ (∀ j, k + Q.length ≤ j → O.getD j 0 = 0) ∧
      wr.ownsRow g 33 1 (.slice (some ⟨g, 0, none⟩) L L) L (ints .u32 O) ∧ Below g w wr)
    (fun i _ => P.length - (intOf i).toNat)
  case atStart => exact ⟨0, List.replicate L 0, Nat.zero_le _, rfl, by unfold Hid; simp, small_noughts L, by unfold Hid; rw [val_zero _ (fun x hx => (List.mem_replicate.1 hx).2)]; simp [val], fun j _ => by simp [List.getElem?_replicate]; split <;> rfl, hown0, hb3⟩
  case round =>
    clear hown0 hb3
    obtain ⟨k, O, hk, rfl, HO, hOs, HV, hz, hown, hb⟩ := hrel
    have hs := hb.size
    by_cases hlt : k < P.length
    · have g1 := h1.below hb (by omega)
      obtain ⟨b1, off1, rfl, _, hc1⟩ := g1.2.2.2 (by rw [ints_length]; omega)
      have d1 := hc1 k (by rw [ints_length]; omega)
      rw [ints_get _ _ _ (by omega)] at d1
      have hx := getD_small P hP k
      obtain ⟨x, ex⟩ : ∃ x, P.getD k 0 = x := ⟨_, rfl⟩
      rw [ex] at d1 hx
      have HX : Hid (P.getD k 0 = x) := ex
      obtain ⟨X, eX⟩ : ∃ X : Int, X = (x : Int) := ⟨_, rfl⟩
      rw [← eX] at d1
      have hX0 : 0 ≤ X := by omega
      have hX1 : X < 4294967296 := by omega
      have EX : Hid (X = (x : Int)) := eX
      have hkL : k + Q.length < L := by rw [HL.out]; omega
      obtain ⟨T, hT⟩ : ∃ T, T = val (P.take k) * val Q := ⟨_, rfl⟩
      have HT : Hid (T = val (P.take k) * val Q) := hT
      have HV2 : Hid (val O = T) := by unfold Hid; rw [hT]; exact HV.out
      clear hc1 g1 ex hT HV h1 eX
      go_wp2
      go_loopw [8, 31] (fun cy j wr => ∃ (m c : Nat) (C : Int) (O : List Nat), m ≤ Q.length ∧ j = .int .i64 m ∧ cy = .int .u64 C ∧ 0 ≤ C ∧ C < 4294967296 ∧ Hid (C = (c : Int)) ∧ Hid (O.length = L) ∧ Small O ∧ Hid (val O + c * 4294967296 ^ (k + m) = T + x * val (Q.take m) * 4294967296 ^ k) ∧ (∀ j, k + Q.length ≤ j → O.getD j 0 = 0) ∧
          wr.ownsRow g 33 1 (.slice (some ⟨g, 0, none⟩) L L) L (ints .u32 O) ∧ Below g w wr) (fun _ j _ => Q.length - (intOf j).toNat)
      case atStart => exact ⟨0, 0, 0, O, Nat.zero_le _, rfl, rfl, by omega, by omega, rfl, HO, hOs, by unfold Hid; rw [HV2.out]; simp [val], hz, hown, hb⟩
      case round =>
        clear hown hb d1 HO hOs HV2 hz hs O
        obtain ⟨m, c, C, O, hm, rfl, rfl, hC0, hC1, EC, HO, hOs, HI, hz, hown, hb⟩ := hrel
        have hs := hb.size
        have hc : c < 4294967296 := by have := EC.out; omega
        by_cases hm2 : m < Q.length
        · have g2 := h2.below hb (by omega)
          obtain ⟨b2, off2, rfl, _, hc2⟩ := g2.2.2.2 (by rw [ints_length]; omega)
          have d2 := hc2 m (by rw [ints_length]; omega)
          rw [ints_get _ _ _ (by omega)] at d2
          have hy := getD_small Q hQ m
          have ho := getD_small O hOs (k + m)
          have hcw : wr.cell? ⟨g, k + m, none⟩ = some (.int .u32 ((O.getD (k + m) 0 : Nat) : Int)) := by
            rw [hown.cellAt (k + m) (by omega), ints_get _ _ _ (by rw [HO.out]; omega)]
          obtain ⟨y, ey⟩ : ∃ y, Q.getD m 0 = y := ⟨_, rfl⟩
          rw [ey] at d2 hy
          have hlim := mul_limb x y (O.getD (k + m) 0) c hx hy ho hc
          have HN : Hid (val (O.set (k + m) ((x * y + O.getD (k + m) 0 + c) % 4294967296)) + (x * y + O.getD (k + m) 0 + c) / 4294967296 * 4294967296 ^ (k + (m + 1)) = T + x * val (Q.take (m + 1)) * 4294967296 ^ k) := mul_step O Q x y c k m T (by rw [HO.out]; omega) ey HI.out
          obtain ⟨z, ez⟩ : ∃ z, O.getD (k + m) 0 = z := ⟨_, rfl⟩
          rw [ez] at hcw hlim HN ho
          obtain ⟨Y, eY⟩ : ∃ Y : Int, Y = (y : Int) := ⟨_, rfl⟩
          obtain ⟨Z, eZ⟩ : ∃ Z : Int, Z = (z : Int) := ⟨_, rfl⟩
          rw [← eY] at d2
          rw [← eZ] at hcw
          have hY0 : 0 ≤ Y := by omega
          have hY1 : Y < 4294967296 := by omega
          have hZ0 : 0 ≤ Z := by omega
          have hZ1 : Z < 4294967296 := by omega
          have hpe : X * Y = ((x * y : Nat) : Int) := by rw [EX.out, eY, Int.natCast_mul]
          have hp0 : 0 ≤ X * Y := by omega
          have hp1 : X * Y + Z + C < 18446744073709551616 := by have := EC.out; omega
          obtain ⟨p, ep⟩ : ∃ p : Int, X * Y = p := ⟨_, rfl⟩
          rw [ep] at hp0 hp1 hpe
          have fin : ∀ V D : Int, V = (p + Z + C) % 4294967296 → D = (p + Z + C) / 4294967296 →
              ∃ (m1 c1 : Nat) (C1 : Int) (O1 : List Nat), m1 ≤ Q.length ∧ Value.int .i64 ((m : Int) + 1) = .int .i64 m1 ∧ Value.int .u64 D = .int .u64 C1 ∧ 0 ≤ C1 ∧ C1 < 4294967296 ∧ Hid (C1 = (c1 : Int)) ∧ Hid (O1.length = L) ∧ Small O1 ∧ Hid (val O1 + c1 * 4294967296 ^ (k + m1) = T + x * val (Q.take m1) * 4294967296 ^ k) ∧ (∀ j, k + Q.length ≤ j → O1.getD j 0 = 0) ∧
              (wr.setCell ⟨g, k + m, none⟩ (.int .u32 V)).ownsRow g 33 1 (.slice (some ⟨g, 0, none⟩) L L) L (ints .u32 O1) ∧ Below g w (wr.setCell ⟨g, k + m, none⟩ (.int .u32 V)) := by
            intro V D eV eD
            have q2 := EC.out
            obtain ⟨hR1, _⟩ := hown.stored (k + m) (.int .u32 (((x * y + z + c) % 4294967296 : Nat) : Int))
            rw [ints_set] at hR1
            have eV2 : V = (((x * y + z + c) % 4294967296 : Nat) : Int) := by omega
            rw [eV2]
            exact ⟨m + 1, (x * y + z + c) / 4294967296, D, O.set (k + m) ((x * y + z + c) % 4294967296), by omega, by simp, rfl, by omega, by omega, by unfold Hid; omega, by unfold Hid; rw [List.length_set, HO.out], small_put _ _ _ hOs (by omega), HN, fun j hj => by rw [getD_set _ _ _ _ (by omega)]; exact hz j hj, hR1, hb.setCell (by exact Nat.le_refl _) _⟩
          have hf := hown.frozenAt (k + m)
          clear hc2 g2 h2 hpe hlim HN ey ez HI hown hz eY eZ hc ho hx hy
          go_wp2
          go_roundw
          case rel => exact fin _ _ (by first | rfl | go_num) (by first | rfl | go_num)
          case measure => simp [intOf]; omega
        · have em : m = Q.length := by omega
          subst em
          have hV := mul_last O c (k + Q.length) (T + x * val Q * 4294967296 ^ k) (by rw [HO.out]; omega) (hz _ (Nat.le_refl _)) (by have := HI.out; rwa [List.take_of_length_le (Nat.le_refl _)] at this)
          have HN : Hid (val (O.set (k + Q.length) c) = val (P.take (k + 1)) * val Q) := by
            unfold Hid
            rw [hV, val_take_any, HX.out, HT.out]; grind
          have hcw : wr.cell? ⟨g, k + Q.length, none⟩ = some (.int .u32 ((O.getD (k + Q.length) 0 : Nat) : Int)) := by
            rw [hown.cellAt (k + Q.length) (by omega), ints_get _ _ _ (by rw [HO.out]; omega)]
          obtain ⟨hR1, _⟩ := hown.stored (k + Q.length) (.int .u32 (c : Int))
          rw [ints_set, ← EC.out] at hR1
          have hf := hown.frozenAt (k + Q.length)
          have hb4 : Below g w (wr.setCell ⟨g, k + Q.length, none⟩ (.int .u32 C)) := hb.setCell (by exact Nat.le_refl _) _
          have HO2 : Hid ((O.set (k + Q.length) c).length = L) := by unfold Hid; rw [List.length_set, HO.out]
          have hOs2 := small_put O (k + Q.length) c hOs hc
          have hz2 : ∀ j, k + 1 + Q.length ≤ j → (O.set (k + Q.length) c).getD j 0 = 0 := fun j hj => by rw [getD_set _ _ _ _ (by omega)]; exact hz j (by omega)
          clear hV h2 HI hown hz hb hc EC
          go_wp2
          go_roundw
          case rel => exact ⟨k + 1, O.set (k + Q.length) c, by omega, by go_num, HO2, hOs2, HN, hz2, hR1, hb4⟩
          case measure => simp [intOf]; omega
    · have ek : k = P.length := by omega
      subst ek
      have hv : val O = N := by have := HV.out; rw [List.take_of_length_le (Nat.le_refl _)] at this; rw [this, hN.out]
      have c3 := ntrim_own O g (some ⟨g, 0, none⟩) L wr (by rw [HO.out]; exact hown) hOs
      rw [hv, HO.out] at c3
      clear hown HV h1 h2 hz hv hN HO
      go_wp2_with (go_at_call 26; refine c3.mono ?_; rintro e w5 ⟨rfl, hw, hown5⟩; have hw2 := hw.symm; clear hw; subst hw2)
      go_ret
      exact ⟨_, _, rfl, by first | exact hown5 | (rw [hgg]; exact hown5), by first | exact hb | (rw [hgg]; exact hb)⟩
/-- Mul: the product, in new memory. -/
theorem mul_any (A B : List Nat) (ao1 ao2 : Option Addr) (cap1 cap2 : Nat) (w : World) (h1 : Lies w ao1 cap1 (ints .u32 A)) (h2 : Lies w ao2 cap2 (ints .u32 B)) (hA : Small A) (hB : Small B) (hl : A.length + B.length ≤ 70368744177664) :
    Calls Try.prog 15 #[.slice ao1 A.length cap1, .slice ao2 B.length cap2] w fun e w' => ∃ ao cap, e = .returned (.slice ao (nl (val A * val B)).length cap) ∧
      w'.ownsRow w.heap.size 33 1 (.slice ao (nl (val A * val B)).length cap) (nl (val A * val B)).length (ints .u32 (nl (val A * val B))) ∧ Below w.heap.size w w' := by
  have k1 := nl_len A hA
  have k2 := nl_len B hB
  exact mul_core A B (nl (val A)) (nl (val B)) (val A * val B) (by unfold Hid; rw [val_nl, val_nl]) ao1 ao2 cap1 cap2 w (lies_trim h1 hA) (lies_trim h2 hB) (ntrim_at h1 hA w (Below.refl _ _)) (ntrim_at h2 hB w (Below.refl _ _)) (small_nl _) (small_nl _) (by omega)
end Go.Proofs.Ytipmdjfhailfbaa.NatL
