/- What the shifts of lists of limbs answer. -/
import Derived.Test.YtipmdjfhailfbaaLimb4
import Derived.Test.YtipmdjfhailfbaaShiftNum
namespace Go.Proofs.Ytipmdjfhailfbaa.ShiftL
open Go.RowKit Mem LimbNum ShiftNum Limb1 Limb2 Limb4

theorem shl_no (A : List Nat) (n : Int) (ao : Option Addr) (cap : Nat) (w : World) (h : n < 0 ∨ 100000 < n) :
    Calls Try.prog 34 #[.slice ao A.length cap, .int .i64 n] w fun e w' => e = .returned (.tuple #[.slice none 0 0, .bool false]) ∧ w' = w := by
  rcases h with h | h
  · go_enter Try.func34, Try.ntmps34
    go_wp2
    go_ret2
    exact ⟨rfl, rfl⟩
  · have h0 : 0 ≤ n := by omega
    go_enter Try.func34, Try.ntmps34
    go_wp2
    go_ret2
    exact ⟨rfl, rfl⟩
theorem shr_no (A : List Nat) (n : Int) (ao : Option Addr) (cap : Nat) (w : World) (h : n < 0 ∨ 100000 < n) :
    Calls Try.prog 38 #[.slice ao A.length cap, .int .i64 n] w fun e w' => e = .returned (.tuple #[.slice none 0 0, .bool false]) ∧ w' = w := by
  rcases h with h | h
  · go_enter Try.func38, Try.ntmps38
    go_wp2
    go_ret2
    exact ⟨rfl, rfl⟩
  · have h0 : 0 ≤ n := by omega
    go_enter Try.func38, Try.ntmps38
    go_wp2
    go_ret2
    exact ⟨rfl, rfl⟩

set_option maxRecDepth 20000 in
set_option maxHeartbeats 2000000 in
theorem shl_core (A P : List Nat) (n : Int) (W p N : Nat) (hN : Hid (N = val P * 2 ^ (32 * W + p))) (ao : Option Addr) (cap : Nat) (w : World) (h0 : 0 ≤ n) (h1 : n ≤ 100000) (hw : n / 32 = (W : Int)) (hp : bits BinOp.and IntKind.i64 n 31 = (p : Int)) (hp2 : p < 32) (hw2 : W ≤ 3125)
    (hl : Lies w ao cap (ints .u32 P)) (hP : Small P) (hlen : P.length + W + 1 ≤ 70368744177664)
    (c1 : Calls Try.prog 24 #[.slice ao A.length cap] w fun e w' => e = .returned (.slice ao P.length cap) ∧ w' = w) :
    Calls Try.prog 34 #[.slice ao A.length cap, .int .i64 n] w fun e w' => ∃ ao' cap', e = .returned (.tuple #[.slice ao' (nl N).length cap', .bool true]) ∧ w'.ownsRow w.heap.size 33 1 (.slice ao' (nl N).length cap') (nl N).length (ints .u32 (nl N)) ∧ Below w.heap.size w w' := by
  obtain ⟨i0, hi, hz0, hz1, hz2⟩ := info_parts info32
  by_cases hP0 : P.length = 0
  · have hN0 : N = 0 := by rw [hN.out, List.length_eq_zero_iff.1 hP0]; simp [val]
    subst hN0
    have e0 := nl_zero
    clear hN hl hP
    go_enter Try.func34, Try.ntmps34
    go_wp2_with (go_at_call 24; refine c1.mono ?_; rintro e w2 ⟨rfl, hw⟩; have hw2 := hw.symm; clear hw; subst hw2)
    go_ret2
    exact ⟨none, 0, by rw [e0]; rfl, by rw [e0]; exact World.ownsRow_nil _ _ _ _, Below.refl _ _⟩
  · go_enter Try.func34, Try.ntmps34
    go_wp2_with (first
      | (go_at_call 24; refine c1.mono ?_; rintro e w2 ⟨rfl, hw⟩; have hw2 := hw.symm; clear hw; subst hw2)
      | (at_make; refine wpList_make_full _ rfl _ _ 22 rfl w.heap.size 33 i0 (.int .u32 0) 1 Try.underlying22 hi hz0 hz1 .i64 .i64 ((P.length : Int) + (W : Int) + 1) ((P.length : Int) + (W : Int) + 1) (P.length + W + 1) rfl rfl (by omega) (by omega) (by rw [hz2]; omega) (by unfold maxLen; omega) (Nat.le_refl _) ?_; intro w3 hown hgr))
    have hown0 : w3.ownsRow w.heap.size 33 1 (.slice (some ⟨w.heap.size, 0, none⟩) (P.length + W + 1) (P.length + W + 1)) (P.length + W + 1) (ints .u32 (List.replicate W 0 ++ [0] ++ List.replicate (P.length - 0) 0)) := by
      rw [show List.replicate W 0 ++ [0] ++ List.replicate (P.length - 0) 0 = List.replicate (P.length + W + 1) 0 by
        rw [show ([0] : List Nat) = List.replicate 1 0 from rfl, List.replicate_append_replicate, List.replicate_append_replicate]; congr 1; omega]
      rw [ints_zero, ← toList_madeCells_one]; rw [Nat.mul_one] at hown; exact hown
    have hb3 : Below w.heap.size w w3 := (Below.refl _ _).grown hgr (Nat.le_refl _) (by simp)
    clear hown hgr c1
    generalize hgg : w.heap.size = g at *
    go_loopw [36] (fun i wr => ∃ (k d : Nat) (Z : List Nat), k ≤ P.length ∧ i = .int .i64 k ∧ Z.length = k + W ∧ Small Z ∧ Hid (d < 2 ^ p) ∧ Hid (val (Z ++ [d]) = 4294967296 ^ W * (val (P.take k) * 2 ^ p)) ∧
        wr.ownsRow g 33 1 (.slice (some ⟨g, 0, none⟩) (P.length + W + 1) (P.length + W + 1)) (P.length + W + 1) (ints .u32 (Z ++ [d] ++ List.replicate (P.length - k) 0)) ∧ Below g w wr)
      (fun i _ => P.length - (intOf i).toNat)
    case atStart =>
      refine ⟨0, 0, List.replicate W 0, Nat.zero_le _, rfl, by simp, by intro x hx; rw [List.eq_of_mem_replicate hx]; omega, Nat.two_pow_pos p, ?_, hown0, hb3⟩
      unfold Hid
      rw [val_append, val_zero (List.replicate W 0) (fun x hx => List.eq_of_mem_replicate hx)]; simp [val]
    case round =>
      clear hown0 hb3
      obtain ⟨k, d, Z, hk, rfl, hZ, hZs, HD, HV, hown, hb⟩ := hrel
      by_cases hlt : k < P.length
      · have g1 := hl.below hb (by omega)
        obtain ⟨b1, off1, rfl, _, hc1⟩ := g1.2.2.2 (by rw [ints_length]; omega)
        have d1 := hc1 k (by rw [ints_length]; omega)
        rw [ints_get _ _ _ hlt] at d1
        have hx := getD_small P hP k
        obtain ⟨x, ex⟩ : ∃ x, P.getD k 0 = x := ⟨_, rfl⟩
        rw [ex] at d1 hx
        obtain ⟨t, lo, s, hi2, e1, e2, e3, e4, e5, e6, e7, e8, e9⟩ := shl_limb x d p hp2 hx HD
        have HN : Hid (val (Z ++ [s] ++ [hi2]) = 4294967296 ^ W * (val (P.take (k + 1)) * 2 ^ p)) := shl_step P Z W k p x d s hi2 hZ hlt ex e9 HV
        have HD2 : Hid (hi2 < 2 ^ p) := e6
        have hZ2 := small_push Z s hZs e5
        obtain ⟨m, hm⟩ : ∃ m, P.length - k = m + 1 := ⟨P.length - k - 1, by omega⟩
        have hm2 : P.length - (k + 1) = m := by omega
        rw [hm] at hown
        have hfr := hown.frozenAt (k + W)
        have hfr2 := hown.frozenAt (k + W + 1)
        have hcw : wr.cell? ⟨g, k + W, none⟩ = some (.int .u32 (d : Int)) := by
          rw [hown.cellAt (k + W) (by omega), ints_get _ _ _ (by simp; omega)]
          simp [← hZ]
        obtain ⟨hR1, hG1⟩ := hown.stored (k + W) (.int .u32 (s : Int))
        have hcw2 : (wr.setCell ⟨g, k + W, none⟩ (.int .u32 (s : Int))).cell? ⟨g, k + W + 1, none⟩ = some (.int .u32 0) := by
          rw [hR1.cellAt (k + W + 1) (by omega), ints_set, ints_get _ _ _ (by simp; omega)]
          simp [← hZ]
        have hfr3 := hR1.frozenAt (k + W + 1)
        obtain ⟨hR2, _⟩ := hR1.stored (k + W + 1) (.int .u32 (hi2 : Int))
        rw [ints_set, ints_set, shl_fill Z (k + W) m d s hi2 hZ] at hR2
        have hb4 : Below g w ((wr.setCell ⟨g, k + W, none⟩ (.int .u32 (s : Int))).setCell ⟨g, k + W + 1, none⟩ (.int .u32 (hi2 : Int))) := (hb.setCell (by exact Nat.le_refl _) _).setCell (by exact Nat.le_refl _) _
        clear hc1 g1 hl hown hb HV HD ex e9 e6 hR1 hG1 hm hZs
        go_wp2
        go_roundw
        case rel => exact ⟨k + 1, hi2, Z ++ [s], by omega, by go_num, by simp; omega, hZ2, HD2, HN, by rw [hm2]; exact hR2, hb4⟩
        case measure => simp [intOf]; omega
      · have ek : k = P.length := by omega
        subst ek
        have hv : val (Z ++ [d]) = N := by
          have := HV.out
          rw [List.take_of_length_le (Nat.le_refl _)] at this
          rw [this, shl_pow, hN.out]
        have hd2 : d < 4294967296 := by
          have h1 := HD.out
          have h2 : (2 : Nat) ^ p ≤ 2 ^ 32 := Nat.pow_le_pow_right (by omega) (by omega)
          omega
        have hZ2 := small_push Z d hZs hd2
        rw [Nat.sub_self, List.replicate_zero, List.append_nil] at hown
        have hll : (Z ++ [d]).length = P.length + W + 1 := by simp; omega
        have c3 := trim_own (Z ++ [d]) g (some ⟨g, 0, none⟩) (P.length + W + 1) wr (by rw [hll]; exact hown) hZ2
        rw [hv, hll] at c3
        clear hown HV HD hl hv hll hZ hZs hZ2 hd2 hN
        go_wp2_with (go_at_call 24; refine c3.mono ?_; rintro e w5 ⟨rfl, hw, hown5⟩; have hw2 := hw.symm; clear hw; subst hw2)
        go_ret2
        exact ⟨_, _, rfl, by first | exact hown5 | (rw [hgg]; exact hown5), by first | exact hb | (rw [hgg]; exact hb)⟩
theorem split32 (n : Int) (h0 : 0 ≤ n) (h1 : n ≤ 100000) : ∃ W p : Nat, n / 32 = (W : Int) ∧ bits BinOp.and IntKind.i64 n 31 = (p : Int) ∧ p < 32 ∧ W ≤ 3125 ∧ n.toNat = 32 * W + p := by
  refine ⟨(n / 32).toNat, (n % 32).toNat, by omega, by rw [and31]; omega, by omega, by omega, by omega⟩
/-- Shl: the product by a power of two, in new memory. -/
theorem shl_any (A : List Nat) (n : Int) (ao : Option Addr) (cap : Nat) (w : World) (h0 : 0 ≤ n) (h1 : n ≤ 100000) (hl : Lies w ao cap (ints .u32 A)) (hA : Small A) (hlen : A.length ≤ 35184372088832) :
    Calls Try.prog 34 #[.slice ao A.length cap, .int .i64 n] w fun e w' => ∃ ao' cap', e = .returned (.tuple #[.slice ao' (nl (val A * 2 ^ n.toNat)).length cap', .bool true]) ∧ w'.ownsRow w.heap.size 33 1 (.slice ao' (nl (val A * 2 ^ n.toNat)).length cap') (nl (val A * 2 ^ n.toNat)).length (ints .u32 (nl (val A * 2 ^ n.toNat))) ∧ Below w.heap.size w w' := by
  obtain ⟨W, p, e1, e2, e3, e4, e5⟩ := split32 n h0 h1
  have hk := nl_len A hA
  exact shl_core A (nl (val A)) n W p (val A * 2 ^ n.toNat) (by unfold Hid; rw [val_nl, e5]) ao cap w h0 h1 e1 e2 e3 e4 (lies_trim hl hA) (small_nl _) (by omega) (trim_at hl hA w (Below.refl _ _))

/-- Shl by less than a limb, of a list of whatever length. -/
theorem shl_far (A : List Nat) (n : Int) (ao : Option Addr) (cap : Nat) (w : World) (h0 : 0 ≤ n) (h1 : n ≤ 31) (hl : Lies w ao cap (ints .u32 A)) (hA : Small A) (hlen : A.length + 1 ≤ 70368744177664) :
    Calls Try.prog 34 #[.slice ao A.length cap, .int .i64 n] w fun e w' => ∃ ao' cap', e = .returned (.tuple #[.slice ao' (nl (val A * 2 ^ n.toNat)).length cap', .bool true]) ∧ w'.ownsRow w.heap.size 33 1 (.slice ao' (nl (val A * 2 ^ n.toNat)).length cap') (nl (val A * 2 ^ n.toNat)).length (ints .u32 (nl (val A * 2 ^ n.toNat))) ∧ Below w.heap.size w w' := by
  obtain ⟨W, p, e1, e2, e3, e4, e5⟩ := split32 n h0 (by omega)
  have hk := nl_len A hA
  exact shl_core A (nl (val A)) n W p (val A * 2 ^ n.toNat) (by unfold Hid; rw [val_nl, e5]) ao cap w h0 (by omega) e1 e2 e3 e4 (lies_trim hl hA) (small_nl _) (by omega) (trim_at hl hA w (Below.refl _ _))

set_option maxRecDepth 20000 in
set_option maxHeartbeats 2000000 in
theorem shr_core (A P : List Nat) (n : Int) (W p V : Nat) (hV : Hid (V = val P / 2 ^ (32 * W + p))) (ao : Option Addr) (cap : Nat) (w : World) (h0 : 0 ≤ n) (h1 : n ≤ 100000) (hw : n / 32 = (W : Int)) (hp : bits BinOp.and IntKind.i64 n 31 = (p : Int)) (hp2 : p < 32) (hw2 : W ≤ 3125)
    (hl : Lies w ao cap (ints .u32 P)) (hP : Small P) (hlen : P.length ≤ 35184372088832)
    (c1 : Calls Try.prog 24 #[.slice ao A.length cap] w fun e w' => e = .returned (.slice ao P.length cap) ∧ w' = w) :
    Calls Try.prog 38 #[.slice ao A.length cap, .int .i64 n] w fun e w' => ∃ ao' cap', e = .returned (.tuple #[.slice ao' (nl V).length cap', .bool true]) ∧ w'.ownsRow w.heap.size 33 1 (.slice ao' (nl V).length cap') (nl V).length (ints .u32 (nl V)) ∧ Below w.heap.size w w' := by
  obtain ⟨i0, hi, hz0, hz1, hz2⟩ := info_parts info32
  by_cases hP0 : P.length ≤ W
  · have hN0 : V = 0 := by rw [hV.out]; exact shr_none P hP W p hP0
    subst hN0
    have e0 := nl_zero
    clear hV hl hP
    go_enter Try.func38, Try.ntmps38
    go_wp2_with (go_at_call 24; refine c1.mono ?_; rintro e w2 ⟨rfl, hw⟩; have hw2 := hw.symm; clear hw; subst hw2)
    go_ret2
    exact ⟨none, 0, by rw [e0]; rfl, by rw [e0]; exact World.ownsRow_nil _ _ _ _, Below.refl _ _⟩
  · obtain ⟨m, hm⟩ : ∃ m, P.length = W + m := ⟨P.length - W, by omega⟩
    have hcap := hl.1
    rw [ints_length] at hcap
    obtain ⟨b1, off1, rfl, hb1, hc1⟩ := hl.2.2.2 (by rw [ints_length]; omega)
    rw [hm] at c1 hcap hlen hP0
    have hcells : ∀ W' : World, Below w.heap.size w W' → ∀ i, i < m → W'.cell? ⟨b1, off1 + W + i, none⟩ = some (.int .u32 ((P.getD (W + i) 0 : Nat) : Int)) := fun W' hb i hi => by
      rw [hb.cell (p := ⟨b1, off1 + W + i, none⟩) hb1, Nat.add_assoc, hc1 (W + i) (by rw [ints_length]; omega), ints_get _ _ _ (by omega)]
    have HC : Hid (∀ W' : World, Below w.heap.size w W' → ∀ i, i < m → W'.cell? ⟨b1, off1 + W + i, none⟩ = some (.int .u32 ((P.getD (W + i) 0 : Nat) : Int))) := hcells
    have HM : Hid (P.length = W + m) := hm
    have hm1 : 1 ≤ m := by omega
    clear hc1 hcells hl hm
    go_enter Try.func38, Try.ntmps38
    go_wp2_with (first
      | (go_at_call 24; refine c1.mono ?_; rintro e w2 ⟨rfl, hw⟩; have hw2 := hw.symm; clear hw; subst hw2)
      | (at_make; refine wpList_make_full _ rfl _ _ 22 rfl w.heap.size 33 i0 (.int .u32 0) 1 Try.underlying22 hi hz0 hz1 .i64 .i64 (m : Int) (m : Int) m rfl rfl rfl rfl (by rw [hz2]; omega) (by unfold maxLen; omega) (Nat.le_refl _) ?_; intro w3 hown hgr))
    have hown0 : w3.ownsRow w.heap.size 33 1 (.slice (some ⟨w.heap.size, 0, none⟩) m m) m (ints .u32 ([] ++ List.replicate (m - 0) 0)) := by
      rw [List.nil_append, ints_zero, Nat.sub_zero, ← toList_madeCells_one]; rw [Nat.mul_one] at hown; exact hown
    have hb3 : Below w.heap.size w w3 := (Below.refl _ _).grown hgr (Nat.le_refl _) (by simp)
    clear hown hgr c1
    generalize hgg : w.heap.size = g at *
    go_loopw [37] (fun i wr => ∃ (k : Nat) (O : List Nat), k ≤ m ∧ i = .int .i64 k ∧ O.length = k ∧ Small O ∧ Hid (val O = V % 4294967296 ^ k) ∧
        wr.ownsRow g 33 1 (.slice (some ⟨g, 0, none⟩) m m) m (ints .u32 (O ++ List.replicate (m - k) 0)) ∧ Below g w wr)
      (fun i _ => m - (intOf i).toNat)
    case atStart => exact ⟨0, [], Nat.zero_le _, rfl, rfl, by intro x hx; simp at hx, by unfold Hid; simp [val]; omega, hown0, hb3⟩
    case round =>
      clear hown0 hb3
      obtain ⟨k, O, hk, rfl, hO, hOs, HV, hown, hb⟩ := hrel
      by_cases hlt : k < m
      · have d1 := HC.out wr hb k hlt
        have hx := getD_small P hP (W + k)
        have hy := getD_small P hP (W + k + 1)
        have d2 : k + 1 < m → wr.cell? ⟨b1, off1 + W + (k + 1), none⟩ = some (.int .u32 ((P.getD (W + k + 1) 0 : Nat) : Int)) := fun hq => HC.out wr hb (k + 1) hq
        have d3 : m ≤ k + 1 → P.getD (W + k + 1) 0 = 0 := fun hq => by have := HM.out; simp [show P.length ≤ W + k + 1 by omega]
        have hdg := shr_digit P hP W k p V hp2 hV
        obtain ⟨x, ex⟩ : ∃ x, P.getD (W + k) 0 = x := ⟨_, rfl⟩
        obtain ⟨y, ey⟩ : ∃ y, P.getD (W + k + 1) 0 = y := ⟨_, rfl⟩
        rw [ex] at d1 hx hdg
        rw [ey] at hy d2 d3 hdg
        obtain ⟨q, hq⟩ : ∃ q, q = (x + 4294967296 * y) / 2 ^ p % 4294967296 := ⟨_, rfl⟩
        rw [← hq] at hdg
        obtain ⟨Y, S, e1, e2, e3, e4, e5⟩ := shr_limb x y p q hx hy hq
        have HN : Hid (val (O ++ [q]) = V % 4294967296 ^ (k + 1)) := shr_step O V k q hO hdg.symm HV
        have hOs2 := small_push O q hOs e5
        have hfr := hown.frozenAt k
        have hcw : wr.cell? ⟨g, k, none⟩ = some (.int .u32 (((O ++ List.replicate (m - k) 0).getD k 0 : Nat) : Int)) := by
          rw [hown.cellAt k (by omega), ints_get _ _ _ (by simp; omega)]
        obtain ⟨hR1, _⟩ := hown.stored k (.int .u32 (q : Int))
        rw [ints_set, fill_step O m k q hO hlt] at hR1
        have hb4 : Below g w (wr.setCell ⟨g, k, none⟩ (.int .u32 (q : Int))) := hb.setCell (by exact Nat.le_refl _) _
        clear hown hb HV hOs ex ey hdg hq HC hV
        by_cases hq2 : k + 1 < m
        · have d4 := d2 hq2
          clear d2 d3 e4
          go_wp2
          go_roundw
          case rel => exact ⟨k + 1, O ++ [q], by omega, by go_num, by simp; omega, hOs2, HN, hR1, hb4⟩
          case measure => simp [intOf]; omega
        · have d5 := e4 (d3 (by omega))
          clear d2 d3 e4 e1 e2 e3
          go_wp2
          go_roundw
          case rel => exact ⟨k + 1, O ++ [q], by omega, by go_num, by simp; omega, hOs2, HN, hR1, hb4⟩
          case measure => simp [intOf]; omega
      · have ek : k = m := by omega
        subst ek
        have hv : val O = V := by rw [HV.out]; exact shr_end P hP W k p V HM.out hV
        rw [Nat.sub_self, List.replicate_zero, List.append_nil] at hown
        have c3 := trim_own O g (some ⟨g, 0, none⟩) k wr (by rw [hO]; exact hown) hOs
        rw [hv, hO] at c3
        clear hown HV hv hV HC hO
        go_wp2_with (go_at_call 24; refine c3.mono ?_; rintro e w5 ⟨rfl, hw, hown5⟩; have hw2 := hw.symm; clear hw; subst hw2)
        go_ret2
        exact ⟨_, _, rfl, by first | exact hown5 | (rw [hgg]; exact hown5), by first | exact hb | (rw [hgg]; exact hb)⟩
/-- Shr: the quotient by a power of two, in new memory. -/
theorem shr_any (A : List Nat) (n : Int) (ao : Option Addr) (cap : Nat) (w : World) (h0 : 0 ≤ n) (h1 : n ≤ 100000) (hl : Lies w ao cap (ints .u32 A)) (hA : Small A) (hlen : A.length ≤ 35184372088832) :
    Calls Try.prog 38 #[.slice ao A.length cap, .int .i64 n] w fun e w' => ∃ ao' cap', e = .returned (.tuple #[.slice ao' (nl (val A / 2 ^ n.toNat)).length cap', .bool true]) ∧ w'.ownsRow w.heap.size 33 1 (.slice ao' (nl (val A / 2 ^ n.toNat)).length cap') (nl (val A / 2 ^ n.toNat)).length (ints .u32 (nl (val A / 2 ^ n.toNat))) ∧ Below w.heap.size w w' := by
  obtain ⟨W, p, e1, e2, e3, e4, e5⟩ := split32 n h0 h1
  have hk := nl_len A hA
  exact shr_core A (nl (val A)) n W p (val A / 2 ^ n.toNat) (by unfold Hid; rw [val_nl, e5]) ao cap w h0 h1 e1 e2 e3 e4 (lies_trim hl hA) (small_nl _) (by omega) (trim_at hl hA w (Below.refl _ _))
end Go.Proofs.Ytipmdjfhailfbaa.ShiftL
