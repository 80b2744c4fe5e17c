/- What a step of Lehmer's way, and one of Euclid's, do to two numbers. -/
import Derived.Test.YtefckmkcbgckfaaGreatDoorSetAM
import Derived.Test.YtefckmkcbgckfaaGreatDoorSetAO
import Derived.Deep.RegionHeld3
namespace Go.Proofs.YtefckmkcbgckfaaGreatDoor.NearL
open Go.RowKit Mem LimbNum Limb1 Limb2 Limb3 Limb4 NatNum DivNum NatL GcdNum GcdL HighL AheadL DivAll

theorem bitLen_le (x : Nat) (h : x ≠ 0) : 2 ^ (bitLen x - 1) ≤ x := by
  unfold bitLen
  rw [if_neg h, Nat.add_sub_cancel]
  exact Nat.log2_self_le h
/-- Two neighbours that were seen on the highest bits, or none. -/
def Seen (x y fx fy sx sy : Nat) (ev : Bool) : Prop := (fx = 0 ∧ fy = 0) ∨ ∃ M, 0 < M ∧ x / M < 18446744073709551616 ∧ Ret (x / M) (y / M) fx fy sx sy ev
theorem ahead_any (x y : Nat) (ox oy : Option Addr) (cx cy : Nat) (w : World) (h1 : Lies w ox cx (ints .u32 (nl x))) (h2 : Lies w oy cy (ints .u32 (nl y))) (hxy : y ≤ x) (h3 : 3 ≤ (nl x).length) (hl : (nl x).length ≤ 35184372088832) :
    Calls Tryz.prog 82 #[.slice ox (nl x).length cx, .slice oy (nl y).length cy] w fun e w' => ∃ (fx fy sx sy : Nat) (ev : Bool), e = .returned (.tuple #[.agg #[.int .u64 (fx : Int), .int .u64 (fy : Int)], .agg #[.int .u64 (sx : Int), .int .u64 (sy : Int)], .bool ev]) ∧ Seen x y fx fy sx sy ev ∧ Below w.heap.size w w' := by
  have hx0 : x ≠ 0 := by rintro rfl; rw [nl_zero] at h3; simp at h3
  have hlast := nl_last x hx0
  have hB := bits_of x hx0
  have hsm := bl32 _ (getD_small (nl x) (small_nl _) ((nl x).length - 1))
  have hpos : 1 ≤ bitLen ((nl x).getD ((nl x).length - 1) 0) := by
    unfold bitLen; rw [if_neg hlast.2]; omega
  obtain ⟨n, hn⟩ : ∃ n, n = (nl x).length := ⟨_, rfl⟩
  obtain ⟨L, hL⟩ : ∃ L, L = bitLen x := ⟨_, rfl⟩
  obtain ⟨t, ht⟩ : ∃ t, t = bitLen ((nl x).getD ((nl x).length - 1) 0) := ⟨_, rfl⟩
  have hlo := bitLen_le x hx0
  have hup := fromL_lt (nb x)
  rw [fromL_nb, len_nb, ← hL] at hup
  rw [← hL] at hlo
  rw [← hL, ← ht, ← hn] at hB
  rw [← ht] at hsm hpos
  obtain ⟨s, hs⟩ : ∃ s, s = 32 * n - L := ⟨_, rfl⟩
  have hs31 : s ≤ 31 := by omega
  have hLs : 32 * n - s = L := by omega
  have hyl := nl_mono y x hxy
  have cB := fun (W : World) (hb : Below w.heap.size w W) => bits_any (nl x) ox cx W (h1.below hb (Nat.le_refl _)) (small_nl _) (by omega)
  rw [val_nl, ← hL] at cB
  have cX := fun (W : World) (hb : Below w.heap.size w W) => highest_any (nl x) n s ox cx W (h1.below hb (Nat.le_refl _)) (small_nl _) (by omega) (by omega) (by omega) hs31 (by rw [val_nl, hLs]; exact hup)
  have cY := fun (W : World) (hb : Below w.heap.size w W) => highest_any (nl y) n s oy cy W (h2.below hb (Nat.le_refl _)) (small_nl _) (by omega) (by omega) (by omega) hs31 (by rw [val_nl, hLs]; exact Nat.lt_of_le_of_lt hxy hup)
  rw [val_nl] at cX cY
  rw [← hn] at cB cX ⊢
  obtain ⟨h, hh⟩ : ∃ h, h = 32 * (n - 2) - s := ⟨_, rfl⟩
  rw [← hh] at cX cY
  have hM : 0 < 2 ^ h := Nat.pow_pos (by omega)
  have ha1 : x / 2 ^ h < 18446744073709551616 := by
    apply Nat.div_lt_of_lt_mul
    rw [show (18446744073709551616 : Nat) = 2 ^ 64 from rfl, ← Nat.pow_add, show h + 64 = L by omega]
    exact hup
  have ha0 : 1 ≤ x / 2 ^ h := (Nat.one_le_div_iff hM).2 (Nat.le_trans (Nat.pow_le_pow_right (by omega) (by omega)) hlo)
  have hab : y / 2 ^ h ≤ x / 2 ^ h := Nat.div_le_div_right hxy
  refine (ahead_core (nl x) (nl y) n s _ _ _ ox oy cx cy w hn.symm (by omega) cB (by omega) hs31 cX cY (x / 2 ^ h) (y / 2 ^ h) rfl rfl (Int.natCast_nonneg _) (by omega) (by omega) (by omega)).mono ?_
  rintro e w' ⟨fx, fy, sx, sy, ev, rfl, hr, hb⟩
  refine ⟨fx, fy, sx, sy, ev, rfl, ?_, hb⟩
  rcases hr with hr | hr
  · exact .inl hr
  · exact .inr ⟨2 ^ h, hM, ha1, hr⟩
/-- What a step does: the sum falls, the divisors stay. -/
structure Less (x y X Y : Nat) : Prop where
  le : Y ≤ X
  top : X ≤ x
  less : X + Y < x + y
  gcd : Nat.gcd X Y = Nat.gcd x y
theorem less_near {x y X Y : Nat} (h : Near x y X Y) (hy : 1 ≤ y) : Less x y X Y := ⟨h.le, h.top, by have := h.less; omega, h.gcd⟩
theorem less_euclid {x y : Nat} (h : y ≤ x) (hy : 1 ≤ y) : Less x y y (x % y) := by
  have h1 := Nat.mod_lt x hy
  exact ⟨by omega, h, by omega, by rw [Nat.gcd_comm, ← Nat.gcd_rec, Nat.gcd_comm]⟩
theorem euclid_is (x y base : Nat) (ox oy : Option Addr) (cx cy : Nat) (w : World) (h1 : Lies w ox cx (ints .u32 (nl x))) (h2 : w.ownsRow base 48 1 (.slice oy (nl y).length cy) (nl y).length (ints .u32 (nl y))) (hbase : base ≤ w.heap.size) (hxy : y ≤ x) (hy : 1 ≤ y) (hl : (nl x).length ≤ 35184372088832) :
    Calls Tryz.prog 68 #[.slice ox (nl x).length cx, .slice oy (nl y).length cy] w fun e w' => ∃ (o2 : Option Addr) (c2 : Nat), e = .returned (.tuple #[.slice oy (nl y).length cy, .slice o2 (nl (x % y)).length c2]) ∧
      w'.ownsRow base 48 1 (.slice oy (nl y).length cy) (nl y).length (ints .u32 (nl y)) ∧ w'.ownsRow base 48 1 (.slice o2 (nl (x % y)).length c2) (nl (x % y)).length (ints .u32 (nl (x % y))) ∧ Below w.heap.size w w' := by
  have hyl := nl_mono y x hxy
  have cD := divmod_any (nl x) (nl y) ox oy cx cy w h1 (lies_of_owns h2) (small_nl _) (small_nl _) (by rw [val_nl]; omega) (by omega) (by omega)
  rw [val_nl, val_nl] at cD
  have H2 : Hid (w.ownsRow base 48 1 (.slice oy (nl y).length cy) (nl y).length (ints .u32 (nl y))) := h2
  clear h1 h2 hyl hl
  go_enter Tryz.func68, Tryz.ntmps68
  go_wp2_with (go_at_call 51; refine cD.mono ?_; rintro e w2 ⟨o1, c1, o2, c2, rfl, hown1, hown2, hb2⟩)
  go_ret2
  exact ⟨_, _, rfl, keep H2.out hb2, owns_base hown2 hbase, hb2⟩
theorem euclid_any (x y base : Nat) (ox oy : Option Addr) (cx cy : Nat) (w : World) (h1 : Lies w ox cx (ints .u32 (nl x))) (h2 : w.ownsRow base 48 1 (.slice oy (nl y).length cy) (nl y).length (ints .u32 (nl y))) (hbase : base ≤ w.heap.size) (hxy : y ≤ x) (hy : 1 ≤ y) (hl : (nl x).length ≤ 35184372088832) :
    Calls Tryz.prog 68 #[.slice ox (nl x).length cx, .slice oy (nl y).length cy] w fun e w' => ∃ (X Y : Nat) (o1 o2 : Option Addr) (c1 c2 : Nat), e = .returned (.tuple #[.slice o1 (nl X).length c1, .slice o2 (nl Y).length c2]) ∧ Less x y X Y ∧
      w'.ownsRow base 48 1 (.slice o1 (nl X).length c1) (nl X).length (ints .u32 (nl X)) ∧ w'.ownsRow base 48 1 (.slice o2 (nl Y).length c2) (nl Y).length (ints .u32 (nl Y)) ∧ Below w.heap.size w w' := by
  refine (euclid_is x y base ox oy cx cy w h1 h2 hbase hxy hy hl).mono ?_
  rintro e w' ⟨o2, c2, rfl, k1, k2, k3⟩
  exact ⟨y, x % y, _, _, _, _, rfl, less_euclid hxy hy, k1, k2, k3⟩
theorem seen_even {x y fx fy sx sy : Nat} (h : Seen x y fx fy sx sy true) (hf : 1 ≤ fy) : (fx < 4294967296 ∧ fy < 4294967296 ∧ sx < 4294967296 ∧ sy < 4294967296) ∧ fy * y ≤ fx * x ∧ sx * x ≤ sy * y ∧ Near x y (fx * x - fy * y) (sy * y - sx * x) := by
  rcases h with h | ⟨M, hM, h0, hR⟩
  · omega
  · obtain ⟨a, b, hs, c1, c2⟩ := hR.out
    have k1 := hs.small c1 h0
    have k2 := hs.small2 c1 h0
    have := hR.even (x := x) (y := y) (M := M) (xr := x % M) (yr := y % M) (by rw [Nat.mul_comm]; exact (Nat.div_add_mod x M).symm) (by rw [Nat.mul_comm]; exact (Nat.div_add_mod y M).symm) (Nat.le_of_lt (Nat.mod_lt _ hM)) (Nat.le_of_lt (Nat.mod_lt _ hM)) hf
    exact ⟨⟨k2.1, k2.2, k1.1, k1.2⟩, this⟩
theorem seen_odd {x y fx fy sx sy : Nat} (h : Seen x y fx fy sx sy false) (hf : 1 ≤ fy) : (fx < 4294967296 ∧ fy < 4294967296 ∧ sx < 4294967296 ∧ sy < 4294967296) ∧ fx * x ≤ fy * y ∧ sy * y ≤ sx * x ∧ Near x y (fy * y - fx * x) (sx * x - sy * y) := by
  rcases h with h | ⟨M, hM, h0, hR⟩
  · omega
  · obtain ⟨a, b, hs, c1, c2⟩ := hR.out
    have k1 := hs.small c1 h0
    have k2 := hs.small2 c1 h0
    have := hR.odd (x := x) (y := y) (M := M) (xr := x % M) (yr := y % M) (by rw [Nat.mul_comm]; exact (Nat.div_add_mod x M).symm) (by rw [Nat.mul_comm]; exact (Nat.div_add_mod y M).symm) (Nat.le_of_lt (Nat.mod_lt _ hM)) (Nat.le_of_lt (Nat.mod_lt _ hM)) hf
    exact ⟨⟨k2.1, k2.2, k1.1, k1.2⟩, this⟩
theorem differ_nl (a b p q : Nat) (ox oy : Option Addr) (cx cy : Nat) (w : World) (h1 : Lies w ox cx (ints .u32 (nl a))) (h2 : Lies w oy cy (ints .u32 (nl b))) (hp : p < 4294967296) (hq : q < 4294967296) (hla : (nl a).length ≤ 35184372088832) (hlb : (nl b).length ≤ 35184372088832) (hle : q * b ≤ p * a) (hlt : p * a - q * b ≤ a ∨ p * a - q * b ≤ b) :
    Calls Tryz.prog 83 #[.slice ox (nl a).length cx, .int .u64 (p : Int), .slice oy (nl b).length cy, .int .u64 (q : Int)] w fun e w' => ∃ o c, e = .returned (.slice o (nl (p * a - q * b)).length c) ∧
      w'.ownsRow w.heap.size 48 1 (.slice o (nl (p * a - q * b)).length c) (nl (p * a - q * b)).length (ints .u32 (nl (p * a - q * b))) ∧ Below w.heap.size w w' := by
  have va := val_lt (nl a) (small_nl _)
  have vb := val_lt (nl b) (small_nl _)
  rw [val_nl] at va vb
  have m1 : (4294967296 : Nat) ^ (nl a).length ≤ 4294967296 ^ (max (nl a).length (nl b).length) := Nat.pow_le_pow_right (by omega) (by omega)
  have m2 : (4294967296 : Nat) ^ (nl b).length ≤ 4294967296 ^ (max (nl a).length (nl b).length) := Nat.pow_le_pow_right (by omega) (by omega)
  have := differ_any (nl a) (nl b) p q (max (nl a).length (nl b).length) ox oy cx cy w h1 h2 (small_nl _) (small_nl _) hp hq rfl (by omega) (by rw [val_nl, val_nl]; exact hle) (by rw [val_nl, val_nl]; rcases hlt with h | h <;> omega)
  rwa [val_nl, val_nl] at this
theorem four {w1 W W' : World} {a b c d : Int} (hW : W.heap = ((w1.alloc (pair a b)).alloc (pair c d)).heap) (hb : Below W.heap.size W W') :
    W'.cell? ⟨w1.heap.size, 0, none⟩ = some (.int .u64 a) ∧ W'.cell? ⟨w1.heap.size, 1, none⟩ = some (.int .u64 b) ∧ W'.cell? ⟨w1.heap.size + 1, 0, none⟩ = some (.int .u64 c) ∧ W'.cell? ⟨w1.heap.size + 1, 1, none⟩ = some (.int .u64 d) := by
  have z1 : (w1.alloc (pair a b)).heap.size = w1.heap.size + 1 := by simp
  have z : W.heap.size = w1.heap.size + 1 + 1 := by rw [hW]; simp
  have e0 : W.heap[w1.heap.size]? = some (pair a b) := by rw [hW, heap_alloc_old _ _ (by omega), heap_alloc_new]
  have e : W.heap[w1.heap.size + 1]? = some (pair c d) := by rw [hW, ← z1, heap_alloc_new]
  rw [hb.cell (p := ⟨w1.heap.size + 1, 0, none⟩) (by show w1.heap.size + 1 < _; omega), hb.cell (p := ⟨w1.heap.size + 1, 1, none⟩) (by show w1.heap.size + 1 < _; omega), hb.cell (p := ⟨w1.heap.size, 0, none⟩) (by show w1.heap.size < _; omega), hb.cell (p := ⟨w1.heap.size, 1, none⟩) (by show w1.heap.size < _; omega)]
  exact ⟨cell0 e0, cell1 e0, cell0 e, cell1 e⟩
set_option maxRecDepth 20000 in
set_option maxHeartbeats 8000000 in
theorem nearer_any (x y base : Nat) (ox oy : Option Addr) (cx cy : Nat) (w : World) (h1 : Lies w ox cx (ints .u32 (nl x))) (h2 : w.ownsRow base 48 1 (.slice oy (nl y).length cy) (nl y).length (ints .u32 (nl y))) (hbase : base ≤ w.heap.size) (hxy : y ≤ x) (h3 : 3 ≤ (nl y).length) (hl : (nl x).length ≤ 35184372088832) :
    Calls Tryz.prog 67 #[.slice ox (nl x).length cx, .slice oy (nl y).length cy] w fun e w' => ∃ (X Y : Nat) (o1 o2 : Option Addr) (c1 c2 : Nat), e = .returned (.tuple #[.slice o1 (nl X).length c1, .slice o2 (nl Y).length c2]) ∧ Less x y X Y ∧
      w'.ownsRow base 48 1 (.slice o1 (nl X).length c1) (nl X).length (ints .u32 (nl X)) ∧ w'.ownsRow base 48 1 (.slice o2 (nl Y).length c2) (nl Y).length (ints .u32 (nl Y)) ∧ Below w.heap.size w w' := by
  have hyl := nl_mono y x hxy
  have hy1 : 1 ≤ y := by rcases Nat.eq_zero_or_pos y with h | h; · rw [h, nl_zero] at h3; simp at h3
                         · exact h
  have l2 := lies_of_owns h2
  have cA := ahead_any x y ox oy cx cy w h1 l2 hxy (by omega) hl
  have cE := fun (W : World) (hb : Below w.heap.size w W) => euclid_any x y base ox oy cx cy W (h1.below hb (Nat.le_refl _)) (keep h2 hb) (Nat.le_trans hbase hb.size) hxy hy1 hl
  have cD := fun (a b p q : Nat) => differ_nl a b p q
  have H : Hid ((nl y).length ≤ (nl x).length ∧ (nl x).length ≤ 35184372088832) := ⟨hyl, hl⟩
  have H2 : Hid (w.ownsRow base 48 1 (.slice oy (nl y).length cy) (nl y).length (ints .u32 (nl y))) := h2
  clear cD hyl hl h2 h3
  go_enter Tryz.func67, Tryz.ntmps67
  go_wp2_with (first
    | (go_at_call 82; refine cA.mono ?_; rintro e w1 ⟨fx, fy, sx, sy, ev, rfl, hR, hb1⟩; have HR : Hid (Seen x y fx fy sx sy ev) := hR; clear hR; have hP := (hb1.alloc (o := pair fx fy) hb1.size).alloc (o := pair sx sy) (by have := hb1.size; simp; omega))
    | (go_at_call 68; refine (cE _ ?_).mono ?_; exact hP; rintro e w2 ⟨X, Y, o1, o2, c1, c2, rfl, hL, hown1, hown2, hb2⟩))
  · go_ret2
    exact ⟨X, Y, _, _, _, _, rfl, hL, hown1, hown2, bt hP hb2⟩
  · have hfy : ((fy : Int) == 0) = false := by assumption
    have hev : ev = true := by assumption
    subst hev
    have hf : 1 ≤ fy := by simp at hfy; omega
    obtain ⟨⟨f1, f2, f3, f4⟩, k1, k2, hN⟩ := seen_even HR.out hf
    have cD1 := fun (W : World) (hb : Below w.heap.size w W) => differ_nl x y fx fy ox oy cx cy W (h1.below hb (Nat.le_refl _)) (l2.below hb (Nat.le_refl _)) f1 f2 H.out.2 (Nat.le_trans H.out.1 H.out.2) k1 (.inl hN.top)
    have cD2 := fun (W : World) (hb : Below w.heap.size w W) => differ_nl y x sy sx oy ox cy cx W (l2.below hb (Nat.le_refl _)) (h1.below hb (Nat.le_refl _)) f4 f3 (Nat.le_trans H.out.1 H.out.2) H.out.2 k2 (.inr (Nat.le_trans hN.le hN.top))
    have HL : Hid (Less x y (fx * x - fy * y) (sy * y - sx * x)) := less_near hN hy1
    generalize fx * x - fy * y = X at *
    generalize sy * y - sx * x = Y at *
    clear hN k1 k2 f1 f2 f3 f4 hf hfy cA cE HR
    go_region_held3 (fun w' => w'.cell? ⟨w1.heap.size, 0, none⟩ = some (.int .u64 (fx : Int)) ∧ w'.cell? ⟨w1.heap.size, 1, none⟩ = some (.int .u64 (fy : Int)) ∧ w'.cell? ⟨w1.heap.size + 1, 0, none⟩ = some (.int .u64 (sx : Int)) ∧ w'.cell? ⟨w1.heap.size + 1, 1, none⟩ = some (.int .u64 (sy : Int)))
      (first | exact four (W := World.drew _) rfl (Below.refl _ _) | exact four (by rfl) hb5 | exact four (by rfl) (bt hb5 hb6)) (first
      | (go_at_call_of 83 (Value.int IntKind.u64 (fx : Int)); refine (cD1 _ ?_).mono ?_; exact below_drewN hP _; rintro e w5 ⟨o5, p5, rfl, hown5, hb5⟩)
      | (go_at_call_of 83 (Value.int IntKind.u64 (sy : Int)); refine (cD2 _ ?_).mono ?_; exact bt (below_drewN hP _) hb5; rintro e w6 ⟨o6, p6, rfl, hown6, hb6⟩))
    all_goals go_wp2
    all_goals go_ret2
    all_goals exact ⟨X, Y, _, _, _, _, rfl, HL.out, owns_base (keep hown5 hb6) (Nat.le_trans hbase (below_drewN hP _).size), owns_base hown6 (Nat.le_trans hbase (bt (below_drewN hP _) hb5).size), bt (bt (below_drewN hP _) hb5) hb6⟩
  · have hfy : ((fy : Int) == 0) = false := by assumption
    have hev : ev = false := by assumption
    subst hev
    have hf : 1 ≤ fy := by simp at hfy; omega
    obtain ⟨⟨f1, f2, f3, f4⟩, k1, k2, hN⟩ := seen_odd HR.out hf
    have cD1 := fun (W : World) (hb : Below w.heap.size w W) => differ_nl y x fy fx oy ox cy cx W (l2.below hb (Nat.le_refl _)) (h1.below hb (Nat.le_refl _)) f2 f1 (Nat.le_trans H.out.1 H.out.2) H.out.2 k1 (.inr hN.top)
    have cD2 := fun (W : World) (hb : Below w.heap.size w W) => differ_nl x y sx sy ox oy cx cy W (h1.below hb (Nat.le_refl _)) (l2.below hb (Nat.le_refl _)) f3 f4 H.out.2 (Nat.le_trans H.out.1 H.out.2) k2 (.inl (Nat.le_trans hN.le hN.top))
    have HL : Hid (Less x y (fy * y - fx * x) (sx * x - sy * y)) := less_near hN hy1
    generalize fy * y - fx * x = X at *
    generalize sx * x - sy * y = Y at *
    clear hN k1 k2 f1 f2 f3 f4 hf hfy cA cE HR
    go_region_held3 (fun w' => w'.cell? ⟨w1.heap.size, 0, none⟩ = some (.int .u64 (fx : Int)) ∧ w'.cell? ⟨w1.heap.size, 1, none⟩ = some (.int .u64 (fy : Int)) ∧ w'.cell? ⟨w1.heap.size + 1, 0, none⟩ = some (.int .u64 (sx : Int)) ∧ w'.cell? ⟨w1.heap.size + 1, 1, none⟩ = some (.int .u64 (sy : Int)))
      (first | exact four (W := World.drew _) rfl (Below.refl _ _) | exact four (by rfl) hb5 | exact four (by rfl) (bt hb5 hb6)) (first
      | (go_at_call_of 83 (Value.int IntKind.u64 (fx : Int)); refine (cD1 _ ?_).mono ?_; exact below_drewN hP _; rintro e w5 ⟨o5, p5, rfl, hown5, hb5⟩)
      | (go_at_call_of 83 (Value.int IntKind.u64 (sy : Int)); refine (cD2 _ ?_).mono ?_; exact bt (below_drewN hP _) hb5; rintro e w6 ⟨o6, p6, rfl, hown6, hb6⟩))
    all_goals go_wp2
    all_goals go_ret2
    all_goals exact ⟨X, Y, _, _, _, _, rfl, HL.out, owns_base (keep hown5 hb6) (Nat.le_trans hbase (below_drewN hP _).size), owns_base hown6 (Nat.le_trans hbase (bt (below_drewN hP _) hb5).size), bt (bt (below_drewN hP _) hb5) hb6⟩
end Go.Proofs.YtefckmkcbgckfaaGreatDoor.NearL
