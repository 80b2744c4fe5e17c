/- RatOrder: order, lesser and greater one, whole numbers and floors are right: the walk; RatInts: it is told rightly which rational numbers are ints: the walk. -/
import Derived.Test.YtfkaeehbnnhfoaaSetAP
import Derived.Test.YtfkaeehbnnhfoaaSetAN
/- RatOrder: order, lesser and greater one, whole numbers and floors are right: the walk. -/
namespace Go.Proofs.Ytfkaeehbnnhfoaa.OrW
open Go.RowKit Mem LimbNum Limb1 RatL RatM RatN RatF RatW RefR RefT RefU RefI Law5 Aw5 Mk5 Bo5 BoN BoZ MulW MulL InvL DivL QNum CmpL CmqL RefX RefY RefZ FloL RFlo

theorem nl_few6 {n : Nat} (h : (nb n).length ≤ 256) : (nl n).length ≤ 1000000 := by
  have h1 := fromL_lt (nb n)
  rw [fromL_nb] at h1
  have h2 : n < 4294967296 ^ 8 := Nat.lt_of_lt_of_le h1 (Nat.pow_le_pow_right (by omega) h)
  have := nl_lt 8 n h2
  omega
theorem cell_al {w : World} {a : Addr} {v : Value} {o : Obj} (h : w.cell? a = some v) : (w.alloc o).cell? a = some v := by
  rw [World.cell?_alloc_lt _ _ _ (World.block_lt_of_cell? w a h)]; exact h
theorem _root_.Go.Proofs.Ytfkaeehbnnhfoaa.QNum.RL.off3 {W : World} {g g' : Nat} {b : Bool} {n d : Nat} {A L : Int} {p : Option Addr} {p' : Bool} {a1 a2 : Option Addr} {l1 k1 l2 k2 : Nat} (h : RL W g b n d A L p) (hk : W.heap[g']? = some (.cells #[.bool p', .slice a1 l1 k1, .slice a2 l2 k2] 31)) (hne : g ≠ g') (x y z : Value) :
    RL (((W.setCell ⟨g', 0, none⟩ x).setCell ⟨g', 1, none⟩ y).setCell ⟨g', 2, none⟩ z) g b n d A L p :=
  ⟨(set3_off W g' x y z g hne).trans h.box, rat_off3 h.is hk (set3_off W g' x y z) (set3_size _ _ _ _ _)⟩
theorem _root_.Go.Proofs.Ytfkaeehbnnhfoaa.QNum.QL.off3 {W : World} {g g' : Nat} {b : Bool} {n d : Nat} {o1 : Option Addr} {c1 : Nat} {o2 : Option Addr} {c2 : Nat} {a b' c : Value} (h : QL W g b n d o1 c1 o2 c2) (hk : W.heap[g']? = some (.cells #[a, b', c] 31)) (hne : g ≠ g') (x y z : Value) :
    QL (((W.setCell ⟨g', 0, none⟩ x).setCell ⟨g', 1, none⟩ y).setCell ⟨g', 2, none⟩ z) g b n d o1 c1 o2 c2 :=
  ⟨(set3_off W g' x y z g hne).trans h.box, IsRef.off h.is hk (set3_off W g' x y z)⟩
theorem cmp_zero {b1 b2 : Bool} {n1 d1 n2 d2 : Nat} (h1 : Low b1 n1 d1) (h2 : Low b2 n2 d2) (h : cmpQ b1 n1 d1 b2 n2 d2 = 0) : b1 = b2 ∧ n1 = n2 ∧ d1 = d2 := by
  have p1 := h1.pos
  have p2 := h2.pos
  have z1 : n1 * d2 = 0 ↔ n1 = 0 := by rw [Nat.mul_eq_zero]; omega
  have z2 : n2 * d1 = 0 ↔ n2 = 0 := by rw [Nat.mul_eq_zero]; omega
  have e : sv b1 (n1 * d2) = sv b2 (n2 * d1) := by
    unfold cmpQ cmpI at h
    split at h
    · omega
    · split at h
      · assumption
      · omega
  have key : b1 = b2 ∧ n1 * d2 = n2 * d1 := by
    unfold sv at e
    have s1 := h1.sg
    have s2 := h2.sg
    generalize n1 * d2 = X at *
    generalize n2 * d1 = Y at *
    cases b1 <;> cases b2 <;> simp at e s1 s2 ⊢
    · omega
    · have : Y = 0 := by omega
      exact absurd (z2.1 this) s2
    · have : X = 0 := by omega
      exact absurd (z1.1 this) s1
    · omega
  exact ⟨key.1, uniq n1 d1 n2 d2 h1.one h2.one p1 key.2⟩
theorem flo_bits (b : Bool) (n d k : Nat) (h : (nb n).length ≤ k) : (nb (floN b n d)).length ≤ k + 1 := by
  have : floN b n d ≤ n + 0 + 1 := by
    have := Nat.div_le_self n d
    unfold floN; split <;> omega
  refine Nat.le_trans (nb_mono _ _ this) ?_
  by_cases hk : k = 0
  · subst hk
    have : n = 0 := by
      by_cases e : n = 0
      · exact e
      · have := nb_pos e
        rw [this] at h; simp at h
    subst this
    exact nb_lt 1 1 (by decide)
  · exact sum_bits n 1 k h (Nat.le_trans (nb_lt 1 1 (by decide)) (by omega))
set_option maxRecDepth 20000 in
set_option maxHeartbeats 2000000 in
theorem law (b1 b2 : Bool) (SA1 SB1 SA2 SB2 : Value) (w : World)
    (cB1 : ∀ W, Below w.heap.size w W → Calls Try.prog 9 #[.agg #[.bool b1, SA1, SB1]] W fun e w' => ∃ v q b2 n d, e = .returned (.tuple #[v, q]) ∧ IsRat w' v b2 n d ∧ IsRef w' q b2 n d ∧ ((nb n).length ≤ 256 ∧ (nb d).length ≤ 256) ∧ Below W.heap.size W w')
    (cB2 : ∀ W, Below w.heap.size w W → Calls Try.prog 9 #[.agg #[.bool b2, SA2, SB2]] W fun e w' => ∃ v q b2 n d, e = .returned (.tuple #[v, q]) ∧ IsRat w' v b2 n d ∧ IsRef w' q b2 n d ∧ ((nb n).length ≤ 256 ∧ (nb d).length ≤ 256) ∧ Below W.heap.size W w') :
    Calls Try.prog 6 #[.agg #[.bool b1, SA1, SB1], .agg #[.bool b2, SA2, SB2]] w fun e w' => e = .returned (.bool true) ∧ Below w.heap.size w w' := by
  obtain ⟨W0, eW0⟩ : ∃ W0 : World, (w.alloc (.cells #[.bool b1, SA1, SB1] 24)).alloc (.cells #[.bool b2, SA2, SB2] 24) = W0 := ⟨_, rfl⟩
  have hb0 : Below w.heap.size w W0 := by rw [← eW0]; exact ((Below.refl _ _).alloc (Nat.le_refl _) _).alloc (by simp) _
  have z1 : (w.alloc (.cells #[.bool b1, SA1, SB1] 24)).heap.size = w.heap.size + 1 := by simp
  have k0 : W0.heap[w.heap.size]? = some (.cells #[.bool b1, SA1, SB1] 24) := by rw [← eW0, heap_alloc_old _ _ (by omega)]; exact heap_alloc_new _ _
  have k1 : W0.heap[w.heap.size + 1]? = some (.cells #[.bool b2, SA2, SB2] 24) := by rw [← eW0, ← z1]; exact heap_alloc_new _ _
  have c3 : ∀ {W : World} {g : Nat} {a b c : Value} {t : TypeId}, W.heap[g]? = some (.cells #[a, b, c] t) → W.cell? ⟨g, 0, none⟩ = some a ∧ W.cell? ⟨g, 1, none⟩ = some b ∧ W.cell? ⟨g, 2, none⟩ = some c := fun {W g a b c t} h => by
    refine ⟨?_, ?_, ?_⟩ <;> simp [World.cell?, h]
  obtain ⟨a0, a1, a2⟩ := c3 k0
  have HK1 : Hid (W0.heap[w.heap.size + 1]? = some (.cells #[.bool b2, SA2, SB2] 24)) := k1
  have HC3 : Hid (∀ {W : World} {g : Nat} {a b c : Value} {t : TypeId}, W.heap[g]? = some (.cells #[a, b, c] t) → W.cell? ⟨g, 0, none⟩ = some a ∧ W.cell? ⟨g, 1, none⟩ = some b ∧ W.cell? ⟨g, 2, none⟩ = some c) := c3
  have EW : Hid ((w.alloc (.cells #[.bool b1, SA1, SB1] 24)).alloc (.cells #[.bool b2, SA2, SB2] 24) = W0) := eW0
  have cB1' := cB1 W0 hb0
  clear eW0 z1 k0 k1 c3 cB1
  go_enter Try.func6, Try.ntmps6
  go_upto_region 1 with fail
  rw [EW.out]
  go_upto_region 2 with (go_at_call 9; refine cB1'.mono ?_; rintro e w1 ⟨v1, q1, x1, n1, d1, rfl, R1, Q1, lim1, hb1⟩; obtain ⟨VA1, VL1, vp1, rfl⟩ := R1.shape; obtain ⟨o1, m1, o2, m2, rfl, O1, O2⟩ := Q1)
  obtain ⟨W1, eW1, B1, kx, kp⟩ := two_new w1 (.cells #[.bool x1, .int .u64 VA1, .int .u64 VL1, .pointer vp1] 28) (.cells #[.bool x1, .slice o1 (nb n1).length m1, .slice o2 (nb d1).length m2] 31)
  rw [eW1]
  have X1 : Hid (RL W1 w1.heap.size x1 n1 d1 VA1 VL1 vp1) := ⟨kx, R1.below B1⟩
  have P1 : Hid (QL W1 (w1.heap.size + 1) x1 n1 d1 o1 m1 o2 m2) := ⟨kp, ⟨_, _, _, _, rfl, keep O1 B1, keep O2 B1⟩⟩
  have C1 : Hid (Below w.heap.size w W1) := bt (bt hb0 hb1) B1
  obtain ⟨y0, y1, y2⟩ := HC3.out (box_kept HK1.out (bt hb1 B1) (in_heap HK1.out))
  have cB2' := cB2 W1 C1.out
  generalize w1.heap.size = gx at *
  clear eW1 kx kp B1 R1 O1 O2 cB1' cB2 a0 a1 a2 HC3 EW hb1 hb0 HK1
  go_upto_region 3 with (go_at_call 9; refine cB2'.mono ?_; rintro e w2 ⟨v2, q2, x2, n2, d2, rfl, R2, Q2, lim2, hb2⟩; obtain ⟨VA2, VL2, vp2, rfl⟩ := R2.shape; obtain ⟨o3, m3, o4, m4, rfl, O3, O4⟩ := Q2)
  obtain ⟨W2, eW2, B2, ky, kq⟩ := two_new w2 (.cells #[.bool x2, .int .u64 VA2, .int .u64 VL2, .pointer vp2] 28) (.cells #[.bool x2, .slice o3 (nb n2).length m3, .slice o4 (nb d2).length m4] 31)
  rw [eW2]
  have X2 : Hid (RL W2 gx x1 n1 d1 VA1 VL1 vp1) := X1.out.kept (bt hb2 B2)
  have P2 : Hid (QL W2 (gx + 1) x1 n1 d1 o1 m1 o2 m2) := P1.out.kept (bt hb2 B2)
  have Y2 : Hid (RL W2 w2.heap.size x2 n2 d2 VA2 VL2 vp2) := ⟨ky, R2.below B2⟩
  have Z2 : Hid (QL W2 (w2.heap.size + 1) x2 n2 d2 o3 m3 o4 m4) := ⟨kq, ⟨_, _, _, _, rfl, keep O3 B2, keep O4 B2⟩⟩
  have C2 : Hid (Below w.heap.size w W2) := bt (bt C1.out hb2) B2
  generalize w2.heap.size = gy at *
  clear eW2 ky kq B2 R2 O3 O4 cB2' y0 y1 y2 hb2 X1 P1 C1
  have L1 : Hid ((nb n1).length ≤ 256 ∧ (nb d1).length ≤ 256) := lim1
  have L2 : Hid ((nb n2).length ≤ 256 ∧ (nb d2).length ≤ 256) := lim2
  clear lim1 lim2
  obtain ⟨N1, eN1⟩ : ∃ x, Hid ((nb n1).length = x) := ⟨_, rfl⟩
  obtain ⟨D1, eD1⟩ : ∃ x, Hid ((nb d1).length = x) := ⟨_, rfl⟩
  obtain ⟨N2, eN2⟩ : ∃ x, Hid ((nb n2).length = x) := ⟨_, rfl⟩
  obtain ⟨D2, eD2⟩ : ∃ x, Hid ((nb d2).length = x) := ⟨_, rfl⟩
  have l1 := nl_few6 L1.out.1
  have l2 := nl_few6 L1.out.2
  have l3 := nl_few6 L2.out.1
  have l4 := nl_few6 L2.out.2
  have lo1 := X2.out.is.1
  have lo2 := Y2.out.is.1
  have cRc := rcmp_q _ _ x1 x2 n1 d1 n2 d2 W2 P2.out.is Z2.out.is (by have := lo1.pos; omega) (by have := lo2.pos; omega) (by have := L1.out.1; omega) (by have := L1.out.2; omega) (by have := L2.out.1; omega) (by have := L2.out.2; omega)
  have cC := fun (W : World) (h : IsRat W (.agg #[.bool x1, .int .u64 VA1, .int .u64 VL1, .pointer vp1]) x1 n1 d1) (h' : IsRat W (.agg #[.bool x2, .int .u64 VA2, .int .u64 VL2, .pointer vp2]) x2 n2 d2) => cmp_q _ _ x1 x2 n1 d1 n2 d2 W h h' l1 l2 l3 l4
  have cMin0 := fun (W : World) (h : IsRat W (.agg #[.bool x1, .int .u64 VA1, .int .u64 VL1, .pointer vp1]) x1 n1 d1) (h' : IsRat W (.agg #[.bool x2, .int .u64 VA2, .int .u64 VL2, .pointer vp2]) x2 n2 d2) => min_any _ _ x1 x2 n1 d1 n2 d2 W h h' l1 l2 l3 l4
  have cMax0 := fun (W : World) (h : IsRat W (.agg #[.bool x1, .int .u64 VA1, .int .u64 VL1, .pointer vp1]) x1 n1 d1) (h' : IsRat W (.agg #[.bool x2, .int .u64 VA2, .int .u64 VL2, .pointer vp2]) x2 n2 d2) => max_any _ _ x1 x2 n1 d1 n2 d2 W h h' l1 l2 l3 l4
  have cWh := fun (W : World) (h : IsRat W (.agg #[.bool x1, .int .u64 VA1, .int .u64 VL1, .pointer vp1]) x1 n1 d1) => whole_any _ x1 n1 d1 W h (by omega)
  have cFl := fun (W : World) (h : IsRat W (.agg #[.bool x1, .int .u64 VA1, .int .u64 VL1, .pointer vp1]) x1 n1 d1) => floor_any _ x1 n1 d1 W h l1 l2
  have cRf0 := fun (W : World) (h : IsRef W (.agg #[.bool x1, .slice o1 (nb n1).length m1, .slice o2 (nb d1).length m2]) x1 n1 d1) => rfloor_any _ x1 n1 d1 W h (by have := lo1.pos; omega) (by have := L1.out.1; omega)
  rw [eN1.out, eD1.out] at cRf0
  have hEq : ¬ 0 < cmpQ x1 n1 d1 x2 n2 d2 → ¬ cmpQ x1 n1 d1 x2 n2 d2 < 0 → x1 = x2 ∧ n1 = n2 ∧ d1 = d2 := fun h h' => cmp_zero lo1 lo2 (by omega)
  have bfl : (nb (floN x1 n1 d1)).length ≤ 1000000 := Nat.le_trans (flo_bits x1 n1 d1 256 L1.out.1) (by decide)
  have bOne : (nb 1).length ≤ 1000000 := Nat.le_trans (nb_lt 1 1 (by decide)) (by decide)
  have hWB : ((D1 : Int) == 1) = decide (d1 = 1) := by rw [← eD1.out, Bool.eq_iff_iff]; simp only [beq_iff_eq, decide_eq_true_iff]; rw [← nb_one_iff d1]; omega
  generalize decide (d1 = 1) = WB at *
  obtain ⟨fn, efn⟩ : ∃ x, floN x1 n1 d1 = x := ⟨_, rfl⟩
  simp only [efn] at cFl cRf0 bfl
  obtain ⟨fb, efb⟩ : ∃ x, (x1 && decide (fn ≠ 0)) = x := ⟨_, rfl⟩
  simp only [efb] at cFl cRf0
  have cRf := cRf0
  generalize cmpQ x1 n1 d1 x2 n2 d2 = C at *
  have HEQ : Hid (¬ 0 < C → ¬ C < 0 → x1 = x2 ∧ n1 = n2 ∧ d1 = d2) := hEq
  clear hEq cRf0 efn efb l1 l2 l3 l4 lo1 lo2
  obtain ⟨u0, u1, u2⟩ := P2.out.cells
  obtain ⟨t0, t1, t2⟩ := Z2.out.cells
  go_upto_region 4 with (go_at_call 34; refine cRc.mono ?_; rintro e w3 ⟨rfl, hb3⟩)
  have X3 : Hid (RL w3 gx x1 n1 d1 VA1 VL1 vp1) := X2.out.kept hb3
  have P3 : Hid (QL w3 (gx + 1) x1 n1 d1 o1 m1 o2 m2) := P2.out.kept hb3
  have Y3 : Hid (RL w3 gy x2 n2 d2 VA2 VL2 vp2) := Y2.out.kept hb3
  have Z3 : Hid (QL w3 (gy + 1) x2 n2 d2 o3 m3 o4 m4) := Z2.out.kept hb3
  have C3 : Hid (Below w.heap.size w w3) := bt C2.out hb3
  clear X2 P2 Y2 Z2 C2 u0 u1 u2 t0 t1 t2 hb3 cRc
  obtain ⟨u0, u1, u2⟩ := P3.out.cells
  obtain ⟨t0, t1, t2⟩ := Z3.out.cells
  have za0 : ∀ o : Obj, (w3.alloc o).cell? ⟨gx + 1, 0, none⟩ = some (.bool x1) := fun o => cell_al u0
  have zb0 : ∀ o o' : Obj, ((w3.alloc o).alloc o').cell? ⟨gx + 1, 0, none⟩ = some (.bool x1) := fun o o' => cell_al (za0 o)
  have za1 : ∀ o : Obj, (w3.alloc o).cell? ⟨gx + 1, 1, none⟩ = some (.slice o1 (nb n1).length m1) := fun o => cell_al u1
  have zb1 : ∀ o o' : Obj, ((w3.alloc o).alloc o').cell? ⟨gx + 1, 1, none⟩ = some (.slice o1 (nb n1).length m1) := fun o o' => cell_al (za1 o)
  have za2 : ∀ o : Obj, (w3.alloc o).cell? ⟨gx + 1, 2, none⟩ = some (.slice o2 (nb d1).length m2) := fun o => cell_al u2
  have zb2 : ∀ o o' : Obj, ((w3.alloc o).alloc o').cell? ⟨gx + 1, 2, none⟩ = some (.slice o2 (nb d1).length m2) := fun o o' => cell_al (za2 o)
  have za3 : ∀ o : Obj, (w3.alloc o).cell? ⟨gy + 1, 0, none⟩ = some (.bool x2) := fun o => cell_al t0
  have zb3 : ∀ o o' : Obj, ((w3.alloc o).alloc o').cell? ⟨gy + 1, 0, none⟩ = some (.bool x2) := fun o o' => cell_al (za3 o)
  have za4 : ∀ o : Obj, (w3.alloc o).cell? ⟨gy + 1, 1, none⟩ = some (.slice o3 (nb n2).length m3) := fun o => cell_al t1
  have zb4 : ∀ o o' : Obj, ((w3.alloc o).alloc o').cell? ⟨gy + 1, 1, none⟩ = some (.slice o3 (nb n2).length m3) := fun o o' => cell_al (za4 o)
  have za5 : ∀ o : Obj, (w3.alloc o).cell? ⟨gy + 1, 2, none⟩ = some (.slice o4 (nb d2).length m4) := fun o => cell_al t2
  have zb5 : ∀ o o' : Obj, ((w3.alloc o).alloc o').cell? ⟨gy + 1, 2, none⟩ = some (.slice o4 (nb d2).length m4) := fun o o' => cell_al (za5 o)
  go_cut [10, 11] from 25 to 27 (fun v10 v11 wx => ∃ (g1 g2 : Nat), v10 = .pointer (some ⟨g1, 0, none⟩) ∧ v11 = .pointer (some ⟨g2, 0, none⟩) ∧ Hid (QL wx g1 x1 n1 d1 o1 m1 o2 m2) ∧ Hid (QL wx g2 x2 n2 d2 o3 m3 o4 m4) ∧ Hid (Below w3.heap.size w3 wx) ∧ Hid (g1 ≠ g2 ∧ w3.heap.size ≤ g1 ∧ w3.heap.size ≤ g2))
  case first =>
    go_region
    all_goals go_wp2
    all_goals go_meet
    all_goals first
      | (obtain ⟨_, rfl, bA, ka, kb⟩ := two_new w3 (.cells #[.bool x1, .slice o1 (nb n1).length m1, .slice o2 (nb d1).length m2] 31) (.cells #[.bool x2, .slice o3 (nb n2).length m3, .slice o4 (nb d2).length m4] 31); exact ⟨_, _, rfl, rfl, QL.kept ⟨ka, P3.out.is.below bA⟩ (Below.refl _ _).drew, QL.kept ⟨kb, Z3.out.is.below bA⟩ (Below.refl _ _).drew, bA.drew, ⟨by omega, by omega, by omega⟩⟩)
      | (obtain ⟨_, rfl, bA, ka, kb⟩ := two_new w3 (.cells #[.bool x2, .slice o3 (nb n2).length m3, .slice o4 (nb d2).length m4] 31) (.cells #[.bool x1, .slice o1 (nb n1).length m1, .slice o2 (nb d1).length m2] 31); exact ⟨_, _, rfl, rfl, QL.kept ⟨kb, P3.out.is.below bA⟩ (Below.refl _ _).drew, QL.kept ⟨ka, Z3.out.is.below bA⟩ (Below.refl _ _).drew, bA.drew, ⟨by omega, by omega, by omega⟩⟩)
  case rest =>
    obtain ⟨g1, g2, rfl, rfl, L4, H4, HB, HN⟩ := hcut
    have X4 : Hid (RL wc gx x1 n1 d1 VA1 VL1 vp1) := X3.out.kept HB.out
    have P4 : Hid (QL wc (gx + 1) x1 n1 d1 o1 m1 o2 m2) := P3.out.kept HB.out
    have Y4 : Hid (RL wc gy x2 n2 d2 VA2 VL2 vp2) := Y3.out.kept HB.out
    have Z4 : Hid (QL wc (gy + 1) x2 n2 d2 o3 m3 o4 m4) := Z3.out.kept HB.out
    have C4 : Hid (Below w.heap.size w wc) := bt C3.out HB.out
    have N4 : Hid (g1 ≠ g2 ∧ gx ≠ g1 ∧ gx ≠ g2 ∧ gx + 1 ≠ g1 ∧ gx + 1 ≠ g2 ∧ gy ≠ g1 ∧ gy ≠ g2 ∧ gy + 1 ≠ g1 ∧ gy + 1 ≠ g2 ∧ w.heap.size ≤ g1 ∧ w.heap.size ≤ g2) := by
      have e1 := in_heap P3.out.box
      have e2 := in_heap Z3.out.box
      have e3 := HN.out
      have e4 := C3.out.size
      exact ⟨by omega, by omega, by omega, by omega, by omega, by omega, by omega, by omega, by omega, by omega, by omega⟩
    clear X3 P3 Y3 Z3 C3 HB HN u0 u1 u2 t0 t1 t2 za0 za1 za2 za3 za4 za5 zb0 zb1 zb2 zb3 zb4 zb5
    by_cases hC : 0 < C
    · have cMin : ∀ (W : World), IsRat W (.agg #[.bool x1, .int .u64 VA1, .int .u64 VL1, .pointer vp1]) x1 n1 d1 → IsRat W (.agg #[.bool x2, .int .u64 VA2, .int .u64 VL2, .pointer vp2]) x2 n2 d2 → Calls Try.prog 35 #[.agg #[.bool x1, .int .u64 VA1, .int .u64 VL1, .pointer vp1], .agg #[.bool x2, .int .u64 VA2, .int .u64 VL2, .pointer vp2]] W fun e w' => ∃ v, e = .returned v ∧ IsRat w' v x2 n2 d2 ∧ Below W.heap.size W w' := fun W h h' => by
        have := cMin0 W h h'
        rw [if_pos hC, if_pos hC, if_pos hC] at this
        exact this
      have cMax : ∀ (W : World), IsRat W (.agg #[.bool x1, .int .u64 VA1, .int .u64 VL1, .pointer vp1]) x1 n1 d1 → IsRat W (.agg #[.bool x2, .int .u64 VA2, .int .u64 VL2, .pointer vp2]) x2 n2 d2 → Calls Try.prog 36 #[.agg #[.bool x1, .int .u64 VA1, .int .u64 VL1, .pointer vp1], .agg #[.bool x2, .int .u64 VA2, .int .u64 VL2, .pointer vp2]] W fun e w' => ∃ v, e = .returned v ∧ IsRat w' v x1 n1 d1 ∧ Below W.heap.size W w' := fun W h h' => by
        have := cMax0 W h h'
        rw [if_neg (by omega), if_neg (by omega), if_neg (by omega)] at this
        exact this
      clear cMin0 cMax0 HEQ
      obtain ⟨u0, u1, u2⟩ := P4.out.cells
      obtain ⟨t0, t1, t2⟩ := Z4.out.cells
      obtain ⟨r0, r1, r2⟩ := L4.out.cells
      obtain ⟨k0, k1, k2⟩ := H4.out.cells
      have f1 := box3F L4.out.box
      have f2 := box3F H4.out.box
      have e1 : gx + 1 ≠ g1 := N4.out.2.2.2.1
      have e2 : gx + 1 ≠ g2 := N4.out.2.2.2.2.1
      have e3 : gy + 1 ≠ g1 := N4.out.2.2.2.2.2.2.2.1
      have e4 : gy + 1 ≠ g2 := N4.out.2.2.2.2.2.2.2.2.1
      have e5 : g1 ≠ g2 := N4.out.1
      have e6 : g1 ≠ gx + 1 := fun h => e1 h.symm
      have e7 : g2 ≠ gx + 1 := fun h => e2 h.symm
      have e8 : g1 ≠ gy + 1 := fun h => e3 h.symm
      have e9 : g2 ≠ gy + 1 := fun h => e4 h.symm
      have e10 : g2 ≠ g1 := fun h => e5 h.symm
      go_wp2
      go_region
      have X5 := (X4.out.off3 L4.out.box N4.out.2.1 (.bool x2) (.slice o3 (nb n2).length m3) (.slice o4 (nb d2).length m4))
      have P5 := (P4.out.off3 L4.out.box N4.out.2.2.2.1 (.bool x2) (.slice o3 (nb n2).length m3) (.slice o4 (nb d2).length m4))
      have Y5 := (Y4.out.off3 L4.out.box N4.out.2.2.2.2.2.1 (.bool x2) (.slice o3 (nb n2).length m3) (.slice o4 (nb d2).length m4))
      have Q5 := QL.set Z4.out.is L4.out.box
      have H5 := (H4.out.off3 L4.out.box e10 (.bool x2) (.slice o3 (nb n2).length m3) (.slice o4 (nb d2).length m4))
      have B5 := box3_below C4.out N4.out.2.2.2.2.2.2.2.2.2.1 (.bool x2) (.slice o3 (nb n2).length m3) (.slice o4 (nb d2).length m4)
      have X6 := (X5.off3 H5.box N4.out.2.2.1 (.bool x1) (.slice o1 (nb n1).length m1) (.slice o2 (nb d1).length m2))
      have P6 := (P5.off3 H5.box N4.out.2.2.2.2.1 (.bool x1) (.slice o1 (nb n1).length m1) (.slice o2 (nb d1).length m2))
      have Y6 := (Y5.off3 H5.box N4.out.2.2.2.2.2.2.1 (.bool x1) (.slice o1 (nb n1).length m1) (.slice o2 (nb d1).length m2))
      have L6 := (Q5.off3 H5.box e5 (.bool x1) (.slice o1 (nb n1).length m1) (.slice o2 (nb d1).length m2))
      have H6 := QL.set P5.is H5.box
      have B6 := box3_below B5 N4.out.2.2.2.2.2.2.2.2.2.2 (.bool x1) (.slice o1 (nb n1).length m1) (.slice o2 (nb d1).length m2)
      clear X5 P5 Y5 Q5 H5 B5
      generalize World.setCell _ _ _ = w5 at *
      have Dd : Below w5.heap.size w5 w5.drew := (Below.refl _ _).drew
      have XX : Hid (RL w5.drew gx x1 n1 d1 VA1 VL1 vp1) := X6.kept Dd
      have YY : Hid (RL w5.drew gy x2 n2 d2 VA2 VL2 vp2) := Y6.kept Dd
      have PP : Hid (QL w5.drew (gx + 1) x1 n1 d1 o1 m1 o2 m2) := P6.kept Dd
      have LL : Hid (QL w5.drew g1 x2 n2 d2 o3 m3 o4 m4) := L6.kept Dd
      have HH : Hid (QL w5.drew g2 x1 n1 d1 o1 m1 o2 m2) := H6.kept Dd
      have CC : Hid (Below w.heap.size w w5.drew) := B6.drew
      clear X4 Y4 P4 Z4 L4 H4 C4 N4 X6 P6 Y6 L6 H6 B6 Dd u0 u1 u2 t0 t1 t2 r0 r1 r2 k0 k1 k2 f1 f2 e1 e2 e3 e4 e5 e6 e7 e8 e9 e10
      generalize World.drew _ = wr at *
      have SS : wr.drew.cell? ⟨gx, 0, none⟩ = some (.bool x1) ∧ wr.drew.cell? ⟨gx, 1, none⟩ = some (.int .u64 VA1) ∧ wr.drew.cell? ⟨gx, 2, none⟩ = some (.int .u64 VL1) ∧ wr.drew.cell? ⟨gx, 3, none⟩ = some (.pointer vp1) ∧ wr.drew.cell? ⟨gy, 0, none⟩ = some (.bool x2) ∧ wr.drew.cell? ⟨gy, 1, none⟩ = some (.int .u64 VA2) ∧ wr.drew.cell? ⟨gy, 2, none⟩ = some (.int .u64 VL2) ∧ wr.drew.cell? ⟨gy, 3, none⟩ = some (.pointer vp2) ∧ wr.drew.cell? ⟨gx + 1, 0, none⟩ = some (.bool x1) ∧ wr.drew.cell? ⟨gx + 1, 1, none⟩ = some (.slice o1 N1 m1) ∧ wr.drew.cell? ⟨gx + 1, 2, none⟩ = some (.slice o2 D1 m2) ∧ wr.drew.cell? ⟨g1, 0, none⟩ = some (.bool x2) ∧ wr.drew.cell? ⟨g1, 1, none⟩ = some (.slice o3 N2 m3) ∧ wr.drew.cell? ⟨g1, 2, none⟩ = some (.slice o4 D2 m4) ∧ wr.drew.cell? ⟨g2, 0, none⟩ = some (.bool x1) ∧ wr.drew.cell? ⟨g2, 1, none⟩ = some (.slice o1 N1 m1) ∧ wr.drew.cell? ⟨g2, 2, none⟩ = some (.slice o2 D1 m2) := by
        rw [← eN1.out, ← eD1.out, ← eN2.out, ← eD2.out]
        obtain ⟨q1, q2, q3, q4⟩ := XX.out.cells
        obtain ⟨q5, q6, q7, q8⟩ := YY.out.cells
        obtain ⟨q9, q10, q11⟩ := PP.out.cells
        obtain ⟨q12, q13, q14⟩ := LL.out.cells
        obtain ⟨q15, q16, q17⟩ := HH.out.cells
        exact ⟨q1, q2, q3, q4, q5, q6, q7, q8, q9, q10, q11, q12, q13, q14, q15, q16, q17⟩
      have Dw : Below wr.heap.size wr wr.drew := (Below.refl _ _).drew
      have HP : Hid (IsRat wr.drew (.agg #[.bool x1, .int .u64 VA1, .int .u64 VL1, .pointer vp1]) x1 n1 d1 ∧ IsRat wr.drew (.agg #[.bool x2, .int .u64 VA2, .int .u64 VL2, .pointer vp2]) x2 n2 d2 ∧ IsRef wr.drew (.agg #[.bool x1, .slice o1 N1 m1, .slice o2 D1 m2]) x1 n1 d1 ∧ IsRef wr.drew (.agg #[.bool x2, .slice o3 N2 m3, .slice o4 D2 m4]) x2 n2 d2 ∧ IsRef wr.drew (.agg #[.bool x1, .slice o1 N1 m1, .slice o2 D1 m2]) x1 n1 d1) := by
        rw [← eN1.out, ← eD1.out, ← eN2.out, ← eD2.out]
        exact ⟨XX.out.is.below Dw, YY.out.is.below Dw, PP.out.is.below Dw, LL.out.is.below Dw, HH.out.is.below Dw⟩
      have LIM : Hid ((nb n2).length ≤ 1000000 ∧ (nb d2).length ≤ 1000000 ∧ (nb n1).length ≤ 1000000 ∧ (nb d1).length ≤ 1000000 ∧ (nb fn).length ≤ 1000000 ∧ (nb 1).length ≤ 1000000) := by
        obtain ⟨z1, z2⟩ := L1.out
        obtain ⟨z3, z4⟩ := L2.out
        exact ⟨by omega, by omega, by omega, by omega, bfl, bOne⟩
      have HC := CC.out.drew
      have s0 := SS
      clear SS XX YY PP LL HH CC bfl bOne eN1 eD1 eN2 eD2 L1 L2 Dw
      have T1 : True := trivial
      have T2 : True := trivial
      go_wp2
      go_region_held3 (fun w' => w'.cell? ⟨gx, 0, none⟩ = some (.bool x1) ∧ w'.cell? ⟨gx, 1, none⟩ = some (.int .u64 VA1) ∧ w'.cell? ⟨gx, 2, none⟩ = some (.int .u64 VL1) ∧ w'.cell? ⟨gx, 3, none⟩ = some (.pointer vp1) ∧ w'.cell? ⟨gy, 0, none⟩ = some (.bool x2) ∧ w'.cell? ⟨gy, 1, none⟩ = some (.int .u64 VA2) ∧ w'.cell? ⟨gy, 2, none⟩ = some (.int .u64 VL2) ∧ w'.cell? ⟨gy, 3, none⟩ = some (.pointer vp2) ∧ w'.cell? ⟨gx + 1, 0, none⟩ = some (.bool x1) ∧ w'.cell? ⟨gx + 1, 1, none⟩ = some (.slice o1 N1 m1) ∧ w'.cell? ⟨gx + 1, 2, none⟩ = some (.slice o2 D1 m2) ∧ w'.cell? ⟨g1, 0, none⟩ = some (.bool x2) ∧ w'.cell? ⟨g1, 1, none⟩ = some (.slice o3 N2 m3) ∧ w'.cell? ⟨g1, 2, none⟩ = some (.slice o4 D2 m4) ∧ w'.cell? ⟨g2, 0, none⟩ = some (.bool x1) ∧ w'.cell? ⟨g2, 1, none⟩ = some (.slice o1 N1 m1) ∧ w'.cell? ⟨g2, 2, none⟩ = some (.slice o2 D1 m2)) (first | with_reducible exact s0 | with_reducible exact s1 | with_reducible exact s2 | with_reducible exact s3 | with_reducible exact s4 | with_reducible exact s5 | with_reducible exact s6 | with_reducible exact s7 | with_reducible exact s8 | with_reducible exact s9 | with_reducible exact s10) (first
        | (go_at_call 12; refine (awake5 _).mono ?_; rintro e w6 ⟨rfl, hb6⟩; have s1 : w6.cell? ⟨gx, 0, none⟩ = some (.bool x1) ∧ w6.cell? ⟨gx, 1, none⟩ = some (.int .u64 VA1) ∧ w6.cell? ⟨gx, 2, none⟩ = some (.int .u64 VL1) ∧ w6.cell? ⟨gx, 3, none⟩ = some (.pointer vp1) ∧ w6.cell? ⟨gy, 0, none⟩ = some (.bool x2) ∧ w6.cell? ⟨gy, 1, none⟩ = some (.int .u64 VA2) ∧ w6.cell? ⟨gy, 2, none⟩ = some (.int .u64 VL2) ∧ w6.cell? ⟨gy, 3, none⟩ = some (.pointer vp2) ∧ w6.cell? ⟨gx + 1, 0, none⟩ = some (.bool x1) ∧ w6.cell? ⟨gx + 1, 1, none⟩ = some (.slice o1 N1 m1) ∧ w6.cell? ⟨gx + 1, 2, none⟩ = some (.slice o2 D1 m2) ∧ w6.cell? ⟨g1, 0, none⟩ = some (.bool x2) ∧ w6.cell? ⟨g1, 1, none⟩ = some (.slice o3 N2 m3) ∧ w6.cell? ⟨g1, 2, none⟩ = some (.slice o4 D2 m4) ∧ w6.cell? ⟨g2, 0, none⟩ = some (.bool x1) ∧ w6.cell? ⟨g2, 1, none⟩ = some (.slice o1 N1 m1) ∧ w6.cell? ⟨g2, 2, none⟩ = some (.slice o2 D1 m2) := by { have kc : ∀ {p : Addr} {v : Value}, wr.drew.cell? p = some v → w6.cell? p = some v := fun {p v} h => by { rw [hb6.cell (World.block_lt_of_cell? wr.drew p h)]; exact h }; exact ⟨kc s0.1, kc s0.2.1, kc s0.2.2.1, kc s0.2.2.2.1, kc s0.2.2.2.2.1, kc s0.2.2.2.2.2.1, kc s0.2.2.2.2.2.2.1, kc s0.2.2.2.2.2.2.2.1, kc s0.2.2.2.2.2.2.2.2.1, kc s0.2.2.2.2.2.2.2.2.2.1, kc s0.2.2.2.2.2.2.2.2.2.2.1, kc s0.2.2.2.2.2.2.2.2.2.2.2.1, kc s0.2.2.2.2.2.2.2.2.2.2.2.2.1, kc s0.2.2.2.2.2.2.2.2.2.2.2.2.2.1, kc s0.2.2.2.2.2.2.2.2.2.2.2.2.2.2.1, kc s0.2.2.2.2.2.2.2.2.2.2.2.2.2.2.2.1, kc s0.2.2.2.2.2.2.2.2.2.2.2.2.2.2.2.2⟩ })
        | (go_at_call 17; refine (cC _ (HP.out.1.below hb6) (HP.out.2.1.below hb6)).mono ?_; rintro e w7 ⟨rfl, hb7⟩; have H7 := bt hb6 hb7; have s2 : w7.cell? ⟨gx, 0, none⟩ = some (.bool x1) ∧ w7.cell? ⟨gx, 1, none⟩ = some (.int .u64 VA1) ∧ w7.cell? ⟨gx, 2, none⟩ = some (.int .u64 VL1) ∧ w7.cell? ⟨gx, 3, none⟩ = some (.pointer vp1) ∧ w7.cell? ⟨gy, 0, none⟩ = some (.bool x2) ∧ w7.cell? ⟨gy, 1, none⟩ = some (.int .u64 VA2) ∧ w7.cell? ⟨gy, 2, none⟩ = some (.int .u64 VL2) ∧ w7.cell? ⟨gy, 3, none⟩ = some (.pointer vp2) ∧ w7.cell? ⟨gx + 1, 0, none⟩ = some (.bool x1) ∧ w7.cell? ⟨gx + 1, 1, none⟩ = some (.slice o1 N1 m1) ∧ w7.cell? ⟨gx + 1, 2, none⟩ = some (.slice o2 D1 m2) ∧ w7.cell? ⟨g1, 0, none⟩ = some (.bool x2) ∧ w7.cell? ⟨g1, 1, none⟩ = some (.slice o3 N2 m3) ∧ w7.cell? ⟨g1, 2, none⟩ = some (.slice o4 D2 m4) ∧ w7.cell? ⟨g2, 0, none⟩ = some (.bool x1) ∧ w7.cell? ⟨g2, 1, none⟩ = some (.slice o1 N1 m1) ∧ w7.cell? ⟨g2, 2, none⟩ = some (.slice o2 D1 m2) := by { have kc : ∀ {p : Addr} {v : Value}, w6.cell? p = some v → w7.cell? p = some v := fun {p v} h => by { rw [hb7.cell (World.block_lt_of_cell? w6 p h)]; exact h }; exact ⟨kc s1.1, kc s1.2.1, kc s1.2.2.1, kc s1.2.2.2.1, kc s1.2.2.2.2.1, kc s1.2.2.2.2.2.1, kc s1.2.2.2.2.2.2.1, kc s1.2.2.2.2.2.2.2.1, kc s1.2.2.2.2.2.2.2.2.1, kc s1.2.2.2.2.2.2.2.2.2.1, kc s1.2.2.2.2.2.2.2.2.2.2.1, kc s1.2.2.2.2.2.2.2.2.2.2.2.1, kc s1.2.2.2.2.2.2.2.2.2.2.2.2.1, kc s1.2.2.2.2.2.2.2.2.2.2.2.2.2.1, kc s1.2.2.2.2.2.2.2.2.2.2.2.2.2.2.1, kc s1.2.2.2.2.2.2.2.2.2.2.2.2.2.2.2.1, kc s1.2.2.2.2.2.2.2.2.2.2.2.2.2.2.2.2⟩ })
        | (go_at_call 35; refine (cMin _ (HP.out.1.below H7) (HP.out.2.1.below H7)).mono ?_; rintro e w8 ⟨v8, rfl, R8, hb8⟩; have H8 := bt H7 hb8; have s3 : w8.cell? ⟨gx, 0, none⟩ = some (.bool x1) ∧ w8.cell? ⟨gx, 1, none⟩ = some (.int .u64 VA1) ∧ w8.cell? ⟨gx, 2, none⟩ = some (.int .u64 VL1) ∧ w8.cell? ⟨gx, 3, none⟩ = some (.pointer vp1) ∧ w8.cell? ⟨gy, 0, none⟩ = some (.bool x2) ∧ w8.cell? ⟨gy, 1, none⟩ = some (.int .u64 VA2) ∧ w8.cell? ⟨gy, 2, none⟩ = some (.int .u64 VL2) ∧ w8.cell? ⟨gy, 3, none⟩ = some (.pointer vp2) ∧ w8.cell? ⟨gx + 1, 0, none⟩ = some (.bool x1) ∧ w8.cell? ⟨gx + 1, 1, none⟩ = some (.slice o1 N1 m1) ∧ w8.cell? ⟨gx + 1, 2, none⟩ = some (.slice o2 D1 m2) ∧ w8.cell? ⟨g1, 0, none⟩ = some (.bool x2) ∧ w8.cell? ⟨g1, 1, none⟩ = some (.slice o3 N2 m3) ∧ w8.cell? ⟨g1, 2, none⟩ = some (.slice o4 D2 m4) ∧ w8.cell? ⟨g2, 0, none⟩ = some (.bool x1) ∧ w8.cell? ⟨g2, 1, none⟩ = some (.slice o1 N1 m1) ∧ w8.cell? ⟨g2, 2, none⟩ = some (.slice o2 D1 m2) := by { have kc : ∀ {p : Addr} {v : Value}, w7.cell? p = some v → w8.cell? p = some v := fun {p v} h => by { rw [hb8.cell (World.block_lt_of_cell? w7 p h)]; exact h }; exact ⟨kc s2.1, kc s2.2.1, kc s2.2.2.1, kc s2.2.2.2.1, kc s2.2.2.2.2.1, kc s2.2.2.2.2.2.1, kc s2.2.2.2.2.2.2.1, kc s2.2.2.2.2.2.2.2.1, kc s2.2.2.2.2.2.2.2.2.1, kc s2.2.2.2.2.2.2.2.2.2.1, kc s2.2.2.2.2.2.2.2.2.2.2.1, kc s2.2.2.2.2.2.2.2.2.2.2.2.1, kc s2.2.2.2.2.2.2.2.2.2.2.2.2.1, kc s2.2.2.2.2.2.2.2.2.2.2.2.2.2.1, kc s2.2.2.2.2.2.2.2.2.2.2.2.2.2.2.1, kc s2.2.2.2.2.2.2.2.2.2.2.2.2.2.2.2.1, kc s2.2.2.2.2.2.2.2.2.2.2.2.2.2.2.2.2⟩ })
        | (go_at_call 18; have _t := T1; clear _t T1; refine (is_yes _ _ x2 n2 d2 _ R8 (HP.out.2.2.2.1.below H8) LIM.out.1 LIM.out.2.1).mono ?_; rintro e w9 ⟨rfl, hb9⟩; have H9 := bt H8 hb9; have s4 : w9.cell? ⟨gx, 0, none⟩ = some (.bool x1) ∧ w9.cell? ⟨gx, 1, none⟩ = some (.int .u64 VA1) ∧ w9.cell? ⟨gx, 2, none⟩ = some (.int .u64 VL1) ∧ w9.cell? ⟨gx, 3, none⟩ = some (.pointer vp1) ∧ w9.cell? ⟨gy, 0, none⟩ = some (.bool x2) ∧ w9.cell? ⟨gy, 1, none⟩ = some (.int .u64 VA2) ∧ w9.cell? ⟨gy, 2, none⟩ = some (.int .u64 VL2) ∧ w9.cell? ⟨gy, 3, none⟩ = some (.pointer vp2) ∧ w9.cell? ⟨gx + 1, 0, none⟩ = some (.bool x1) ∧ w9.cell? ⟨gx + 1, 1, none⟩ = some (.slice o1 N1 m1) ∧ w9.cell? ⟨gx + 1, 2, none⟩ = some (.slice o2 D1 m2) ∧ w9.cell? ⟨g1, 0, none⟩ = some (.bool x2) ∧ w9.cell? ⟨g1, 1, none⟩ = some (.slice o3 N2 m3) ∧ w9.cell? ⟨g1, 2, none⟩ = some (.slice o4 D2 m4) ∧ w9.cell? ⟨g2, 0, none⟩ = some (.bool x1) ∧ w9.cell? ⟨g2, 1, none⟩ = some (.slice o1 N1 m1) ∧ w9.cell? ⟨g2, 2, none⟩ = some (.slice o2 D1 m2) := by { have kc : ∀ {p : Addr} {v : Value}, w8.cell? p = some v → w9.cell? p = some v := fun {p v} h => by { rw [hb9.cell (World.block_lt_of_cell? w8 p h)]; exact h }; exact ⟨kc s3.1, kc s3.2.1, kc s3.2.2.1, kc s3.2.2.2.1, kc s3.2.2.2.2.1, kc s3.2.2.2.2.2.1, kc s3.2.2.2.2.2.2.1, kc s3.2.2.2.2.2.2.2.1, kc s3.2.2.2.2.2.2.2.2.1, kc s3.2.2.2.2.2.2.2.2.2.1, kc s3.2.2.2.2.2.2.2.2.2.2.1, kc s3.2.2.2.2.2.2.2.2.2.2.2.1, kc s3.2.2.2.2.2.2.2.2.2.2.2.2.1, kc s3.2.2.2.2.2.2.2.2.2.2.2.2.2.1, kc s3.2.2.2.2.2.2.2.2.2.2.2.2.2.2.1, kc s3.2.2.2.2.2.2.2.2.2.2.2.2.2.2.2.1, kc s3.2.2.2.2.2.2.2.2.2.2.2.2.2.2.2.2⟩ })
        | (go_at_call 36; refine (cMax _ (HP.out.1.below H9) (HP.out.2.1.below H9)).mono ?_; rintro e w10 ⟨v10, rfl, R10, hb10⟩; have H10 := bt H9 hb10; have s5 : w10.cell? ⟨gx, 0, none⟩ = some (.bool x1) ∧ w10.cell? ⟨gx, 1, none⟩ = some (.int .u64 VA1) ∧ w10.cell? ⟨gx, 2, none⟩ = some (.int .u64 VL1) ∧ w10.cell? ⟨gx, 3, none⟩ = some (.pointer vp1) ∧ w10.cell? ⟨gy, 0, none⟩ = some (.bool x2) ∧ w10.cell? ⟨gy, 1, none⟩ = some (.int .u64 VA2) ∧ w10.cell? ⟨gy, 2, none⟩ = some (.int .u64 VL2) ∧ w10.cell? ⟨gy, 3, none⟩ = some (.pointer vp2) ∧ w10.cell? ⟨gx + 1, 0, none⟩ = some (.bool x1) ∧ w10.cell? ⟨gx + 1, 1, none⟩ = some (.slice o1 N1 m1) ∧ w10.cell? ⟨gx + 1, 2, none⟩ = some (.slice o2 D1 m2) ∧ w10.cell? ⟨g1, 0, none⟩ = some (.bool x2) ∧ w10.cell? ⟨g1, 1, none⟩ = some (.slice o3 N2 m3) ∧ w10.cell? ⟨g1, 2, none⟩ = some (.slice o4 D2 m4) ∧ w10.cell? ⟨g2, 0, none⟩ = some (.bool x1) ∧ w10.cell? ⟨g2, 1, none⟩ = some (.slice o1 N1 m1) ∧ w10.cell? ⟨g2, 2, none⟩ = some (.slice o2 D1 m2) := by { have kc : ∀ {p : Addr} {v : Value}, w9.cell? p = some v → w10.cell? p = some v := fun {p v} h => by { rw [hb10.cell (World.block_lt_of_cell? w9 p h)]; exact h }; exact ⟨kc s4.1, kc s4.2.1, kc s4.2.2.1, kc s4.2.2.2.1, kc s4.2.2.2.2.1, kc s4.2.2.2.2.2.1, kc s4.2.2.2.2.2.2.1, kc s4.2.2.2.2.2.2.2.1, kc s4.2.2.2.2.2.2.2.2.1, kc s4.2.2.2.2.2.2.2.2.2.1, kc s4.2.2.2.2.2.2.2.2.2.2.1, kc s4.2.2.2.2.2.2.2.2.2.2.2.1, kc s4.2.2.2.2.2.2.2.2.2.2.2.2.1, kc s4.2.2.2.2.2.2.2.2.2.2.2.2.2.1, kc s4.2.2.2.2.2.2.2.2.2.2.2.2.2.2.1, kc s4.2.2.2.2.2.2.2.2.2.2.2.2.2.2.2.1, kc s4.2.2.2.2.2.2.2.2.2.2.2.2.2.2.2.2⟩ })
        | (go_at_call 18; have _t := T2; clear _t T2; refine (is_yes _ _ x1 n1 d1 _ R10 (HP.out.2.2.2.2.below H10) LIM.out.2.2.1 LIM.out.2.2.2.1).mono ?_; rintro e w11 ⟨rfl, hb11⟩; have H11 := bt H10 hb11; have s6 : w11.cell? ⟨gx, 0, none⟩ = some (.bool x1) ∧ w11.cell? ⟨gx, 1, none⟩ = some (.int .u64 VA1) ∧ w11.cell? ⟨gx, 2, none⟩ = some (.int .u64 VL1) ∧ w11.cell? ⟨gx, 3, none⟩ = some (.pointer vp1) ∧ w11.cell? ⟨gy, 0, none⟩ = some (.bool x2) ∧ w11.cell? ⟨gy, 1, none⟩ = some (.int .u64 VA2) ∧ w11.cell? ⟨gy, 2, none⟩ = some (.int .u64 VL2) ∧ w11.cell? ⟨gy, 3, none⟩ = some (.pointer vp2) ∧ w11.cell? ⟨gx + 1, 0, none⟩ = some (.bool x1) ∧ w11.cell? ⟨gx + 1, 1, none⟩ = some (.slice o1 N1 m1) ∧ w11.cell? ⟨gx + 1, 2, none⟩ = some (.slice o2 D1 m2) ∧ w11.cell? ⟨g1, 0, none⟩ = some (.bool x2) ∧ w11.cell? ⟨g1, 1, none⟩ = some (.slice o3 N2 m3) ∧ w11.cell? ⟨g1, 2, none⟩ = some (.slice o4 D2 m4) ∧ w11.cell? ⟨g2, 0, none⟩ = some (.bool x1) ∧ w11.cell? ⟨g2, 1, none⟩ = some (.slice o1 N1 m1) ∧ w11.cell? ⟨g2, 2, none⟩ = some (.slice o2 D1 m2) := by { have kc : ∀ {p : Addr} {v : Value}, w10.cell? p = some v → w11.cell? p = some v := fun {p v} h => by { rw [hb11.cell (World.block_lt_of_cell? w10 p h)]; exact h }; exact ⟨kc s5.1, kc s5.2.1, kc s5.2.2.1, kc s5.2.2.2.1, kc s5.2.2.2.2.1, kc s5.2.2.2.2.2.1, kc s5.2.2.2.2.2.2.1, kc s5.2.2.2.2.2.2.2.1, kc s5.2.2.2.2.2.2.2.2.1, kc s5.2.2.2.2.2.2.2.2.2.1, kc s5.2.2.2.2.2.2.2.2.2.2.1, kc s5.2.2.2.2.2.2.2.2.2.2.2.1, kc s5.2.2.2.2.2.2.2.2.2.2.2.2.1, kc s5.2.2.2.2.2.2.2.2.2.2.2.2.2.1, kc s5.2.2.2.2.2.2.2.2.2.2.2.2.2.2.1, kc s5.2.2.2.2.2.2.2.2.2.2.2.2.2.2.2.1, kc s5.2.2.2.2.2.2.2.2.2.2.2.2.2.2.2.2⟩ })
        | (go_at_call 37; refine (cWh _ (HP.out.1.below H11)).mono ?_; rintro e w12 ⟨rfl, hb12⟩; have H12 := bt H11 hb12; have s7 : w12.cell? ⟨gx, 0, none⟩ = some (.bool x1) ∧ w12.cell? ⟨gx, 1, none⟩ = some (.int .u64 VA1) ∧ w12.cell? ⟨gx, 2, none⟩ = some (.int .u64 VL1) ∧ w12.cell? ⟨gx, 3, none⟩ = some (.pointer vp1) ∧ w12.cell? ⟨gy, 0, none⟩ = some (.bool x2) ∧ w12.cell? ⟨gy, 1, none⟩ = some (.int .u64 VA2) ∧ w12.cell? ⟨gy, 2, none⟩ = some (.int .u64 VL2) ∧ w12.cell? ⟨gy, 3, none⟩ = some (.pointer vp2) ∧ w12.cell? ⟨gx + 1, 0, none⟩ = some (.bool x1) ∧ w12.cell? ⟨gx + 1, 1, none⟩ = some (.slice o1 N1 m1) ∧ w12.cell? ⟨gx + 1, 2, none⟩ = some (.slice o2 D1 m2) ∧ w12.cell? ⟨g1, 0, none⟩ = some (.bool x2) ∧ w12.cell? ⟨g1, 1, none⟩ = some (.slice o3 N2 m3) ∧ w12.cell? ⟨g1, 2, none⟩ = some (.slice o4 D2 m4) ∧ w12.cell? ⟨g2, 0, none⟩ = some (.bool x1) ∧ w12.cell? ⟨g2, 1, none⟩ = some (.slice o1 N1 m1) ∧ w12.cell? ⟨g2, 2, none⟩ = some (.slice o2 D1 m2) := by { have kc : ∀ {p : Addr} {v : Value}, w11.cell? p = some v → w12.cell? p = some v := fun {p v} h => by { rw [hb12.cell (World.block_lt_of_cell? w11 p h)]; exact h }; exact ⟨kc s6.1, kc s6.2.1, kc s6.2.2.1, kc s6.2.2.2.1, kc s6.2.2.2.2.1, kc s6.2.2.2.2.2.1, kc s6.2.2.2.2.2.2.1, kc s6.2.2.2.2.2.2.2.1, kc s6.2.2.2.2.2.2.2.2.1, kc s6.2.2.2.2.2.2.2.2.2.1, kc s6.2.2.2.2.2.2.2.2.2.2.1, kc s6.2.2.2.2.2.2.2.2.2.2.2.1, kc s6.2.2.2.2.2.2.2.2.2.2.2.2.1, kc s6.2.2.2.2.2.2.2.2.2.2.2.2.2.1, kc s6.2.2.2.2.2.2.2.2.2.2.2.2.2.2.1, kc s6.2.2.2.2.2.2.2.2.2.2.2.2.2.2.2.1, kc s6.2.2.2.2.2.2.2.2.2.2.2.2.2.2.2.2⟩ })
        | (go_at_call 38; refine (cFl _ (HP.out.1.below H12)).mono ?_; rintro e w13 ⟨v13, rfl, R13, hb13⟩; have H13 := bt H12 hb13; have s8 : w13.cell? ⟨gx, 0, none⟩ = some (.bool x1) ∧ w13.cell? ⟨gx, 1, none⟩ = some (.int .u64 VA1) ∧ w13.cell? ⟨gx, 2, none⟩ = some (.int .u64 VL1) ∧ w13.cell? ⟨gx, 3, none⟩ = some (.pointer vp1) ∧ w13.cell? ⟨gy, 0, none⟩ = some (.bool x2) ∧ w13.cell? ⟨gy, 1, none⟩ = some (.int .u64 VA2) ∧ w13.cell? ⟨gy, 2, none⟩ = some (.int .u64 VL2) ∧ w13.cell? ⟨gy, 3, none⟩ = some (.pointer vp2) ∧ w13.cell? ⟨gx + 1, 0, none⟩ = some (.bool x1) ∧ w13.cell? ⟨gx + 1, 1, none⟩ = some (.slice o1 N1 m1) ∧ w13.cell? ⟨gx + 1, 2, none⟩ = some (.slice o2 D1 m2) ∧ w13.cell? ⟨g1, 0, none⟩ = some (.bool x2) ∧ w13.cell? ⟨g1, 1, none⟩ = some (.slice o3 N2 m3) ∧ w13.cell? ⟨g1, 2, none⟩ = some (.slice o4 D2 m4) ∧ w13.cell? ⟨g2, 0, none⟩ = some (.bool x1) ∧ w13.cell? ⟨g2, 1, none⟩ = some (.slice o1 N1 m1) ∧ w13.cell? ⟨g2, 2, none⟩ = some (.slice o2 D1 m2) := by { have kc : ∀ {p : Addr} {v : Value}, w12.cell? p = some v → w13.cell? p = some v := fun {p v} h => by { rw [hb13.cell (World.block_lt_of_cell? w12 p h)]; exact h }; exact ⟨kc s7.1, kc s7.2.1, kc s7.2.2.1, kc s7.2.2.2.1, kc s7.2.2.2.2.1, kc s7.2.2.2.2.2.1, kc s7.2.2.2.2.2.2.1, kc s7.2.2.2.2.2.2.2.1, kc s7.2.2.2.2.2.2.2.2.1, kc s7.2.2.2.2.2.2.2.2.2.1, kc s7.2.2.2.2.2.2.2.2.2.2.1, kc s7.2.2.2.2.2.2.2.2.2.2.2.1, kc s7.2.2.2.2.2.2.2.2.2.2.2.2.1, kc s7.2.2.2.2.2.2.2.2.2.2.2.2.2.1, kc s7.2.2.2.2.2.2.2.2.2.2.2.2.2.2.1, kc s7.2.2.2.2.2.2.2.2.2.2.2.2.2.2.2.1, kc s7.2.2.2.2.2.2.2.2.2.2.2.2.2.2.2.2⟩ })
        | (go_at_call 39; refine (cRf _ (HP.out.2.2.1.below H13)).mono ?_; rintro e w14 ⟨v14, rfl, Q14, hb14⟩; have H14 := bt H13 hb14; have s9 : w14.cell? ⟨gx, 0, none⟩ = some (.bool x1) ∧ w14.cell? ⟨gx, 1, none⟩ = some (.int .u64 VA1) ∧ w14.cell? ⟨gx, 2, none⟩ = some (.int .u64 VL1) ∧ w14.cell? ⟨gx, 3, none⟩ = some (.pointer vp1) ∧ w14.cell? ⟨gy, 0, none⟩ = some (.bool x2) ∧ w14.cell? ⟨gy, 1, none⟩ = some (.int .u64 VA2) ∧ w14.cell? ⟨gy, 2, none⟩ = some (.int .u64 VL2) ∧ w14.cell? ⟨gy, 3, none⟩ = some (.pointer vp2) ∧ w14.cell? ⟨gx + 1, 0, none⟩ = some (.bool x1) ∧ w14.cell? ⟨gx + 1, 1, none⟩ = some (.slice o1 N1 m1) ∧ w14.cell? ⟨gx + 1, 2, none⟩ = some (.slice o2 D1 m2) ∧ w14.cell? ⟨g1, 0, none⟩ = some (.bool x2) ∧ w14.cell? ⟨g1, 1, none⟩ = some (.slice o3 N2 m3) ∧ w14.cell? ⟨g1, 2, none⟩ = some (.slice o4 D2 m4) ∧ w14.cell? ⟨g2, 0, none⟩ = some (.bool x1) ∧ w14.cell? ⟨g2, 1, none⟩ = some (.slice o1 N1 m1) ∧ w14.cell? ⟨g2, 2, none⟩ = some (.slice o2 D1 m2) := by { have kc : ∀ {p : Addr} {v : Value}, w13.cell? p = some v → w14.cell? p = some v := fun {p v} h => by { rw [hb14.cell (World.block_lt_of_cell? w13 p h)]; exact h }; exact ⟨kc s8.1, kc s8.2.1, kc s8.2.2.1, kc s8.2.2.2.1, kc s8.2.2.2.2.1, kc s8.2.2.2.2.2.1, kc s8.2.2.2.2.2.2.1, kc s8.2.2.2.2.2.2.2.1, kc s8.2.2.2.2.2.2.2.2.1, kc s8.2.2.2.2.2.2.2.2.2.1, kc s8.2.2.2.2.2.2.2.2.2.2.1, kc s8.2.2.2.2.2.2.2.2.2.2.2.1, kc s8.2.2.2.2.2.2.2.2.2.2.2.2.1, kc s8.2.2.2.2.2.2.2.2.2.2.2.2.2.1, kc s8.2.2.2.2.2.2.2.2.2.2.2.2.2.2.1, kc s8.2.2.2.2.2.2.2.2.2.2.2.2.2.2.2.1, kc s8.2.2.2.2.2.2.2.2.2.2.2.2.2.2.2.2⟩ })
        | (go_at_call 18; refine (is_yes _ _ fb fn 1 _ (R13.below hb14) Q14 LIM.out.2.2.2.2.1 LIM.out.2.2.2.2.2).mono ?_; rintro e w15 ⟨rfl, hb15⟩; have H15 := bt H14 hb15; have s10 : w15.cell? ⟨gx, 0, none⟩ = some (.bool x1) ∧ w15.cell? ⟨gx, 1, none⟩ = some (.int .u64 VA1) ∧ w15.cell? ⟨gx, 2, none⟩ = some (.int .u64 VL1) ∧ w15.cell? ⟨gx, 3, none⟩ = some (.pointer vp1) ∧ w15.cell? ⟨gy, 0, none⟩ = some (.bool x2) ∧ w15.cell? ⟨gy, 1, none⟩ = some (.int .u64 VA2) ∧ w15.cell? ⟨gy, 2, none⟩ = some (.int .u64 VL2) ∧ w15.cell? ⟨gy, 3, none⟩ = some (.pointer vp2) ∧ w15.cell? ⟨gx + 1, 0, none⟩ = some (.bool x1) ∧ w15.cell? ⟨gx + 1, 1, none⟩ = some (.slice o1 N1 m1) ∧ w15.cell? ⟨gx + 1, 2, none⟩ = some (.slice o2 D1 m2) ∧ w15.cell? ⟨g1, 0, none⟩ = some (.bool x2) ∧ w15.cell? ⟨g1, 1, none⟩ = some (.slice o3 N2 m3) ∧ w15.cell? ⟨g1, 2, none⟩ = some (.slice o4 D2 m4) ∧ w15.cell? ⟨g2, 0, none⟩ = some (.bool x1) ∧ w15.cell? ⟨g2, 1, none⟩ = some (.slice o1 N1 m1) ∧ w15.cell? ⟨g2, 2, none⟩ = some (.slice o2 D1 m2) := by { have kc : ∀ {p : Addr} {v : Value}, w14.cell? p = some v → w15.cell? p = some v := fun {p v} h => by { rw [hb15.cell (World.block_lt_of_cell? w14 p h)]; exact h }; exact ⟨kc s9.1, kc s9.2.1, kc s9.2.2.1, kc s9.2.2.2.1, kc s9.2.2.2.2.1, kc s9.2.2.2.2.2.1, kc s9.2.2.2.2.2.2.1, kc s9.2.2.2.2.2.2.2.1, kc s9.2.2.2.2.2.2.2.2.1, kc s9.2.2.2.2.2.2.2.2.2.1, kc s9.2.2.2.2.2.2.2.2.2.2.1, kc s9.2.2.2.2.2.2.2.2.2.2.2.1, kc s9.2.2.2.2.2.2.2.2.2.2.2.2.1, kc s9.2.2.2.2.2.2.2.2.2.2.2.2.2.1, kc s9.2.2.2.2.2.2.2.2.2.2.2.2.2.2.1, kc s9.2.2.2.2.2.2.2.2.2.2.2.2.2.2.2.1, kc s9.2.2.2.2.2.2.2.2.2.2.2.2.2.2.2.2⟩ }))
      all_goals go_wp2
      all_goals go_ret
      all_goals exact ⟨rfl, bt HC H15⟩
    · have cMin : ∀ (W : World), IsRat W (.agg #[.bool x1, .int .u64 VA1, .int .u64 VL1, .pointer vp1]) x1 n1 d1 → IsRat W (.agg #[.bool x2, .int .u64 VA2, .int .u64 VL2, .pointer vp2]) x2 n2 d2 → Calls Try.prog 35 #[.agg #[.bool x1, .int .u64 VA1, .int .u64 VL1, .pointer vp1], .agg #[.bool x2, .int .u64 VA2, .int .u64 VL2, .pointer vp2]] W fun e w' => ∃ v, e = .returned v ∧ IsRat w' v x1 n1 d1 ∧ Below W.heap.size W w' := fun W h h' => by
        have := cMin0 W h h'
        rw [if_neg hC, if_neg hC, if_neg hC] at this
        exact this
      have cMax : ∀ (W : World), IsRat W (.agg #[.bool x1, .int .u64 VA1, .int .u64 VL1, .pointer vp1]) x1 n1 d1 → IsRat W (.agg #[.bool x2, .int .u64 VA2, .int .u64 VL2, .pointer vp2]) x2 n2 d2 → Calls Try.prog 36 #[.agg #[.bool x1, .int .u64 VA1, .int .u64 VL1, .pointer vp1], .agg #[.bool x2, .int .u64 VA2, .int .u64 VL2, .pointer vp2]] W fun e w' => ∃ v, e = .returned v ∧ IsRat w' v x2 n2 d2 ∧ Below W.heap.size W w' := fun W h h' => by
        have := cMax0 W h h'
        by_cases h2 : C < 0
        · rw [if_pos h2, if_pos h2, if_pos h2] at this
          exact this
        · rw [if_neg h2, if_neg h2, if_neg h2] at this
          obtain ⟨q1, q2, q3⟩ := HEQ.out (by omega) (by omega)
          refine this.mono ?_
          rintro e w' ⟨v, rfl, R, hb⟩
          rw [q1, q2, q3] at R
          exact ⟨v, rfl, R, hb⟩
      clear cMin0 cMax0 HEQ
      have XX := X4
      have YY := Y4
      have PP := P4
      have LL := L4
      have HH := H4
      have CC := C4
      clear X4 Y4 P4 Z4 L4 H4 C4 N4
      have SS : wc.drew.cell? ⟨gx, 0, none⟩ = some (.bool x1) ∧ wc.drew.cell? ⟨gx, 1, none⟩ = some (.int .u64 VA1) ∧ wc.drew.cell? ⟨gx, 2, none⟩ = some (.int .u64 VL1) ∧ wc.drew.cell? ⟨gx, 3, none⟩ = some (.pointer vp1) ∧ wc.drew.cell? ⟨gy, 0, none⟩ = some (.bool x2) ∧ wc.drew.cell? ⟨gy, 1, none⟩ = some (.int .u64 VA2) ∧ wc.drew.cell? ⟨gy, 2, none⟩ = some (.int .u64 VL2) ∧ wc.drew.cell? ⟨gy, 3, none⟩ = some (.pointer vp2) ∧ wc.drew.cell? ⟨gx + 1, 0, none⟩ = some (.bool x1) ∧ wc.drew.cell? ⟨gx + 1, 1, none⟩ = some (.slice o1 N1 m1) ∧ wc.drew.cell? ⟨gx + 1, 2, none⟩ = some (.slice o2 D1 m2) ∧ wc.drew.cell? ⟨g1, 0, none⟩ = some (.bool x1) ∧ wc.drew.cell? ⟨g1, 1, none⟩ = some (.slice o1 N1 m1) ∧ wc.drew.cell? ⟨g1, 2, none⟩ = some (.slice o2 D1 m2) ∧ wc.drew.cell? ⟨g2, 0, none⟩ = some (.bool x2) ∧ wc.drew.cell? ⟨g2, 1, none⟩ = some (.slice o3 N2 m3) ∧ wc.drew.cell? ⟨g2, 2, none⟩ = some (.slice o4 D2 m4) := by
        rw [← eN1.out, ← eD1.out, ← eN2.out, ← eD2.out]
        obtain ⟨q1, q2, q3, q4⟩ := XX.out.cells
        obtain ⟨q5, q6, q7, q8⟩ := YY.out.cells
        obtain ⟨q9, q10, q11⟩ := PP.out.cells
        obtain ⟨q12, q13, q14⟩ := LL.out.cells
        obtain ⟨q15, q16, q17⟩ := HH.out.cells
        exact ⟨q1, q2, q3, q4, q5, q6, q7, q8, q9, q10, q11, q12, q13, q14, q15, q16, q17⟩
      have Dw : Below wc.heap.size wc wc.drew := (Below.refl _ _).drew
      have HP : Hid (IsRat wc.drew (.agg #[.bool x1, .int .u64 VA1, .int .u64 VL1, .pointer vp1]) x1 n1 d1 ∧ IsRat wc.drew (.agg #[.bool x2, .int .u64 VA2, .int .u64 VL2, .pointer vp2]) x2 n2 d2 ∧ IsRef wc.drew (.agg #[.bool x1, .slice o1 N1 m1, .slice o2 D1 m2]) x1 n1 d1 ∧ IsRef wc.drew (.agg #[.bool x1, .slice o1 N1 m1, .slice o2 D1 m2]) x1 n1 d1 ∧ IsRef wc.drew (.agg #[.bool x2, .slice o3 N2 m3, .slice o4 D2 m4]) x2 n2 d2) := by
        rw [← eN1.out, ← eD1.out, ← eN2.out, ← eD2.out]
        exact ⟨XX.out.is.below Dw, YY.out.is.below Dw, PP.out.is.below Dw, LL.out.is.below Dw, HH.out.is.below Dw⟩
      have LIM : Hid ((nb n1).length ≤ 1000000 ∧ (nb d1).length ≤ 1000000 ∧ (nb n2).length ≤ 1000000 ∧ (nb d2).length ≤ 1000000 ∧ (nb fn).length ≤ 1000000 ∧ (nb 1).length ≤ 1000000) := by
        obtain ⟨z1, z2⟩ := L1.out
        obtain ⟨z3, z4⟩ := L2.out
        exact ⟨by omega, by omega, by omega, by omega, bfl, bOne⟩
      have HC := CC.out.drew
      have s0 := SS
      clear SS XX YY PP LL HH CC bfl bOne eN1 eD1 eN2 eD2 L1 L2 Dw
      have T1 : True := trivial
      have T2 : True := trivial
      go_wp2
      go_region_held3 (fun w' => w'.cell? ⟨gx, 0, none⟩ = some (.bool x1) ∧ w'.cell? ⟨gx, 1, none⟩ = some (.int .u64 VA1) ∧ w'.cell? ⟨gx, 2, none⟩ = some (.int .u64 VL1) ∧ w'.cell? ⟨gx, 3, none⟩ = some (.pointer vp1) ∧ w'.cell? ⟨gy, 0, none⟩ = some (.bool x2) ∧ w'.cell? ⟨gy, 1, none⟩ = some (.int .u64 VA2) ∧ w'.cell? ⟨gy, 2, none⟩ = some (.int .u64 VL2) ∧ w'.cell? ⟨gy, 3, none⟩ = some (.pointer vp2) ∧ w'.cell? ⟨gx + 1, 0, none⟩ = some (.bool x1) ∧ w'.cell? ⟨gx + 1, 1, none⟩ = some (.slice o1 N1 m1) ∧ w'.cell? ⟨gx + 1, 2, none⟩ = some (.slice o2 D1 m2) ∧ w'.cell? ⟨g1, 0, none⟩ = some (.bool x1) ∧ w'.cell? ⟨g1, 1, none⟩ = some (.slice o1 N1 m1) ∧ w'.cell? ⟨g1, 2, none⟩ = some (.slice o2 D1 m2) ∧ w'.cell? ⟨g2, 0, none⟩ = some (.bool x2) ∧ w'.cell? ⟨g2, 1, none⟩ = some (.slice o3 N2 m3) ∧ w'.cell? ⟨g2, 2, none⟩ = some (.slice o4 D2 m4)) (first | with_reducible exact s0 | with_reducible exact s1 | with_reducible exact s2 | with_reducible exact s3 | with_reducible exact s4 | with_reducible exact s5 | with_reducible exact s6 | with_reducible exact s7 | with_reducible exact s8 | with_reducible exact s9 | with_reducible exact s10) (first
        | (go_at_call 12; refine (awake5 _).mono ?_; rintro e w6 ⟨rfl, hb6⟩; have s1 : w6.cell? ⟨gx, 0, none⟩ = some (.bool x1) ∧ w6.cell? ⟨gx, 1, none⟩ = some (.int .u64 VA1) ∧ w6.cell? ⟨gx, 2, none⟩ = some (.int .u64 VL1) ∧ w6.cell? ⟨gx, 3, none⟩ = some (.pointer vp1) ∧ w6.cell? ⟨gy, 0, none⟩ = some (.bool x2) ∧ w6.cell? ⟨gy, 1, none⟩ = some (.int .u64 VA2) ∧ w6.cell? ⟨gy, 2, none⟩ = some (.int .u64 VL2) ∧ w6.cell? ⟨gy, 3, none⟩ = some (.pointer vp2) ∧ w6.cell? ⟨gx + 1, 0, none⟩ = some (.bool x1) ∧ w6.cell? ⟨gx + 1, 1, none⟩ = some (.slice o1 N1 m1) ∧ w6.cell? ⟨gx + 1, 2, none⟩ = some (.slice o2 D1 m2) ∧ w6.cell? ⟨g1, 0, none⟩ = some (.bool x1) ∧ w6.cell? ⟨g1, 1, none⟩ = some (.slice o1 N1 m1) ∧ w6.cell? ⟨g1, 2, none⟩ = some (.slice o2 D1 m2) ∧ w6.cell? ⟨g2, 0, none⟩ = some (.bool x2) ∧ w6.cell? ⟨g2, 1, none⟩ = some (.slice o3 N2 m3) ∧ w6.cell? ⟨g2, 2, none⟩ = some (.slice o4 D2 m4) := by { have kc : ∀ {p : Addr} {v : Value}, wc.drew.cell? p = some v → w6.cell? p = some v := fun {p v} h => by { rw [hb6.cell (World.block_lt_of_cell? wc.drew p h)]; exact h }; exact ⟨kc s0.1, kc s0.2.1, kc s0.2.2.1, kc s0.2.2.2.1, kc s0.2.2.2.2.1, kc s0.2.2.2.2.2.1, kc s0.2.2.2.2.2.2.1, kc s0.2.2.2.2.2.2.2.1, kc s0.2.2.2.2.2.2.2.2.1, kc s0.2.2.2.2.2.2.2.2.2.1, kc s0.2.2.2.2.2.2.2.2.2.2.1, kc s0.2.2.2.2.2.2.2.2.2.2.2.1, kc s0.2.2.2.2.2.2.2.2.2.2.2.2.1, kc s0.2.2.2.2.2.2.2.2.2.2.2.2.2.1, kc s0.2.2.2.2.2.2.2.2.2.2.2.2.2.2.1, kc s0.2.2.2.2.2.2.2.2.2.2.2.2.2.2.2.1, kc s0.2.2.2.2.2.2.2.2.2.2.2.2.2.2.2.2⟩ })
        | (go_at_call 17; refine (cC _ (HP.out.1.below hb6) (HP.out.2.1.below hb6)).mono ?_; rintro e w7 ⟨rfl, hb7⟩; have H7 := bt hb6 hb7; have s2 : w7.cell? ⟨gx, 0, none⟩ = some (.bool x1) ∧ w7.cell? ⟨gx, 1, none⟩ = some (.int .u64 VA1) ∧ w7.cell? ⟨gx, 2, none⟩ = some (.int .u64 VL1) ∧ w7.cell? ⟨gx, 3, none⟩ = some (.pointer vp1) ∧ w7.cell? ⟨gy, 0, none⟩ = some (.bool x2) ∧ w7.cell? ⟨gy, 1, none⟩ = some (.int .u64 VA2) ∧ w7.cell? ⟨gy, 2, none⟩ = some (.int .u64 VL2) ∧ w7.cell? ⟨gy, 3, none⟩ = some (.pointer vp2) ∧ w7.cell? ⟨gx + 1, 0, none⟩ = some (.bool x1) ∧ w7.cell? ⟨gx + 1, 1, none⟩ = some (.slice o1 N1 m1) ∧ w7.cell? ⟨gx + 1, 2, none⟩ = some (.slice o2 D1 m2) ∧ w7.cell? ⟨g1, 0, none⟩ = some (.bool x1) ∧ w7.cell? ⟨g1, 1, none⟩ = some (.slice o1 N1 m1) ∧ w7.cell? ⟨g1, 2, none⟩ = some (.slice o2 D1 m2) ∧ w7.cell? ⟨g2, 0, none⟩ = some (.bool x2) ∧ w7.cell? ⟨g2, 1, none⟩ = some (.slice o3 N2 m3) ∧ w7.cell? ⟨g2, 2, none⟩ = some (.slice o4 D2 m4) := by { have kc : ∀ {p : Addr} {v : Value}, w6.cell? p = some v → w7.cell? p = some v := fun {p v} h => by { rw [hb7.cell (World.block_lt_of_cell? w6 p h)]; exact h }; exact ⟨kc s1.1, kc s1.2.1, kc s1.2.2.1, kc s1.2.2.2.1, kc s1.2.2.2.2.1, kc s1.2.2.2.2.2.1, kc s1.2.2.2.2.2.2.1, kc s1.2.2.2.2.2.2.2.1, kc s1.2.2.2.2.2.2.2.2.1, kc s1.2.2.2.2.2.2.2.2.2.1, kc s1.2.2.2.2.2.2.2.2.2.2.1, kc s1.2.2.2.2.2.2.2.2.2.2.2.1, kc s1.2.2.2.2.2.2.2.2.2.2.2.2.1, kc s1.2.2.2.2.2.2.2.2.2.2.2.2.2.1, kc s1.2.2.2.2.2.2.2.2.2.2.2.2.2.2.1, kc s1.2.2.2.2.2.2.2.2.2.2.2.2.2.2.2.1, kc s1.2.2.2.2.2.2.2.2.2.2.2.2.2.2.2.2⟩ })
        | (go_at_call 35; refine (cMin _ (HP.out.1.below H7) (HP.out.2.1.below H7)).mono ?_; rintro e w8 ⟨v8, rfl, R8, hb8⟩; have H8 := bt H7 hb8; have s3 : w8.cell? ⟨gx, 0, none⟩ = some (.bool x1) ∧ w8.cell? ⟨gx, 1, none⟩ = some (.int .u64 VA1) ∧ w8.cell? ⟨gx, 2, none⟩ = some (.int .u64 VL1) ∧ w8.cell? ⟨gx, 3, none⟩ = some (.pointer vp1) ∧ w8.cell? ⟨gy, 0, none⟩ = some (.bool x2) ∧ w8.cell? ⟨gy, 1, none⟩ = some (.int .u64 VA2) ∧ w8.cell? ⟨gy, 2, none⟩ = some (.int .u64 VL2) ∧ w8.cell? ⟨gy, 3, none⟩ = some (.pointer vp2) ∧ w8.cell? ⟨gx + 1, 0, none⟩ = some (.bool x1) ∧ w8.cell? ⟨gx + 1, 1, none⟩ = some (.slice o1 N1 m1) ∧ w8.cell? ⟨gx + 1, 2, none⟩ = some (.slice o2 D1 m2) ∧ w8.cell? ⟨g1, 0, none⟩ = some (.bool x1) ∧ w8.cell? ⟨g1, 1, none⟩ = some (.slice o1 N1 m1) ∧ w8.cell? ⟨g1, 2, none⟩ = some (.slice o2 D1 m2) ∧ w8.cell? ⟨g2, 0, none⟩ = some (.bool x2) ∧ w8.cell? ⟨g2, 1, none⟩ = some (.slice o3 N2 m3) ∧ w8.cell? ⟨g2, 2, none⟩ = some (.slice o4 D2 m4) := by { have kc : ∀ {p : Addr} {v : Value}, w7.cell? p = some v → w8.cell? p = some v := fun {p v} h => by { rw [hb8.cell (World.block_lt_of_cell? w7 p h)]; exact h }; exact ⟨kc s2.1, kc s2.2.1, kc s2.2.2.1, kc s2.2.2.2.1, kc s2.2.2.2.2.1, kc s2.2.2.2.2.2.1, kc s2.2.2.2.2.2.2.1, kc s2.2.2.2.2.2.2.2.1, kc s2.2.2.2.2.2.2.2.2.1, kc s2.2.2.2.2.2.2.2.2.2.1, kc s2.2.2.2.2.2.2.2.2.2.2.1, kc s2.2.2.2.2.2.2.2.2.2.2.2.1, kc s2.2.2.2.2.2.2.2.2.2.2.2.2.1, kc s2.2.2.2.2.2.2.2.2.2.2.2.2.2.1, kc s2.2.2.2.2.2.2.2.2.2.2.2.2.2.2.1, kc s2.2.2.2.2.2.2.2.2.2.2.2.2.2.2.2.1, kc s2.2.2.2.2.2.2.2.2.2.2.2.2.2.2.2.2⟩ })
        | (go_at_call 18; have _t := T1; clear _t T1; refine (is_yes _ _ x1 n1 d1 _ R8 (HP.out.2.2.2.1.below H8) LIM.out.1 LIM.out.2.1).mono ?_; rintro e w9 ⟨rfl, hb9⟩; have H9 := bt H8 hb9; have s4 : w9.cell? ⟨gx, 0, none⟩ = some (.bool x1) ∧ w9.cell? ⟨gx, 1, none⟩ = some (.int .u64 VA1) ∧ w9.cell? ⟨gx, 2, none⟩ = some (.int .u64 VL1) ∧ w9.cell? ⟨gx, 3, none⟩ = some (.pointer vp1) ∧ w9.cell? ⟨gy, 0, none⟩ = some (.bool x2) ∧ w9.cell? ⟨gy, 1, none⟩ = some (.int .u64 VA2) ∧ w9.cell? ⟨gy, 2, none⟩ = some (.int .u64 VL2) ∧ w9.cell? ⟨gy, 3, none⟩ = some (.pointer vp2) ∧ w9.cell? ⟨gx + 1, 0, none⟩ = some (.bool x1) ∧ w9.cell? ⟨gx + 1, 1, none⟩ = some (.slice o1 N1 m1) ∧ w9.cell? ⟨gx + 1, 2, none⟩ = some (.slice o2 D1 m2) ∧ w9.cell? ⟨g1, 0, none⟩ = some (.bool x1) ∧ w9.cell? ⟨g1, 1, none⟩ = some (.slice o1 N1 m1) ∧ w9.cell? ⟨g1, 2, none⟩ = some (.slice o2 D1 m2) ∧ w9.cell? ⟨g2, 0, none⟩ = some (.bool x2) ∧ w9.cell? ⟨g2, 1, none⟩ = some (.slice o3 N2 m3) ∧ w9.cell? ⟨g2, 2, none⟩ = some (.slice o4 D2 m4) := by { have kc : ∀ {p : Addr} {v : Value}, w8.cell? p = some v → w9.cell? p = some v := fun {p v} h => by { rw [hb9.cell (World.block_lt_of_cell? w8 p h)]; exact h }; exact ⟨kc s3.1, kc s3.2.1, kc s3.2.2.1, kc s3.2.2.2.1, kc s3.2.2.2.2.1, kc s3.2.2.2.2.2.1, kc s3.2.2.2.2.2.2.1, kc s3.2.2.2.2.2.2.2.1, kc s3.2.2.2.2.2.2.2.2.1, kc s3.2.2.2.2.2.2.2.2.2.1, kc s3.2.2.2.2.2.2.2.2.2.2.1, kc s3.2.2.2.2.2.2.2.2.2.2.2.1, kc s3.2.2.2.2.2.2.2.2.2.2.2.2.1, kc s3.2.2.2.2.2.2.2.2.2.2.2.2.2.1, kc s3.2.2.2.2.2.2.2.2.2.2.2.2.2.2.1, kc s3.2.2.2.2.2.2.2.2.2.2.2.2.2.2.2.1, kc s3.2.2.2.2.2.2.2.2.2.2.2.2.2.2.2.2⟩ })
        | (go_at_call 36; refine (cMax _ (HP.out.1.below H9) (HP.out.2.1.below H9)).mono ?_; rintro e w10 ⟨v10, rfl, R10, hb10⟩; have H10 := bt H9 hb10; have s5 : w10.cell? ⟨gx, 0, none⟩ = some (.bool x1) ∧ w10.cell? ⟨gx, 1, none⟩ = some (.int .u64 VA1) ∧ w10.cell? ⟨gx, 2, none⟩ = some (.int .u64 VL1) ∧ w10.cell? ⟨gx, 3, none⟩ = some (.pointer vp1) ∧ w10.cell? ⟨gy, 0, none⟩ = some (.bool x2) ∧ w10.cell? ⟨gy, 1, none⟩ = some (.int .u64 VA2) ∧ w10.cell? ⟨gy, 2, none⟩ = some (.int .u64 VL2) ∧ w10.cell? ⟨gy, 3, none⟩ = some (.pointer vp2) ∧ w10.cell? ⟨gx + 1, 0, none⟩ = some (.bool x1) ∧ w10.cell? ⟨gx + 1, 1, none⟩ = some (.slice o1 N1 m1) ∧ w10.cell? ⟨gx + 1, 2, none⟩ = some (.slice o2 D1 m2) ∧ w10.cell? ⟨g1, 0, none⟩ = some (.bool x1) ∧ w10.cell? ⟨g1, 1, none⟩ = some (.slice o1 N1 m1) ∧ w10.cell? ⟨g1, 2, none⟩ = some (.slice o2 D1 m2) ∧ w10.cell? ⟨g2, 0, none⟩ = some (.bool x2) ∧ w10.cell? ⟨g2, 1, none⟩ = some (.slice o3 N2 m3) ∧ w10.cell? ⟨g2, 2, none⟩ = some (.slice o4 D2 m4) := by { have kc : ∀ {p : Addr} {v : Value}, w9.cell? p = some v → w10.cell? p = some v := fun {p v} h => by { rw [hb10.cell (World.block_lt_of_cell? w9 p h)]; exact h }; exact ⟨kc s4.1, kc s4.2.1, kc s4.2.2.1, kc s4.2.2.2.1, kc s4.2.2.2.2.1, kc s4.2.2.2.2.2.1, kc s4.2.2.2.2.2.2.1, kc s4.2.2.2.2.2.2.2.1, kc s4.2.2.2.2.2.2.2.2.1, kc s4.2.2.2.2.2.2.2.2.2.1, kc s4.2.2.2.2.2.2.2.2.2.2.1, kc s4.2.2.2.2.2.2.2.2.2.2.2.1, kc s4.2.2.2.2.2.2.2.2.2.2.2.2.1, kc s4.2.2.2.2.2.2.2.2.2.2.2.2.2.1, kc s4.2.2.2.2.2.2.2.2.2.2.2.2.2.2.1, kc s4.2.2.2.2.2.2.2.2.2.2.2.2.2.2.2.1, kc s4.2.2.2.2.2.2.2.2.2.2.2.2.2.2.2.2⟩ })
        | (go_at_call 18; have _t := T2; clear _t T2; refine (is_yes _ _ x2 n2 d2 _ R10 (HP.out.2.2.2.2.below H10) LIM.out.2.2.1 LIM.out.2.2.2.1).mono ?_; rintro e w11 ⟨rfl, hb11⟩; have H11 := bt H10 hb11; have s6 : w11.cell? ⟨gx, 0, none⟩ = some (.bool x1) ∧ w11.cell? ⟨gx, 1, none⟩ = some (.int .u64 VA1) ∧ w11.cell? ⟨gx, 2, none⟩ = some (.int .u64 VL1) ∧ w11.cell? ⟨gx, 3, none⟩ = some (.pointer vp1) ∧ w11.cell? ⟨gy, 0, none⟩ = some (.bool x2) ∧ w11.cell? ⟨gy, 1, none⟩ = some (.int .u64 VA2) ∧ w11.cell? ⟨gy, 2, none⟩ = some (.int .u64 VL2) ∧ w11.cell? ⟨gy, 3, none⟩ = some (.pointer vp2) ∧ w11.cell? ⟨gx + 1, 0, none⟩ = some (.bool x1) ∧ w11.cell? ⟨gx + 1, 1, none⟩ = some (.slice o1 N1 m1) ∧ w11.cell? ⟨gx + 1, 2, none⟩ = some (.slice o2 D1 m2) ∧ w11.cell? ⟨g1, 0, none⟩ = some (.bool x1) ∧ w11.cell? ⟨g1, 1, none⟩ = some (.slice o1 N1 m1) ∧ w11.cell? ⟨g1, 2, none⟩ = some (.slice o2 D1 m2) ∧ w11.cell? ⟨g2, 0, none⟩ = some (.bool x2) ∧ w11.cell? ⟨g2, 1, none⟩ = some (.slice o3 N2 m3) ∧ w11.cell? ⟨g2, 2, none⟩ = some (.slice o4 D2 m4) := by { have kc : ∀ {p : Addr} {v : Value}, w10.cell? p = some v → w11.cell? p = some v := fun {p v} h => by { rw [hb11.cell (World.block_lt_of_cell? w10 p h)]; exact h }; exact ⟨kc s5.1, kc s5.2.1, kc s5.2.2.1, kc s5.2.2.2.1, kc s5.2.2.2.2.1, kc s5.2.2.2.2.2.1, kc s5.2.2.2.2.2.2.1, kc s5.2.2.2.2.2.2.2.1, kc s5.2.2.2.2.2.2.2.2.1, kc s5.2.2.2.2.2.2.2.2.2.1, kc s5.2.2.2.2.2.2.2.2.2.2.1, kc s5.2.2.2.2.2.2.2.2.2.2.2.1, kc s5.2.2.2.2.2.2.2.2.2.2.2.2.1, kc s5.2.2.2.2.2.2.2.2.2.2.2.2.2.1, kc s5.2.2.2.2.2.2.2.2.2.2.2.2.2.2.1, kc s5.2.2.2.2.2.2.2.2.2.2.2.2.2.2.2.1, kc s5.2.2.2.2.2.2.2.2.2.2.2.2.2.2.2.2⟩ })
        | (go_at_call 37; refine (cWh _ (HP.out.1.below H11)).mono ?_; rintro e w12 ⟨rfl, hb12⟩; have H12 := bt H11 hb12; have s7 : w12.cell? ⟨gx, 0, none⟩ = some (.bool x1) ∧ w12.cell? ⟨gx, 1, none⟩ = some (.int .u64 VA1) ∧ w12.cell? ⟨gx, 2, none⟩ = some (.int .u64 VL1) ∧ w12.cell? ⟨gx, 3, none⟩ = some (.pointer vp1) ∧ w12.cell? ⟨gy, 0, none⟩ = some (.bool x2) ∧ w12.cell? ⟨gy, 1, none⟩ = some (.int .u64 VA2) ∧ w12.cell? ⟨gy, 2, none⟩ = some (.int .u64 VL2) ∧ w12.cell? ⟨gy, 3, none⟩ = some (.pointer vp2) ∧ w12.cell? ⟨gx + 1, 0, none⟩ = some (.bool x1) ∧ w12.cell? ⟨gx + 1, 1, none⟩ = some (.slice o1 N1 m1) ∧ w12.cell? ⟨gx + 1, 2, none⟩ = some (.slice o2 D1 m2) ∧ w12.cell? ⟨g1, 0, none⟩ = some (.bool x1) ∧ w12.cell? ⟨g1, 1, none⟩ = some (.slice o1 N1 m1) ∧ w12.cell? ⟨g1, 2, none⟩ = some (.slice o2 D1 m2) ∧ w12.cell? ⟨g2, 0, none⟩ = some (.bool x2) ∧ w12.cell? ⟨g2, 1, none⟩ = some (.slice o3 N2 m3) ∧ w12.cell? ⟨g2, 2, none⟩ = some (.slice o4 D2 m4) := by { have kc : ∀ {p : Addr} {v : Value}, w11.cell? p = some v → w12.cell? p = some v := fun {p v} h => by { rw [hb12.cell (World.block_lt_of_cell? w11 p h)]; exact h }; exact ⟨kc s6.1, kc s6.2.1, kc s6.2.2.1, kc s6.2.2.2.1, kc s6.2.2.2.2.1, kc s6.2.2.2.2.2.1, kc s6.2.2.2.2.2.2.1, kc s6.2.2.2.2.2.2.2.1, kc s6.2.2.2.2.2.2.2.2.1, kc s6.2.2.2.2.2.2.2.2.2.1, kc s6.2.2.2.2.2.2.2.2.2.2.1, kc s6.2.2.2.2.2.2.2.2.2.2.2.1, kc s6.2.2.2.2.2.2.2.2.2.2.2.2.1, kc s6.2.2.2.2.2.2.2.2.2.2.2.2.2.1, kc s6.2.2.2.2.2.2.2.2.2.2.2.2.2.2.1, kc s6.2.2.2.2.2.2.2.2.2.2.2.2.2.2.2.1, kc s6.2.2.2.2.2.2.2.2.2.2.2.2.2.2.2.2⟩ })
        | (go_at_call 38; refine (cFl _ (HP.out.1.below H12)).mono ?_; rintro e w13 ⟨v13, rfl, R13, hb13⟩; have H13 := bt H12 hb13; have s8 : w13.cell? ⟨gx, 0, none⟩ = some (.bool x1) ∧ w13.cell? ⟨gx, 1, none⟩ = some (.int .u64 VA1) ∧ w13.cell? ⟨gx, 2, none⟩ = some (.int .u64 VL1) ∧ w13.cell? ⟨gx, 3, none⟩ = some (.pointer vp1) ∧ w13.cell? ⟨gy, 0, none⟩ = some (.bool x2) ∧ w13.cell? ⟨gy, 1, none⟩ = some (.int .u64 VA2) ∧ w13.cell? ⟨gy, 2, none⟩ = some (.int .u64 VL2) ∧ w13.cell? ⟨gy, 3, none⟩ = some (.pointer vp2) ∧ w13.cell? ⟨gx + 1, 0, none⟩ = some (.bool x1) ∧ w13.cell? ⟨gx + 1, 1, none⟩ = some (.slice o1 N1 m1) ∧ w13.cell? ⟨gx + 1, 2, none⟩ = some (.slice o2 D1 m2) ∧ w13.cell? ⟨g1, 0, none⟩ = some (.bool x1) ∧ w13.cell? ⟨g1, 1, none⟩ = some (.slice o1 N1 m1) ∧ w13.cell? ⟨g1, 2, none⟩ = some (.slice o2 D1 m2) ∧ w13.cell? ⟨g2, 0, none⟩ = some (.bool x2) ∧ w13.cell? ⟨g2, 1, none⟩ = some (.slice o3 N2 m3) ∧ w13.cell? ⟨g2, 2, none⟩ = some (.slice o4 D2 m4) := by { have kc : ∀ {p : Addr} {v : Value}, w12.cell? p = some v → w13.cell? p = some v := fun {p v} h => by { rw [hb13.cell (World.block_lt_of_cell? w12 p h)]; exact h }; exact ⟨kc s7.1, kc s7.2.1, kc s7.2.2.1, kc s7.2.2.2.1, kc s7.2.2.2.2.1, kc s7.2.2.2.2.2.1, kc s7.2.2.2.2.2.2.1, kc s7.2.2.2.2.2.2.2.1, kc s7.2.2.2.2.2.2.2.2.1, kc s7.2.2.2.2.2.2.2.2.2.1, kc s7.2.2.2.2.2.2.2.2.2.2.1, kc s7.2.2.2.2.2.2.2.2.2.2.2.1, kc s7.2.2.2.2.2.2.2.2.2.2.2.2.1, kc s7.2.2.2.2.2.2.2.2.2.2.2.2.2.1, kc s7.2.2.2.2.2.2.2.2.2.2.2.2.2.2.1, kc s7.2.2.2.2.2.2.2.2.2.2.2.2.2.2.2.1, kc s7.2.2.2.2.2.2.2.2.2.2.2.2.2.2.2.2⟩ })
        | (go_at_call 39; refine (cRf _ (HP.out.2.2.1.below H13)).mono ?_; rintro e w14 ⟨v14, rfl, Q14, hb14⟩; have H14 := bt H13 hb14; have s9 : w14.cell? ⟨gx, 0, none⟩ = some (.bool x1) ∧ w14.cell? ⟨gx, 1, none⟩ = some (.int .u64 VA1) ∧ w14.cell? ⟨gx, 2, none⟩ = some (.int .u64 VL1) ∧ w14.cell? ⟨gx, 3, none⟩ = some (.pointer vp1) ∧ w14.cell? ⟨gy, 0, none⟩ = some (.bool x2) ∧ w14.cell? ⟨gy, 1, none⟩ = some (.int .u64 VA2) ∧ w14.cell? ⟨gy, 2, none⟩ = some (.int .u64 VL2) ∧ w14.cell? ⟨gy, 3, none⟩ = some (.pointer vp2) ∧ w14.cell? ⟨gx + 1, 0, none⟩ = some (.bool x1) ∧ w14.cell? ⟨gx + 1, 1, none⟩ = some (.slice o1 N1 m1) ∧ w14.cell? ⟨gx + 1, 2, none⟩ = some (.slice o2 D1 m2) ∧ w14.cell? ⟨g1, 0, none⟩ = some (.bool x1) ∧ w14.cell? ⟨g1, 1, none⟩ = some (.slice o1 N1 m1) ∧ w14.cell? ⟨g1, 2, none⟩ = some (.slice o2 D1 m2) ∧ w14.cell? ⟨g2, 0, none⟩ = some (.bool x2) ∧ w14.cell? ⟨g2, 1, none⟩ = some (.slice o3 N2 m3) ∧ w14.cell? ⟨g2, 2, none⟩ = some (.slice o4 D2 m4) := by { have kc : ∀ {p : Addr} {v : Value}, w13.cell? p = some v → w14.cell? p = some v := fun {p v} h => by { rw [hb14.cell (World.block_lt_of_cell? w13 p h)]; exact h }; exact ⟨kc s8.1, kc s8.2.1, kc s8.2.2.1, kc s8.2.2.2.1, kc s8.2.2.2.2.1, kc s8.2.2.2.2.2.1, kc s8.2.2.2.2.2.2.1, kc s8.2.2.2.2.2.2.2.1, kc s8.2.2.2.2.2.2.2.2.1, kc s8.2.2.2.2.2.2.2.2.2.1, kc s8.2.2.2.2.2.2.2.2.2.2.1, kc s8.2.2.2.2.2.2.2.2.2.2.2.1, kc s8.2.2.2.2.2.2.2.2.2.2.2.2.1, kc s8.2.2.2.2.2.2.2.2.2.2.2.2.2.1, kc s8.2.2.2.2.2.2.2.2.2.2.2.2.2.2.1, kc s8.2.2.2.2.2.2.2.2.2.2.2.2.2.2.2.1, kc s8.2.2.2.2.2.2.2.2.2.2.2.2.2.2.2.2⟩ })
        | (go_at_call 18; refine (is_yes _ _ fb fn 1 _ (R13.below hb14) Q14 LIM.out.2.2.2.2.1 LIM.out.2.2.2.2.2).mono ?_; rintro e w15 ⟨rfl, hb15⟩; have H15 := bt H14 hb15; have s10 : w15.cell? ⟨gx, 0, none⟩ = some (.bool x1) ∧ w15.cell? ⟨gx, 1, none⟩ = some (.int .u64 VA1) ∧ w15.cell? ⟨gx, 2, none⟩ = some (.int .u64 VL1) ∧ w15.cell? ⟨gx, 3, none⟩ = some (.pointer vp1) ∧ w15.cell? ⟨gy, 0, none⟩ = some (.bool x2) ∧ w15.cell? ⟨gy, 1, none⟩ = some (.int .u64 VA2) ∧ w15.cell? ⟨gy, 2, none⟩ = some (.int .u64 VL2) ∧ w15.cell? ⟨gy, 3, none⟩ = some (.pointer vp2) ∧ w15.cell? ⟨gx + 1, 0, none⟩ = some (.bool x1) ∧ w15.cell? ⟨gx + 1, 1, none⟩ = some (.slice o1 N1 m1) ∧ w15.cell? ⟨gx + 1, 2, none⟩ = some (.slice o2 D1 m2) ∧ w15.cell? ⟨g1, 0, none⟩ = some (.bool x1) ∧ w15.cell? ⟨g1, 1, none⟩ = some (.slice o1 N1 m1) ∧ w15.cell? ⟨g1, 2, none⟩ = some (.slice o2 D1 m2) ∧ w15.cell? ⟨g2, 0, none⟩ = some (.bool x2) ∧ w15.cell? ⟨g2, 1, none⟩ = some (.slice o3 N2 m3) ∧ w15.cell? ⟨g2, 2, none⟩ = some (.slice o4 D2 m4) := by { have kc : ∀ {p : Addr} {v : Value}, w14.cell? p = some v → w15.cell? p = some v := fun {p v} h => by { rw [hb15.cell (World.block_lt_of_cell? w14 p h)]; exact h }; exact ⟨kc s9.1, kc s9.2.1, kc s9.2.2.1, kc s9.2.2.2.1, kc s9.2.2.2.2.1, kc s9.2.2.2.2.2.1, kc s9.2.2.2.2.2.2.1, kc s9.2.2.2.2.2.2.2.1, kc s9.2.2.2.2.2.2.2.2.1, kc s9.2.2.2.2.2.2.2.2.2.1, kc s9.2.2.2.2.2.2.2.2.2.2.1, kc s9.2.2.2.2.2.2.2.2.2.2.2.1, kc s9.2.2.2.2.2.2.2.2.2.2.2.2.1, kc s9.2.2.2.2.2.2.2.2.2.2.2.2.2.1, kc s9.2.2.2.2.2.2.2.2.2.2.2.2.2.2.1, kc s9.2.2.2.2.2.2.2.2.2.2.2.2.2.2.2.1, kc s9.2.2.2.2.2.2.2.2.2.2.2.2.2.2.2.2⟩ }))
      all_goals go_wp2
      all_goals go_ret
      all_goals exact ⟨rfl, bt HC H15⟩
end Go.Proofs.Ytfkaeehbnnhfoaa.OrW

/- RatInts: it is told rightly which rational numbers are ints: the walk. -/
namespace Go.Proofs.Ytfkaeehbnnhfoaa.RiW
open Go.RowKit Mem LimbNum Limb1 RatL RatM RatN RatF RatW RefR RefT RefU RefI Law5 Aw5 Mk5 Bo5 BoN BoZ MulW MulL InvL DivL QNum CmpL CmqL RefX RefY RefZ FloL RFlo OrW

/-- The ints among the rational numbers. -/
def isI (b : Bool) (n d : Nat) : Prop := d = 1 ∧ (if b then n ≤ 9223372036854775808 else n ≤ 9223372036854775807)
theorem low_cmp {b : Bool} {n : Nat} : (0 ≤ cmpQ b n 1 true 9223372036854775808 1 ∧ cmpQ b n 1 false 9223372036854775807 1 ≤ 0) ↔ (if b then n ≤ 9223372036854775808 else n ≤ 9223372036854775807) := by
  have c1 : ∀ x y : Int, 0 ≤ cmpI x y ↔ y ≤ x := fun x y => by unfold cmpI; split <;> (try split) <;> omega
  have c2 : ∀ x y : Int, cmpI x y ≤ 0 ↔ x ≤ y := fun x y => by unfold cmpI; split <;> (try split) <;> omega
  unfold cmpQ
  rw [c1, c2]
  unfold sv
  cases b <;> simp <;> omega
theorem cmp_self (b : Bool) (n : Nat) : cmpQ b n 1 b n 1 = 0 := by unfold cmpQ cmpI; simp
set_option maxRecDepth 20000 in
set_option maxHeartbeats 2000000 in
theorem law (b1 : Bool) (SA1 SB1 : Value) (i : Int) (w : World) (i0 : -9223372036854775808 ≤ i) (i1 : i ≤ 9223372036854775807)
    (cB1 : ∀ W, Below w.heap.size w W → Calls Try.prog 9 #[.agg #[.bool b1, SA1, SB1]] W fun e w' => ∃ v q b2 n d, e = .returned (.tuple #[v, q]) ∧ IsRat w' v b2 n d ∧ IsRef w' q b2 n d ∧ ((nb n).length ≤ 256 ∧ (nb d).length ≤ 256) ∧ Below W.heap.size W w') :
    Calls Try.prog 7 #[.agg #[.bool b1, SA1, SB1], .int .i64 i] w fun e w' => e = .returned (.bool true) ∧ Below w.heap.size w w' := by
  have cIi := fun (W : World) => int_any i W i0 i1
  have cTi : ∀ (W : World) (v : Value), IsRat W v (decide (i < 0)) i.natAbs 1 → Calls Try.prog 40 #[v] W fun e w' => e = .returned (.tuple #[.int .i64 i, .bool true]) ∧ Below W.heap.size W w' := fun W v h => by
    have := toint_yes v (decide (i < 0)) i.natAbs 1 W h rfl (by by_cases h : i < 0 <;> simp [h] <;> omega)
    rw [show (if decide (i < 0) = true then -((i.natAbs : Nat) : Int) else ((i.natAbs : Nat) : Int)) = i by by_cases h : i < 0 <;> simp [h] <;> omega] at this
    exact this
  generalize decide (i < 0) = ib at *
  generalize i.natAbs = ia at *
  obtain ⟨W0, eW0, hb0, k0⟩ := one_new w (.cells #[.bool b1, SA1, SB1] 24)
  have c3 : ∀ {W : World} {g : Nat} {a b c : Value} {t : TypeId}, W.heap[g]? = some (.cells #[a, b, c] t) → W.cell? ⟨g, 0, none⟩ = some a ∧ W.cell? ⟨g, 1, none⟩ = some b ∧ W.cell? ⟨g, 2, none⟩ = some c := fun {W g a b c t} h => by
    refine ⟨?_, ?_, ?_⟩ <;> simp [World.cell?, h]
  obtain ⟨a0, a1, a2⟩ := c3 k0
  have EW : Hid (_ = W0) := eW0
  have cB1' := cB1 W0 hb0
  clear eW0 k0 c3 cB1 i0 i1
  go_enter Try.func7, Try.ntmps7
  go_upto_region 1 with fail
  rw [EW.out]
  go_upto_region 2 with (go_at_call 9; refine cB1'.mono ?_; rintro e w1 ⟨v1, q1, x1, n1, d1, rfl, R1, Q1, lim1, hb1⟩; obtain ⟨VA1, VL1, vp1, rfl⟩ := R1.shape; obtain ⟨o1, m1, o2, m2, rfl, O1, O2⟩ := Q1)
  obtain ⟨W1, eW1, B1, kx, kp⟩ := two_new w1 (.cells #[.bool x1, .int .u64 VA1, .int .u64 VL1, .pointer vp1] 28) (.cells #[.bool x1, .slice o1 (nb n1).length m1, .slice o2 (nb d1).length m2] 31)
  rw [eW1]
  have X1 : Hid (RL W1 w1.heap.size x1 n1 d1 VA1 VL1 vp1) := ⟨kx, R1.below B1⟩
  have P1 : Hid (QL W1 (w1.heap.size + 1) x1 n1 d1 o1 m1 o2 m2) := ⟨kp, ⟨_, _, _, _, rfl, keep O1 B1, keep O2 B1⟩⟩
  have C1 : Hid (Below w.heap.size w W1) := bt (bt hb0 hb1) B1
  generalize w1.heap.size = gx at *
  have L1 : Hid ((nb n1).length ≤ 256 ∧ (nb d1).length ≤ 256) := lim1
  clear eW1 kx kp B1 R1 O1 O2 cB1' a0 a1 a2 EW hb1 hb0 lim1
  obtain ⟨u0, u1, u2, u3⟩ := X1.out.cells
  have HOK : Hid (∃ (ok : Bool) (I : Int), (∀ W : World, IsRat W (.agg #[.bool x1, .int .u64 VA1, .int .u64 VL1, .pointer vp1]) x1 n1 d1 → Calls Try.prog 40 #[.agg #[.bool x1, .int .u64 VA1, .int .u64 VL1, .pointer vp1]] W fun e w' => e = .returned (.tuple #[.int .i64 I, .bool ok]) ∧ Below W.heap.size W w') ∧
      (ok = true ∧ isI x1 n1 d1 ∧ (∀ W : World, Calls Try.prog 30 #[.int .i64 I] W fun e w' => ∃ v, e = .returned v ∧ IsRef w' v x1 n1 1 ∧ Below W.heap.size W w') ∨ ok = false ∧ I = 0 ∧ ¬ isI x1 n1 d1)) := by
    by_cases h : isI x1 n1 d1
    · have hz := X1.out.is.1.sg
      have h2 := h.2
      refine ⟨true, if x1 then -(n1 : Int) else (n1 : Int), fun W hR => toint_yes _ x1 n1 d1 W hR h.1 h.2, .inl ⟨rfl, h, fun W => ?_⟩⟩
      have := rint_any (if x1 then -(n1 : Int) else (n1 : Int)) W (by cases x1 <;> simp at h2 ⊢ <;> omega) (by cases x1 <;> simp at h2 ⊢ <;> omega)
      rw [show decide ((if x1 = true then -(n1 : Int) else (n1 : Int)) < 0) = x1 by cases x1 <;> simp at hz ⊢ <;> omega, show (if x1 = true then -(n1 : Int) else (n1 : Int)).natAbs = n1 by cases x1 <;> simp] at this
      exact this
    · exact ⟨false, 0, fun W hR => toint_no _ x1 n1 d1 W hR h, .inr ⟨rfl, rfl, h⟩⟩
  obtain ⟨ok, I, cT, hOK⟩ := HOK.out
  have HO : Hid (ok = true ∧ isI x1 n1 d1 ∧ (∀ W : World, Calls Try.prog 30 #[.int .i64 I] W fun e w' => ∃ v, e = .returned v ∧ IsRef w' v x1 n1 1 ∧ Below W.heap.size W w') ∨ ok = false ∧ I = 0 ∧ ¬ isI x1 n1 d1) := hOK
  clear HOK hOK
  have cLo : ∀ W : World, Calls Try.prog 30 #[.int .i64 (-9223372036854775808)] W fun e w' => ∃ v, e = .returned v ∧ IsRef w' v true 9223372036854775808 1 ∧ Below W.heap.size W w' := fun W => rint_any (-9223372036854775808) W (by omega) (by omega)
  have cHi : ∀ W : World, Calls Try.prog 30 #[.int .i64 9223372036854775807] W fun e w' => ∃ v, e = .returned v ∧ IsRef w' v false 9223372036854775807 1 ∧ Below W.heap.size W w' := fun W => rint_any 9223372036854775807 W (by omega) (by omega)
  have T1 : True := trivial
  have T2 : True := trivial
  go_upto_region 4 with (first
    | (go_at_call 40; have _t := T1; clear _t T1; refine (cT _ X1.out.is).mono ?_; rintro e w2 ⟨rfl, hb2⟩)
    | (go_at_call 41; refine (cIi _).mono ?_; rintro e w3 ⟨v3, rfl, R3, hb3⟩)
    | (go_at_call 40; refine (cTi _ _ R3).mono ?_; rintro e w4 ⟨rfl, hb4⟩))
  have P4 : Hid (QL w4 (gx + 1) x1 n1 d1 o1 m1 o2 m2) := P1.out.kept (bt hb2 (bt hb3 hb4))
  have C4 : Hid (Below w.heap.size w w4) := bt C1.out (bt hb2 (bt hb3 hb4))
  have PO : Hid (1 ≤ d1) := X1.out.is.1.pos
  clear P1 C1 X1 u0 u1 u2 u3 hb2 hb3 hb4 R3 cT cTi cIi
  go_upto_region 5 with (first
    | (go_at_call 30; have _t := T2; clear _t T2; refine (cLo _).mono ?_; rintro e w5 ⟨v5, rfl, Q5, hb5⟩)
    | (go_at_call 30; refine (cHi _).mono ?_; rintro e w6 ⟨v6, rfl, Q6, hb6⟩; have Q5 := Q5.below hb6; obtain ⟨p1, k1, p2, k2, rfl, O5, O6⟩ := Q5; obtain ⟨p3, k3, p4, k4, rfl, O7, O8⟩ := Q6))
  obtain ⟨W6, eW6, B6, kl, kh⟩ := two_new w6 (.cells #[.bool true, .slice p1 (nb 9223372036854775808).length k1, .slice p2 (nb 1).length k2] 31) (.cells #[.bool false, .slice p3 (nb 9223372036854775807).length k3, .slice p4 (nb 1).length k4] 31)
  rw [eW6]
  have P6 : Hid (QL W6 (gx + 1) x1 n1 d1 o1 m1 o2 m2) := P4.out.kept (bt hb5 (bt hb6 B6))
  have LO : Hid (QL W6 w6.heap.size true 9223372036854775808 1 p1 k1 p2 k2) := ⟨kl, ⟨_, _, _, _, rfl, keep O5 B6, keep O6 B6⟩⟩
  have HI : Hid (QL W6 (w6.heap.size + 1) false 9223372036854775807 1 p3 k3 p4 k4) := ⟨kh, ⟨_, _, _, _, rfl, keep O7 B6, keep O8 B6⟩⟩
  have C6 : Hid (Below w.heap.size w W6) := bt C4.out (bt hb5 (bt hb6 B6))
  generalize w6.heap.size = gl at *
  clear eW6 kl kh P4 C4 O5 O6 O7 O8 hb5 hb6 B6 cLo cHi
  obtain ⟨N1, eN1⟩ : ∃ x, Hid ((nb n1).length = x) := ⟨_, rfl⟩
  obtain ⟨D1, eD1⟩ : ∃ x, Hid ((nb d1).length = x) := ⟨_, rfl⟩
  have hD : ((D1 : Int) == 1) = decide (d1 = 1) := by rw [← eD1.out, Bool.eq_iff_iff]; simp only [beq_iff_eq, decide_eq_true_iff]; rw [← nb_one_iff d1]; omega
  have HIs : Hid (IsRef W6 (.agg #[.bool x1, .slice o1 N1 m1, .slice o2 D1 m2]) x1 n1 d1) := by rw [← eN1.out, ← eD1.out]; exact P6.out.is
  have sP : W6.cell? ⟨gx + 1, 0, none⟩ = some (.bool x1) ∧ W6.cell? ⟨gx + 1, 1, none⟩ = some (.slice o1 N1 m1) ∧ W6.cell? ⟨gx + 1, 2, none⟩ = some (.slice o2 D1 m2) := by rw [← eN1.out, ← eD1.out]; exact P6.out.cells
  have bOne : (nb 1).length ≤ 100000 := Nat.le_trans (nb_lt 1 1 (by decide)) (by decide)
  have bLo : (nb 9223372036854775808).length ≤ 100000 := Nat.le_trans (nb_lt 64 _ (by decide)) (by decide)
  have bHi : (nb 9223372036854775807).length ≤ 100000 := Nat.le_trans (nb_lt 64 _ (by decide)) (by decide)
  have l1 := L1.out.1
  have l2 := L1.out.2
  have po := PO.out
  have cK1 := rcmp_q _ _ x1 true n1 d1 9223372036854775808 1 W6 HIs.out LO.out.is (by omega) (by omega) (by omega) (by omega) bLo bOne
  have cK2 := fun (W : World) (hb : Below W6.heap.size W6 W) => rcmp_q _ _ x1 false n1 d1 9223372036854775807 1 W (HIs.out.below hb) (HI.out.is.below hb) (by omega) (by omega) (by omega) (by omega) bHi bOne
  have HK : Hid (d1 = 1 → ((0 ≤ cmpQ x1 n1 d1 true 9223372036854775808 1 ∧ cmpQ x1 n1 d1 false 9223372036854775807 1 ≤ 0) ↔ isI x1 n1 d1)) := fun h => by subst h; rw [low_cmp]; exact ⟨fun h => ⟨rfl, h⟩, fun h => h.2⟩
  obtain ⟨K1, eK1⟩ : ∃ x, cmpQ x1 n1 d1 true 9223372036854775808 1 = x := ⟨_, rfl⟩
  obtain ⟨K2, eK2⟩ : ∃ x, cmpQ x1 n1 d1 false 9223372036854775807 1 = x := ⟨_, rfl⟩
  rw [eK1] at cK1
  simp only [eK2] at cK2
  rw [eK1, eK2] at HK
  obtain ⟨WB, eWB⟩ : ∃ x, decide (d1 = 1) = x := ⟨_, rfl⟩
  rw [eWB] at hD
  have HWB : Hid (decide (d1 = 1) = WB) := eWB
  clear eK1 eK2 eWB bOne bLo bHi l1 l2 po
  obtain ⟨u0, u1, u2⟩ := id sP
  obtain ⟨t0, t1, t2⟩ := LO.out.cells
  go_cut [13] from 32 to 48 (fun v13 wx => v13 = .bool ok ∧ Hid (Below W6.heap.size W6 wx))
  case first =>
    have T3 : True := trivial
    have arms : True := trivial
    have hcase : WB = false ∧ ok = false ∨ WB = true ∧ K1 < 0 ∧ ok = false ∨ WB = true ∧ 0 ≤ K1 ∧ 0 < K2 ∧ ok = false ∨ WB = true ∧ 0 ≤ K1 ∧ K2 ≤ 0 ∧ ok = true := by
      by_cases h1 : d1 = 1
      · have hw : WB = true := by rw [← HWB.out]; exact decide_eq_true h1
        have hk := HK.out h1
        rcases HO.out with ⟨h2, h3, _⟩ | ⟨h2, _, h3⟩
        · have := hk.2 h3
          exact .inr (.inr (.inr ⟨hw, this.1, this.2, h2⟩))
        · by_cases h4 : K1 < 0
          · exact .inr (.inl ⟨hw, h4, h2⟩)
          · by_cases h5 : 0 < K2
            · exact .inr (.inr (.inl ⟨hw, by omega, h5, h2⟩))
            · exact absurd (hk.1 ⟨by omega, by omega⟩) h3
      · have hw : WB = false := by rw [← HWB.out]; exact decide_eq_false h1
        rcases HO.out with ⟨h2, h3, _⟩ | ⟨h2, _, _⟩
        · exact absurd h3.1 h1
        · exact .inl ⟨hw, h2⟩
    clear HO HK HWB
    rcases hcase with ⟨rfl, rfl⟩ | ⟨rfl, hk, rfl⟩ | ⟨rfl, hk, hk2, rfl⟩ | ⟨rfl, hk, hk2, rfl⟩
    · go_wp2
      go_meet
      exact ⟨rfl, Below.refl _ _⟩
    · go_wp2_with (first
        | (go_at_call 34; have _t := T3; clear _t T3; refine cK1.mono ?_; rintro e w7 ⟨rfl, hb7⟩))
      go_meet
      exact ⟨rfl, hb7⟩
    · go_wp2_with (first
        | (go_at_call 34; have _t := T3; clear _t T3; refine cK1.mono ?_; rintro e w7 ⟨rfl, hb7⟩; obtain ⟨v0, v1, v2⟩ := three_kept sP hb7; obtain ⟨r0, r1, r2⟩ := (HI.out.kept hb7).cells)
        | (go_at_call 34; refine (cK2 _ hb7).mono ?_; rintro e w8 ⟨rfl, hb8⟩))
      go_meet
      exact ⟨by rw [decide_eq_false (by omega)], bt hb7 hb8⟩
    · go_wp2_with (first
        | (go_at_call 34; have _t := T3; clear _t T3; refine cK1.mono ?_; rintro e w7 ⟨rfl, hb7⟩; obtain ⟨v0, v1, v2⟩ := three_kept sP hb7; obtain ⟨r0, r1, r2⟩ := (HI.out.kept hb7).cells)
        | (go_at_call 34; refine (cK2 _ hb7).mono ?_; rintro e w8 ⟨rfl, hb8⟩))
      go_meet
      exact ⟨rfl, bt hb7 hb8⟩
  case rest =>
    obtain ⟨rfl, HB⟩ := hcut
    have s0 : wc.drew.cell? ⟨gx + 1, 0, none⟩ = some (.bool x1) ∧ wc.drew.cell? ⟨gx + 1, 1, none⟩ = some (.slice o1 N1 m1) ∧ wc.drew.cell? ⟨gx + 1, 2, none⟩ = some (.slice o2 D1 m2) := three_kept sP HB.out.drew
    have HP : Hid (IsRef wc.drew (.agg #[.bool x1, .slice o1 N1 m1, .slice o2 D1 m2]) x1 n1 d1) := HIs.out.below HB.out.drew
    have HC : Hid (Below w.heap.size w wc.drew) := (bt C6.out HB.out).drew
    have LL := L1
    clear P6 LO HI C6 HB HIs sP u0 u1 u2 t0 t1 t2 cK1 cK2 HK HWB hD eN1 eD1
    rcases HO.out with ⟨rfl, hI, cI⟩ | ⟨rfl, rfl, hI⟩
    · obtain ⟨rfl, _⟩ := hI
      have cZ : ∀ (W : World) (v v' : Value), IsRef W v x1 n1 1 → IsRef W v' x1 n1 1 → Calls Try.prog 34 #[v, v'] W fun e w' => e = .returned (.int .i64 0) ∧ Below W.heap.size W w' := fun W v v' h h' => by
        have l1 := LL.out.1
        have l2 := LL.out.2
        have := rcmp_q v v' x1 x1 n1 1 n1 1 W h h' (by omega) (by omega) (by omega) (by omega) (by omega) (by omega)
        rw [cmp_self] at this
        exact this
      clear HO
      go_wp2
      refine wp_region_held_drew (S := (fun w' => w'.cell? ⟨gx + 1, 0, none⟩ = some (.bool x1) ∧ w'.cell? ⟨gx + 1, 1, none⟩ = some (.slice o1 N1 m1) ∧ w'.cell? ⟨gx + 1, 2, none⟩ = some (.slice o2 D1 m2))) (by kernel_rfl) ?_ (fun hHeld => ?_)
      · exact s0
      refine wpAnyH_ready (rs := [0]) (by kernel_rfl) (by simp) ?_
      refine AllReadyH.cons (o := { dst := some 48, op := Op.call { callee := Callee.value (Operand.func 12), args := #[], argTypes := #[] }, type := 4, pos := "law.go:170", after := #[], guard := none }) rfl (fun K hK => ?_) AllReadyH.nil
      go_simp
      (go_at_call 12; refine (awake5 _).mono ?_; rintro e w6 ⟨rfl, hb6⟩; have s1 : w6.cell? ⟨gx + 1, 0, none⟩ = some (.bool x1) ∧ w6.cell? ⟨gx + 1, 1, none⟩ = some (.slice o1 N1 m1) ∧ w6.cell? ⟨gx + 1, 2, none⟩ = some (.slice o2 D1 m2) := by { have kc : ∀ {p : Addr} {v : Value}, wc.drew.cell? p = some v → w6.cell? p = some v := fun {p v} h => by { rw [hb6.cell (World.block_lt_of_cell? wc.drew p h)]; exact h }; exact ⟨kc s0.1, kc s0.2.1, kc s0.2.2⟩ })
      first | go_wp2 | skip
      refine hK.out _ _ ?_ (fun hHeld2 => ?_)
      · exact s1
      clear hK K hHeld
      have hHeld := hHeld2
      clear hHeld2
      refine wpAnyH_take (i := 1) (oi := { dst := some 49, op := Op.move (Operand.tmp 48), type := 4, pos := "law.go:170", after := #[{ on := 0, ground := Ground.data }, { on := 0, ground := Ground.chain }], guard := none }) (v := ?vy1) rfl (by kernel_rfl) (by kernel_rfl) (by kernel_rfl) (fun _ _ _ h => h) (Or.inl ⟨by rfl, ?hyy1⟩) hHeld ?resty1
      case hyy1 =>
        intro w hSw
        (try dsimp only at hSw)
        first | (go_simp; done) | (go_simp; with_reducible rfl) | with_reducible rfl | rfl
      simp only [Act.put, List.setIfInBounds_toArray, List.set_cons_zero, List.set_cons_succ]
      refine wpAnyH_take (i := 2) (oi := { dst := some 50, op := Op.move (Operand.tmp 10), type := 4, pos := "law.go:170", after := #[{ on := 1, ground := Ground.guard }], guard := some (1, true) }) (v := ?vy2) rfl (by kernel_rfl) (by kernel_rfl) (by kernel_rfl) (fun _ _ _ h => h) (Or.inl ⟨by rfl, ?hyy2⟩) hHeld ?resty2
      case hyy2 =>
        intro w hSw
        (try dsimp only at hSw)
        first | (go_simp; done) | (go_simp; with_reducible rfl) | with_reducible rfl | rfl
      simp only [Act.put, List.setIfInBounds_toArray, List.set_cons_zero, List.set_cons_succ]
      refine wpAnyH_take (i := 3) (oi := { dst := some 51, op := Op.pick (Operand.tmp 49) (Operand.tmp 50) (Operand.const (Value.bool false)), type := 4, pos := "law.go:170", after := #[{ on := 1, ground := Ground.data }, { on := 2, ground := Ground.data }], guard := none }) (v := ?vy3) rfl (by kernel_rfl) (by kernel_rfl) (by kernel_rfl) (fun _ _ _ h => h) (Or.inl ⟨by rfl, ?hyy3⟩) hHeld ?resty3
      case hyy3 =>
        intro w hSw
        (try dsimp only at hSw)
        first | (go_simp; done) | (go_simp; with_reducible rfl) | with_reducible rfl | rfl
      simp only [Act.put, List.setIfInBounds_toArray, List.set_cons_zero, List.set_cons_succ]
      refine wpAnyH_take (i := 4) (oi := { dst := some 52, op := Op.move (Operand.tmp 51), type := 4, pos := "law.go:170", after := #[{ on := 3, ground := Ground.data }, { on := 1, ground := Ground.chain }], guard := none }) (v := ?vy4) rfl (by kernel_rfl) (by kernel_rfl) (by kernel_rfl) (fun _ _ _ h => h) (Or.inl ⟨by rfl, ?hyy4⟩) hHeld ?resty4
      case hyy4 =>
        intro w hSw
        (try dsimp only at hSw)
        first | (go_simp; done) | (go_simp; with_reducible rfl) | with_reducible rfl | rfl
      simp only [Act.put, List.setIfInBounds_toArray, List.set_cons_zero, List.set_cons_succ]
      refine wpAnyH_take (i := 5) (oi := { dst := some 53, op := Op.move (Operand.tmp 9), type := 3, pos := "law.go:170", after := #[{ on := 4, ground := Ground.guard }], guard := some (4, true) }) (v := ?vy5) rfl (by kernel_rfl) (by kernel_rfl) (by kernel_rfl) (fun _ _ _ h => h) (Or.inl ⟨by rfl, ?hyy5⟩) hHeld ?resty5
      case hyy5 =>
        intro w hSw
        (try dsimp only at hSw)
        first | (go_simp; done) | (go_simp; with_reducible rfl) | with_reducible rfl | rfl
      simp only [Act.put, List.setIfInBounds_toArray, List.set_cons_zero, List.set_cons_succ]
      refine wpAnyH_take (i := 6) (oi := { dst := some 54, op := Op.move (Operand.tmp 1), type := 3, pos := "law.go:170", after := #[{ on := 4, ground := Ground.guard }], guard := some (4, true) }) (v := ?vy6) rfl (by kernel_rfl) (by kernel_rfl) (by kernel_rfl) (fun _ _ _ h => h) (Or.inl ⟨by rfl, ?hyy6⟩) hHeld ?resty6
      case hyy6 =>
        intro w hSw
        (try dsimp only at hSw)
        first | (go_simp; done) | (go_simp; with_reducible rfl) | with_reducible rfl | rfl
      simp only [Act.put, List.setIfInBounds_toArray, List.set_cons_zero, List.set_cons_succ]
      refine wpAnyH_take (i := 7) (oi := { dst := some 55, op := Op.binOp BinOp.eql 3 (Operand.tmp 53) (Operand.tmp 54) 3, type := 4, pos := "law.go:170", after := #[{ on := 5, ground := Ground.data }, { on := 6, ground := Ground.data }, { on := 4, ground := Ground.guard }], guard := some (4, true) }) (v := ?vy7) rfl (by kernel_rfl) (by kernel_rfl) (by kernel_rfl) (fun _ _ _ h => h) (Or.inl ⟨by rfl, ?hyy7⟩) hHeld ?resty7
      case hyy7 =>
        intro w hSw
        (try dsimp only at hSw)
        first | (go_simp; done) | (go_simp; with_reducible rfl) | with_reducible rfl | rfl
      simp only [Act.put, List.setIfInBounds_toArray, List.set_cons_zero, List.set_cons_succ]
      refine wpAnyH_take (i := 8) (oi := { dst := some 56, op := Op.pick (Operand.tmp 52) (Operand.tmp 55) (Operand.const (Value.bool false)), type := 4, pos := "law.go:170", after := #[{ on := 4, ground := Ground.data }, { on := 7, ground := Ground.data }], guard := none }) (v := ?vy8) rfl (by kernel_rfl) (by kernel_rfl) (by kernel_rfl) (fun _ _ _ h => h) (Or.inl ⟨by rfl, ?hyy8⟩) hHeld ?resty8
      case hyy8 =>
        intro w hSw
        (try dsimp only at hSw)
        first | (go_simp; done) | (go_simp; with_reducible rfl) | with_reducible rfl | rfl
      simp only [Act.put, List.setIfInBounds_toArray, List.set_cons_zero, List.set_cons_succ]
      refine wpAnyH_take (i := 9) (oi := { dst := some 57, op := Op.move (Operand.tmp 56), type := 4, pos := "law.go:170", after := #[{ on := 8, ground := Ground.data }, { on := 4, ground := Ground.chain }], guard := none }) (v := ?vy9) rfl (by kernel_rfl) (by kernel_rfl) (by kernel_rfl) (fun _ _ _ h => h) (Or.inl ⟨by rfl, ?hyy9⟩) hHeld ?resty9
      case hyy9 =>
        intro w hSw
        (try dsimp only at hSw)
        first | (go_simp; done) | (go_simp; with_reducible rfl) | with_reducible rfl | rfl
      simp only [Act.put, List.setIfInBounds_toArray, List.set_cons_zero, List.set_cons_succ]
      refine wpAnyH_take (i := 10) (oi := { dst := some 58, op := Op.move (Operand.tmp 8), type := 4, pos := "law.go:170", after := #[{ on := 9, ground := Ground.guard }], guard := some (9, true) }) (v := ?vy10) rfl (by kernel_rfl) (by kernel_rfl) (by kernel_rfl) (fun _ _ _ h => h) (Or.inl ⟨by rfl, ?hyy10⟩) hHeld ?resty10
      case hyy10 =>
        intro w hSw
        (try dsimp only at hSw)
        first | (go_simp; done) | (go_simp; with_reducible rfl) | with_reducible rfl | rfl
      simp only [Act.put, List.setIfInBounds_toArray, List.set_cons_zero, List.set_cons_succ]
      refine wpAnyH_take (i := 11) (oi := { dst := some 59, op := Op.move (Operand.tmp 13), type := 4, pos := "law.go:170", after := #[{ on := 9, ground := Ground.guard }], guard := some (9, true) }) (v := ?vy11) rfl (by kernel_rfl) (by kernel_rfl) (by kernel_rfl) (fun _ _ _ h => h) (Or.inl ⟨by rfl, ?hyy11⟩) hHeld ?resty11
      case hyy11 =>
        intro w hSw
        (try dsimp only at hSw)
        first | (go_simp; done) | (go_simp; with_reducible rfl) | with_reducible rfl | rfl
      simp only [Act.put, List.setIfInBounds_toArray, List.set_cons_zero, List.set_cons_succ]
      refine wpAnyH_take (i := 12) (oi := { dst := some 60, op := Op.binOp BinOp.eql 4 (Operand.tmp 58) (Operand.tmp 59) 4, type := 4, pos := "law.go:170", after := #[{ on := 10, ground := Ground.data }, { on := 11, ground := Ground.data }, { on := 9, ground := Ground.guard }], guard := some (9, true) }) (v := ?vy12) rfl (by kernel_rfl) (by kernel_rfl) (by kernel_rfl) (fun _ _ _ h => h) (Or.inl ⟨by rfl, ?hyy12⟩) hHeld ?resty12
      case hyy12 =>
        intro w hSw
        (try dsimp only at hSw)
        first | (go_simp; done) | (go_simp; with_reducible rfl) | with_reducible rfl | rfl
      simp only [Act.put, List.setIfInBounds_toArray, List.set_cons_zero, List.set_cons_succ]
      refine wpAnyH_take (i := 13) (oi := { dst := some 61, op := Op.pick (Operand.tmp 57) (Operand.tmp 60) (Operand.const (Value.bool false)), type := 4, pos := "law.go:170", after := #[{ on := 9, ground := Ground.data }, { on := 12, ground := Ground.data }], guard := none }) (v := ?vy13) rfl (by kernel_rfl) (by kernel_rfl) (by kernel_rfl) (fun _ _ _ h => h) (Or.inl ⟨by rfl, ?hyy13⟩) hHeld ?resty13
      case hyy13 =>
        intro w hSw
        (try dsimp only at hSw)
        first | (go_simp; done) | (go_simp; with_reducible rfl) | with_reducible rfl | rfl
      simp only [Act.put, List.setIfInBounds_toArray, List.set_cons_zero, List.set_cons_succ]
      refine wpAnyH_take (i := 14) (oi := { dst := some 62, op := Op.move (Operand.tmp 61), type := 4, pos := "law.go:170", after := #[{ on := 13, ground := Ground.data }, { on := 9, ground := Ground.chain }], guard := none }) (v := ?vy14) rfl (by kernel_rfl) (by kernel_rfl) (by kernel_rfl) (fun _ _ _ h => h) (Or.inl ⟨by rfl, ?hyy14⟩) hHeld ?resty14
      case hyy14 =>
        intro w hSw
        (try dsimp only at hSw)
        first | (go_simp; done) | (go_simp; with_reducible rfl) | with_reducible rfl | rfl
      simp only [Act.put, List.setIfInBounds_toArray, List.set_cons_zero, List.set_cons_succ]
      refine wpAnyH_take (i := 15) (oi := { dst := some 63, op := Op.move (Operand.tmp 8), type := 4, pos := "law.go:170", after := #[{ on := 14, ground := Ground.guard }], guard := some (14, true) }) (v := ?vy15) rfl (by kernel_rfl) (by kernel_rfl) (by kernel_rfl) (fun _ _ _ h => h) (Or.inl ⟨by rfl, ?hyy15⟩) hHeld ?resty15
      case hyy15 =>
        intro w hSw
        (try dsimp only at hSw)
        first | (go_simp; done) | (go_simp; with_reducible rfl) | with_reducible rfl | rfl
      simp only [Act.put, List.setIfInBounds_toArray, List.set_cons_zero, List.set_cons_succ]
      refine wpAnyH_take (i := 16) (oi := { dst := some 64, op := Op.move (Operand.tmp 63), type := 4, pos := "law.go:170", after := #[{ on := 15, ground := Ground.data }, { on := 14, ground := Ground.chain }, { on := 14, ground := Ground.guard }], guard := some (14, true) }) (v := ?vy16) rfl (by kernel_rfl) (by kernel_rfl) (by kernel_rfl) (fun _ _ _ h => h) (Or.inl ⟨by rfl, ?hyy16⟩) hHeld ?resty16
      case hyy16 =>
        intro w hSw
        (try dsimp only at hSw)
        first | (go_simp; done) | (go_simp; with_reducible rfl) | with_reducible rfl | rfl
      simp only [Act.put, List.setIfInBounds_toArray, List.set_cons_zero, List.set_cons_succ]
      refine wpAnyH_take (i := 17) (oi := { dst := some 65, op := Op.move (Operand.tmp 7), type := 3, pos := "law.go:170", after := #[{ on := 16, ground := Ground.guard }], guard := some (16, true) }) (v := ?vy17) rfl (by kernel_rfl) (by kernel_rfl) (by kernel_rfl) (fun _ _ _ h => h) (Or.inl ⟨by rfl, ?hyy17⟩) hHeld ?resty17
      case hyy17 =>
        intro w hSw
        (try dsimp only at hSw)
        first | (go_simp; done) | (go_simp; with_reducible rfl) | with_reducible rfl | rfl
      simp only [Act.put, List.setIfInBounds_toArray, List.set_cons_zero, List.set_cons_succ]
      refine wpAnyH_take (i := 19) (oi := { dst := some 67, op := Op.load 31 (Operand.tmp 6), type := 31, pos := "law.go:170", after := #[{ on := 16, ground := Ground.guard }], guard := some (16, true) }) (v := ?vy18) rfl (by kernel_rfl) (by kernel_rfl) (by kernel_rfl) (fun _ _ _ h => h) (Or.inl ⟨by rfl, ?hyy18⟩) hHeld ?resty18
      case hyy18 =>
        intro w hSw
        (try dsimp only at hSw)
        first | (go_simp; done) | (go_simp; with_reducible rfl) | with_reducible rfl | rfl
      simp only [Act.put, List.setIfInBounds_toArray, List.set_cons_zero, List.set_cons_succ]
      refine wpAnyH_ready (rs := [18]) (by kernel_rfl) (by simp) ?_
      refine AllReadyH.cons (o := { dst := some 66, op := Op.call { callee := Callee.value (Operand.func 30), args := #[Operand.tmp 65], argTypes := #[3] }, type := 31, pos := "law.go:170", after := #[{ on := 17, ground := Ground.data }, { on := 16, ground := Ground.chain }, { on := 16, ground := Ground.guard }], guard := some (16, true) }) rfl (fun K hK => ?_) AllReadyH.nil
      go_simp
      (go_at_call 30; refine (cI _).mono ?_; rintro e w7 ⟨v7, rfl, Q7, hb7⟩; have H7 := bt hb6 hb7; have s2 : w7.cell? ⟨gx + 1, 0, none⟩ = some (.bool x1) ∧ w7.cell? ⟨gx + 1, 1, none⟩ = some (.slice o1 N1 m1) ∧ w7.cell? ⟨gx + 1, 2, none⟩ = some (.slice o2 D1 m2) := by { have kc : ∀ {p : Addr} {v : Value}, w6.cell? p = some v → w7.cell? p = some v := fun {p v} h => by { rw [hb7.cell (World.block_lt_of_cell? w6 p h)]; exact h }; exact ⟨kc s1.1, kc s1.2.1, kc s1.2.2⟩ })
      first | go_wp2 | skip
      refine hK.out _ _ ?_ (fun hHeld2 => ?_)
      · exact s2
      clear hK K hHeld
      have hHeld := hHeld2
      clear hHeld2
      refine wpAnyH_ready (rs := [20]) (by kernel_rfl) (by simp) ?_
      refine AllReadyH.cons (o := { dst := some 68, op := Op.call { callee := Callee.value (Operand.func 34), args := #[Operand.tmp 66, Operand.tmp 67], argTypes := #[31, 31] }, type := 3, pos := "law.go:170", after := #[{ on := 18, ground := Ground.data }, { on := 19, ground := Ground.data }, { on := 18, ground := Ground.chain }, { on := 16, ground := Ground.guard }], guard := some (16, true) }) rfl (fun K hK => ?_) AllReadyH.nil
      go_simp
      (go_at_call 34; refine (cZ _ _ _ Q7 (HP.out.below H7)).mono ?_; rintro e w8 ⟨rfl, hb8⟩; have H8 := bt H7 hb8; have s3 : w8.cell? ⟨gx + 1, 0, none⟩ = some (.bool x1) ∧ w8.cell? ⟨gx + 1, 1, none⟩ = some (.slice o1 N1 m1) ∧ w8.cell? ⟨gx + 1, 2, none⟩ = some (.slice o2 D1 m2) := by { have kc : ∀ {p : Addr} {v : Value}, w7.cell? p = some v → w8.cell? p = some v := fun {p v} h => by { rw [hb8.cell (World.block_lt_of_cell? w7 p h)]; exact h }; exact ⟨kc s2.1, kc s2.2.1, kc s2.2.2⟩ })
      first | go_wp2 | skip
      refine hK.out _ _ ?_ (fun hHeld2 => ?_)
      · exact s3
      clear hK K hHeld
      have hHeld := hHeld2
      clear hHeld2
      refine wpAnyH_take (i := 21) (oi := { dst := some 69, op := Op.binOp BinOp.eql 3 (Operand.tmp 68) (Operand.const (Value.int IntKind.i64 0)) 3, type := 4, pos := "law.go:170", after := #[{ on := 20, ground := Ground.data }, { on := 16, ground := Ground.guard }], guard := some (16, true) }) (v := ?vy21) rfl (by kernel_rfl) (by kernel_rfl) (by kernel_rfl) (fun _ _ _ h => h) (Or.inl ⟨by rfl, ?hyy21⟩) hHeld ?resty21
      case hyy21 =>
        intro w hSw
        (try dsimp only at hSw)
        first | (go_simp; done) | (go_simp; with_reducible rfl) | with_reducible rfl | rfl
      simp only [Act.put, List.setIfInBounds_toArray, List.set_cons_zero, List.set_cons_succ]
      refine wpAnyH_take (i := 22) (oi := { dst := some 70, op := Op.pick (Operand.tmp 64) (Operand.tmp 69) (Operand.const (Value.bool false)), type := 4, pos := "law.go:170", after := #[{ on := 16, ground := Ground.data }, { on := 21, ground := Ground.data }, { on := 14, ground := Ground.guard }], guard := some (14, true) }) (v := ?vy22) rfl (by kernel_rfl) (by kernel_rfl) (by kernel_rfl) (fun _ _ _ h => h) (Or.inl ⟨by rfl, ?hyy22⟩) hHeld ?resty22
      case hyy22 =>
        intro w hSw
        (try dsimp only at hSw)
        first | (go_simp; done) | (go_simp; with_reducible rfl) | with_reducible rfl | rfl
      simp only [Act.put, List.setIfInBounds_toArray, List.set_cons_zero, List.set_cons_succ]
      refine wpAnyH_take (i := 23) (oi := { dst := some 71, op := Op.move (Operand.tmp 70), type := 4, pos := "law.go:170", after := #[{ on := 22, ground := Ground.data }, { on := 20, ground := Ground.chain }, { on := 14, ground := Ground.guard }], guard := some (14, true) }) (v := ?vy23) rfl (by kernel_rfl) (by kernel_rfl) (by kernel_rfl) (fun _ _ _ h => h) (Or.inl ⟨by rfl, ?hyy23⟩) hHeld ?resty23
      case hyy23 =>
        intro w hSw
        (try dsimp only at hSw)
        first | (go_simp; done) | (go_simp; with_reducible rfl) | with_reducible rfl | rfl
      simp only [Act.put, List.setIfInBounds_toArray, List.set_cons_zero, List.set_cons_succ]
      refine wpAnyH_take (i := 24) (oi := { dst := some 72, op := Op.move (Operand.tmp 8), type := 4, pos := "law.go:170", after := #[{ on := 23, ground := Ground.guard }], guard := some (23, false) }) (v := undef) rfl (by kernel_rfl) (by kernel_rfl) (by kernel_rfl) (fun _ _ _ h => h) (Or.inr ⟨by rfl, rfl⟩) hHeld ?resty24
      simp only [Act.put, List.setIfInBounds_toArray, List.set_cons_zero, List.set_cons_succ]
      refine wpAnyH_take (i := 25) (oi := { dst := some 73, op := Op.unOp UnOp.not 4 (Operand.tmp 72), type := 4, pos := "law.go:170", after := #[{ on := 24, ground := Ground.data }, { on := 23, ground := Ground.guard }], guard := some (23, false) }) (v := undef) rfl (by kernel_rfl) (by kernel_rfl) (by kernel_rfl) (fun _ _ _ h => h) (Or.inr ⟨by rfl, rfl⟩) hHeld ?resty25
      simp only [Act.put, List.setIfInBounds_toArray, List.set_cons_zero, List.set_cons_succ]
      refine wpAnyH_take (i := 26) (oi := { dst := some 74, op := Op.move (Operand.tmp 73), type := 4, pos := "law.go:170", after := #[{ on := 25, ground := Ground.data }, { on := 23, ground := Ground.chain }, { on := 23, ground := Ground.guard }], guard := some (23, false) }) (v := undef) rfl (by kernel_rfl) (by kernel_rfl) (by kernel_rfl) (fun _ _ _ h => h) (Or.inr ⟨by rfl, rfl⟩) hHeld ?resty26
      simp only [Act.put, List.setIfInBounds_toArray, List.set_cons_zero, List.set_cons_succ]
      refine wpAnyH_take (i := 27) (oi := { dst := some 75, op := Op.move (Operand.tmp 7), type := 3, pos := "law.go:170", after := #[{ on := 26, ground := Ground.guard }], guard := some (26, true) }) (v := undef) rfl (by kernel_rfl) (by kernel_rfl) (by kernel_rfl) (fun _ _ _ h => h) (Or.inr ⟨by rfl, rfl⟩) hHeld ?resty27
      simp only [Act.put, List.setIfInBounds_toArray, List.set_cons_zero, List.set_cons_succ]
      refine wpAnyH_take (i := 28) (oi := { dst := some 76, op := Op.binOp BinOp.eql 3 (Operand.tmp 75) (Operand.const (Value.int IntKind.i64 0)) 3, type := 4, pos := "law.go:170", after := #[{ on := 27, ground := Ground.data }, { on := 26, ground := Ground.guard }], guard := some (26, true) }) (v := undef) rfl (by kernel_rfl) (by kernel_rfl) (by kernel_rfl) (fun _ _ _ h => h) (Or.inr ⟨by rfl, rfl⟩) hHeld ?resty28
      simp only [Act.put, List.setIfInBounds_toArray, List.set_cons_zero, List.set_cons_succ]
      refine wpAnyH_take (i := 29) (oi := { dst := some 77, op := Op.pick (Operand.tmp 74) (Operand.tmp 76) (Operand.const (Value.bool false)), type := 4, pos := "law.go:170", after := #[{ on := 26, ground := Ground.data }, { on := 28, ground := Ground.data }, { on := 23, ground := Ground.guard }], guard := some (23, false) }) (v := undef) rfl (by kernel_rfl) (by kernel_rfl) (by kernel_rfl) (fun _ _ _ h => h) (Or.inr ⟨by rfl, rfl⟩) hHeld ?resty29
      simp only [Act.put, List.setIfInBounds_toArray, List.set_cons_zero, List.set_cons_succ]
      refine wpAnyH_take (i := 30) (oi := { dst := some 78, op := Op.pick (Operand.tmp 71) (Operand.const (Value.bool true)) (Operand.tmp 77), type := 4, pos := "law.go:170", after := #[{ on := 23, ground := Ground.data }, { on := 29, ground := Ground.data }, { on := 14, ground := Ground.guard }], guard := some (14, true) }) (v := ?vy30) rfl (by kernel_rfl) (by kernel_rfl) (by kernel_rfl) (fun _ _ _ h => h) (Or.inl ⟨by rfl, ?hyy30⟩) hHeld ?resty30
      case hyy30 =>
        intro w hSw
        (try dsimp only at hSw)
        first | (go_simp; done) | (go_simp; with_reducible rfl) | with_reducible rfl | rfl
      simp only [Act.put, List.setIfInBounds_toArray, List.set_cons_zero, List.set_cons_succ]
      refine wpAnyH_take (i := 31) (oi := { dst := some 79, op := Op.pick (Operand.tmp 62) (Operand.tmp 78) (Operand.const (Value.bool false)), type := 4, pos := "law.go:170", after := #[{ on := 14, ground := Ground.data }, { on := 30, ground := Ground.data }], guard := none }) (v := ?vy31) rfl (by kernel_rfl) (by kernel_rfl) (by kernel_rfl) (fun _ _ _ h => h) (Or.inl ⟨by rfl, ?hyy31⟩) hHeld ?resty31
      case hyy31 =>
        intro w hSw
        (try dsimp only at hSw)
        first | (go_simp; done) | (go_simp; with_reducible rfl) | with_reducible rfl | rfl
      simp only [Act.put, List.setIfInBounds_toArray, List.set_cons_zero, List.set_cons_succ]
      refine wpAnyH_take (i := 32) (oi := { dst := some 4, op := Op.assign (Operand.tmp 79), type := 4, pos := "law.go:170", after := #[{ on := 31, ground := Ground.data }, { on := 26, ground := Ground.chain }, { on := 0, ground := Ground.phase }, { on := 1, ground := Ground.phase }, { on := 2, ground := Ground.phase }, { on := 3, ground := Ground.phase }, { on := 4, ground := Ground.phase }, { on := 5, ground := Ground.phase }, { on := 6, ground := Ground.phase }, { on := 7, ground := Ground.phase }, { on := 8, ground := Ground.phase }, { on := 9, ground := Ground.phase }, { on := 10, ground := Ground.phase }, { on := 11, ground := Ground.phase }, { on := 12, ground := Ground.phase }, { on := 13, ground := Ground.phase }, { on := 14, ground := Ground.phase }, { on := 15, ground := Ground.phase }, { on := 16, ground := Ground.phase }, { on := 17, ground := Ground.phase }, { on := 18, ground := Ground.phase }, { on := 19, ground := Ground.phase }, { on := 20, ground := Ground.phase }, { on := 21, ground := Ground.phase }, { on := 22, ground := Ground.phase }, { on := 23, ground := Ground.phase }, { on := 24, ground := Ground.phase }, { on := 25, ground := Ground.phase }, { on := 26, ground := Ground.phase }, { on := 27, ground := Ground.phase }, { on := 28, ground := Ground.phase }, { on := 29, ground := Ground.phase }, { on := 30, ground := Ground.phase }, { on := 31, ground := Ground.phase }], guard := none }) (v := ?vy32) rfl (by kernel_rfl) (by kernel_rfl) (by kernel_rfl) (fun _ _ _ h => h) (Or.inl ⟨by rfl, ?hyy32⟩) hHeld ?resty32
      case hyy32 =>
        intro w hSw
        (try dsimp only at hSw)
        first | (go_simp; done) | (go_simp; with_reducible rfl) | with_reducible rfl | rfl
      simp only [Act.put, List.setIfInBounds_toArray, List.set_cons_zero, List.set_cons_succ]
      refine wpAnyH_done (by kernel_rfl) ?_ _
      go_wp2
      go_ret
      exact ⟨rfl, bt HC.out H8⟩
    · clear HO
      go_wp2
      refine wp_region_held_drew (S := (fun w' => w'.cell? ⟨gx + 1, 0, none⟩ = some (.bool x1) ∧ w'.cell? ⟨gx + 1, 1, none⟩ = some (.slice o1 N1 m1) ∧ w'.cell? ⟨gx + 1, 2, none⟩ = some (.slice o2 D1 m2))) (by kernel_rfl) ?_ (fun hHeld => ?_)
      · exact s0
      refine wpAnyH_ready (rs := [0]) (by kernel_rfl) (by simp) ?_
      refine AllReadyH.cons (o := { dst := some 48, op := Op.call { callee := Callee.value (Operand.func 12), args := #[], argTypes := #[] }, type := 4, pos := "law.go:170", after := #[], guard := none }) rfl (fun K hK => ?_) AllReadyH.nil
      go_simp
      (go_at_call 12; refine (awake5 _).mono ?_; rintro e w6 ⟨rfl, hb6⟩; have s1 : w6.cell? ⟨gx + 1, 0, none⟩ = some (.bool x1) ∧ w6.cell? ⟨gx + 1, 1, none⟩ = some (.slice o1 N1 m1) ∧ w6.cell? ⟨gx + 1, 2, none⟩ = some (.slice o2 D1 m2) := by { have kc : ∀ {p : Addr} {v : Value}, wc.drew.cell? p = some v → w6.cell? p = some v := fun {p v} h => by { rw [hb6.cell (World.block_lt_of_cell? wc.drew p h)]; exact h }; exact ⟨kc s0.1, kc s0.2.1, kc s0.2.2⟩ })
      first | go_wp2 | skip
      refine hK.out _ _ ?_ (fun hHeld2 => ?_)
      · exact s1
      clear hK K hHeld
      have hHeld := hHeld2
      clear hHeld2
      refine wpAnyH_take (i := 1) (oi := { dst := some 49, op := Op.move (Operand.tmp 48), type := 4, pos := "law.go:170", after := #[{ on := 0, ground := Ground.data }, { on := 0, ground := Ground.chain }], guard := none }) (v := ?vn1) rfl (by kernel_rfl) (by kernel_rfl) (by kernel_rfl) (fun _ _ _ h => h) (Or.inl ⟨by rfl, ?hyn1⟩) hHeld ?restn1
      case hyn1 =>
        intro w hSw
        (try dsimp only at hSw)
        first | (go_simp; done) | (go_simp; with_reducible rfl) | with_reducible rfl | rfl
      simp only [Act.put, List.setIfInBounds_toArray, List.set_cons_zero, List.set_cons_succ]
      refine wpAnyH_take (i := 2) (oi := { dst := some 50, op := Op.move (Operand.tmp 10), type := 4, pos := "law.go:170", after := #[{ on := 1, ground := Ground.guard }], guard := some (1, true) }) (v := ?vn2) rfl (by kernel_rfl) (by kernel_rfl) (by kernel_rfl) (fun _ _ _ h => h) (Or.inl ⟨by rfl, ?hyn2⟩) hHeld ?restn2
      case hyn2 =>
        intro w hSw
        (try dsimp only at hSw)
        first | (go_simp; done) | (go_simp; with_reducible rfl) | with_reducible rfl | rfl
      simp only [Act.put, List.setIfInBounds_toArray, List.set_cons_zero, List.set_cons_succ]
      refine wpAnyH_take (i := 3) (oi := { dst := some 51, op := Op.pick (Operand.tmp 49) (Operand.tmp 50) (Operand.const (Value.bool false)), type := 4, pos := "law.go:170", after := #[{ on := 1, ground := Ground.data }, { on := 2, ground := Ground.data }], guard := none }) (v := ?vn3) rfl (by kernel_rfl) (by kernel_rfl) (by kernel_rfl) (fun _ _ _ h => h) (Or.inl ⟨by rfl, ?hyn3⟩) hHeld ?restn3
      case hyn3 =>
        intro w hSw
        (try dsimp only at hSw)
        first | (go_simp; done) | (go_simp; with_reducible rfl) | with_reducible rfl | rfl
      simp only [Act.put, List.setIfInBounds_toArray, List.set_cons_zero, List.set_cons_succ]
      refine wpAnyH_take (i := 4) (oi := { dst := some 52, op := Op.move (Operand.tmp 51), type := 4, pos := "law.go:170", after := #[{ on := 3, ground := Ground.data }, { on := 1, ground := Ground.chain }], guard := none }) (v := ?vn4) rfl (by kernel_rfl) (by kernel_rfl) (by kernel_rfl) (fun _ _ _ h => h) (Or.inl ⟨by rfl, ?hyn4⟩) hHeld ?restn4
      case hyn4 =>
        intro w hSw
        (try dsimp only at hSw)
        first | (go_simp; done) | (go_simp; with_reducible rfl) | with_reducible rfl | rfl
      simp only [Act.put, List.setIfInBounds_toArray, List.set_cons_zero, List.set_cons_succ]
      refine wpAnyH_take (i := 5) (oi := { dst := some 53, op := Op.move (Operand.tmp 9), type := 3, pos := "law.go:170", after := #[{ on := 4, ground := Ground.guard }], guard := some (4, true) }) (v := ?vn5) rfl (by kernel_rfl) (by kernel_rfl) (by kernel_rfl) (fun _ _ _ h => h) (Or.inl ⟨by rfl, ?hyn5⟩) hHeld ?restn5
      case hyn5 =>
        intro w hSw
        (try dsimp only at hSw)
        first | (go_simp; done) | (go_simp; with_reducible rfl) | with_reducible rfl | rfl
      simp only [Act.put, List.setIfInBounds_toArray, List.set_cons_zero, List.set_cons_succ]
      refine wpAnyH_take (i := 6) (oi := { dst := some 54, op := Op.move (Operand.tmp 1), type := 3, pos := "law.go:170", after := #[{ on := 4, ground := Ground.guard }], guard := some (4, true) }) (v := ?vn6) rfl (by kernel_rfl) (by kernel_rfl) (by kernel_rfl) (fun _ _ _ h => h) (Or.inl ⟨by rfl, ?hyn6⟩) hHeld ?restn6
      case hyn6 =>
        intro w hSw
        (try dsimp only at hSw)
        first | (go_simp; done) | (go_simp; with_reducible rfl) | with_reducible rfl | rfl
      simp only [Act.put, List.setIfInBounds_toArray, List.set_cons_zero, List.set_cons_succ]
      refine wpAnyH_take (i := 7) (oi := { dst := some 55, op := Op.binOp BinOp.eql 3 (Operand.tmp 53) (Operand.tmp 54) 3, type := 4, pos := "law.go:170", after := #[{ on := 5, ground := Ground.data }, { on := 6, ground := Ground.data }, { on := 4, ground := Ground.guard }], guard := some (4, true) }) (v := ?vn7) rfl (by kernel_rfl) (by kernel_rfl) (by kernel_rfl) (fun _ _ _ h => h) (Or.inl ⟨by rfl, ?hyn7⟩) hHeld ?restn7
      case hyn7 =>
        intro w hSw
        (try dsimp only at hSw)
        first | (go_simp; done) | (go_simp; with_reducible rfl) | with_reducible rfl | rfl
      simp only [Act.put, List.setIfInBounds_toArray, List.set_cons_zero, List.set_cons_succ]
      refine wpAnyH_take (i := 8) (oi := { dst := some 56, op := Op.pick (Operand.tmp 52) (Operand.tmp 55) (Operand.const (Value.bool false)), type := 4, pos := "law.go:170", after := #[{ on := 4, ground := Ground.data }, { on := 7, ground := Ground.data }], guard := none }) (v := ?vn8) rfl (by kernel_rfl) (by kernel_rfl) (by kernel_rfl) (fun _ _ _ h => h) (Or.inl ⟨by rfl, ?hyn8⟩) hHeld ?restn8
      case hyn8 =>
        intro w hSw
        (try dsimp only at hSw)
        first | (go_simp; done) | (go_simp; with_reducible rfl) | with_reducible rfl | rfl
      simp only [Act.put, List.setIfInBounds_toArray, List.set_cons_zero, List.set_cons_succ]
      refine wpAnyH_take (i := 9) (oi := { dst := some 57, op := Op.move (Operand.tmp 56), type := 4, pos := "law.go:170", after := #[{ on := 8, ground := Ground.data }, { on := 4, ground := Ground.chain }], guard := none }) (v := ?vn9) rfl (by kernel_rfl) (by kernel_rfl) (by kernel_rfl) (fun _ _ _ h => h) (Or.inl ⟨by rfl, ?hyn9⟩) hHeld ?restn9
      case hyn9 =>
        intro w hSw
        (try dsimp only at hSw)
        first | (go_simp; done) | (go_simp; with_reducible rfl) | with_reducible rfl | rfl
      simp only [Act.put, List.setIfInBounds_toArray, List.set_cons_zero, List.set_cons_succ]
      refine wpAnyH_take (i := 10) (oi := { dst := some 58, op := Op.move (Operand.tmp 8), type := 4, pos := "law.go:170", after := #[{ on := 9, ground := Ground.guard }], guard := some (9, true) }) (v := ?vn10) rfl (by kernel_rfl) (by kernel_rfl) (by kernel_rfl) (fun _ _ _ h => h) (Or.inl ⟨by rfl, ?hyn10⟩) hHeld ?restn10
      case hyn10 =>
        intro w hSw
        (try dsimp only at hSw)
        first | (go_simp; done) | (go_simp; with_reducible rfl) | with_reducible rfl | rfl
      simp only [Act.put, List.setIfInBounds_toArray, List.set_cons_zero, List.set_cons_succ]
      refine wpAnyH_take (i := 11) (oi := { dst := some 59, op := Op.move (Operand.tmp 13), type := 4, pos := "law.go:170", after := #[{ on := 9, ground := Ground.guard }], guard := some (9, true) }) (v := ?vn11) rfl (by kernel_rfl) (by kernel_rfl) (by kernel_rfl) (fun _ _ _ h => h) (Or.inl ⟨by rfl, ?hyn11⟩) hHeld ?restn11
      case hyn11 =>
        intro w hSw
        (try dsimp only at hSw)
        first | (go_simp; done) | (go_simp; with_reducible rfl) | with_reducible rfl | rfl
      simp only [Act.put, List.setIfInBounds_toArray, List.set_cons_zero, List.set_cons_succ]
      refine wpAnyH_take (i := 12) (oi := { dst := some 60, op := Op.binOp BinOp.eql 4 (Operand.tmp 58) (Operand.tmp 59) 4, type := 4, pos := "law.go:170", after := #[{ on := 10, ground := Ground.data }, { on := 11, ground := Ground.data }, { on := 9, ground := Ground.guard }], guard := some (9, true) }) (v := ?vn12) rfl (by kernel_rfl) (by kernel_rfl) (by kernel_rfl) (fun _ _ _ h => h) (Or.inl ⟨by rfl, ?hyn12⟩) hHeld ?restn12
      case hyn12 =>
        intro w hSw
        (try dsimp only at hSw)
        first | (go_simp; done) | (go_simp; with_reducible rfl) | with_reducible rfl | rfl
      simp only [Act.put, List.setIfInBounds_toArray, List.set_cons_zero, List.set_cons_succ]
      refine wpAnyH_take (i := 13) (oi := { dst := some 61, op := Op.pick (Operand.tmp 57) (Operand.tmp 60) (Operand.const (Value.bool false)), type := 4, pos := "law.go:170", after := #[{ on := 9, ground := Ground.data }, { on := 12, ground := Ground.data }], guard := none }) (v := ?vn13) rfl (by kernel_rfl) (by kernel_rfl) (by kernel_rfl) (fun _ _ _ h => h) (Or.inl ⟨by rfl, ?hyn13⟩) hHeld ?restn13
      case hyn13 =>
        intro w hSw
        (try dsimp only at hSw)
        first | (go_simp; done) | (go_simp; with_reducible rfl) | with_reducible rfl | rfl
      simp only [Act.put, List.setIfInBounds_toArray, List.set_cons_zero, List.set_cons_succ]
      refine wpAnyH_take (i := 14) (oi := { dst := some 62, op := Op.move (Operand.tmp 61), type := 4, pos := "law.go:170", after := #[{ on := 13, ground := Ground.data }, { on := 9, ground := Ground.chain }], guard := none }) (v := ?vn14) rfl (by kernel_rfl) (by kernel_rfl) (by kernel_rfl) (fun _ _ _ h => h) (Or.inl ⟨by rfl, ?hyn14⟩) hHeld ?restn14
      case hyn14 =>
        intro w hSw
        (try dsimp only at hSw)
        first | (go_simp; done) | (go_simp; with_reducible rfl) | with_reducible rfl | rfl
      simp only [Act.put, List.setIfInBounds_toArray, List.set_cons_zero, List.set_cons_succ]
      refine wpAnyH_take (i := 15) (oi := { dst := some 63, op := Op.move (Operand.tmp 8), type := 4, pos := "law.go:170", after := #[{ on := 14, ground := Ground.guard }], guard := some (14, true) }) (v := ?vn15) rfl (by kernel_rfl) (by kernel_rfl) (by kernel_rfl) (fun _ _ _ h => h) (Or.inl ⟨by rfl, ?hyn15⟩) hHeld ?restn15
      case hyn15 =>
        intro w hSw
        (try dsimp only at hSw)
        first | (go_simp; done) | (go_simp; with_reducible rfl) | with_reducible rfl | rfl
      simp only [Act.put, List.setIfInBounds_toArray, List.set_cons_zero, List.set_cons_succ]
      refine wpAnyH_take (i := 16) (oi := { dst := some 64, op := Op.move (Operand.tmp 63), type := 4, pos := "law.go:170", after := #[{ on := 15, ground := Ground.data }, { on := 14, ground := Ground.chain }, { on := 14, ground := Ground.guard }], guard := some (14, true) }) (v := ?vn16) rfl (by kernel_rfl) (by kernel_rfl) (by kernel_rfl) (fun _ _ _ h => h) (Or.inl ⟨by rfl, ?hyn16⟩) hHeld ?restn16
      case hyn16 =>
        intro w hSw
        (try dsimp only at hSw)
        first | (go_simp; done) | (go_simp; with_reducible rfl) | with_reducible rfl | rfl
      simp only [Act.put, List.setIfInBounds_toArray, List.set_cons_zero, List.set_cons_succ]
      refine wpAnyH_take (i := 17) (oi := { dst := some 65, op := Op.move (Operand.tmp 7), type := 3, pos := "law.go:170", after := #[{ on := 16, ground := Ground.guard }], guard := some (16, true) }) (v := undef) rfl (by kernel_rfl) (by kernel_rfl) (by kernel_rfl) (fun _ _ _ h => h) (Or.inr ⟨by rfl, rfl⟩) hHeld ?restn17
      simp only [Act.put, List.setIfInBounds_toArray, List.set_cons_zero, List.set_cons_succ]
      refine wpAnyH_take (i := 18) (oi := { dst := some 66, op := Op.call { callee := Callee.value (Operand.func 30), args := #[Operand.tmp 65], argTypes := #[3] }, type := 31, pos := "law.go:170", after := #[{ on := 17, ground := Ground.data }, { on := 16, ground := Ground.chain }, { on := 16, ground := Ground.guard }], guard := some (16, true) }) (v := undef) rfl (by kernel_rfl) (by kernel_rfl) (by kernel_rfl) (fun _ _ _ h => h) (Or.inr ⟨by rfl, rfl⟩) hHeld ?restn18
      simp only [Act.put, List.setIfInBounds_toArray, List.set_cons_zero, List.set_cons_succ]
      refine wpAnyH_take (i := 19) (oi := { dst := some 67, op := Op.load 31 (Operand.tmp 6), type := 31, pos := "law.go:170", after := #[{ on := 16, ground := Ground.guard }], guard := some (16, true) }) (v := undef) rfl (by kernel_rfl) (by kernel_rfl) (by kernel_rfl) (fun _ _ _ h => h) (Or.inr ⟨by rfl, rfl⟩) hHeld ?restn19
      simp only [Act.put, List.setIfInBounds_toArray, List.set_cons_zero, List.set_cons_succ]
      refine wpAnyH_take (i := 20) (oi := { dst := some 68, op := Op.call { callee := Callee.value (Operand.func 34), args := #[Operand.tmp 66, Operand.tmp 67], argTypes := #[31, 31] }, type := 3, pos := "law.go:170", after := #[{ on := 18, ground := Ground.data }, { on := 19, ground := Ground.data }, { on := 18, ground := Ground.chain }, { on := 16, ground := Ground.guard }], guard := some (16, true) }) (v := undef) rfl (by kernel_rfl) (by kernel_rfl) (by kernel_rfl) (fun _ _ _ h => h) (Or.inr ⟨by rfl, rfl⟩) hHeld ?restn20
      simp only [Act.put, List.setIfInBounds_toArray, List.set_cons_zero, List.set_cons_succ]
      refine wpAnyH_take (i := 21) (oi := { dst := some 69, op := Op.binOp BinOp.eql 3 (Operand.tmp 68) (Operand.const (Value.int IntKind.i64 0)) 3, type := 4, pos := "law.go:170", after := #[{ on := 20, ground := Ground.data }, { on := 16, ground := Ground.guard }], guard := some (16, true) }) (v := undef) rfl (by kernel_rfl) (by kernel_rfl) (by kernel_rfl) (fun _ _ _ h => h) (Or.inr ⟨by rfl, rfl⟩) hHeld ?restn21
      simp only [Act.put, List.setIfInBounds_toArray, List.set_cons_zero, List.set_cons_succ]
      refine wpAnyH_take (i := 22) (oi := { dst := some 70, op := Op.pick (Operand.tmp 64) (Operand.tmp 69) (Operand.const (Value.bool false)), type := 4, pos := "law.go:170", after := #[{ on := 16, ground := Ground.data }, { on := 21, ground := Ground.data }, { on := 14, ground := Ground.guard }], guard := some (14, true) }) (v := ?vn22) rfl (by kernel_rfl) (by kernel_rfl) (by kernel_rfl) (fun _ _ _ h => h) (Or.inl ⟨by rfl, ?hyn22⟩) hHeld ?restn22
      case hyn22 =>
        intro w hSw
        (try dsimp only at hSw)
        first | (go_simp; done) | (go_simp; with_reducible rfl) | with_reducible rfl | rfl
      simp only [Act.put, List.setIfInBounds_toArray, List.set_cons_zero, List.set_cons_succ]
      refine wpAnyH_take (i := 23) (oi := { dst := some 71, op := Op.move (Operand.tmp 70), type := 4, pos := "law.go:170", after := #[{ on := 22, ground := Ground.data }, { on := 20, ground := Ground.chain }, { on := 14, ground := Ground.guard }], guard := some (14, true) }) (v := ?vn23) rfl (by kernel_rfl) (by kernel_rfl) (by kernel_rfl) (fun _ _ _ h => h) (Or.inl ⟨by rfl, ?hyn23⟩) hHeld ?restn23
      case hyn23 =>
        intro w hSw
        (try dsimp only at hSw)
        first | (go_simp; done) | (go_simp; with_reducible rfl) | with_reducible rfl | rfl
      simp only [Act.put, List.setIfInBounds_toArray, List.set_cons_zero, List.set_cons_succ]
      refine wpAnyH_take (i := 24) (oi := { dst := some 72, op := Op.move (Operand.tmp 8), type := 4, pos := "law.go:170", after := #[{ on := 23, ground := Ground.guard }], guard := some (23, false) }) (v := ?vn24) rfl (by kernel_rfl) (by kernel_rfl) (by kernel_rfl) (fun _ _ _ h => h) (Or.inl ⟨by rfl, ?hyn24⟩) hHeld ?restn24
      case hyn24 =>
        intro w hSw
        (try dsimp only at hSw)
        first | (go_simp; done) | (go_simp; with_reducible rfl) | with_reducible rfl | rfl
      simp only [Act.put, List.setIfInBounds_toArray, List.set_cons_zero, List.set_cons_succ]
      refine wpAnyH_take (i := 25) (oi := { dst := some 73, op := Op.unOp UnOp.not 4 (Operand.tmp 72), type := 4, pos := "law.go:170", after := #[{ on := 24, ground := Ground.data }, { on := 23, ground := Ground.guard }], guard := some (23, false) }) (v := ?vn25) rfl (by kernel_rfl) (by kernel_rfl) (by kernel_rfl) (fun _ _ _ h => h) (Or.inl ⟨by rfl, ?hyn25⟩) hHeld ?restn25
      case hyn25 =>
        intro w hSw
        (try dsimp only at hSw)
        first | (go_simp; done) | (go_simp; with_reducible rfl) | with_reducible rfl | rfl
      simp only [Act.put, List.setIfInBounds_toArray, List.set_cons_zero, List.set_cons_succ]
      refine wpAnyH_take (i := 26) (oi := { dst := some 74, op := Op.move (Operand.tmp 73), type := 4, pos := "law.go:170", after := #[{ on := 25, ground := Ground.data }, { on := 23, ground := Ground.chain }, { on := 23, ground := Ground.guard }], guard := some (23, false) }) (v := ?vn26) rfl (by kernel_rfl) (by kernel_rfl) (by kernel_rfl) (fun _ _ _ h => h) (Or.inl ⟨by rfl, ?hyn26⟩) hHeld ?restn26
      case hyn26 =>
        intro w hSw
        (try dsimp only at hSw)
        first | (go_simp; done) | (go_simp; with_reducible rfl) | with_reducible rfl | rfl
      simp only [Act.put, List.setIfInBounds_toArray, List.set_cons_zero, List.set_cons_succ]
      refine wpAnyH_take (i := 27) (oi := { dst := some 75, op := Op.move (Operand.tmp 7), type := 3, pos := "law.go:170", after := #[{ on := 26, ground := Ground.guard }], guard := some (26, true) }) (v := ?vn27) rfl (by kernel_rfl) (by kernel_rfl) (by kernel_rfl) (fun _ _ _ h => h) (Or.inl ⟨by rfl, ?hyn27⟩) hHeld ?restn27
      case hyn27 =>
        intro w hSw
        (try dsimp only at hSw)
        first | (go_simp; done) | (go_simp; with_reducible rfl) | with_reducible rfl | rfl
      simp only [Act.put, List.setIfInBounds_toArray, List.set_cons_zero, List.set_cons_succ]
      refine wpAnyH_take (i := 28) (oi := { dst := some 76, op := Op.binOp BinOp.eql 3 (Operand.tmp 75) (Operand.const (Value.int IntKind.i64 0)) 3, type := 4, pos := "law.go:170", after := #[{ on := 27, ground := Ground.data }, { on := 26, ground := Ground.guard }], guard := some (26, true) }) (v := ?vn28) rfl (by kernel_rfl) (by kernel_rfl) (by kernel_rfl) (fun _ _ _ h => h) (Or.inl ⟨by rfl, ?hyn28⟩) hHeld ?restn28
      case hyn28 =>
        intro w hSw
        (try dsimp only at hSw)
        first | (go_simp; done) | (go_simp; with_reducible rfl) | with_reducible rfl | rfl
      simp only [Act.put, List.setIfInBounds_toArray, List.set_cons_zero, List.set_cons_succ]
      refine wpAnyH_take (i := 29) (oi := { dst := some 77, op := Op.pick (Operand.tmp 74) (Operand.tmp 76) (Operand.const (Value.bool false)), type := 4, pos := "law.go:170", after := #[{ on := 26, ground := Ground.data }, { on := 28, ground := Ground.data }, { on := 23, ground := Ground.guard }], guard := some (23, false) }) (v := ?vn29) rfl (by kernel_rfl) (by kernel_rfl) (by kernel_rfl) (fun _ _ _ h => h) (Or.inl ⟨by rfl, ?hyn29⟩) hHeld ?restn29
      case hyn29 =>
        intro w hSw
        (try dsimp only at hSw)
        first | (go_simp; done) | (go_simp; with_reducible rfl) | with_reducible rfl | rfl
      simp only [Act.put, List.setIfInBounds_toArray, List.set_cons_zero, List.set_cons_succ]
      refine wpAnyH_take (i := 30) (oi := { dst := some 78, op := Op.pick (Operand.tmp 71) (Operand.const (Value.bool true)) (Operand.tmp 77), type := 4, pos := "law.go:170", after := #[{ on := 23, ground := Ground.data }, { on := 29, ground := Ground.data }, { on := 14, ground := Ground.guard }], guard := some (14, true) }) (v := ?vn30) rfl (by kernel_rfl) (by kernel_rfl) (by kernel_rfl) (fun _ _ _ h => h) (Or.inl ⟨by rfl, ?hyn30⟩) hHeld ?restn30
      case hyn30 =>
        intro w hSw
        (try dsimp only at hSw)
        first | (go_simp; done) | (go_simp; with_reducible rfl) | with_reducible rfl | rfl
      simp only [Act.put, List.setIfInBounds_toArray, List.set_cons_zero, List.set_cons_succ]
      refine wpAnyH_take (i := 31) (oi := { dst := some 79, op := Op.pick (Operand.tmp 62) (Operand.tmp 78) (Operand.const (Value.bool false)), type := 4, pos := "law.go:170", after := #[{ on := 14, ground := Ground.data }, { on := 30, ground := Ground.data }], guard := none }) (v := ?vn31) rfl (by kernel_rfl) (by kernel_rfl) (by kernel_rfl) (fun _ _ _ h => h) (Or.inl ⟨by rfl, ?hyn31⟩) hHeld ?restn31
      case hyn31 =>
        intro w hSw
        (try dsimp only at hSw)
        first | (go_simp; done) | (go_simp; with_reducible rfl) | with_reducible rfl | rfl
      simp only [Act.put, List.setIfInBounds_toArray, List.set_cons_zero, List.set_cons_succ]
      refine wpAnyH_take (i := 32) (oi := { dst := some 4, op := Op.assign (Operand.tmp 79), type := 4, pos := "law.go:170", after := #[{ on := 31, ground := Ground.data }, { on := 26, ground := Ground.chain }, { on := 0, ground := Ground.phase }, { on := 1, ground := Ground.phase }, { on := 2, ground := Ground.phase }, { on := 3, ground := Ground.phase }, { on := 4, ground := Ground.phase }, { on := 5, ground := Ground.phase }, { on := 6, ground := Ground.phase }, { on := 7, ground := Ground.phase }, { on := 8, ground := Ground.phase }, { on := 9, ground := Ground.phase }, { on := 10, ground := Ground.phase }, { on := 11, ground := Ground.phase }, { on := 12, ground := Ground.phase }, { on := 13, ground := Ground.phase }, { on := 14, ground := Ground.phase }, { on := 15, ground := Ground.phase }, { on := 16, ground := Ground.phase }, { on := 17, ground := Ground.phase }, { on := 18, ground := Ground.phase }, { on := 19, ground := Ground.phase }, { on := 20, ground := Ground.phase }, { on := 21, ground := Ground.phase }, { on := 22, ground := Ground.phase }, { on := 23, ground := Ground.phase }, { on := 24, ground := Ground.phase }, { on := 25, ground := Ground.phase }, { on := 26, ground := Ground.phase }, { on := 27, ground := Ground.phase }, { on := 28, ground := Ground.phase }, { on := 29, ground := Ground.phase }, { on := 30, ground := Ground.phase }, { on := 31, ground := Ground.phase }], guard := none }) (v := ?vn32) rfl (by kernel_rfl) (by kernel_rfl) (by kernel_rfl) (fun _ _ _ h => h) (Or.inl ⟨by rfl, ?hyn32⟩) hHeld ?restn32
      case hyn32 =>
        intro w hSw
        (try dsimp only at hSw)
        first | (go_simp; done) | (go_simp; with_reducible rfl) | with_reducible rfl | rfl
      simp only [Act.put, List.setIfInBounds_toArray, List.set_cons_zero, List.set_cons_succ]
      refine wpAnyH_done (by kernel_rfl) ?_ _
      go_wp2
      go_ret
      exact ⟨rfl, bt HC.out hb6⟩
end Go.Proofs.Ytfkaeehbnnhfoaa.RiW
