/- Layer 7: where two pairs meet; Layer 7: Choose over two rows of pairs; Layer 7: the reference's Choose over two rows of pairs; Layer 7: the reference's Choose: the walk; Layer 7: Choose and the reference's where the lists are not of one length; Numbers as fractions, in Lean's own field: what the number that is chosen does. -/
import Derived.Test.YtdliookkkgobbaaSetAS
/- Layer 7: where two pairs meet. -/
namespace Go.Proofs.Ytdliookkkgobbaa.DmL
open Go.RowKit Mem LimbNum Limb1 NatL GcdA RatL RatM RatN RatF RatO MulN MulW MulL RefR RefT RefU InvL DivL QNum CmpL CmqL RefX RefY RefZ FloL Mk5 AddN JoinL AddW AddV AddR FldL SubL NmL DelL DelM DelB DaL Law5 Aw5

def sgnM (p : Nm) : Int := sgn p.b p.n
def invM (p : Nm) : Nm := ⟨p.b, p.d, p.n⟩
theorem sgn_nz {p : Nm} (h : 0 < sgn p.b p.n) : p.n ≠ 0 := by
  intro e
  rw [e] at h
  simp [sgn] at h
/-- Div, as the product with the number turned over. -/
theorem a_div {v1 v2 : Value} {p q : Nm} {k : Nat} (hk : k ≤ 100000) {w : World} (h1 : IsR w v1 p) (h2 : IsR w v2 q) (hn : q.n ≠ 0) (f1 : Fits p k) (f2 : Fits q k) :
    Calls Try.prog 86 #[v1, v2] w fun e w' => ∃ v, e = .returned (.tuple #[v, .bool true]) ∧ IsR w' v (mulM p (invM q)) ∧ Below w.heap.size w w' :=
  div_yes v1 v2 _ _ _ _ _ _ w h1 h2 hn (Nat.le_trans (f1.nl (by omega)).1 (by omega)) (Nat.le_trans (f1.nl (by omega)).2 (by omega)) (Nat.le_trans (f2.nl (by omega)).1 (by omega)) (Nat.le_trans (f2.nl (by omega)).2 (by omega))
set_option maxRecDepth 20000 in
set_option maxHeartbeats 2000000 in
theorem dmeet_no (v1 v3 : Value) (q1 q2 q3 q4 : Nm) (k : Nat) (hk : k ≤ 20000) (w : World) (hd1 : IsD w v1 q1 q2) (hd3 : IsD w v3 q3 q4) (f1 : Fits q1 k) (f2 : Fits q2 k) (f3 : Fits q3 k) (f4 : Fits q4 k) (hs : sgnM (addM q2 (negM q4)) ≤ 0) :
    Calls Try.prog 61 #[v1, v3] w fun e w' => e = .returned (.tuple #[.agg #[.bool false, .int .u64 0, .int .u64 0, .pointer none], .bool false]) ∧ Below w.heap.size w w' := by
  unfold sgnM at hs
  obtain ⟨b1, A1, L1, p1, b2, A2, L2, p2, rfl, h1, h2⟩ := hd1
  obtain ⟨b3, A3, L3, p3, b4, A4, L4, p4, rfl, h3, h4⟩ := hd3
  have cA1 := fun (W : World) (hb : Below w.heap.size w W) => a_sub (by omega) (h2.below hb) (h4.below hb) f2 f4
  have cA2 := fun (W : World) (hb : Below w.heap.size w W) => a_sub (by omega) (h3.below hb) (h1.below hb) f3 f1
  have fu := fits_add f2 (fits_neg f4)
  have fv := fits_add f3 (fits_neg f1)
  obtain ⟨u, eu⟩ : ∃ u, addM q2 (negM q4) = u := ⟨_, rfl⟩
  obtain ⟨t, et⟩ : ∃ t, addM q3 (negM q1) = t := ⟨_, rfl⟩
  rw [eu] at fu hs cA1
  rw [et] at fv cA2
  try simp only [eu, et]
  have cS := fun (W : World) (v : Value) (h : IsR W v u) => sign_any v u.b u.n u.d W h
  have FF : Hid (Fits u (2 * k + 1) ∧ Fits t (2 * k + 1) ∧ k ≤ 20000) := ⟨fu, fv, hk⟩
  clear h1 h2 h3 h4 f1 f2 f3 f4 fu fv eu et hk
  obtain ⟨W0, eW0, hb0, hk0, hk1, hk2⟩ := three_new w (.cells #[.bool b1, .int .u64 A1, .int .u64 L1, .pointer p1, .bool b2, .int .u64 A2, .int .u64 L2, .pointer p2] 49) (.cells #[.bool b3, .int .u64 A3, .int .u64 L3, .pointer p3, .bool b4, .int .u64 A4, .int .u64 L4, .pointer p4] 49) (.cells #[.bool false, .int .u64 0, .int .u64 0, .pointer none] 28)
  have e0 := cell_at hk0
  have e1 := cell_at hk1
  have x0 : W0.cell? ⟨w.heap.size, 4, none⟩ = some (.bool b2) := e0 4 _ rfl
  have y0 : W0.cell? ⟨w.heap.size + 1, 4, none⟩ = some (.bool b4) := e1 4 _ rfl
  have x1 : W0.cell? ⟨w.heap.size, 5, none⟩ = some (.int .u64 A2) := e0 5 _ rfl
  have y1 : W0.cell? ⟨w.heap.size + 1, 5, none⟩ = some (.int .u64 A4) := e1 5 _ rfl
  have x2 : W0.cell? ⟨w.heap.size, 6, none⟩ = some (.int .u64 L2) := e0 6 _ rfl
  have y2 : W0.cell? ⟨w.heap.size + 1, 6, none⟩ = some (.int .u64 L4) := e1 6 _ rfl
  have x3 : W0.cell? ⟨w.heap.size, 7, none⟩ = some (.pointer p2) := e0 7 _ rfl
  have y3 : W0.cell? ⟨w.heap.size + 1, 7, none⟩ = some (.pointer p4) := e1 7 _ rfl
  have HK0 : Hid (W0.heap[w.heap.size]? = some (.cells #[.bool b1, .int .u64 A1, .int .u64 L1, .pointer p1, .bool b2, .int .u64 A2, .int .u64 L2, .pointer p2] 49)) := hk0
  have HK1 : Hid (W0.heap[w.heap.size + 1]? = some (.cells #[.bool b3, .int .u64 A3, .int .u64 L3, .pointer p3, .bool b4, .int .u64 A4, .int .u64 L4, .pointer p4] 49)) := hk1
  have HK2 : Hid (W0.heap[w.heap.size + 1 + 1]? = some (.cells #[.bool false, .int .u64 0, .int .u64 0, .pointer none] 28)) := hk2
  have EW : Hid (_ = W0) := eW0
  have cA1' := cA1 W0 hb0
  clear eW0 e0 e1 hk0 hk1 hk2 cA1
  go_enter Try.func61, Try.ntmps61
  go_upto_region 1 with fail
  rw [EW.out]
  clear EW
  go_upto_region 2 with (go_at_call 56; refine cA1'.mono ?_; rintro e w1 ⟨vv, rfl, R1, hb1⟩; obtain ⟨b5, A5, L5, p5, rfl⟩ := R1.shape4)
  obtain ⟨W1, eW1, B1, k5⟩ := one_new w1 (.cells #[.bool b5, .int .u64 A5, .int .u64 L5, .pointer p5] 28)
  rw [eW1]
  have BB := bt hb1 B1
  have C1 := bt hb0 BB
  have i5 := R1.below B1
  have z0 := cell_at k5
  have c0 : W1.cell? ⟨w1.heap.size, 0, none⟩ = some (.bool b5) := z0 0 _ rfl
  have c1 : W1.cell? ⟨w1.heap.size, 1, none⟩ = some (.int .u64 A5) := z0 1 _ rfl
  have c2 : W1.cell? ⟨w1.heap.size, 2, none⟩ = some (.int .u64 L5) := z0 2 _ rfl
  have c3 : W1.cell? ⟨w1.heap.size, 3, none⟩ = some (.pointer p5) := z0 3 _ rfl
  have kk0 := box_kept HK0.out BB (in_heap HK0.out)
  have kk1 := box_kept HK1.out BB (in_heap HK1.out)
  have kk2 := box_kept HK2.out BB (in_heap HK2.out)
  have ne5 : w1.heap.size ≠ w.heap.size + 1 + 1 := by have := in_heap HK2.out; have := hb1.size; omega
  have cS' := cS W1 _ i5
  obtain ⟨g5, eg5⟩ : ∃ g, w1.heap.size = g := ⟨_, rfl⟩
  rw [eg5] at k5 c0 c1 c2 c3 ne5 ⊢
  have HP : Hid (IsR W1 (.agg #[.bool b5, .int .u64 A5, .int .u64 L5, .pointer p5]) u) := i5
  have HB : Hid (Below w.heap.size w W1) := C1
  have M0 : Hid (W1.heap[w.heap.size]? = some (.cells #[.bool b1, .int .u64 A1, .int .u64 L1, .pointer p1, .bool b2, .int .u64 A2, .int .u64 L2, .pointer p2] 49)) := kk0
  have M1 : Hid (W1.heap[w.heap.size + 1]? = some (.cells #[.bool b3, .int .u64 A3, .int .u64 L3, .pointer p3, .bool b4, .int .u64 A4, .int .u64 L4, .pointer p4] 49)) := kk1
  have M2 : Hid (W1.heap[w.heap.size + 1 + 1]? = some (.cells #[.bool false, .int .u64 0, .int .u64 0, .pointer none] 28)) := kk2
  have M5 : Hid (W1.heap[g5]? = some (.cells #[.bool b5, .int .u64 A5, .int .u64 L5, .pointer p5] 28)) := k5
  clear x0 x1 x2 x3 y0 y1 y2 y3 HK0 HK1 HK2 hb0 hb1 eW1 BB C1 i5 z0 kk0 kk1 kk2 R1 cA1' eg5 k5 B1 cS
  generalize sgn u.b u.n = SG at *
  clear M0 M1 HP FF cA2 M5 ne5
  go_wp2_with (go_at_call 37; refine cS'.mono ?_; rintro e w2 ⟨rfl, hb2⟩; have kk := box_kept M2.out hb2 (in_heap M2.out); have dd := cell_at kk; have d0 : w2.cell? ⟨w.heap.size + 1 + 1, 0, none⟩ = some (.bool false) := dd 0 _ rfl; have d1 : w2.cell? ⟨w.heap.size + 1 + 1, 1, none⟩ = some (.int .u64 0) := dd 1 _ rfl; have d2 : w2.cell? ⟨w.heap.size + 1 + 1, 2, none⟩ = some (.int .u64 0) := dd 2 _ rfl; have d3 : w2.cell? ⟨w.heap.size + 1 + 1, 3, none⟩ = some (.pointer none) := dd 3 _ rfl; have ff : ∀ i, w2.frozen? ⟨w.heap.size + 1 + 1, i, none⟩ = false := nofreeze kk; have HK : Hid (w2.heap[w.heap.size + 1 + 1]? = some (.cells #[.bool false, .int .u64 0, .int .u64 0, .pointer none] 28)) := kk; clear kk dd)
  all_goals go_wp2
  have k2 := sto4_box HK.out (.bool false) (.int .u64 0) (.int .u64 0) (.pointer none)
  have hB := sto4_below (bt HB.out hb2) (show w.heap.size ≤ w.heap.size + 1 + 1 by omega) (.bool false) (.int .u64 0) (.int .u64 0) (.pointer none)
  generalize World.setCell _ _ _ = W' at *
  have gg := cell_at k2
  have g0 : W'.cell? ⟨w.heap.size + 1 + 1, 0, none⟩ = some (.bool false) := gg 0 _ rfl
  have g1 : W'.cell? ⟨w.heap.size + 1 + 1, 1, none⟩ = some (.int .u64 0) := gg 1 _ rfl
  have g2 : W'.cell? ⟨w.heap.size + 1 + 1, 2, none⟩ = some (.int .u64 0) := gg 2 _ rfl
  have g3 : W'.cell? ⟨w.heap.size + 1 + 1, 3, none⟩ = some (.pointer none) := gg 3 _ rfl
  refine bodyPost_ret (v := .tuple #[.agg #[.bool false, .int .u64 0, .int .u64 0, .pointer none], .bool false]) ?_ rfl ?_
  · simp [results, go_sem, g0, g1, g2, g3]
  · exact ⟨rfl, hB⟩
set_option maxRecDepth 20000 in
set_option maxHeartbeats 2000000 in
theorem dmeet_yes (v1 v3 : Value) (q1 q2 q3 q4 : Nm) (k : Nat) (hk : k ≤ 20000) (w : World) (hd1 : IsD w v1 q1 q2) (hd3 : IsD w v3 q3 q4) (f1 : Fits q1 k) (f2 : Fits q2 k) (f3 : Fits q3 k) (f4 : Fits q4 k) (hs : 0 < sgnM (addM q2 (negM q4))) :
    Calls Try.prog 61 #[v1, v3] w fun e w' => ∃ v, e = .returned (.tuple #[v, .bool true]) ∧ IsR w' v (mulM (addM q3 (negM q1)) (invM (addM q2 (negM q4)))) ∧ Below w.heap.size w w' := by
  unfold sgnM at hs
  have hz := sgn_nz hs
  obtain ⟨b1, A1, L1, p1, b2, A2, L2, p2, rfl, h1, h2⟩ := hd1
  obtain ⟨b3, A3, L3, p3, b4, A4, L4, p4, rfl, h3, h4⟩ := hd3
  have cA1 := fun (W : World) (hb : Below w.heap.size w W) => a_sub (by omega) (h2.below hb) (h4.below hb) f2 f4
  have cA2 := fun (W : World) (hb : Below w.heap.size w W) => a_sub (by omega) (h3.below hb) (h1.below hb) f3 f1
  have fu := fits_add f2 (fits_neg f4)
  have fv := fits_add f3 (fits_neg f1)
  obtain ⟨u, eu⟩ : ∃ u, addM q2 (negM q4) = u := ⟨_, rfl⟩
  obtain ⟨t, et⟩ : ∃ t, addM q3 (negM q1) = t := ⟨_, rfl⟩
  rw [eu] at fu hs cA1 hz
  rw [et] at fv cA2
  try simp only [eu, et]
  obtain ⟨rr, er⟩ : ∃ r, mulM t (invM u) = r := ⟨_, rfl⟩
  rw [er]
  have ER : Hid (mulM t (invM u) = rr) := er
  clear er
  have cS := fun (W : World) (v : Value) (h : IsR W v u) => sign_any v u.b u.n u.d W h
  have FF : Hid (Fits u (2 * k + 1) ∧ Fits t (2 * k + 1) ∧ k ≤ 20000 ∧ u.n ≠ 0) := ⟨fu, fv, hk, hz⟩
  clear h1 h2 h3 h4 f1 f2 f3 f4 fu fv eu et hk hz
  obtain ⟨W0, eW0, hb0, hk0, hk1, hk2⟩ := three_new w (.cells #[.bool b1, .int .u64 A1, .int .u64 L1, .pointer p1, .bool b2, .int .u64 A2, .int .u64 L2, .pointer p2] 49) (.cells #[.bool b3, .int .u64 A3, .int .u64 L3, .pointer p3, .bool b4, .int .u64 A4, .int .u64 L4, .pointer p4] 49) (.cells #[.bool false, .int .u64 0, .int .u64 0, .pointer none] 28)
  have e0 := cell_at hk0
  have e1 := cell_at hk1
  have x0 : W0.cell? ⟨w.heap.size, 4, none⟩ = some (.bool b2) := e0 4 _ rfl
  have y0 : W0.cell? ⟨w.heap.size + 1, 4, none⟩ = some (.bool b4) := e1 4 _ rfl
  have x1 : W0.cell? ⟨w.heap.size, 5, none⟩ = some (.int .u64 A2) := e0 5 _ rfl
  have y1 : W0.cell? ⟨w.heap.size + 1, 5, none⟩ = some (.int .u64 A4) := e1 5 _ rfl
  have x2 : W0.cell? ⟨w.heap.size, 6, none⟩ = some (.int .u64 L2) := e0 6 _ rfl
  have y2 : W0.cell? ⟨w.heap.size + 1, 6, none⟩ = some (.int .u64 L4) := e1 6 _ rfl
  have x3 : W0.cell? ⟨w.heap.size, 7, none⟩ = some (.pointer p2) := e0 7 _ rfl
  have y3 : W0.cell? ⟨w.heap.size + 1, 7, none⟩ = some (.pointer p4) := e1 7 _ rfl
  have HK0 : Hid (W0.heap[w.heap.size]? = some (.cells #[.bool b1, .int .u64 A1, .int .u64 L1, .pointer p1, .bool b2, .int .u64 A2, .int .u64 L2, .pointer p2] 49)) := hk0
  have HK1 : Hid (W0.heap[w.heap.size + 1]? = some (.cells #[.bool b3, .int .u64 A3, .int .u64 L3, .pointer p3, .bool b4, .int .u64 A4, .int .u64 L4, .pointer p4] 49)) := hk1
  have HK2 : Hid (W0.heap[w.heap.size + 1 + 1]? = some (.cells #[.bool false, .int .u64 0, .int .u64 0, .pointer none] 28)) := hk2
  have EW : Hid (_ = W0) := eW0
  have cA1' := cA1 W0 hb0
  clear eW0 e0 e1 hk0 hk1 hk2 cA1
  go_enter Try.func61, Try.ntmps61
  go_upto_region 1 with fail
  rw [EW.out]
  clear EW
  go_upto_region 2 with (go_at_call 56; refine cA1'.mono ?_; rintro e w1 ⟨vv, rfl, R1, hb1⟩; obtain ⟨b5, A5, L5, p5, rfl⟩ := R1.shape4)
  obtain ⟨W1, eW1, B1, k5⟩ := one_new w1 (.cells #[.bool b5, .int .u64 A5, .int .u64 L5, .pointer p5] 28)
  rw [eW1]
  have BB := bt hb1 B1
  have C1 := bt hb0 BB
  have i5 := R1.below B1
  have z0 := cell_at k5
  have c0 : W1.cell? ⟨w1.heap.size, 0, none⟩ = some (.bool b5) := z0 0 _ rfl
  have c1 : W1.cell? ⟨w1.heap.size, 1, none⟩ = some (.int .u64 A5) := z0 1 _ rfl
  have c2 : W1.cell? ⟨w1.heap.size, 2, none⟩ = some (.int .u64 L5) := z0 2 _ rfl
  have c3 : W1.cell? ⟨w1.heap.size, 3, none⟩ = some (.pointer p5) := z0 3 _ rfl
  have kk0 := box_kept HK0.out BB (in_heap HK0.out)
  have kk1 := box_kept HK1.out BB (in_heap HK1.out)
  have kk2 := box_kept HK2.out BB (in_heap HK2.out)
  have ne5 : w1.heap.size ≠ w.heap.size + 1 + 1 := by have := in_heap HK2.out; have := hb1.size; omega
  have cS' := cS W1 _ i5
  obtain ⟨g5, eg5⟩ : ∃ g, w1.heap.size = g := ⟨_, rfl⟩
  rw [eg5] at k5 c0 c1 c2 c3 ne5 ⊢
  have HP : Hid (IsR W1 (.agg #[.bool b5, .int .u64 A5, .int .u64 L5, .pointer p5]) u) := i5
  have HB : Hid (Below w.heap.size w W1) := C1
  have M0 : Hid (W1.heap[w.heap.size]? = some (.cells #[.bool b1, .int .u64 A1, .int .u64 L1, .pointer p1, .bool b2, .int .u64 A2, .int .u64 L2, .pointer p2] 49)) := kk0
  have M1 : Hid (W1.heap[w.heap.size + 1]? = some (.cells #[.bool b3, .int .u64 A3, .int .u64 L3, .pointer p3, .bool b4, .int .u64 A4, .int .u64 L4, .pointer p4] 49)) := kk1
  have M2 : Hid (W1.heap[w.heap.size + 1 + 1]? = some (.cells #[.bool false, .int .u64 0, .int .u64 0, .pointer none] 28)) := kk2
  have M5 : Hid (W1.heap[g5]? = some (.cells #[.bool b5, .int .u64 A5, .int .u64 L5, .pointer p5] 28)) := k5
  clear x0 x1 x2 x3 y0 y1 y2 y3 HK0 HK1 HK2 hb0 hb1 eW1 BB C1 i5 z0 kk0 kk1 kk2 R1 cA1' eg5 k5 B1 cS
  generalize sgn u.b u.n = SG at *
  have hs2 : (decide (SG ≤ 0)) = false := decide_eq_false (by omega)
  have nf0 : w.heap.size ≠ w.heap.size + 1 + 1 := by omega
  have nf1 : w.heap.size + 1 ≠ w.heap.size + 1 + 1 := by omega
  have cD := fun (W : World) (v v' : Value) (h1 : IsR W v t) (h2 : IsR W v' u) => a_div (k := 2 * k + 1) (by have := FF.out.2.2.1; omega) h1 h2 FF.out.2.2.2 FF.out.2.1 FF.out.1
  simp only [ER.out] at cD
  go_upto_region 4 with (go_at_call 37; refine cS'.mono ?_; rintro e w2 ⟨rfl, hb2⟩)
  have C2 := (bt HB.out hb2).drew
  have P2 : Hid (IsR w2.drew (.agg #[.bool b5, .int .u64 A5, .int .u64 L5, .pointer p5]) u) := (HP.out.below hb2).below (Below.refl _ _).drew
  have HKr : Hid (w2.drew.heap[w.heap.size + 1 + 1]? = some (.cells #[.bool false, .int .u64 0, .int .u64 0, .pointer none] 28)) := World.drew_at (box_kept M2.out hb2 (in_heap M2.out))
  have s0 : w2.drew.cell? ⟨w.heap.size, 0, none⟩ = some (.bool b1) ∧ w2.drew.cell? ⟨w.heap.size, 1, none⟩ = some (.int .u64 A1) ∧ w2.drew.cell? ⟨w.heap.size, 2, none⟩ = some (.int .u64 L1) ∧ w2.drew.cell? ⟨w.heap.size, 3, none⟩ = some (.pointer p1) ∧ w2.drew.cell? ⟨w.heap.size + 1, 0, none⟩ = some (.bool b3) ∧ w2.drew.cell? ⟨w.heap.size + 1, 1, none⟩ = some (.int .u64 A3) ∧ w2.drew.cell? ⟨w.heap.size + 1, 2, none⟩ = some (.int .u64 L3) ∧ w2.drew.cell? ⟨w.heap.size + 1, 3, none⟩ = some (.pointer p3) ∧ w2.drew.cell? ⟨g5, 0, none⟩ = some (.bool b5) ∧ w2.drew.cell? ⟨g5, 1, none⟩ = some (.int .u64 A5) ∧ w2.drew.cell? ⟨g5, 2, none⟩ = some (.int .u64 L5) ∧ w2.drew.cell? ⟨g5, 3, none⟩ = some (.pointer p5) := by
    have f0 := cell_at (World.drew_at (box_kept M0.out hb2 (in_heap M0.out)))
    have f1 := cell_at (World.drew_at (box_kept M1.out hb2 (in_heap M1.out)))
    have f2 := cell_at (World.drew_at (box_kept M5.out hb2 (in_heap M5.out)))
    exact ⟨f0 0 _ rfl, f0 1 _ rfl, f0 2 _ rfl, f0 3 _ rfl, f1 0 _ rfl, f1 1 _ rfl, f1 2 _ rfl, f1 3 _ rfl, f2 0 _ rfl, f2 1 _ rfl, f2 2 _ rfl, f2 3 _ rfl⟩
  clear HP HB M0 M1 M2 M5 c0 c1 c2 c3 hb2 cS' hs hs2 FF
  go_region_held3 (fun w' => w'.cell? ⟨w.heap.size, 0, none⟩ = some (.bool b1) ∧ w'.cell? ⟨w.heap.size, 1, none⟩ = some (.int .u64 A1) ∧ w'.cell? ⟨w.heap.size, 2, none⟩ = some (.int .u64 L1) ∧ w'.cell? ⟨w.heap.size, 3, none⟩ = some (.pointer p1) ∧ w'.cell? ⟨w.heap.size + 1, 0, none⟩ = some (.bool b3) ∧ w'.cell? ⟨w.heap.size + 1, 1, none⟩ = some (.int .u64 A3) ∧ w'.cell? ⟨w.heap.size + 1, 2, none⟩ = some (.int .u64 L3) ∧ w'.cell? ⟨w.heap.size + 1, 3, none⟩ = some (.pointer p3) ∧ w'.cell? ⟨g5, 0, none⟩ = some (.bool b5) ∧ w'.cell? ⟨g5, 1, none⟩ = some (.int .u64 A5) ∧ w'.cell? ⟨g5, 2, none⟩ = some (.int .u64 L5) ∧ w'.cell? ⟨g5, 3, none⟩ = some (.pointer p5)) (first | with_reducible exact s0 | with_reducible exact s1 | with_reducible exact s2 | with_reducible exact s3) (first
    | (go_at_call 56; refine (cA2 _ C2).mono ?_; rintro e w3 ⟨v3, rfl, R3, hb3⟩; have C3 := bt C2 hb3; have kc : ∀ {p : Addr} {v : Value}, w2.drew.cell? p = some v → w3.cell? p = some v := fun {p v} h => by { rw [hb3.cell (World.block_lt_of_cell? w2.drew p h)]; exact h }; have s1 : w3.cell? ⟨w.heap.size, 0, none⟩ = some (.bool b1) ∧ w3.cell? ⟨w.heap.size, 1, none⟩ = some (.int .u64 A1) ∧ w3.cell? ⟨w.heap.size, 2, none⟩ = some (.int .u64 L1) ∧ w3.cell? ⟨w.heap.size, 3, none⟩ = some (.pointer p1) ∧ w3.cell? ⟨w.heap.size + 1, 0, none⟩ = some (.bool b3) ∧ w3.cell? ⟨w.heap.size + 1, 1, none⟩ = some (.int .u64 A3) ∧ w3.cell? ⟨w.heap.size + 1, 2, none⟩ = some (.int .u64 L3) ∧ w3.cell? ⟨w.heap.size + 1, 3, none⟩ = some (.pointer p3) ∧ w3.cell? ⟨g5, 0, none⟩ = some (.bool b5) ∧ w3.cell? ⟨g5, 1, none⟩ = some (.int .u64 A5) ∧ w3.cell? ⟨g5, 2, none⟩ = some (.int .u64 L5) ∧ w3.cell? ⟨g5, 3, none⟩ = some (.pointer p5) := ⟨kc s0.1, kc s0.2.1, kc s0.2.2.1, kc s0.2.2.2.1, kc s0.2.2.2.2.1, kc s0.2.2.2.2.2.1, kc s0.2.2.2.2.2.2.1, kc s0.2.2.2.2.2.2.2.1, kc s0.2.2.2.2.2.2.2.2.1, kc s0.2.2.2.2.2.2.2.2.2.1, kc s0.2.2.2.2.2.2.2.2.2.2.1, kc s0.2.2.2.2.2.2.2.2.2.2.2⟩; clear kc)
    | (go_at_call 86; refine (cD _ _ _ R3 (P2.out.below hb3)).mono ?_; rintro e w4 ⟨v4, rfl, R4, hb4⟩; have C4 := bt C3 hb4; have kc : ∀ {p : Addr} {v : Value}, w3.cell? p = some v → w4.cell? p = some v := fun {p v} h => by { rw [hb4.cell (World.block_lt_of_cell? w3 p h)]; exact h }; have s2 : w4.cell? ⟨w.heap.size, 0, none⟩ = some (.bool b1) ∧ w4.cell? ⟨w.heap.size, 1, none⟩ = some (.int .u64 A1) ∧ w4.cell? ⟨w.heap.size, 2, none⟩ = some (.int .u64 L1) ∧ w4.cell? ⟨w.heap.size, 3, none⟩ = some (.pointer p1) ∧ w4.cell? ⟨w.heap.size + 1, 0, none⟩ = some (.bool b3) ∧ w4.cell? ⟨w.heap.size + 1, 1, none⟩ = some (.int .u64 A3) ∧ w4.cell? ⟨w.heap.size + 1, 2, none⟩ = some (.int .u64 L3) ∧ w4.cell? ⟨w.heap.size + 1, 3, none⟩ = some (.pointer p3) ∧ w4.cell? ⟨g5, 0, none⟩ = some (.bool b5) ∧ w4.cell? ⟨g5, 1, none⟩ = some (.int .u64 A5) ∧ w4.cell? ⟨g5, 2, none⟩ = some (.int .u64 L5) ∧ w4.cell? ⟨g5, 3, none⟩ = some (.pointer p5) := ⟨kc s1.1, kc s1.2.1, kc s1.2.2.1, kc s1.2.2.2.1, kc s1.2.2.2.2.1, kc s1.2.2.2.2.2.1, kc s1.2.2.2.2.2.2.1, kc s1.2.2.2.2.2.2.2.1, kc s1.2.2.2.2.2.2.2.2.1, kc s1.2.2.2.2.2.2.2.2.2.1, kc s1.2.2.2.2.2.2.2.2.2.2.1, kc s1.2.2.2.2.2.2.2.2.2.2.2⟩; clear kc; obtain ⟨xr, VA, VL, vp, rfl⟩ := R4.shape4; have kk := box_kept HKr.out (bt hb3 hb4) (in_heap HKr.out); have dd := cell_at kk; have d0 : w4.cell? ⟨w.heap.size + 1 + 1, 0, none⟩ = some (.bool false) := dd 0 _ rfl; have d1 : w4.cell? ⟨w.heap.size + 1 + 1, 1, none⟩ = some (.int .u64 0) := dd 1 _ rfl; have d2 : w4.cell? ⟨w.heap.size + 1 + 1, 2, none⟩ = some (.int .u64 0) := dd 2 _ rfl; have d3 : w4.cell? ⟨w.heap.size + 1 + 1, 3, none⟩ = some (.pointer none) := dd 3 _ rfl; have ff : ∀ i, w4.frozen? ⟨w.heap.size + 1 + 1, i, none⟩ = false := nofreeze kk; have s3 : ((((w4.setCell ⟨w.heap.size + 1 + 1, 0, none⟩ (.bool xr)).setCell ⟨w.heap.size + 1 + 1, 1, none⟩ (.int .u64 VA)).setCell ⟨w.heap.size + 1 + 1, 2, none⟩ (.int .u64 VL)).setCell ⟨w.heap.size + 1 + 1, 3, none⟩ (.pointer vp)).cell? ⟨w.heap.size, 0, none⟩ = some (.bool b1) ∧ ((((w4.setCell ⟨w.heap.size + 1 + 1, 0, none⟩ (.bool xr)).setCell ⟨w.heap.size + 1 + 1, 1, none⟩ (.int .u64 VA)).setCell ⟨w.heap.size + 1 + 1, 2, none⟩ (.int .u64 VL)).setCell ⟨w.heap.size + 1 + 1, 3, none⟩ (.pointer vp)).cell? ⟨w.heap.size, 1, none⟩ = some (.int .u64 A1) ∧ ((((w4.setCell ⟨w.heap.size + 1 + 1, 0, none⟩ (.bool xr)).setCell ⟨w.heap.size + 1 + 1, 1, none⟩ (.int .u64 VA)).setCell ⟨w.heap.size + 1 + 1, 2, none⟩ (.int .u64 VL)).setCell ⟨w.heap.size + 1 + 1, 3, none⟩ (.pointer vp)).cell? ⟨w.heap.size, 2, none⟩ = some (.int .u64 L1) ∧ ((((w4.setCell ⟨w.heap.size + 1 + 1, 0, none⟩ (.bool xr)).setCell ⟨w.heap.size + 1 + 1, 1, none⟩ (.int .u64 VA)).setCell ⟨w.heap.size + 1 + 1, 2, none⟩ (.int .u64 VL)).setCell ⟨w.heap.size + 1 + 1, 3, none⟩ (.pointer vp)).cell? ⟨w.heap.size, 3, none⟩ = some (.pointer p1) ∧ ((((w4.setCell ⟨w.heap.size + 1 + 1, 0, none⟩ (.bool xr)).setCell ⟨w.heap.size + 1 + 1, 1, none⟩ (.int .u64 VA)).setCell ⟨w.heap.size + 1 + 1, 2, none⟩ (.int .u64 VL)).setCell ⟨w.heap.size + 1 + 1, 3, none⟩ (.pointer vp)).cell? ⟨w.heap.size + 1, 0, none⟩ = some (.bool b3) ∧ ((((w4.setCell ⟨w.heap.size + 1 + 1, 0, none⟩ (.bool xr)).setCell ⟨w.heap.size + 1 + 1, 1, none⟩ (.int .u64 VA)).setCell ⟨w.heap.size + 1 + 1, 2, none⟩ (.int .u64 VL)).setCell ⟨w.heap.size + 1 + 1, 3, none⟩ (.pointer vp)).cell? ⟨w.heap.size + 1, 1, none⟩ = some (.int .u64 A3) ∧ ((((w4.setCell ⟨w.heap.size + 1 + 1, 0, none⟩ (.bool xr)).setCell ⟨w.heap.size + 1 + 1, 1, none⟩ (.int .u64 VA)).setCell ⟨w.heap.size + 1 + 1, 2, none⟩ (.int .u64 VL)).setCell ⟨w.heap.size + 1 + 1, 3, none⟩ (.pointer vp)).cell? ⟨w.heap.size + 1, 2, none⟩ = some (.int .u64 L3) ∧ ((((w4.setCell ⟨w.heap.size + 1 + 1, 0, none⟩ (.bool xr)).setCell ⟨w.heap.size + 1 + 1, 1, none⟩ (.int .u64 VA)).setCell ⟨w.heap.size + 1 + 1, 2, none⟩ (.int .u64 VL)).setCell ⟨w.heap.size + 1 + 1, 3, none⟩ (.pointer vp)).cell? ⟨w.heap.size + 1, 3, none⟩ = some (.pointer p3) ∧ ((((w4.setCell ⟨w.heap.size + 1 + 1, 0, none⟩ (.bool xr)).setCell ⟨w.heap.size + 1 + 1, 1, none⟩ (.int .u64 VA)).setCell ⟨w.heap.size + 1 + 1, 2, none⟩ (.int .u64 VL)).setCell ⟨w.heap.size + 1 + 1, 3, none⟩ (.pointer vp)).cell? ⟨g5, 0, none⟩ = some (.bool b5) ∧ ((((w4.setCell ⟨w.heap.size + 1 + 1, 0, none⟩ (.bool xr)).setCell ⟨w.heap.size + 1 + 1, 1, none⟩ (.int .u64 VA)).setCell ⟨w.heap.size + 1 + 1, 2, none⟩ (.int .u64 VL)).setCell ⟨w.heap.size + 1 + 1, 3, none⟩ (.pointer vp)).cell? ⟨g5, 1, none⟩ = some (.int .u64 A5) ∧ ((((w4.setCell ⟨w.heap.size + 1 + 1, 0, none⟩ (.bool xr)).setCell ⟨w.heap.size + 1 + 1, 1, none⟩ (.int .u64 VA)).setCell ⟨w.heap.size + 1 + 1, 2, none⟩ (.int .u64 VL)).setCell ⟨w.heap.size + 1 + 1, 3, none⟩ (.pointer vp)).cell? ⟨g5, 2, none⟩ = some (.int .u64 L5) ∧ ((((w4.setCell ⟨w.heap.size + 1 + 1, 0, none⟩ (.bool xr)).setCell ⟨w.heap.size + 1 + 1, 1, none⟩ (.int .u64 VA)).setCell ⟨w.heap.size + 1 + 1, 2, none⟩ (.int .u64 VL)).setCell ⟨w.heap.size + 1 + 1, 3, none⟩ (.pointer vp)).cell? ⟨g5, 3, none⟩ = some (.pointer p5) := ⟨(sto4_cell w4 (w.heap.size + 1 + 1) (.bool xr) (.int .u64 VA) (.int .u64 VL) (.pointer vp) _ 0 nf0).trans s2.1, (sto4_cell w4 (w.heap.size + 1 + 1) (.bool xr) (.int .u64 VA) (.int .u64 VL) (.pointer vp) _ 1 nf0).trans s2.2.1, (sto4_cell w4 (w.heap.size + 1 + 1) (.bool xr) (.int .u64 VA) (.int .u64 VL) (.pointer vp) _ 2 nf0).trans s2.2.2.1, (sto4_cell w4 (w.heap.size + 1 + 1) (.bool xr) (.int .u64 VA) (.int .u64 VL) (.pointer vp) _ 3 nf0).trans s2.2.2.2.1, (sto4_cell w4 (w.heap.size + 1 + 1) (.bool xr) (.int .u64 VA) (.int .u64 VL) (.pointer vp) _ 0 nf1).trans s2.2.2.2.2.1, (sto4_cell w4 (w.heap.size + 1 + 1) (.bool xr) (.int .u64 VA) (.int .u64 VL) (.pointer vp) _ 1 nf1).trans s2.2.2.2.2.2.1, (sto4_cell w4 (w.heap.size + 1 + 1) (.bool xr) (.int .u64 VA) (.int .u64 VL) (.pointer vp) _ 2 nf1).trans s2.2.2.2.2.2.2.1, (sto4_cell w4 (w.heap.size + 1 + 1) (.bool xr) (.int .u64 VA) (.int .u64 VL) (.pointer vp) _ 3 nf1).trans s2.2.2.2.2.2.2.2.1, (sto4_cell w4 (w.heap.size + 1 + 1) (.bool xr) (.int .u64 VA) (.int .u64 VL) (.pointer vp) _ 0 ne5).trans s2.2.2.2.2.2.2.2.2.1, (sto4_cell w4 (w.heap.size + 1 + 1) (.bool xr) (.int .u64 VA) (.int .u64 VL) (.pointer vp) _ 1 ne5).trans s2.2.2.2.2.2.2.2.2.2.1, (sto4_cell w4 (w.heap.size + 1 + 1) (.bool xr) (.int .u64 VA) (.int .u64 VL) (.pointer vp) _ 2 ne5).trans s2.2.2.2.2.2.2.2.2.2.2.1, (sto4_cell w4 (w.heap.size + 1 + 1) (.bool xr) (.int .u64 VA) (.int .u64 VL) (.pointer vp) _ 3 ne5).trans s2.2.2.2.2.2.2.2.2.2.2.2⟩; have HK : Hid (w4.heap[w.heap.size + 1 + 1]? = some (.cells #[.bool false, .int .u64 0, .int .u64 0, .pointer none] 28)) := kk; clear kk dd))
  all_goals go_wp2
  have k2 := sto4_box HK.out (.bool xr) (.int .u64 VA) (.int .u64 VL) (.pointer vp)
  have hB := sto4_below C4 (show w.heap.size ≤ w.heap.size + 1 + 1 by omega) (.bool xr) (.int .u64 VA) (.int .u64 VL) (.pointer vp)
  have hR := R4.offP (plain4 HK.out) (sto4_off w4 (w.heap.size + 1 + 1) (.bool xr) (.int .u64 VA) (.int .u64 VL) (.pointer vp)).1 (sto4_off w4 (w.heap.size + 1 + 1) (.bool xr) (.int .u64 VA) (.int .u64 VL) (.pointer vp)).2
  clear s3 d0 d1 d2 d3 ff HK
  generalize World.setCell _ _ _ = W' at *
  have gg := cell_at k2
  have g0 : W'.cell? ⟨w.heap.size + 1 + 1, 0, none⟩ = some (.bool xr) := gg 0 _ rfl
  have g1 : W'.cell? ⟨w.heap.size + 1 + 1, 1, none⟩ = some (.int .u64 VA) := gg 1 _ rfl
  have g2 : W'.cell? ⟨w.heap.size + 1 + 1, 2, none⟩ = some (.int .u64 VL) := gg 2 _ rfl
  have g3 : W'.cell? ⟨w.heap.size + 1 + 1, 3, none⟩ = some (.pointer vp) := gg 3 _ rfl
  refine bodyPost_ret (v := .tuple #[.agg #[.bool xr, .int .u64 VA, .int .u64 VL, .pointer vp], .bool true]) ?_ rfl ?_
  · simp [results, go_sem, g0, g1, g2, g3]
  · exact ⟨_, rfl, hR, hB⟩
end Go.Proofs.Ytdliookkkgobbaa.DmL

/- Layer 7: Choose over two rows of pairs. -/
namespace Go.Proofs.Ytdliookkkgobbaa.DcL
open Go.RowKit Mem LimbNum Limb1 NatL GcdA RatL RatM RatN RatF RatO MulN MulW MulL RefR RefT RefU InvL DivL QNum CmpL CmqL RefX RefY RefZ FloL Mk5 AddN JoinL AddW AddV AddR FldL SubL NmL DelL DelM DelB DaL DmL Law5 Aw5

def minM (m x : Nm) : Nm := if 0 < cmpM m x then x else m
theorem a_min {v1 v2 : Value} {p q : Nm} {k : Nat} (hk : k ≤ 100000) {w : World} (h1 : IsR w v1 p) (h2 : IsR w v2 q) (f1 : Fits p k) (f2 : Fits q k) :
    Calls Try.prog 62 #[v1, v2] w fun e w' => ∃ v, e = .returned v ∧ IsR w' v (minM p q) ∧ Below w.heap.size w w' := by
  refine (min_any v1 v2 _ _ _ _ _ _ w h1 h2 (f1.nl (by omega)).1 (f1.nl (by omega)).2 (f2.nl (by omega)).1 (f2.nl (by omega)).2).mono ?_
  rintro e w' ⟨v, rfl, R, hb⟩
  refine ⟨v, rfl, ?_, hb⟩
  unfold minM
  by_cases h : 0 < cmpM p q
  · rw [if_pos h]
    unfold cmpM at h
    rw [if_pos h, if_pos h, if_pos h] at R
    exact R
  · rw [if_neg h]
    unfold cmpM at h
    rw [if_neg h, if_neg h, if_neg h] at R
    exact R
/-- A pair. -/
structure Pr where
  a : Nm
  b : Nm
def upM (p q : Nm × Nm) : Nm := addM p.2 (negM q.2)
def quoM (p q : Nm × Nm) : Nm := mulM (addM q.1 (negM p.1)) (invM (upM p q))
def stepM (m : Nm) (p q : Nm × Nm) : Nm := if 0 < sgnM (upM p q) then minM m (quoM p q) else m
/-- The number so far; none: some low one is above its high one. -/
def cho (E F : Nat → Nm × Nm) : Nat → Option Nm
  | 0 => some (intM 1)
  | k + 1 => match cho E F k with
    | none => none
    | some m => if 0 < cmpD (E k).1 (E k).2 (F k).1 (F k).2 then none else some (stepM m (E k) (F k))
theorem cho_none {E F : Nat → Nm × Nm} {k : Nat} (h : cho E F k = none) (n : Nat) (hn : k ≤ n) : cho E F n = none := by
  induction n with
  | zero => rw [show 0 = k by omega]; exact h
  | succ n ih =>
    by_cases e : k = n + 1
    · rw [← e]; exact h
    · simp only [cho, ih (by omega)]
theorem cho_some {E F : Nat → Nm × Nm} {k : Nat} {m : Nm} (h : cho E F k = some m) (hc : ¬ 0 < cmpD (E k).1 (E k).2 (F k).1 (F k).2) : cho E F (k + 1) = some (stepM m (E k) (F k)) := by
  simp only [cho, h, if_neg hc]
theorem cho_stop {E F : Nat → Nm × Nm} {k : Nat} {m : Nm} (h : cho E F k = some m) (hc : 0 < cmpD (E k).1 (E k).2 (F k).1 (F k).2) : cho E F (k + 1) = none := by
  simp only [cho, h, if_pos hc]
theorem fits_inv {p : Nm} {k : Nat} (h : Fits p k) (hn : p.n ≠ 0) : Fits (invM p) k := ⟨by have := hn; show 0 < p.n; omega, h.2.2, h.2.1⟩
theorem fits_min {m x : Nm} {k : Nat} (h : Fits m k) (h2 : Fits x k) : Fits (minM m x) k := by unfold minM; split; exact h2; exact h
theorem fits_quo {p q : Nm × Nm} (hp : Fits p.1 256 ∧ Fits p.2 256) (hq : Fits q.1 256 ∧ Fits q.2 256) (hs : 0 < sgnM (upM p q)) : Fits (quoM p q) 1026 :=
  fits_mul (fits_add hq.1 (fits_neg hp.1)) (fits_inv (fits_add hp.2 (fits_neg hq.2)) (sgn_nz hs))
theorem fits_step {m : Nm} {p q : Nm × Nm} (h : Fits m 1026) (hp : Fits p.1 256 ∧ Fits p.2 256) (hq : Fits q.1 256 ∧ Fits q.2 256) : Fits (stepM m p q) 1026 := by
  unfold stepM
  split
  · exact fits_min h (fits_quo hp hq (by assumption))
  · exact h
/-- The value v is a row of N pairs, the k-th E k. -/
def RD (w : World) (v : Value) (N : Nat) (E : Nat → Nm × Nm) : Prop := ∃ (o : Option Addr) (cap : Nat), v = .slice o N cap ∧ (∀ k, k < N → Fits (E k).1 256 ∧ Fits (E k).2 256) ∧
  (0 < N → ∃ g off, o = some ⟨g, off, none⟩ ∧ g < w.heap.size ∧ ∀ k, k < N → ∃ (b1 : Bool) (A1 L1 : Int) (p1 : Option Addr) (b2 : Bool) (A2 L2 : Int) (p2 : Option Addr), w.cell? ⟨g, off + k * 8, none⟩ = some (.bool b1) ∧ w.cell? ⟨g, off + k * 8 + 1, none⟩ = some (.int .u64 A1) ∧ w.cell? ⟨g, off + k * 8 + 2, none⟩ = some (.int .u64 L1) ∧ w.cell? ⟨g, off + k * 8 + 3, none⟩ = some (.pointer p1) ∧ w.cell? ⟨g, off + k * 8 + 4, none⟩ = some (.bool b2) ∧ w.cell? ⟨g, off + k * 8 + 5, none⟩ = some (.int .u64 A2) ∧ w.cell? ⟨g, off + k * 8 + 6, none⟩ = some (.int .u64 L2) ∧ w.cell? ⟨g, off + k * 8 + 7, none⟩ = some (.pointer p2) ∧ IsR w (.agg #[.bool b1, .int .u64 A1, .int .u64 L1, .pointer p1]) (E k).1 ∧ IsR w (.agg #[.bool b2, .int .u64 A2, .int .u64 L2, .pointer p2]) (E k).2)
theorem RD.below {w w' : World} {v : Value} {N : Nat} {E : Nat → Nm × Nm} (h : RD w v N E) (hb : Below w.heap.size w w') : RD w' v N E := by
  obtain ⟨o, cap, e, hf, hc⟩ := h
  refine ⟨o, cap, e, hf, fun hN => ?_⟩
  obtain ⟨g, off, e2, hg, hk⟩ := hc hN
  refine ⟨g, off, e2, Nat.lt_of_lt_of_le hg hb.size, fun k hlt => ?_⟩
  obtain ⟨b1, A1, L1, p1, b2, A2, L2, p2, c0, c1, c2, c3, c4, c5, c6, c7, i1, i2⟩ := hk k hlt
  have cw : ∀ i, w'.cell? ⟨g, i, none⟩ = w.cell? ⟨g, i, none⟩ := fun i => hb.cell (p := ⟨g, i, none⟩) hg
  exact ⟨b1, A1, L1, p1, b2, A2, L2, p2, (cw _).trans c0, (cw _).trans c1, (cw _).trans c2, (cw _).trans c3, (cw _).trans c4, (cw _).trans c5, (cw _).trans c6, (cw _).trans c7, i1.below hb, i2.below hb⟩
theorem keep16 {W W' : World} {g1 g2 o1 o2 k : Nat} {b1 b2 b3 b4 : Bool} {A1 L1 A2 L2 A3 L3 A4 L4 : Int} {p1 p2 p3 p4 : Option Addr} (hb : Below W.heap.size W W') (H : W.cell? ⟨g1, o1 + k * 8, none⟩ = some (.bool b1) ∧ W.cell? ⟨g1, o1 + k * 8 + 1, none⟩ = some (.int .u64 A1) ∧ W.cell? ⟨g1, o1 + k * 8 + 2, none⟩ = some (.int .u64 L1) ∧ W.cell? ⟨g1, o1 + k * 8 + 3, none⟩ = some (.pointer p1) ∧ W.cell? ⟨g1, o1 + k * 8 + 4, none⟩ = some (.bool b2) ∧ W.cell? ⟨g1, o1 + k * 8 + 5, none⟩ = some (.int .u64 A2) ∧ W.cell? ⟨g1, o1 + k * 8 + 6, none⟩ = some (.int .u64 L2) ∧ W.cell? ⟨g1, o1 + k * 8 + 7, none⟩ = some (.pointer p2) ∧ W.cell? ⟨g2, o2 + k * 8, none⟩ = some (.bool b3) ∧ W.cell? ⟨g2, o2 + k * 8 + 1, none⟩ = some (.int .u64 A3) ∧ W.cell? ⟨g2, o2 + k * 8 + 2, none⟩ = some (.int .u64 L3) ∧ W.cell? ⟨g2, o2 + k * 8 + 3, none⟩ = some (.pointer p3) ∧ W.cell? ⟨g2, o2 + k * 8 + 4, none⟩ = some (.bool b4) ∧ W.cell? ⟨g2, o2 + k * 8 + 5, none⟩ = some (.int .u64 A4) ∧ W.cell? ⟨g2, o2 + k * 8 + 6, none⟩ = some (.int .u64 L4) ∧ W.cell? ⟨g2, o2 + k * 8 + 7, none⟩ = some (.pointer p4)) : W'.cell? ⟨g1, o1 + k * 8, none⟩ = some (.bool b1) ∧ W'.cell? ⟨g1, o1 + k * 8 + 1, none⟩ = some (.int .u64 A1) ∧ W'.cell? ⟨g1, o1 + k * 8 + 2, none⟩ = some (.int .u64 L1) ∧ W'.cell? ⟨g1, o1 + k * 8 + 3, none⟩ = some (.pointer p1) ∧ W'.cell? ⟨g1, o1 + k * 8 + 4, none⟩ = some (.bool b2) ∧ W'.cell? ⟨g1, o1 + k * 8 + 5, none⟩ = some (.int .u64 A2) ∧ W'.cell? ⟨g1, o1 + k * 8 + 6, none⟩ = some (.int .u64 L2) ∧ W'.cell? ⟨g1, o1 + k * 8 + 7, none⟩ = some (.pointer p2) ∧ W'.cell? ⟨g2, o2 + k * 8, none⟩ = some (.bool b3) ∧ W'.cell? ⟨g2, o2 + k * 8 + 1, none⟩ = some (.int .u64 A3) ∧ W'.cell? ⟨g2, o2 + k * 8 + 2, none⟩ = some (.int .u64 L3) ∧ W'.cell? ⟨g2, o2 + k * 8 + 3, none⟩ = some (.pointer p3) ∧ W'.cell? ⟨g2, o2 + k * 8 + 4, none⟩ = some (.bool b4) ∧ W'.cell? ⟨g2, o2 + k * 8 + 5, none⟩ = some (.int .u64 A4) ∧ W'.cell? ⟨g2, o2 + k * 8 + 6, none⟩ = some (.int .u64 L4) ∧ W'.cell? ⟨g2, o2 + k * 8 + 7, none⟩ = some (.pointer p4) := by
  have kc : ∀ {p : Addr} {v : Value}, W.cell? p = some v → W'.cell? p = some v := fun {p v} h => by rw [hb.cell (World.block_lt_of_cell? W p h)]; exact h
  exact ⟨kc H.1, kc H.2.1, kc H.2.2.1, kc H.2.2.2.1, kc H.2.2.2.2.1, kc H.2.2.2.2.2.1, kc H.2.2.2.2.2.2.1, kc H.2.2.2.2.2.2.2.1, kc H.2.2.2.2.2.2.2.2.1, kc H.2.2.2.2.2.2.2.2.2.1, kc H.2.2.2.2.2.2.2.2.2.2.1, kc H.2.2.2.2.2.2.2.2.2.2.2.1, kc H.2.2.2.2.2.2.2.2.2.2.2.2.1, kc H.2.2.2.2.2.2.2.2.2.2.2.2.2.1, kc H.2.2.2.2.2.2.2.2.2.2.2.2.2.2.1, kc H.2.2.2.2.2.2.2.2.2.2.2.2.2.2.2⟩
theorem new16 {W : World} {g1 g2 o1 o2 k : Nat} {b1 b2 b3 b4 : Bool} {A1 L1 A2 L2 A3 L3 A4 L4 : Int} {p1 p2 p3 p4 : Option Addr} (o : Obj) (H : W.cell? ⟨g1, o1 + k * 8, none⟩ = some (.bool b1) ∧ W.cell? ⟨g1, o1 + k * 8 + 1, none⟩ = some (.int .u64 A1) ∧ W.cell? ⟨g1, o1 + k * 8 + 2, none⟩ = some (.int .u64 L1) ∧ W.cell? ⟨g1, o1 + k * 8 + 3, none⟩ = some (.pointer p1) ∧ W.cell? ⟨g1, o1 + k * 8 + 4, none⟩ = some (.bool b2) ∧ W.cell? ⟨g1, o1 + k * 8 + 5, none⟩ = some (.int .u64 A2) ∧ W.cell? ⟨g1, o1 + k * 8 + 6, none⟩ = some (.int .u64 L2) ∧ W.cell? ⟨g1, o1 + k * 8 + 7, none⟩ = some (.pointer p2) ∧ W.cell? ⟨g2, o2 + k * 8, none⟩ = some (.bool b3) ∧ W.cell? ⟨g2, o2 + k * 8 + 1, none⟩ = some (.int .u64 A3) ∧ W.cell? ⟨g2, o2 + k * 8 + 2, none⟩ = some (.int .u64 L3) ∧ W.cell? ⟨g2, o2 + k * 8 + 3, none⟩ = some (.pointer p3) ∧ W.cell? ⟨g2, o2 + k * 8 + 4, none⟩ = some (.bool b4) ∧ W.cell? ⟨g2, o2 + k * 8 + 5, none⟩ = some (.int .u64 A4) ∧ W.cell? ⟨g2, o2 + k * 8 + 6, none⟩ = some (.int .u64 L4) ∧ W.cell? ⟨g2, o2 + k * 8 + 7, none⟩ = some (.pointer p4)) : (W.alloc o).cell? ⟨g1, o1 + k * 8, none⟩ = some (.bool b1) ∧ (W.alloc o).cell? ⟨g1, o1 + k * 8 + 1, none⟩ = some (.int .u64 A1) ∧ (W.alloc o).cell? ⟨g1, o1 + k * 8 + 2, none⟩ = some (.int .u64 L1) ∧ (W.alloc o).cell? ⟨g1, o1 + k * 8 + 3, none⟩ = some (.pointer p1) ∧ (W.alloc o).cell? ⟨g1, o1 + k * 8 + 4, none⟩ = some (.bool b2) ∧ (W.alloc o).cell? ⟨g1, o1 + k * 8 + 5, none⟩ = some (.int .u64 A2) ∧ (W.alloc o).cell? ⟨g1, o1 + k * 8 + 6, none⟩ = some (.int .u64 L2) ∧ (W.alloc o).cell? ⟨g1, o1 + k * 8 + 7, none⟩ = some (.pointer p2) ∧ (W.alloc o).cell? ⟨g2, o2 + k * 8, none⟩ = some (.bool b3) ∧ (W.alloc o).cell? ⟨g2, o2 + k * 8 + 1, none⟩ = some (.int .u64 A3) ∧ (W.alloc o).cell? ⟨g2, o2 + k * 8 + 2, none⟩ = some (.int .u64 L3) ∧ (W.alloc o).cell? ⟨g2, o2 + k * 8 + 3, none⟩ = some (.pointer p3) ∧ (W.alloc o).cell? ⟨g2, o2 + k * 8 + 4, none⟩ = some (.bool b4) ∧ (W.alloc o).cell? ⟨g2, o2 + k * 8 + 5, none⟩ = some (.int .u64 A4) ∧ (W.alloc o).cell? ⟨g2, o2 + k * 8 + 6, none⟩ = some (.int .u64 L4) ∧ (W.alloc o).cell? ⟨g2, o2 + k * 8 + 7, none⟩ = some (.pointer p4) := keep16 ((Below.refl _ _).alloc (Nat.le_refl _) o) H
theorem set16 {W : World} {g1 g2 o1 o2 k g : Nat} {b1 b2 b3 b4 : Bool} {A1 L1 A2 L2 A3 L3 A4 L4 : Int} {p1 p2 p3 p4 : Option Addr} (hn : g1 ≠ g ∧ g2 ≠ g) (a0 a1 a2 a3 : Value) (H : W.cell? ⟨g1, o1 + k * 8, none⟩ = some (.bool b1) ∧ W.cell? ⟨g1, o1 + k * 8 + 1, none⟩ = some (.int .u64 A1) ∧ W.cell? ⟨g1, o1 + k * 8 + 2, none⟩ = some (.int .u64 L1) ∧ W.cell? ⟨g1, o1 + k * 8 + 3, none⟩ = some (.pointer p1) ∧ W.cell? ⟨g1, o1 + k * 8 + 4, none⟩ = some (.bool b2) ∧ W.cell? ⟨g1, o1 + k * 8 + 5, none⟩ = some (.int .u64 A2) ∧ W.cell? ⟨g1, o1 + k * 8 + 6, none⟩ = some (.int .u64 L2) ∧ W.cell? ⟨g1, o1 + k * 8 + 7, none⟩ = some (.pointer p2) ∧ W.cell? ⟨g2, o2 + k * 8, none⟩ = some (.bool b3) ∧ W.cell? ⟨g2, o2 + k * 8 + 1, none⟩ = some (.int .u64 A3) ∧ W.cell? ⟨g2, o2 + k * 8 + 2, none⟩ = some (.int .u64 L3) ∧ W.cell? ⟨g2, o2 + k * 8 + 3, none⟩ = some (.pointer p3) ∧ W.cell? ⟨g2, o2 + k * 8 + 4, none⟩ = some (.bool b4) ∧ W.cell? ⟨g2, o2 + k * 8 + 5, none⟩ = some (.int .u64 A4) ∧ W.cell? ⟨g2, o2 + k * 8 + 6, none⟩ = some (.int .u64 L4) ∧ W.cell? ⟨g2, o2 + k * 8 + 7, none⟩ = some (.pointer p4)) : ((((W.setCell ⟨g, 0, none⟩ a0).setCell ⟨g, 1, none⟩ a1).setCell ⟨g, 2, none⟩ a2).setCell ⟨g, 3, none⟩ a3).cell? ⟨g1, o1 + k * 8, none⟩ = some (.bool b1) ∧ ((((W.setCell ⟨g, 0, none⟩ a0).setCell ⟨g, 1, none⟩ a1).setCell ⟨g, 2, none⟩ a2).setCell ⟨g, 3, none⟩ a3).cell? ⟨g1, o1 + k * 8 + 1, none⟩ = some (.int .u64 A1) ∧ ((((W.setCell ⟨g, 0, none⟩ a0).setCell ⟨g, 1, none⟩ a1).setCell ⟨g, 2, none⟩ a2).setCell ⟨g, 3, none⟩ a3).cell? ⟨g1, o1 + k * 8 + 2, none⟩ = some (.int .u64 L1) ∧ ((((W.setCell ⟨g, 0, none⟩ a0).setCell ⟨g, 1, none⟩ a1).setCell ⟨g, 2, none⟩ a2).setCell ⟨g, 3, none⟩ a3).cell? ⟨g1, o1 + k * 8 + 3, none⟩ = some (.pointer p1) ∧ ((((W.setCell ⟨g, 0, none⟩ a0).setCell ⟨g, 1, none⟩ a1).setCell ⟨g, 2, none⟩ a2).setCell ⟨g, 3, none⟩ a3).cell? ⟨g1, o1 + k * 8 + 4, none⟩ = some (.bool b2) ∧ ((((W.setCell ⟨g, 0, none⟩ a0).setCell ⟨g, 1, none⟩ a1).setCell ⟨g, 2, none⟩ a2).setCell ⟨g, 3, none⟩ a3).cell? ⟨g1, o1 + k * 8 + 5, none⟩ = some (.int .u64 A2) ∧ ((((W.setCell ⟨g, 0, none⟩ a0).setCell ⟨g, 1, none⟩ a1).setCell ⟨g, 2, none⟩ a2).setCell ⟨g, 3, none⟩ a3).cell? ⟨g1, o1 + k * 8 + 6, none⟩ = some (.int .u64 L2) ∧ ((((W.setCell ⟨g, 0, none⟩ a0).setCell ⟨g, 1, none⟩ a1).setCell ⟨g, 2, none⟩ a2).setCell ⟨g, 3, none⟩ a3).cell? ⟨g1, o1 + k * 8 + 7, none⟩ = some (.pointer p2) ∧ ((((W.setCell ⟨g, 0, none⟩ a0).setCell ⟨g, 1, none⟩ a1).setCell ⟨g, 2, none⟩ a2).setCell ⟨g, 3, none⟩ a3).cell? ⟨g2, o2 + k * 8, none⟩ = some (.bool b3) ∧ ((((W.setCell ⟨g, 0, none⟩ a0).setCell ⟨g, 1, none⟩ a1).setCell ⟨g, 2, none⟩ a2).setCell ⟨g, 3, none⟩ a3).cell? ⟨g2, o2 + k * 8 + 1, none⟩ = some (.int .u64 A3) ∧ ((((W.setCell ⟨g, 0, none⟩ a0).setCell ⟨g, 1, none⟩ a1).setCell ⟨g, 2, none⟩ a2).setCell ⟨g, 3, none⟩ a3).cell? ⟨g2, o2 + k * 8 + 2, none⟩ = some (.int .u64 L3) ∧ ((((W.setCell ⟨g, 0, none⟩ a0).setCell ⟨g, 1, none⟩ a1).setCell ⟨g, 2, none⟩ a2).setCell ⟨g, 3, none⟩ a3).cell? ⟨g2, o2 + k * 8 + 3, none⟩ = some (.pointer p3) ∧ ((((W.setCell ⟨g, 0, none⟩ a0).setCell ⟨g, 1, none⟩ a1).setCell ⟨g, 2, none⟩ a2).setCell ⟨g, 3, none⟩ a3).cell? ⟨g2, o2 + k * 8 + 4, none⟩ = some (.bool b4) ∧ ((((W.setCell ⟨g, 0, none⟩ a0).setCell ⟨g, 1, none⟩ a1).setCell ⟨g, 2, none⟩ a2).setCell ⟨g, 3, none⟩ a3).cell? ⟨g2, o2 + k * 8 + 5, none⟩ = some (.int .u64 A4) ∧ ((((W.setCell ⟨g, 0, none⟩ a0).setCell ⟨g, 1, none⟩ a1).setCell ⟨g, 2, none⟩ a2).setCell ⟨g, 3, none⟩ a3).cell? ⟨g2, o2 + k * 8 + 6, none⟩ = some (.int .u64 L4) ∧ ((((W.setCell ⟨g, 0, none⟩ a0).setCell ⟨g, 1, none⟩ a1).setCell ⟨g, 2, none⟩ a2).setCell ⟨g, 3, none⟩ a3).cell? ⟨g2, o2 + k * 8 + 7, none⟩ = some (.pointer p4) := by
  have c1 : ∀ i, ((((W.setCell ⟨g, 0, none⟩ a0).setCell ⟨g, 1, none⟩ a1).setCell ⟨g, 2, none⟩ a2).setCell ⟨g, 3, none⟩ a3).cell? ⟨g1, i, none⟩ = W.cell? ⟨g1, i, none⟩ := fun i => sto4_cell W g a0 a1 a2 a3 g1 i hn.1
  have c2 : ∀ i, ((((W.setCell ⟨g, 0, none⟩ a0).setCell ⟨g, 1, none⟩ a1).setCell ⟨g, 2, none⟩ a2).setCell ⟨g, 3, none⟩ a3).cell? ⟨g2, i, none⟩ = W.cell? ⟨g2, i, none⟩ := fun i => sto4_cell W g a0 a1 a2 a3 g2 i hn.2
  exact ⟨(c1 _).trans H.1, (c1 _).trans H.2.1, (c1 _).trans H.2.2.1, (c1 _).trans H.2.2.2.1, (c1 _).trans H.2.2.2.2.1, (c1 _).trans H.2.2.2.2.2.1, (c1 _).trans H.2.2.2.2.2.2.1, (c1 _).trans H.2.2.2.2.2.2.2.1, (c2 _).trans H.2.2.2.2.2.2.2.2.1, (c2 _).trans H.2.2.2.2.2.2.2.2.2.1, (c2 _).trans H.2.2.2.2.2.2.2.2.2.2.1, (c2 _).trans H.2.2.2.2.2.2.2.2.2.2.2.1, (c2 _).trans H.2.2.2.2.2.2.2.2.2.2.2.2.1, (c2 _).trans H.2.2.2.2.2.2.2.2.2.2.2.2.2.1, (c2 _).trans H.2.2.2.2.2.2.2.2.2.2.2.2.2.2.1, (c2 _).trans H.2.2.2.2.2.2.2.2.2.2.2.2.2.2.2⟩
/-- Where two pairs meet: the number, if there is one, in the block g. -/
structure Yl (w : World) (g : Nat) (ok : Bool) (q : Nm) (b8 : Bool) (A8 L8 : Int) (p8 : Option Addr) : Prop where
  box : w.heap[g]? = some (.cells #[.bool b8, .int .u64 A8, .int .u64 L8, .pointer p8] 28)
  is : ok = true → IsR w (.agg #[.bool b8, .int .u64 A8, .int .u64 L8, .pointer p8]) q
theorem Yl.new {w : World} {ok : Bool} {q : Nm} {b8 : Bool} {A8 L8 : Int} {p8 : Option Addr} (h : ok = true → IsR w (.agg #[.bool b8, .int .u64 A8, .int .u64 L8, .pointer p8]) q) : Yl (w.alloc (.cells #[.bool b8, .int .u64 A8, .int .u64 L8, .pointer p8] 28)) w.heap.size ok q b8 A8 L8 p8 :=
  ⟨heap_alloc_new _ _, fun e => (h e).below ((Below.refl _ _).alloc (Nat.le_refl _) _)⟩
theorem Yl.set {w : World} {g : Nat} {ok : Bool} {q : Nm} {b8 : Bool} {A8 L8 : Int} {p8 : Option Addr} (h : ok = true → IsR w (.agg #[.bool b8, .int .u64 A8, .int .u64 L8, .pointer p8]) q) (hk : w.heap[g]? = some (.cells #[.bool false, .int .u64 0, .int .u64 0, .pointer none] 28)) : Yl ((((w.setCell ⟨g, 0, none⟩ (.bool b8)).setCell ⟨g, 1, none⟩ (.int .u64 A8)).setCell ⟨g, 2, none⟩ (.int .u64 L8)).setCell ⟨g, 3, none⟩ (.pointer p8)) g ok q b8 A8 L8 p8 :=
  ⟨sto4_box hk (.bool b8) (.int .u64 A8) (.int .u64 L8) (.pointer p8), fun e => (h e).offP (plain4 hk) (sto4_off w g (.bool b8) (.int .u64 A8) (.int .u64 L8) (.pointer p8)).1 (sto4_off w g (.bool b8) (.int .u64 A8) (.int .u64 L8) (.pointer p8)).2⟩
theorem dmeet_any (v1 v3 : Value) (p q : Nm × Nm) (w : World) (hd1 : IsD w v1 p.1 p.2) (hd3 : IsD w v3 q.1 q.2) (hp : Fits p.1 256 ∧ Fits p.2 256) (hq : Fits q.1 256 ∧ Fits q.2 256) :
    Calls Try.prog 61 #[v1, v3] w fun e w' => ∃ b8 A8 L8 p8, e = .returned (.tuple #[.agg #[.bool b8, .int .u64 A8, .int .u64 L8, .pointer p8], .bool (decide (0 < sgnM (upM p q)))]) ∧ (decide (0 < sgnM (upM p q)) = true → IsR w' (.agg #[.bool b8, .int .u64 A8, .int .u64 L8, .pointer p8]) (quoM p q)) ∧ Below w.heap.size w w' := by
  by_cases h : 0 < sgnM (upM p q)
  · rw [decide_eq_true h]
    refine (dmeet_yes v1 v3 _ _ _ _ 256 (by omega) w hd1 hd3 hp.1 hp.2 hq.1 hq.2 h).mono ?_
    rintro e w' ⟨v, rfl, R, hb⟩
    obtain ⟨b, A, L, x, rfl⟩ := R.shape4
    exact ⟨b, A, L, x, rfl, fun _ => R, hb⟩
  · rw [decide_eq_false h]
    refine (dmeet_no v1 v3 _ _ _ _ 256 (by omega) w hd1 hd3 hp.1 hp.2 hq.1 hq.2 (by unfold upM at h; omega)).mono ?_
    rintro e w' ⟨rfl, hb⟩
    exact ⟨_, _, _, _, rfl, (fun e => by cases e), hb⟩
set_option maxRecDepth 20000 in
set_option maxHeartbeats 4000000 in
theorem choose_any (v1 v2 : Value) (N : Nat) (E F : Nat → Nm × Nm) (w : World) (h1 : RD w v1 N E) (h2 : RD w v2 N F) (hN : N ≤ 100) :
    Calls Try.prog 35 #[v1, v2] w fun e w' => ∃ v, e = .returned (.tuple #[v, .int .i64 (if (cho E F N).isSome then 0 else 4)]) ∧ IsR w' v ((cho E F N).getD (intM 0)) ∧ Below w.heap.size w w' := by
  obtain ⟨o1, c1, rfl, fE, hE⟩ := h1
  obtain ⟨o2, c2, rfl, fF, hF⟩ := h2
  have HE : Hid ((∀ k, k < N → Fits (E k).1 256 ∧ Fits (E k).2 256) ∧ (∀ k, k < N → Fits (F k).1 256 ∧ Fits (F k).2 256)) := ⟨fE, fF⟩
  obtain ⟨er, eer⟩ : ∃ x : Int, (if (cho E F N).isSome then 0 else 4) = x := ⟨_, rfl⟩
  obtain ⟨rr, err⟩ : ∃ x : Nm, (cho E F N).getD (intM 0) = x := ⟨_, rfl⟩
  rw [eer, err]
  have ER : Hid ((if (cho E F N).isSome then (0 : Int) else 4) = er ∧ (cho E F N).getD (intM 0) = rr) := ⟨eer, err⟩
  have HC : Hid ((0 < N → _) ∧ (0 < N → _)) := ⟨hE, hF⟩
  clear fE fF hE hF eer err
  obtain ⟨W0, eW0, hb0, hk0⟩ := one_new w (.cells #[.bool false, .int .u64 0, .int .u64 0, .pointer none] 28)
  have HK0 : Hid (W0.heap[w.heap.size]? = some (.cells #[.bool false, .int .u64 0, .int .u64 0, .pointer none] 28)) := hk0
  have EW : Hid (_ = W0) := eW0
  have cI := a_int 1 W0 (by decide) (by decide)
  clear eW0 hk0
  go_enter Try.func35, Try.ntmps35
  go_upto_region 1 with fail
  rw [EW.out]
  clear EW
  go_upto_region 4 with (go_at_call 41; refine cI.mono ?_; rintro e w1 ⟨v1, rfl, R1, hb1⟩; obtain ⟨mb, MA, ML, mp, rfl⟩ := R1.shape4)
  obtain ⟨W1, eW1, B1, k6⟩ := one_new w1 (.cells #[.bool mb, .int .u64 MA, .int .u64 ML, .pointer mp] 28)
  rw [eW1]
  have BB := bt hb1 B1
  have hg6 : w.heap.size < w1.heap.size := Nat.lt_of_lt_of_le (in_heap HK0.out) hb1.size
  have HS : Hid (cho E F 0 = some (intM 1) ∧ Fits (intM 1) 1026) := ⟨rfl, (fits_int 1 (by decide) (by decide)).more (by omega)⟩
  have HR : Hid (W1.heap[w1.heap.size]? = some (.cells #[.bool mb, .int .u64 MA, .int .u64 ML, .pointer mp] 28) ∧ IsR W1 (.agg #[.bool mb, .int .u64 MA, .int .u64 ML, .pointer mp]) (intM 1)) := ⟨k6, R1.below B1⟩
  have HZ : Hid (W1.heap[w.heap.size]? = some (.cells #[.bool false, .int .u64 0, .int .u64 0, .pointer none] 28)) := box_kept HK0.out BB (in_heap HK0.out)
  have HB : Hid (Below w.heap.size w W1) := bt hb0 BB
  obtain ⟨g6, eg6⟩ : ∃ g, w1.heap.size = g := ⟨_, rfl⟩
  rw [eg6] at HR hg6 ⊢
  clear eW1 B1 k6 BB hb0 hb1 HK0 R1 cI eg6
  go_wp2
  go_loopw [19] (fun iv wr => ∃ (k : Nat) (mb : Bool) (MA ML : Int) (mp : Option Addr) (m : Nm), k ≤ N ∧ iv = .int .i64 (k : Int) ∧ Hid (cho E F k = some m ∧ Fits m 1026) ∧ Hid (wr.heap[g6]? = some (.cells #[.bool mb, .int .u64 MA, .int .u64 ML, .pointer mp] 28) ∧ IsR wr (.agg #[.bool mb, .int .u64 MA, .int .u64 ML, .pointer mp]) m) ∧ Hid (wr.heap[w.heap.size]? = some (.cells #[.bool false, .int .u64 0, .int .u64 0, .pointer none] 28)) ∧ Hid (Below w.heap.size w wr)) (fun iv _ => N - (intOf iv).toNat)
  case atStart => exact ⟨0, mb, MA, ML, mp, intM 1, Nat.zero_le _, rfl, HS, HR, HZ, HB⟩
  case round =>
    clear HS HR HZ HB
    obtain ⟨k, mb, MA, ML, mp, m, hk, rfl, HS, HR, HZ, HB⟩ := hrel
    by_cases hlt : k < N
    · obtain ⟨g1, f1, rfl, hg1, hrow1⟩ := HC.out.1 (by omega)
      obtain ⟨g2, f2, rfl, hg2, hrow2⟩ := HC.out.2 (by omega)
      obtain ⟨b1, A1, L1, p1, b2, A2, L2, p2, a0, a1, a2, a3, a4, a5, a6, a7, i1, i2⟩ := hrow1 k hlt
      obtain ⟨b3, A3, L3, p3, b4, A4, L4, p4, e0, e1, e2, e3, e4, e5, e6, e7, i3, i4⟩ := hrow2 k hlt
      have cw1 : ∀ i, wr.cell? ⟨g1, i, none⟩ = w.cell? ⟨g1, i, none⟩ := fun i => HB.out.cell (p := ⟨g1, i, none⟩) hg1
      have cw2 : ∀ i, wr.cell? ⟨g2, i, none⟩ = w.cell? ⟨g2, i, none⟩ := fun i => HB.out.cell (p := ⟨g2, i, none⟩) hg2
      have s0 : wr.drew.cell? ⟨g1, f1 + k * 8, none⟩ = some (.bool b1) ∧ wr.drew.cell? ⟨g1, f1 + k * 8 + 1, none⟩ = some (.int .u64 A1) ∧ wr.drew.cell? ⟨g1, f1 + k * 8 + 2, none⟩ = some (.int .u64 L1) ∧ wr.drew.cell? ⟨g1, f1 + k * 8 + 3, none⟩ = some (.pointer p1) ∧ wr.drew.cell? ⟨g1, f1 + k * 8 + 4, none⟩ = some (.bool b2) ∧ wr.drew.cell? ⟨g1, f1 + k * 8 + 5, none⟩ = some (.int .u64 A2) ∧ wr.drew.cell? ⟨g1, f1 + k * 8 + 6, none⟩ = some (.int .u64 L2) ∧ wr.drew.cell? ⟨g1, f1 + k * 8 + 7, none⟩ = some (.pointer p2) ∧ wr.drew.cell? ⟨g2, f2 + k * 8, none⟩ = some (.bool b3) ∧ wr.drew.cell? ⟨g2, f2 + k * 8 + 1, none⟩ = some (.int .u64 A3) ∧ wr.drew.cell? ⟨g2, f2 + k * 8 + 2, none⟩ = some (.int .u64 L3) ∧ wr.drew.cell? ⟨g2, f2 + k * 8 + 3, none⟩ = some (.pointer p3) ∧ wr.drew.cell? ⟨g2, f2 + k * 8 + 4, none⟩ = some (.bool b4) ∧ wr.drew.cell? ⟨g2, f2 + k * 8 + 5, none⟩ = some (.int .u64 A4) ∧ wr.drew.cell? ⟨g2, f2 + k * 8 + 6, none⟩ = some (.int .u64 L4) ∧ wr.drew.cell? ⟨g2, f2 + k * 8 + 7, none⟩ = some (.pointer p4) := ⟨(cw1 _).trans a0, (cw1 _).trans a1, (cw1 _).trans a2, (cw1 _).trans a3, (cw1 _).trans a4, (cw1 _).trans a5, (cw1 _).trans a6, (cw1 _).trans a7, (cw2 _).trans e0, (cw2 _).trans e1, (cw2 _).trans e2, (cw2 _).trans e3, (cw2 _).trans e4, (cw2 _).trans e5, (cw2 _).trans e6, (cw2 _).trans e7⟩
      have Dr : Below wr.heap.size wr wr.drew := (Below.refl _ _).drew
      have P1 : Hid (IsD wr.drew (.agg #[.bool b1, .int .u64 A1, .int .u64 L1, .pointer p1, .bool b2, .int .u64 A2, .int .u64 L2, .pointer p2]) (E k).1 (E k).2) := ⟨_, _, _, _, _, _, _, _, rfl, (i1.below HB.out).below Dr, (i2.below HB.out).below Dr⟩
      have P2 : Hid (IsD wr.drew (.agg #[.bool b3, .int .u64 A3, .int .u64 L3, .pointer p3, .bool b4, .int .u64 A4, .int .u64 L4, .pointer p4]) (F k).1 (F k).2) := ⟨_, _, _, _, _, _, _, _, rfl, (i3.below HB.out).below Dr, (i4.below HB.out).below Dr⟩
      have fe := HE.out.1 k hlt
      have ff := HE.out.2 k hlt
      have cC := dcmp _ _ _ _ _ _ 256 (by omega) _ P1.out P2.out fe.1 fe.2 ff.1 ff.2
      have hstop := fun (h : 0 < cmpD (E k).1 (E k).2 (F k).1 (F k).2) => cho_none (cho_stop HS.out.1 h) N hlt
      have hgo := fun (h : ¬ 0 < cmpD (E k).1 (E k).2 (F k).1 (F k).2) => cho_some HS.out.1 h
      obtain ⟨CV, eCV⟩ : ∃ x, cmpD (E k).1 (E k).2 (F k).1 (F k).2 = x := ⟨_, rfl⟩
      rw [eCV] at cC hstop hgo
      have HST : Hid ((0 < CV → cho E F N = none) ∧ (CV ≤ 0 → cho E F (k + 1) = some (stepM m (E k) (F k)))) := ⟨hstop, fun h => hgo (by omega)⟩
      have q1 : (k : Int) < (N : Int) := by omega
      have HBd : Hid (Below w.heap.size w wr.drew) := HB.out.drew
      have HRd : Hid (wr.drew.heap[g6]? = some (.cells #[.bool mb, .int .u64 MA, .int .u64 ML, .pointer mp] 28) ∧ IsR wr.drew (.agg #[.bool mb, .int .u64 MA, .int .u64 ML, .pointer mp]) m) := ⟨World.drew_at HR.out.1, HR.out.2.below Dr⟩
      have HZd : Hid (wr.drew.heap[w.heap.size]? = some (.cells #[.bool false, .int .u64 0, .int .u64 0, .pointer none] 28)) := World.drew_at HZ.out
      clear a0 a1 a2 a3 a4 a5 a6 a7 e0 e1 e2 e3 e4 e5 e6 e7 i1 i2 i3 i4 cw1 cw2 hrow1 hrow2 hg1 hg2 eCV hstop hgo HR HZ HB Dr fe ff
      go_upto_region 7 with fail
      go_region_held3 (fun w' => w'.cell? ⟨g1, f1 + k * 8, none⟩ = some (.bool b1) ∧ w'.cell? ⟨g1, f1 + k * 8 + 1, none⟩ = some (.int .u64 A1) ∧ w'.cell? ⟨g1, f1 + k * 8 + 2, none⟩ = some (.int .u64 L1) ∧ w'.cell? ⟨g1, f1 + k * 8 + 3, none⟩ = some (.pointer p1) ∧ w'.cell? ⟨g1, f1 + k * 8 + 4, none⟩ = some (.bool b2) ∧ w'.cell? ⟨g1, f1 + k * 8 + 5, none⟩ = some (.int .u64 A2) ∧ w'.cell? ⟨g1, f1 + k * 8 + 6, none⟩ = some (.int .u64 L2) ∧ w'.cell? ⟨g1, f1 + k * 8 + 7, none⟩ = some (.pointer p2) ∧ w'.cell? ⟨g2, f2 + k * 8, none⟩ = some (.bool b3) ∧ w'.cell? ⟨g2, f2 + k * 8 + 1, none⟩ = some (.int .u64 A3) ∧ w'.cell? ⟨g2, f2 + k * 8 + 2, none⟩ = some (.int .u64 L3) ∧ w'.cell? ⟨g2, f2 + k * 8 + 3, none⟩ = some (.pointer p3) ∧ w'.cell? ⟨g2, f2 + k * 8 + 4, none⟩ = some (.bool b4) ∧ w'.cell? ⟨g2, f2 + k * 8 + 5, none⟩ = some (.int .u64 A4) ∧ w'.cell? ⟨g2, f2 + k * 8 + 6, none⟩ = some (.int .u64 L4) ∧ w'.cell? ⟨g2, f2 + k * 8 + 7, none⟩ = some (.pointer p4)) (first | with_reducible exact s0 | with_reducible exact s1) (first
        | (go_at_call 32; refine cC.mono ?_; rintro e w2 ⟨rfl, hb2⟩; have s1 := keep16 hb2 s0))
      have HBw : Hid (Below w.heap.size w w2) := bt HBd.out hb2
      have HRw : Hid (w2.heap[g6]? = some (.cells #[.bool mb, .int .u64 MA, .int .u64 ML, .pointer mp] 28) ∧ IsR w2 (.agg #[.bool mb, .int .u64 MA, .int .u64 ML, .pointer mp]) m) := ⟨box_kept HRd.out.1 hb2 (in_heap HRd.out.1), HRd.out.2.below hb2⟩
      have HZw : Hid (w2.heap[w.heap.size]? = some (.cells #[.bool false, .int .u64 0, .int .u64 0, .pointer none] 28)) := box_kept HZd.out hb2 (in_heap HZd.out)
      have P3 : Hid (IsD w2 (.agg #[.bool b1, .int .u64 A1, .int .u64 L1, .pointer p1, .bool b2, .int .u64 A2, .int .u64 L2, .pointer p2]) (E k).1 (E k).2) := P1.out.below hb2
      have P4 : Hid (IsD w2 (.agg #[.bool b3, .int .u64 A3, .int .u64 L3, .pointer p3, .bool b4, .int .u64 A4, .int .u64 L4, .pointer p4]) (F k).1 (F k).2) := P2.out.below hb2
      clear P1 P2 HBd HRd HZd s0 hb2 cC
      by_cases hc : 0 < CV
      · have hd : decide (0 < CV) = true := decide_eq_true hc
        have hnone := HST.out.1 hc
        have e1 : er = 4 := by rw [← ER.out.1, hnone]; rfl
        have e2 : rr = intM 0 := by rw [← ER.out.2, hnone]; rfl
        subst e1
        subst e2
        have dd := cell_at HZw.out
        have d0 : w2.cell? ⟨w.heap.size, 0, none⟩ = some (.bool false) := dd 0 _ rfl
        have d1 : w2.cell? ⟨w.heap.size, 1, none⟩ = some (.int .u64 0) := dd 1 _ rfl
        have d2 : w2.cell? ⟨w.heap.size, 2, none⟩ = some (.int .u64 0) := dd 2 _ rfl
        have d3 : w2.cell? ⟨w.heap.size, 3, none⟩ = some (.pointer none) := dd 3 _ rfl
        have ff := nofreeze HZw.out
        clear hnone dd s1 P3 P4 HST HS ER
        go_wp2
        have k2 := sto4_box HZw.out (.bool false) (.int .u64 0) (.int .u64 0) (.pointer none)
        have hB := sto4_below HBw.out (Nat.le_refl _) (.bool false) (.int .u64 0) (.int .u64 0) (.pointer none)
        clear d0 d1 d2 d3 ff HZw HBw HRw
        generalize World.setCell _ _ _ = W' at *
        have gg := cell_at k2
        have g0 : W'.cell? ⟨w.heap.size, 0, none⟩ = some (.bool false) := gg 0 _ rfl
        have g1 : W'.cell? ⟨w.heap.size, 1, none⟩ = some (.int .u64 0) := gg 1 _ rfl
        have g2 : W'.cell? ⟨w.heap.size, 2, none⟩ = some (.int .u64 0) := gg 2 _ rfl
        have g3 : W'.cell? ⟨w.heap.size, 3, none⟩ = some (.pointer none) := gg 3 _ rfl
        refine bodyPost_ret (v := .tuple #[.agg #[.bool false, .int .u64 0, .int .u64 0, .pointer none], .int .i64 4]) ?_ rfl ?_
        · simp [results, go_sem, g0, g1, g2, g3]
        · exact ⟨_, rfl, isR_zero _, hB⟩
      · have hd : decide (0 < CV) = false := decide_eq_false hc
        have hn1 : Hid (cho E F (k + 1) = some (stepM m (E k) (F k)) ∧ Fits (stepM m (E k) (F k)) 1026) := ⟨HST.out.2 (by omega), fits_step HS.out.2 (HE.out.1 k hlt) (HE.out.2 k hlt)⟩
        have cM := fun (W : World) (hb : Below w2.heap.size w2 W) => dmeet_any _ _ (E k) (F k) W (P3.out.below hb) (P4.out.below hb) (HE.out.1 k hlt) (HE.out.2 k hlt)
        obtain ⟨ok, eok⟩ : ∃ x, decide (0 < sgnM (upM (E k) (F k))) = x := ⟨_, rfl⟩
        obtain ⟨qq, eqq⟩ : ∃ x, quoM (E k) (F k) = x := ⟨_, rfl⟩
        rw [eok, eqq] at cM
        have HOK : Hid (decide (0 < sgnM (upM (E k) (F k))) = ok ∧ quoM (E k) (F k) = qq) := ⟨eok, eqq⟩
        clear hc HST P3 P4 eok eqq
        simp only [hd]
        clear hd
        go_upto_region 9 with fail
        have ng : Hid (g1 < w2.heap.size ∧ g2 < w2.heap.size) := ⟨World.block_lt_of_cell? w2 _ s1.1, World.block_lt_of_cell? w2 _ s1.2.2.2.2.2.2.2.2.1⟩
        have n8 : g1 ≠ w2.heap.size ∧ g2 ≠ w2.heap.size := ⟨Nat.ne_of_lt ng.out.1, Nat.ne_of_lt ng.out.2⟩
        have s1d : w2.drew.cell? ⟨g1, f1 + k * 8, none⟩ = some (.bool b1) ∧ w2.drew.cell? ⟨g1, f1 + k * 8 + 1, none⟩ = some (.int .u64 A1) ∧ w2.drew.cell? ⟨g1, f1 + k * 8 + 2, none⟩ = some (.int .u64 L1) ∧ w2.drew.cell? ⟨g1, f1 + k * 8 + 3, none⟩ = some (.pointer p1) ∧ w2.drew.cell? ⟨g1, f1 + k * 8 + 4, none⟩ = some (.bool b2) ∧ w2.drew.cell? ⟨g1, f1 + k * 8 + 5, none⟩ = some (.int .u64 A2) ∧ w2.drew.cell? ⟨g1, f1 + k * 8 + 6, none⟩ = some (.int .u64 L2) ∧ w2.drew.cell? ⟨g1, f1 + k * 8 + 7, none⟩ = some (.pointer p2) ∧ w2.drew.cell? ⟨g2, f2 + k * 8, none⟩ = some (.bool b3) ∧ w2.drew.cell? ⟨g2, f2 + k * 8 + 1, none⟩ = some (.int .u64 A3) ∧ w2.drew.cell? ⟨g2, f2 + k * 8 + 2, none⟩ = some (.int .u64 L3) ∧ w2.drew.cell? ⟨g2, f2 + k * 8 + 3, none⟩ = some (.pointer p3) ∧ w2.drew.cell? ⟨g2, f2 + k * 8 + 4, none⟩ = some (.bool b4) ∧ w2.drew.cell? ⟨g2, f2 + k * 8 + 5, none⟩ = some (.int .u64 A4) ∧ w2.drew.cell? ⟨g2, f2 + k * 8 + 6, none⟩ = some (.int .u64 L4) ∧ w2.drew.cell? ⟨g2, f2 + k * 8 + 7, none⟩ = some (.pointer p4) := s1
        have s1z : ((w2.alloc (.cells #[.bool false, .int .u64 0, .int .u64 0, .pointer none] 28)).drew).cell? ⟨g1, f1 + k * 8, none⟩ = some (.bool b1) ∧ ((w2.alloc (.cells #[.bool false, .int .u64 0, .int .u64 0, .pointer none] 28)).drew).cell? ⟨g1, f1 + k * 8 + 1, none⟩ = some (.int .u64 A1) ∧ ((w2.alloc (.cells #[.bool false, .int .u64 0, .int .u64 0, .pointer none] 28)).drew).cell? ⟨g1, f1 + k * 8 + 2, none⟩ = some (.int .u64 L1) ∧ ((w2.alloc (.cells #[.bool false, .int .u64 0, .int .u64 0, .pointer none] 28)).drew).cell? ⟨g1, f1 + k * 8 + 3, none⟩ = some (.pointer p1) ∧ ((w2.alloc (.cells #[.bool false, .int .u64 0, .int .u64 0, .pointer none] 28)).drew).cell? ⟨g1, f1 + k * 8 + 4, none⟩ = some (.bool b2) ∧ ((w2.alloc (.cells #[.bool false, .int .u64 0, .int .u64 0, .pointer none] 28)).drew).cell? ⟨g1, f1 + k * 8 + 5, none⟩ = some (.int .u64 A2) ∧ ((w2.alloc (.cells #[.bool false, .int .u64 0, .int .u64 0, .pointer none] 28)).drew).cell? ⟨g1, f1 + k * 8 + 6, none⟩ = some (.int .u64 L2) ∧ ((w2.alloc (.cells #[.bool false, .int .u64 0, .int .u64 0, .pointer none] 28)).drew).cell? ⟨g1, f1 + k * 8 + 7, none⟩ = some (.pointer p2) ∧ ((w2.alloc (.cells #[.bool false, .int .u64 0, .int .u64 0, .pointer none] 28)).drew).cell? ⟨g2, f2 + k * 8, none⟩ = some (.bool b3) ∧ ((w2.alloc (.cells #[.bool false, .int .u64 0, .int .u64 0, .pointer none] 28)).drew).cell? ⟨g2, f2 + k * 8 + 1, none⟩ = some (.int .u64 A3) ∧ ((w2.alloc (.cells #[.bool false, .int .u64 0, .int .u64 0, .pointer none] 28)).drew).cell? ⟨g2, f2 + k * 8 + 2, none⟩ = some (.int .u64 L3) ∧ ((w2.alloc (.cells #[.bool false, .int .u64 0, .int .u64 0, .pointer none] 28)).drew).cell? ⟨g2, f2 + k * 8 + 3, none⟩ = some (.pointer p3) ∧ ((w2.alloc (.cells #[.bool false, .int .u64 0, .int .u64 0, .pointer none] 28)).drew).cell? ⟨g2, f2 + k * 8 + 4, none⟩ = some (.bool b4) ∧ ((w2.alloc (.cells #[.bool false, .int .u64 0, .int .u64 0, .pointer none] 28)).drew).cell? ⟨g2, f2 + k * 8 + 5, none⟩ = some (.int .u64 A4) ∧ ((w2.alloc (.cells #[.bool false, .int .u64 0, .int .u64 0, .pointer none] 28)).drew).cell? ⟨g2, f2 + k * 8 + 6, none⟩ = some (.int .u64 L4) ∧ ((w2.alloc (.cells #[.bool false, .int .u64 0, .int .u64 0, .pointer none] 28)).drew).cell? ⟨g2, f2 + k * 8 + 7, none⟩ = some (.pointer p4) := new16 _ s1
        have s1y : (w2.drew.alloc (.cells #[.bool false, .int .u64 0, .int .u64 0, .pointer none] 28)).cell? ⟨g1, f1 + k * 8, none⟩ = some (.bool b1) ∧ (w2.drew.alloc (.cells #[.bool false, .int .u64 0, .int .u64 0, .pointer none] 28)).cell? ⟨g1, f1 + k * 8 + 1, none⟩ = some (.int .u64 A1) ∧ (w2.drew.alloc (.cells #[.bool false, .int .u64 0, .int .u64 0, .pointer none] 28)).cell? ⟨g1, f1 + k * 8 + 2, none⟩ = some (.int .u64 L1) ∧ (w2.drew.alloc (.cells #[.bool false, .int .u64 0, .int .u64 0, .pointer none] 28)).cell? ⟨g1, f1 + k * 8 + 3, none⟩ = some (.pointer p1) ∧ (w2.drew.alloc (.cells #[.bool false, .int .u64 0, .int .u64 0, .pointer none] 28)).cell? ⟨g1, f1 + k * 8 + 4, none⟩ = some (.bool b2) ∧ (w2.drew.alloc (.cells #[.bool false, .int .u64 0, .int .u64 0, .pointer none] 28)).cell? ⟨g1, f1 + k * 8 + 5, none⟩ = some (.int .u64 A2) ∧ (w2.drew.alloc (.cells #[.bool false, .int .u64 0, .int .u64 0, .pointer none] 28)).cell? ⟨g1, f1 + k * 8 + 6, none⟩ = some (.int .u64 L2) ∧ (w2.drew.alloc (.cells #[.bool false, .int .u64 0, .int .u64 0, .pointer none] 28)).cell? ⟨g1, f1 + k * 8 + 7, none⟩ = some (.pointer p2) ∧ (w2.drew.alloc (.cells #[.bool false, .int .u64 0, .int .u64 0, .pointer none] 28)).cell? ⟨g2, f2 + k * 8, none⟩ = some (.bool b3) ∧ (w2.drew.alloc (.cells #[.bool false, .int .u64 0, .int .u64 0, .pointer none] 28)).cell? ⟨g2, f2 + k * 8 + 1, none⟩ = some (.int .u64 A3) ∧ (w2.drew.alloc (.cells #[.bool false, .int .u64 0, .int .u64 0, .pointer none] 28)).cell? ⟨g2, f2 + k * 8 + 2, none⟩ = some (.int .u64 L3) ∧ (w2.drew.alloc (.cells #[.bool false, .int .u64 0, .int .u64 0, .pointer none] 28)).cell? ⟨g2, f2 + k * 8 + 3, none⟩ = some (.pointer p3) ∧ (w2.drew.alloc (.cells #[.bool false, .int .u64 0, .int .u64 0, .pointer none] 28)).cell? ⟨g2, f2 + k * 8 + 4, none⟩ = some (.bool b4) ∧ (w2.drew.alloc (.cells #[.bool false, .int .u64 0, .int .u64 0, .pointer none] 28)).cell? ⟨g2, f2 + k * 8 + 5, none⟩ = some (.int .u64 A4) ∧ (w2.drew.alloc (.cells #[.bool false, .int .u64 0, .int .u64 0, .pointer none] 28)).cell? ⟨g2, f2 + k * 8 + 6, none⟩ = some (.int .u64 L4) ∧ (w2.drew.alloc (.cells #[.bool false, .int .u64 0, .int .u64 0, .pointer none] 28)).cell? ⟨g2, f2 + k * 8 + 7, none⟩ = some (.pointer p4) := new16 _ s1
        have hwd : Below w2.heap.size w2 w2.drew := (Below.refl _ _).drew
        have hwz : Below w2.heap.size w2 ((w2.alloc (.cells #[.bool false, .int .u64 0, .int .u64 0, .pointer none] 28)).drew) := ((Below.refl _ _).alloc (Nat.le_refl _) _).drew
        have hwy : Below w2.heap.size w2 (w2.drew.alloc (.cells #[.bool false, .int .u64 0, .int .u64 0, .pointer none] 28)) := hwd.alloc (Nat.le_refl _) _
        have kz : ((w2.alloc (.cells #[.bool false, .int .u64 0, .int .u64 0, .pointer none] 28)).drew).heap[w2.heap.size]? = some (.cells #[.bool false, .int .u64 0, .int .u64 0, .pointer none] 28) := heap_alloc_new _ _
        have ky : (w2.drew.alloc (.cells #[.bool false, .int .u64 0, .int .u64 0, .pointer none] 28)).heap[w2.heap.size]? = some (.cells #[.bool false, .int .u64 0, .int .u64 0, .pointer none] 28) := heap_alloc_new w2.drew _
        have ltz := in_heap kz
        have lty := in_heap ky
        clear s1
        go_cut [8, 9] from 33 to 44 (fun v8 v9 wx => ∃ (g8 : Nat) (b8 : Bool) (A8 L8 : Int) (p8 : Option Addr), v8 = .pointer (some ⟨g8, 0, none⟩) ∧ v9 = .bool ok ∧ Hid (Yl wx g8 ok qq b8 A8 L8 p8) ∧ Hid (Below w2.heap.size w2 wx) ∧ Hid (w2.heap.size ≤ g8))
        case first =>
          clear HS HRw HZw HBw HE ER HOK hn1 HC
          go_region_held3 (fun w' => w'.cell? ⟨g1, f1 + k * 8, none⟩ = some (.bool b1) ∧ w'.cell? ⟨g1, f1 + k * 8 + 1, none⟩ = some (.int .u64 A1) ∧ w'.cell? ⟨g1, f1 + k * 8 + 2, none⟩ = some (.int .u64 L1) ∧ w'.cell? ⟨g1, f1 + k * 8 + 3, none⟩ = some (.pointer p1) ∧ w'.cell? ⟨g1, f1 + k * 8 + 4, none⟩ = some (.bool b2) ∧ w'.cell? ⟨g1, f1 + k * 8 + 5, none⟩ = some (.int .u64 A2) ∧ w'.cell? ⟨g1, f1 + k * 8 + 6, none⟩ = some (.int .u64 L2) ∧ w'.cell? ⟨g1, f1 + k * 8 + 7, none⟩ = some (.pointer p2) ∧ w'.cell? ⟨g2, f2 + k * 8, none⟩ = some (.bool b3) ∧ w'.cell? ⟨g2, f2 + k * 8 + 1, none⟩ = some (.int .u64 A3) ∧ w'.cell? ⟨g2, f2 + k * 8 + 2, none⟩ = some (.int .u64 L3) ∧ w'.cell? ⟨g2, f2 + k * 8 + 3, none⟩ = some (.pointer p3) ∧ w'.cell? ⟨g2, f2 + k * 8 + 4, none⟩ = some (.bool b4) ∧ w'.cell? ⟨g2, f2 + k * 8 + 5, none⟩ = some (.int .u64 A4) ∧ w'.cell? ⟨g2, f2 + k * 8 + 6, none⟩ = some (.int .u64 L4) ∧ w'.cell? ⟨g2, f2 + k * 8 + 7, none⟩ = some (.pointer p4)) (first | with_reducible exact s1d | with_reducible exact s1z | with_reducible exact s1y | with_reducible exact s2 | with_reducible exact new16 _ s2 | with_reducible exact set16 n8 _ _ _ _ s2) (first
            | (go_at_call 61; refine (cM _ ?_).mono ?_; (first | with_reducible exact hwd | with_reducible exact hwz | with_reducible exact hwy); rintro e w3 ⟨b8, A8, L8, p8, rfl, hY, hb3⟩; (first | with_reducible have H3 := bt hwd hb3 | with_reducible have H3 := bt hwz hb3 | with_reducible have H3 := bt hwy hb3); (first | with_reducible have s2 := keep16 hb3 s1d | with_reducible have s2 := keep16 hb3 s1z | with_reducible have s2 := keep16 hb3 s1y); (first | with_reducible have kr3 := box_kept kz hb3 ltz | with_reducible have kr3 := box_kept ky hb3 lty | skip); (first | (have dd := cell_at kr3; have d0 : w3.cell? ⟨w2.heap.size, 0, none⟩ = some (.bool false) := dd 0 _ rfl; have d1 : w3.cell? ⟨w2.heap.size, 1, none⟩ = some (.int .u64 0) := dd 1 _ rfl; have d2 : w3.cell? ⟨w2.heap.size, 2, none⟩ = some (.int .u64 0) := dd 2 _ rfl; have d3 : w3.cell? ⟨w2.heap.size, 3, none⟩ = some (.pointer none) := dd 3 _ rfl; have ff := nofreeze kr3; clear dd) | skip)))
          all_goals go_wp2
          all_goals go_meet
          all_goals first
            | exact ⟨_, b8, A8, L8, p8, rfl, rfl, Yl.new hY, H3.alloc H3.size _, H3.size⟩
            | exact ⟨_, b8, A8, L8, p8, rfl, rfl, Yl.set hY kr3, sto4_below H3 (Nat.le_refl _) _ _ _ _, Nat.le_refl _⟩
        case rest =>
          obtain ⟨g8, b8, A8, L8, p8, rfl, rfl, HY, HX, HG⟩ := hcut
          have HBc : Hid (Below w.heap.size w wc) := bt HBw.out HX.out
          have HRc : Hid (wc.heap[g6]? = some (.cells #[.bool mb, .int .u64 MA, .int .u64 ML, .pointer mp] 28) ∧ IsR wc (.agg #[.bool mb, .int .u64 MA, .int .u64 ML, .pointer mp]) m) := ⟨box_kept HRw.out.1 HX.out (in_heap HRw.out.1), HRw.out.2.below HX.out⟩
          have HZc : Hid (wc.heap[w.heap.size]? = some (.cells #[.bool false, .int .u64 0, .int .u64 0, .pointer none] 28)) := box_kept HZw.out HX.out (in_heap HZw.out)
          clear HBw HRw HZw HX cM s1d s1z s1y hwd hwz hwy kz ky ltz lty n8 ng
          by_cases hok : ok = true
          · subst hok
            have hsg : 0 < sgnM (upM (E k) (F k)) := of_decide_eq_true HOK.out.1
            have fq : Fits qq 1026 := by rw [← HOK.out.2]; exact fits_quo (HE.out.1 k hlt) (HE.out.2 k hlt) hsg
            have est : stepM m (E k) (F k) = minM m qq := by unfold stepM; rw [if_pos hsg, HOK.out.2]
            have cMin := a_min (k := 1026) (by omega) HRc.out.2 (HY.out.is rfl) HS.out.2 fq
            have Hn1 : Hid (cho E F (k + 1) = some (minM m qq) ∧ Fits (minM m qq) 1026) := by unfold Hid; rw [← est]; exact hn1.out
            have x0 := cell_at HRc.out.1
            have r0 : wc.cell? ⟨g6, 0, none⟩ = some (.bool mb) := x0 0 _ rfl
            have r1 : wc.cell? ⟨g6, 1, none⟩ = some (.int .u64 MA) := x0 1 _ rfl
            have r2 : wc.cell? ⟨g6, 2, none⟩ = some (.int .u64 ML) := x0 2 _ rfl
            have r3 : wc.cell? ⟨g6, 3, none⟩ = some (.pointer mp) := x0 3 _ rfl
            have x1 := cell_at HY.out.box
            have t0 : wc.cell? ⟨g8, 0, none⟩ = some (.bool b8) := x1 0 _ rfl
            have t1 : wc.cell? ⟨g8, 1, none⟩ = some (.int .u64 A8) := x1 1 _ rfl
            have t2 : wc.cell? ⟨g8, 2, none⟩ = some (.int .u64 L8) := x1 2 _ rfl
            have t3 : wc.cell? ⟨g8, 3, none⟩ = some (.pointer p8) := x1 3 _ rfl
            clear hsg fq est x0 x1 hn1 HOK HS
            generalize minM m qq = mm at *
            go_wp2_with (go_at_call 62; refine cMin.mono ?_; rintro e w4 ⟨v4, rfl, R4, hb4⟩; obtain ⟨nb1, NA, NL, np, rfl⟩ := R4.shape4; have kk := box_kept HRc.out.1 hb4 (in_heap HRc.out.1); have dd := cell_at kk; have d0 : w4.cell? ⟨g6, 0, none⟩ = some (.bool mb) := dd 0 _ rfl; have d1 : w4.cell? ⟨g6, 1, none⟩ = some (.int .u64 MA) := dd 1 _ rfl; have d2 : w4.cell? ⟨g6, 2, none⟩ = some (.int .u64 ML) := dd 2 _ rfl; have d3 : w4.cell? ⟨g6, 3, none⟩ = some (.pointer mp) := dd 3 _ rfl; have ff := nofreeze kk; have HK : Hid (w4.heap[g6]? = some (.cells #[.bool mb, .int .u64 MA, .int .u64 ML, .pointer mp] 28)) := kk; have R4h : Hid (IsR w4 (.agg #[.bool nb1, .int .u64 NA, .int .u64 NL, .pointer np]) mm) := R4; have HZ4 : Hid (w4.heap[w.heap.size]? = some (.cells #[.bool false, .int .u64 0, .int .u64 0, .pointer none] 28)) := box_kept HZc.out hb4 (in_heap HZc.out); have HB4 : Hid (Below w.heap.size w w4) := bt HBc.out hb4; clear kk dd R4)
            go_roundw
            case rel => exact ⟨k + 1, nb1, NA, NL, np, mm, hlt, by go_num, Hn1, ⟨sto4_box HK.out _ _ _ _, R4h.out.offP (plain4 HK.out) (sto4_off w4 g6 _ _ _ _).1 (sto4_off w4 g6 _ _ _ _).2⟩, ((sto4_off w4 g6 _ _ _ _).1 _ (Nat.ne_of_lt hg6)).trans HZ4.out, sto4_below HB4.out (Nat.le_of_lt hg6) _ _ _ _⟩
            case measure => simp only [intOf]; omega
          · have hok2 : ok = false := by simpa using hok
            subst hok2
            have hsg : ¬ 0 < sgnM (upM (E k) (F k)) := of_decide_eq_false HOK.out.1
            have est : stepM m (E k) (F k) = m := by unfold stepM; rw [if_neg hsg]
            have Hn1 : Hid (cho E F (k + 1) = some m ∧ Fits m 1026) := by unfold Hid; rw [← est]; exact hn1.out
            clear hsg est hn1 HOK HS hok HY
            go_wp2
            go_roundw
            case rel => exact ⟨k + 1, mb, MA, ML, mp, m, hlt, by go_num, Hn1, HRc, HZc, HBc⟩
            case measure => simp only [intOf]; omega
    · obtain rfl : k = N := by omega
      have e1 : er = 0 := by rw [← ER.out.1, HS.out.1]; rfl
      have e2 : rr = m := by rw [← ER.out.2, HS.out.1]; rfl
      subst e1
      subst e2
      have x0 := cell_at HR.out.1
      have r0 : wr.cell? ⟨g6, 0, none⟩ = some (.bool mb) := x0 0 _ rfl
      have r1 : wr.cell? ⟨g6, 1, none⟩ = some (.int .u64 MA) := x0 1 _ rfl
      have r2 : wr.cell? ⟨g6, 2, none⟩ = some (.int .u64 ML) := x0 2 _ rfl
      have r3 : wr.cell? ⟨g6, 3, none⟩ = some (.pointer mp) := x0 3 _ rfl
      have dd := cell_at HZ.out
      have d0 : wr.cell? ⟨w.heap.size, 0, none⟩ = some (.bool false) := dd 0 _ rfl
      have d1 : wr.cell? ⟨w.heap.size, 1, none⟩ = some (.int .u64 0) := dd 1 _ rfl
      have d2 : wr.cell? ⟨w.heap.size, 2, none⟩ = some (.int .u64 0) := dd 2 _ rfl
      have d3 : wr.cell? ⟨w.heap.size, 3, none⟩ = some (.pointer none) := dd 3 _ rfl
      have ff := nofreeze HZ.out
      clear x0 dd HS ER HC HE
      go_wp2
      have k2 := sto4_box HZ.out (.bool mb) (.int .u64 MA) (.int .u64 ML) (.pointer mp)
      have hB := sto4_below HB.out (Nat.le_refl _) (.bool mb) (.int .u64 MA) (.int .u64 ML) (.pointer mp)
      have hR := HR.out.2.offP (plain4 HZ.out) (sto4_off wr w.heap.size (.bool mb) (.int .u64 MA) (.int .u64 ML) (.pointer mp)).1 (sto4_off wr w.heap.size (.bool mb) (.int .u64 MA) (.int .u64 ML) (.pointer mp)).2
      clear d0 d1 d2 d3 ff HZ HB HR r0 r1 r2 r3
      generalize World.setCell _ _ _ = W' at *
      have gg := cell_at k2
      have z0 : W'.cell? ⟨w.heap.size, 0, none⟩ = some (.bool mb) := gg 0 _ rfl
      have z1 : W'.cell? ⟨w.heap.size, 1, none⟩ = some (.int .u64 MA) := gg 1 _ rfl
      have z2 : W'.cell? ⟨w.heap.size, 2, none⟩ = some (.int .u64 ML) := gg 2 _ rfl
      have z3 : W'.cell? ⟨w.heap.size, 3, none⟩ = some (.pointer mp) := gg 3 _ rfl
      refine bodyPost_ret (v := .tuple #[.agg #[.bool mb, .int .u64 MA, .int .u64 ML, .pointer mp], .int .i64 0]) ?_ rfl ?_
      · simp [results, go_sem, z0, z1, z2, z3]
      · exact ⟨_, rfl, hR, hB⟩
end Go.Proofs.Ytdliookkkgobbaa.DcL

/- Layer 7: the reference's Choose over two rows of pairs. -/
namespace Go.Proofs.Ytdliookkkgobbaa.RcL
open Go.RowKit Mem LimbNum Limb1 NatL GcdA RatL RatM RatN RatF RatO MulN MulW MulL RefR RefT RefU InvL DivL QNum CmpL CmqL RefX RefY RefZ FloL Mk5 AddN JoinL AddW AddV AddR FldL SubL NmL DelL DelM DelB DaL DmL DcL Law5 Aw5

theorem q_sign {v : Value} {p : Nm} {k : Nat} (hk : k ≤ 1000000) {w : World} (h : IsQ w v p) (hb : p.n = 0 → p.b = false) (f : Fits p k) :
    Calls Try.prog 63 #[v] w fun e w' => e = .returned (.int .i64 (sgnM p)) ∧ Below w.heap.size w w' := rsign_any v _ _ _ w h hb (Nat.le_trans f.2.1 hk)
theorem q_inv {v : Value} {p : Nm} {k : Nat} {w : World} (h : IsQ w v p) (f : Fits p k) :
    Calls Try.prog 64 #[v] w fun e w' => ∃ v', e = .returned v' ∧ IsQ w' v' (invM p) ∧ Below w.heap.size w w' := rinv_any v _ _ _ w h f.pos
theorem add_sg (p q : Nm) (h : (addM p q).n = 0) : (addM p q).b = false := by
  have h2 : addN p.b p.n p.d q.b q.n q.d = 0 := h
  show addB p.b p.n p.d q.b q.n q.d = false
  unfold addN at h2
  unfold addB
  rw [h2]
  simp
theorem min_swap (m x : Nm) : minM m x = if cmpM x m < 0 then x else m := by
  unfold minM
  rw [cmpM_swap m x]
  by_cases h : 0 < cmpM m x
  · rw [if_pos h, if_pos (by omega)]
  · rw [if_neg h, if_neg (by omega)]
theorem IsE.parts {w : World} {p q : Nm} {bq1 : Bool} {o1 r1 : Option Addr} {l1 c1 m1 z1 : Nat} {bq2 : Bool} {o2 r2 : Option Addr} {l2 c2 m2 z2 : Nat} (h : IsE w (.agg #[.bool bq1, .slice o1 l1 c1, .slice r1 m1 z1, .bool bq2, .slice o2 l2 c2, .slice r2 m2 z2]) p q) : IsQ w (.agg #[.bool bq1, .slice o1 l1 c1, .slice r1 m1 z1]) p ∧ IsQ w (.agg #[.bool bq2, .slice o2 l2 c2, .slice r2 m2 z2]) q := by
  obtain ⟨_, _, _, _, _, _, _, _, _, _, _, _, _, _, e, h1, h2⟩ := h
  simp only [Value.agg.injEq, Array.mk.injEq, List.cons.injEq, Value.bool.injEq, Value.slice.injEq, and_true] at e
  obtain ⟨rfl, ⟨rfl, rfl, rfl⟩, ⟨rfl, rfl, rfl⟩, rfl, ⟨rfl, rfl, rfl⟩, rfl, rfl, rfl⟩ := e
  exact ⟨h1, h2⟩
/-- The value v is a row of N pairs of the reference's, the k-th E k. -/
def RE (w : World) (v : Value) (N : Nat) (E : Nat → Nm × Nm) : Prop := ∃ (o : Option Addr) (cap : Nat), v = .slice o N cap ∧ (∀ k, k < N → Fits (E k).1 256 ∧ Fits (E k).2 256) ∧
  (0 < N → ∃ g off, o = some ⟨g, off, none⟩ ∧ g < w.heap.size ∧ ∀ k, k < N → ∃ (bq1 : Bool) (o1 : Option Addr) (l1 c1 : Nat) (r1 : Option Addr) (m1 z1 : Nat) (bq2 : Bool) (o2 : Option Addr) (l2 c2 : Nat) (r2 : Option Addr) (m2 z2 : Nat), w.cell? ⟨g, off + k * 6, none⟩ = some (.bool bq1) ∧ w.cell? ⟨g, off + k * 6 + 1, none⟩ = some (.slice o1 l1 c1) ∧ w.cell? ⟨g, off + k * 6 + 2, none⟩ = some (.slice r1 m1 z1) ∧ w.cell? ⟨g, off + k * 6 + 3, none⟩ = some (.bool bq2) ∧ w.cell? ⟨g, off + k * 6 + 4, none⟩ = some (.slice o2 l2 c2) ∧ w.cell? ⟨g, off + k * 6 + 5, none⟩ = some (.slice r2 m2 z2) ∧ IsQ w (.agg #[.bool bq1, .slice o1 l1 c1, .slice r1 m1 z1]) (E k).1 ∧ IsQ w (.agg #[.bool bq2, .slice o2 l2 c2, .slice r2 m2 z2]) (E k).2)
theorem RE.below {w w' : World} {v : Value} {N : Nat} {E : Nat → Nm × Nm} (h : RE w v N E) (hb : Below w.heap.size w w') : RE w' v N E := by
  obtain ⟨o, cap, e, hf, hc⟩ := h
  refine ⟨o, cap, e, hf, fun hN => ?_⟩
  obtain ⟨g, off, e2, hg, hk⟩ := hc hN
  refine ⟨g, off, e2, Nat.lt_of_lt_of_le hg hb.size, fun k hlt => ?_⟩
  obtain ⟨bq1, o1, l1, c1, r1, m1, z1, bq2, o2, l2, c2, r2, m2, z2, d0, d1, d2, d3, d4, d5, i1, i2⟩ := hk k hlt
  have cw : ∀ i, w'.cell? ⟨g, i, none⟩ = w.cell? ⟨g, i, none⟩ := fun i => hb.cell (p := ⟨g, i, none⟩) hg
  exact ⟨bq1, o1, l1, c1, r1, m1, z1, bq2, o2, l2, c2, r2, m2, z2, (cw _).trans d0, (cw _).trans d1, (cw _).trans d2, (cw _).trans d3, (cw _).trans d4, (cw _).trans d5, i1.below hb, i2.below hb⟩
theorem keep12 {W W' : World} {g1 g2 x1 x2 k : Nat} {bq1 : Bool} {o1 r1 : Option Addr} {l1 c1 m1 z1 : Nat} {bq2 : Bool} {o2 r2 : Option Addr} {l2 c2 m2 z2 : Nat} {bq3 : Bool} {o3 r3 : Option Addr} {l3 c3 m3 z3 : Nat} {bq4 : Bool} {o4 r4 : Option Addr} {l4 c4 m4 z4 : Nat} (hb : Below W.heap.size W W') (H : W.cell? ⟨g1, x1 + k * 6, none⟩ = some (.bool bq1) ∧ W.cell? ⟨g1, x1 + k * 6 + 1, none⟩ = some (.slice o1 l1 c1) ∧ W.cell? ⟨g1, x1 + k * 6 + 2, none⟩ = some (.slice r1 m1 z1) ∧ W.cell? ⟨g1, x1 + k * 6 + 3, none⟩ = some (.bool bq2) ∧ W.cell? ⟨g1, x1 + k * 6 + 4, none⟩ = some (.slice o2 l2 c2) ∧ W.cell? ⟨g1, x1 + k * 6 + 5, none⟩ = some (.slice r2 m2 z2) ∧ W.cell? ⟨g2, x2 + k * 6, none⟩ = some (.bool bq3) ∧ W.cell? ⟨g2, x2 + k * 6 + 1, none⟩ = some (.slice o3 l3 c3) ∧ W.cell? ⟨g2, x2 + k * 6 + 2, none⟩ = some (.slice r3 m3 z3) ∧ W.cell? ⟨g2, x2 + k * 6 + 3, none⟩ = some (.bool bq4) ∧ W.cell? ⟨g2, x2 + k * 6 + 4, none⟩ = some (.slice o4 l4 c4) ∧ W.cell? ⟨g2, x2 + k * 6 + 5, none⟩ = some (.slice r4 m4 z4)) : W'.cell? ⟨g1, x1 + k * 6, none⟩ = some (.bool bq1) ∧ W'.cell? ⟨g1, x1 + k * 6 + 1, none⟩ = some (.slice o1 l1 c1) ∧ W'.cell? ⟨g1, x1 + k * 6 + 2, none⟩ = some (.slice r1 m1 z1) ∧ W'.cell? ⟨g1, x1 + k * 6 + 3, none⟩ = some (.bool bq2) ∧ W'.cell? ⟨g1, x1 + k * 6 + 4, none⟩ = some (.slice o2 l2 c2) ∧ W'.cell? ⟨g1, x1 + k * 6 + 5, none⟩ = some (.slice r2 m2 z2) ∧ W'.cell? ⟨g2, x2 + k * 6, none⟩ = some (.bool bq3) ∧ W'.cell? ⟨g2, x2 + k * 6 + 1, none⟩ = some (.slice o3 l3 c3) ∧ W'.cell? ⟨g2, x2 + k * 6 + 2, none⟩ = some (.slice r3 m3 z3) ∧ W'.cell? ⟨g2, x2 + k * 6 + 3, none⟩ = some (.bool bq4) ∧ W'.cell? ⟨g2, x2 + k * 6 + 4, none⟩ = some (.slice o4 l4 c4) ∧ W'.cell? ⟨g2, x2 + k * 6 + 5, none⟩ = some (.slice r4 m4 z4) := by
  have kc : ∀ {p : Addr} {v : Value}, W.cell? p = some v → W'.cell? p = some v := fun {p v} h => by rw [hb.cell (World.block_lt_of_cell? W p h)]; exact h
  exact ⟨kc H.1, kc H.2.1, kc H.2.2.1, kc H.2.2.2.1, kc H.2.2.2.2.1, kc H.2.2.2.2.2.1, kc H.2.2.2.2.2.2.1, kc H.2.2.2.2.2.2.2.1, kc H.2.2.2.2.2.2.2.2.1, kc H.2.2.2.2.2.2.2.2.2.1, kc H.2.2.2.2.2.2.2.2.2.2.1, kc H.2.2.2.2.2.2.2.2.2.2.2⟩
theorem new12 {W : World} {g1 g2 x1 x2 k : Nat} {bq1 : Bool} {o1 r1 : Option Addr} {l1 c1 m1 z1 : Nat} {bq2 : Bool} {o2 r2 : Option Addr} {l2 c2 m2 z2 : Nat} {bq3 : Bool} {o3 r3 : Option Addr} {l3 c3 m3 z3 : Nat} {bq4 : Bool} {o4 r4 : Option Addr} {l4 c4 m4 z4 : Nat} (o : Obj) (H : W.cell? ⟨g1, x1 + k * 6, none⟩ = some (.bool bq1) ∧ W.cell? ⟨g1, x1 + k * 6 + 1, none⟩ = some (.slice o1 l1 c1) ∧ W.cell? ⟨g1, x1 + k * 6 + 2, none⟩ = some (.slice r1 m1 z1) ∧ W.cell? ⟨g1, x1 + k * 6 + 3, none⟩ = some (.bool bq2) ∧ W.cell? ⟨g1, x1 + k * 6 + 4, none⟩ = some (.slice o2 l2 c2) ∧ W.cell? ⟨g1, x1 + k * 6 + 5, none⟩ = some (.slice r2 m2 z2) ∧ W.cell? ⟨g2, x2 + k * 6, none⟩ = some (.bool bq3) ∧ W.cell? ⟨g2, x2 + k * 6 + 1, none⟩ = some (.slice o3 l3 c3) ∧ W.cell? ⟨g2, x2 + k * 6 + 2, none⟩ = some (.slice r3 m3 z3) ∧ W.cell? ⟨g2, x2 + k * 6 + 3, none⟩ = some (.bool bq4) ∧ W.cell? ⟨g2, x2 + k * 6 + 4, none⟩ = some (.slice o4 l4 c4) ∧ W.cell? ⟨g2, x2 + k * 6 + 5, none⟩ = some (.slice r4 m4 z4)) : (W.alloc o).cell? ⟨g1, x1 + k * 6, none⟩ = some (.bool bq1) ∧ (W.alloc o).cell? ⟨g1, x1 + k * 6 + 1, none⟩ = some (.slice o1 l1 c1) ∧ (W.alloc o).cell? ⟨g1, x1 + k * 6 + 2, none⟩ = some (.slice r1 m1 z1) ∧ (W.alloc o).cell? ⟨g1, x1 + k * 6 + 3, none⟩ = some (.bool bq2) ∧ (W.alloc o).cell? ⟨g1, x1 + k * 6 + 4, none⟩ = some (.slice o2 l2 c2) ∧ (W.alloc o).cell? ⟨g1, x1 + k * 6 + 5, none⟩ = some (.slice r2 m2 z2) ∧ (W.alloc o).cell? ⟨g2, x2 + k * 6, none⟩ = some (.bool bq3) ∧ (W.alloc o).cell? ⟨g2, x2 + k * 6 + 1, none⟩ = some (.slice o3 l3 c3) ∧ (W.alloc o).cell? ⟨g2, x2 + k * 6 + 2, none⟩ = some (.slice r3 m3 z3) ∧ (W.alloc o).cell? ⟨g2, x2 + k * 6 + 3, none⟩ = some (.bool bq4) ∧ (W.alloc o).cell? ⟨g2, x2 + k * 6 + 4, none⟩ = some (.slice o4 l4 c4) ∧ (W.alloc o).cell? ⟨g2, x2 + k * 6 + 5, none⟩ = some (.slice r4 m4 z4) := keep12 ((Below.refl _ _).alloc (Nat.le_refl _) o) H
theorem set12 {W : World} {g1 g2 x1 x2 k g : Nat} {bq1 : Bool} {o1 r1 : Option Addr} {l1 c1 m1 z1 : Nat} {bq2 : Bool} {o2 r2 : Option Addr} {l2 c2 m2 z2 : Nat} {bq3 : Bool} {o3 r3 : Option Addr} {l3 c3 m3 z3 : Nat} {bq4 : Bool} {o4 r4 : Option Addr} {l4 c4 m4 z4 : Nat} (hn : g1 ≠ g ∧ g2 ≠ g) (a0 a1 a2 : Value) (H : W.cell? ⟨g1, x1 + k * 6, none⟩ = some (.bool bq1) ∧ W.cell? ⟨g1, x1 + k * 6 + 1, none⟩ = some (.slice o1 l1 c1) ∧ W.cell? ⟨g1, x1 + k * 6 + 2, none⟩ = some (.slice r1 m1 z1) ∧ W.cell? ⟨g1, x1 + k * 6 + 3, none⟩ = some (.bool bq2) ∧ W.cell? ⟨g1, x1 + k * 6 + 4, none⟩ = some (.slice o2 l2 c2) ∧ W.cell? ⟨g1, x1 + k * 6 + 5, none⟩ = some (.slice r2 m2 z2) ∧ W.cell? ⟨g2, x2 + k * 6, none⟩ = some (.bool bq3) ∧ W.cell? ⟨g2, x2 + k * 6 + 1, none⟩ = some (.slice o3 l3 c3) ∧ W.cell? ⟨g2, x2 + k * 6 + 2, none⟩ = some (.slice r3 m3 z3) ∧ W.cell? ⟨g2, x2 + k * 6 + 3, none⟩ = some (.bool bq4) ∧ W.cell? ⟨g2, x2 + k * 6 + 4, none⟩ = some (.slice o4 l4 c4) ∧ W.cell? ⟨g2, x2 + k * 6 + 5, none⟩ = some (.slice r4 m4 z4)) : (((W.setCell ⟨g, 0, none⟩ a0).setCell ⟨g, 1, none⟩ a1).setCell ⟨g, 2, none⟩ a2).cell? ⟨g1, x1 + k * 6, none⟩ = some (.bool bq1) ∧ (((W.setCell ⟨g, 0, none⟩ a0).setCell ⟨g, 1, none⟩ a1).setCell ⟨g, 2, none⟩ a2).cell? ⟨g1, x1 + k * 6 + 1, none⟩ = some (.slice o1 l1 c1) ∧ (((W.setCell ⟨g, 0, none⟩ a0).setCell ⟨g, 1, none⟩ a1).setCell ⟨g, 2, none⟩ a2).cell? ⟨g1, x1 + k * 6 + 2, none⟩ = some (.slice r1 m1 z1) ∧ (((W.setCell ⟨g, 0, none⟩ a0).setCell ⟨g, 1, none⟩ a1).setCell ⟨g, 2, none⟩ a2).cell? ⟨g1, x1 + k * 6 + 3, none⟩ = some (.bool bq2) ∧ (((W.setCell ⟨g, 0, none⟩ a0).setCell ⟨g, 1, none⟩ a1).setCell ⟨g, 2, none⟩ a2).cell? ⟨g1, x1 + k * 6 + 4, none⟩ = some (.slice o2 l2 c2) ∧ (((W.setCell ⟨g, 0, none⟩ a0).setCell ⟨g, 1, none⟩ a1).setCell ⟨g, 2, none⟩ a2).cell? ⟨g1, x1 + k * 6 + 5, none⟩ = some (.slice r2 m2 z2) ∧ (((W.setCell ⟨g, 0, none⟩ a0).setCell ⟨g, 1, none⟩ a1).setCell ⟨g, 2, none⟩ a2).cell? ⟨g2, x2 + k * 6, none⟩ = some (.bool bq3) ∧ (((W.setCell ⟨g, 0, none⟩ a0).setCell ⟨g, 1, none⟩ a1).setCell ⟨g, 2, none⟩ a2).cell? ⟨g2, x2 + k * 6 + 1, none⟩ = some (.slice o3 l3 c3) ∧ (((W.setCell ⟨g, 0, none⟩ a0).setCell ⟨g, 1, none⟩ a1).setCell ⟨g, 2, none⟩ a2).cell? ⟨g2, x2 + k * 6 + 2, none⟩ = some (.slice r3 m3 z3) ∧ (((W.setCell ⟨g, 0, none⟩ a0).setCell ⟨g, 1, none⟩ a1).setCell ⟨g, 2, none⟩ a2).cell? ⟨g2, x2 + k * 6 + 3, none⟩ = some (.bool bq4) ∧ (((W.setCell ⟨g, 0, none⟩ a0).setCell ⟨g, 1, none⟩ a1).setCell ⟨g, 2, none⟩ a2).cell? ⟨g2, x2 + k * 6 + 4, none⟩ = some (.slice o4 l4 c4) ∧ (((W.setCell ⟨g, 0, none⟩ a0).setCell ⟨g, 1, none⟩ a1).setCell ⟨g, 2, none⟩ a2).cell? ⟨g2, x2 + k * 6 + 5, none⟩ = some (.slice r4 m4 z4) := by
  have e1 : ∀ i, (((W.setCell ⟨g, 0, none⟩ a0).setCell ⟨g, 1, none⟩ a1).setCell ⟨g, 2, none⟩ a2).cell? ⟨g1, i, none⟩ = W.cell? ⟨g1, i, none⟩ := fun i => sto3_cell W g a0 a1 a2 g1 i hn.1
  have e2 : ∀ i, (((W.setCell ⟨g, 0, none⟩ a0).setCell ⟨g, 1, none⟩ a1).setCell ⟨g, 2, none⟩ a2).cell? ⟨g2, i, none⟩ = W.cell? ⟨g2, i, none⟩ := fun i => sto3_cell W g a0 a1 a2 g2 i hn.2
  exact ⟨(e1 _).trans H.1, (e1 _).trans H.2.1, (e1 _).trans H.2.2.1, (e1 _).trans H.2.2.2.1, (e1 _).trans H.2.2.2.2.1, (e1 _).trans H.2.2.2.2.2.1, (e2 _).trans H.2.2.2.2.2.2.1, (e2 _).trans H.2.2.2.2.2.2.2.1, (e2 _).trans H.2.2.2.2.2.2.2.2.1, (e2 _).trans H.2.2.2.2.2.2.2.2.2.1, (e2 _).trans H.2.2.2.2.2.2.2.2.2.2.1, (e2 _).trans H.2.2.2.2.2.2.2.2.2.2.2⟩
/-- A number of the reference's in the block g. -/
structure QY (w : World) (g : Nat) (q : Nm) (bq8 : Bool) (o8 : Option Addr) (l8 c8 : Nat) (r8 : Option Addr) (m8 z8 : Nat) : Prop where
  box : w.heap[g]? = some (.cells #[.bool bq8, .slice o8 l8 c8, .slice r8 m8 z8] 31)
  is : IsQ w (.agg #[.bool bq8, .slice o8 l8 c8, .slice r8 m8 z8]) q
theorem QY.new {w : World} {q : Nm} {bq8 : Bool} {o8 r8 : Option Addr} {l8 c8 m8 z8 : Nat} (h : IsQ w (.agg #[.bool bq8, .slice o8 l8 c8, .slice r8 m8 z8]) q) : QY (w.alloc (.cells #[.bool bq8, .slice o8 l8 c8, .slice r8 m8 z8] 31)) w.heap.size q bq8 o8 l8 c8 r8 m8 z8 :=
  ⟨heap_alloc_new _ _, h.below ((Below.refl _ _).alloc (Nat.le_refl _) _)⟩
theorem QY.set {w : World} {g : Nat} {q : Nm} {bq8 : Bool} {o8 r8 : Option Addr} {l8 c8 m8 z8 : Nat} {a b c : Value} (h : IsQ w (.agg #[.bool bq8, .slice o8 l8 c8, .slice r8 m8 z8]) q) (hk : w.heap[g]? = some (.cells #[a, b, c] 31)) : QY (((w.setCell ⟨g, 0, none⟩ (.bool bq8)).setCell ⟨g, 1, none⟩ (.slice o8 l8 c8)).setCell ⟨g, 2, none⟩ (.slice r8 m8 z8)) g q bq8 o8 l8 c8 r8 m8 z8 :=
  ⟨sto3_box hk _ _ _, h.offT hk (by decide) (sto3_off w g _ _ _).1⟩
theorem QY.below {w w' : World} {g : Nat} {q : Nm} {bq8 : Bool} {o8 r8 : Option Addr} {l8 c8 m8 z8 : Nat} (h : QY w g q bq8 o8 l8 c8 r8 m8 z8) (hb : Below w.heap.size w w') : QY w' g q bq8 o8 l8 c8 r8 m8 z8 := ⟨box_kept h.box hb (in_heap h.box), h.is.below hb⟩
theorem box3_new (w : World) : (w.alloc (.cells #[.bool false, .slice none 0 0, .slice none 0 0] 31)).heap[w.heap.size]? = some (.cells #[.bool false, .slice none 0 0, .slice none 0 0] 31) := heap_alloc_new _ _
end Go.Proofs.Ytdliookkkgobbaa.RcL

/- Layer 7: the reference's Choose: the walk. -/
namespace Go.Proofs.Ytdliookkkgobbaa.RdL
open Go.RowKit Mem LimbNum Limb1 NatL GcdA RatL RatM RatN RatF RatO MulN MulW MulL RefR RefT RefU InvL DivL QNum CmpL CmqL RefX RefY RefZ FloL Mk5 AddN JoinL AddW AddV AddR FldL SubL NmL DelL DelM DelB DaL DmL DcL Law5 Aw5 RcL

theorem keep15 {W W' : World} {g1 g2 g8 x1 x2 k : Nat} {bq1 : Bool} {o1 r1 : Option Addr} {l1 c1 m1 z1 : Nat} {bq2 : Bool} {o2 r2 : Option Addr} {l2 c2 m2 z2 : Nat} {bq3 : Bool} {o3 r3 : Option Addr} {l3 c3 m3 z3 : Nat} {bq4 : Bool} {o4 r4 : Option Addr} {l4 c4 m4 z4 : Nat} {bq8 : Bool} {o8 r8 : Option Addr} {l8 c8 m8 z8 : Nat} (hb : Below W.heap.size W W') (H : W.cell? ⟨g1, x1 + k * 6, none⟩ = some (.bool bq1) ∧ W.cell? ⟨g1, x1 + k * 6 + 1, none⟩ = some (.slice o1 l1 c1) ∧ W.cell? ⟨g1, x1 + k * 6 + 2, none⟩ = some (.slice r1 m1 z1) ∧ W.cell? ⟨g1, x1 + k * 6 + 3, none⟩ = some (.bool bq2) ∧ W.cell? ⟨g1, x1 + k * 6 + 4, none⟩ = some (.slice o2 l2 c2) ∧ W.cell? ⟨g1, x1 + k * 6 + 5, none⟩ = some (.slice r2 m2 z2) ∧ W.cell? ⟨g2, x2 + k * 6, none⟩ = some (.bool bq3) ∧ W.cell? ⟨g2, x2 + k * 6 + 1, none⟩ = some (.slice o3 l3 c3) ∧ W.cell? ⟨g2, x2 + k * 6 + 2, none⟩ = some (.slice r3 m3 z3) ∧ W.cell? ⟨g2, x2 + k * 6 + 3, none⟩ = some (.bool bq4) ∧ W.cell? ⟨g2, x2 + k * 6 + 4, none⟩ = some (.slice o4 l4 c4) ∧ W.cell? ⟨g2, x2 + k * 6 + 5, none⟩ = some (.slice r4 m4 z4) ∧ W.cell? ⟨g8, 0, none⟩ = some (.bool bq8) ∧ W.cell? ⟨g8, 1, none⟩ = some (.slice o8 l8 c8) ∧ W.cell? ⟨g8, 2, none⟩ = some (.slice r8 m8 z8)) : W'.cell? ⟨g1, x1 + k * 6, none⟩ = some (.bool bq1) ∧ W'.cell? ⟨g1, x1 + k * 6 + 1, none⟩ = some (.slice o1 l1 c1) ∧ W'.cell? ⟨g1, x1 + k * 6 + 2, none⟩ = some (.slice r1 m1 z1) ∧ W'.cell? ⟨g1, x1 + k * 6 + 3, none⟩ = some (.bool bq2) ∧ W'.cell? ⟨g1, x1 + k * 6 + 4, none⟩ = some (.slice o2 l2 c2) ∧ W'.cell? ⟨g1, x1 + k * 6 + 5, none⟩ = some (.slice r2 m2 z2) ∧ W'.cell? ⟨g2, x2 + k * 6, none⟩ = some (.bool bq3) ∧ W'.cell? ⟨g2, x2 + k * 6 + 1, none⟩ = some (.slice o3 l3 c3) ∧ W'.cell? ⟨g2, x2 + k * 6 + 2, none⟩ = some (.slice r3 m3 z3) ∧ W'.cell? ⟨g2, x2 + k * 6 + 3, none⟩ = some (.bool bq4) ∧ W'.cell? ⟨g2, x2 + k * 6 + 4, none⟩ = some (.slice o4 l4 c4) ∧ W'.cell? ⟨g2, x2 + k * 6 + 5, none⟩ = some (.slice r4 m4 z4) ∧ W'.cell? ⟨g8, 0, none⟩ = some (.bool bq8) ∧ W'.cell? ⟨g8, 1, none⟩ = some (.slice o8 l8 c8) ∧ W'.cell? ⟨g8, 2, none⟩ = some (.slice r8 m8 z8) := by
  have kc : ∀ {p : Addr} {v : Value}, W.cell? p = some v → W'.cell? p = some v := fun {p v} h => by rw [hb.cell (World.block_lt_of_cell? W p h)]; exact h
  exact ⟨kc H.1, kc H.2.1, kc H.2.2.1, kc H.2.2.2.1, kc H.2.2.2.2.1, kc H.2.2.2.2.2.1, kc H.2.2.2.2.2.2.1, kc H.2.2.2.2.2.2.2.1, kc H.2.2.2.2.2.2.2.2.1, kc H.2.2.2.2.2.2.2.2.2.1, kc H.2.2.2.2.2.2.2.2.2.2.1, kc H.2.2.2.2.2.2.2.2.2.2.2.1, kc H.2.2.2.2.2.2.2.2.2.2.2.2.1, kc H.2.2.2.2.2.2.2.2.2.2.2.2.2.1, kc H.2.2.2.2.2.2.2.2.2.2.2.2.2.2⟩
theorem new15 {W : World} {g1 g2 g8 x1 x2 k : Nat} {bq1 : Bool} {o1 r1 : Option Addr} {l1 c1 m1 z1 : Nat} {bq2 : Bool} {o2 r2 : Option Addr} {l2 c2 m2 z2 : Nat} {bq3 : Bool} {o3 r3 : Option Addr} {l3 c3 m3 z3 : Nat} {bq4 : Bool} {o4 r4 : Option Addr} {l4 c4 m4 z4 : Nat} {bq8 : Bool} {o8 r8 : Option Addr} {l8 c8 m8 z8 : Nat} (o : Obj) (H : W.cell? ⟨g1, x1 + k * 6, none⟩ = some (.bool bq1) ∧ W.cell? ⟨g1, x1 + k * 6 + 1, none⟩ = some (.slice o1 l1 c1) ∧ W.cell? ⟨g1, x1 + k * 6 + 2, none⟩ = some (.slice r1 m1 z1) ∧ W.cell? ⟨g1, x1 + k * 6 + 3, none⟩ = some (.bool bq2) ∧ W.cell? ⟨g1, x1 + k * 6 + 4, none⟩ = some (.slice o2 l2 c2) ∧ W.cell? ⟨g1, x1 + k * 6 + 5, none⟩ = some (.slice r2 m2 z2) ∧ W.cell? ⟨g2, x2 + k * 6, none⟩ = some (.bool bq3) ∧ W.cell? ⟨g2, x2 + k * 6 + 1, none⟩ = some (.slice o3 l3 c3) ∧ W.cell? ⟨g2, x2 + k * 6 + 2, none⟩ = some (.slice r3 m3 z3) ∧ W.cell? ⟨g2, x2 + k * 6 + 3, none⟩ = some (.bool bq4) ∧ W.cell? ⟨g2, x2 + k * 6 + 4, none⟩ = some (.slice o4 l4 c4) ∧ W.cell? ⟨g2, x2 + k * 6 + 5, none⟩ = some (.slice r4 m4 z4) ∧ W.cell? ⟨g8, 0, none⟩ = some (.bool bq8) ∧ W.cell? ⟨g8, 1, none⟩ = some (.slice o8 l8 c8) ∧ W.cell? ⟨g8, 2, none⟩ = some (.slice r8 m8 z8)) : (W.alloc o).cell? ⟨g1, x1 + k * 6, none⟩ = some (.bool bq1) ∧ (W.alloc o).cell? ⟨g1, x1 + k * 6 + 1, none⟩ = some (.slice o1 l1 c1) ∧ (W.alloc o).cell? ⟨g1, x1 + k * 6 + 2, none⟩ = some (.slice r1 m1 z1) ∧ (W.alloc o).cell? ⟨g1, x1 + k * 6 + 3, none⟩ = some (.bool bq2) ∧ (W.alloc o).cell? ⟨g1, x1 + k * 6 + 4, none⟩ = some (.slice o2 l2 c2) ∧ (W.alloc o).cell? ⟨g1, x1 + k * 6 + 5, none⟩ = some (.slice r2 m2 z2) ∧ (W.alloc o).cell? ⟨g2, x2 + k * 6, none⟩ = some (.bool bq3) ∧ (W.alloc o).cell? ⟨g2, x2 + k * 6 + 1, none⟩ = some (.slice o3 l3 c3) ∧ (W.alloc o).cell? ⟨g2, x2 + k * 6 + 2, none⟩ = some (.slice r3 m3 z3) ∧ (W.alloc o).cell? ⟨g2, x2 + k * 6 + 3, none⟩ = some (.bool bq4) ∧ (W.alloc o).cell? ⟨g2, x2 + k * 6 + 4, none⟩ = some (.slice o4 l4 c4) ∧ (W.alloc o).cell? ⟨g2, x2 + k * 6 + 5, none⟩ = some (.slice r4 m4 z4) ∧ (W.alloc o).cell? ⟨g8, 0, none⟩ = some (.bool bq8) ∧ (W.alloc o).cell? ⟨g8, 1, none⟩ = some (.slice o8 l8 c8) ∧ (W.alloc o).cell? ⟨g8, 2, none⟩ = some (.slice r8 m8 z8) := keep15 ((Below.refl _ _).alloc (Nat.le_refl _) o) H
theorem set15 {W : World} {g1 g2 g8 x1 x2 k g : Nat} {bq1 : Bool} {o1 r1 : Option Addr} {l1 c1 m1 z1 : Nat} {bq2 : Bool} {o2 r2 : Option Addr} {l2 c2 m2 z2 : Nat} {bq3 : Bool} {o3 r3 : Option Addr} {l3 c3 m3 z3 : Nat} {bq4 : Bool} {o4 r4 : Option Addr} {l4 c4 m4 z4 : Nat} {bq8 : Bool} {o8 r8 : Option Addr} {l8 c8 m8 z8 : Nat} (hn : g1 < g ∧ g2 < g ∧ g8 < g) (a0 a1 a2 : Value) (H : W.cell? ⟨g1, x1 + k * 6, none⟩ = some (.bool bq1) ∧ W.cell? ⟨g1, x1 + k * 6 + 1, none⟩ = some (.slice o1 l1 c1) ∧ W.cell? ⟨g1, x1 + k * 6 + 2, none⟩ = some (.slice r1 m1 z1) ∧ W.cell? ⟨g1, x1 + k * 6 + 3, none⟩ = some (.bool bq2) ∧ W.cell? ⟨g1, x1 + k * 6 + 4, none⟩ = some (.slice o2 l2 c2) ∧ W.cell? ⟨g1, x1 + k * 6 + 5, none⟩ = some (.slice r2 m2 z2) ∧ W.cell? ⟨g2, x2 + k * 6, none⟩ = some (.bool bq3) ∧ W.cell? ⟨g2, x2 + k * 6 + 1, none⟩ = some (.slice o3 l3 c3) ∧ W.cell? ⟨g2, x2 + k * 6 + 2, none⟩ = some (.slice r3 m3 z3) ∧ W.cell? ⟨g2, x2 + k * 6 + 3, none⟩ = some (.bool bq4) ∧ W.cell? ⟨g2, x2 + k * 6 + 4, none⟩ = some (.slice o4 l4 c4) ∧ W.cell? ⟨g2, x2 + k * 6 + 5, none⟩ = some (.slice r4 m4 z4) ∧ W.cell? ⟨g8, 0, none⟩ = some (.bool bq8) ∧ W.cell? ⟨g8, 1, none⟩ = some (.slice o8 l8 c8) ∧ W.cell? ⟨g8, 2, none⟩ = some (.slice r8 m8 z8)) : (((W.setCell ⟨g, 0, none⟩ a0).setCell ⟨g, 1, none⟩ a1).setCell ⟨g, 2, none⟩ a2).cell? ⟨g1, x1 + k * 6, none⟩ = some (.bool bq1) ∧ (((W.setCell ⟨g, 0, none⟩ a0).setCell ⟨g, 1, none⟩ a1).setCell ⟨g, 2, none⟩ a2).cell? ⟨g1, x1 + k * 6 + 1, none⟩ = some (.slice o1 l1 c1) ∧ (((W.setCell ⟨g, 0, none⟩ a0).setCell ⟨g, 1, none⟩ a1).setCell ⟨g, 2, none⟩ a2).cell? ⟨g1, x1 + k * 6 + 2, none⟩ = some (.slice r1 m1 z1) ∧ (((W.setCell ⟨g, 0, none⟩ a0).setCell ⟨g, 1, none⟩ a1).setCell ⟨g, 2, none⟩ a2).cell? ⟨g1, x1 + k * 6 + 3, none⟩ = some (.bool bq2) ∧ (((W.setCell ⟨g, 0, none⟩ a0).setCell ⟨g, 1, none⟩ a1).setCell ⟨g, 2, none⟩ a2).cell? ⟨g1, x1 + k * 6 + 4, none⟩ = some (.slice o2 l2 c2) ∧ (((W.setCell ⟨g, 0, none⟩ a0).setCell ⟨g, 1, none⟩ a1).setCell ⟨g, 2, none⟩ a2).cell? ⟨g1, x1 + k * 6 + 5, none⟩ = some (.slice r2 m2 z2) ∧ (((W.setCell ⟨g, 0, none⟩ a0).setCell ⟨g, 1, none⟩ a1).setCell ⟨g, 2, none⟩ a2).cell? ⟨g2, x2 + k * 6, none⟩ = some (.bool bq3) ∧ (((W.setCell ⟨g, 0, none⟩ a0).setCell ⟨g, 1, none⟩ a1).setCell ⟨g, 2, none⟩ a2).cell? ⟨g2, x2 + k * 6 + 1, none⟩ = some (.slice o3 l3 c3) ∧ (((W.setCell ⟨g, 0, none⟩ a0).setCell ⟨g, 1, none⟩ a1).setCell ⟨g, 2, none⟩ a2).cell? ⟨g2, x2 + k * 6 + 2, none⟩ = some (.slice r3 m3 z3) ∧ (((W.setCell ⟨g, 0, none⟩ a0).setCell ⟨g, 1, none⟩ a1).setCell ⟨g, 2, none⟩ a2).cell? ⟨g2, x2 + k * 6 + 3, none⟩ = some (.bool bq4) ∧ (((W.setCell ⟨g, 0, none⟩ a0).setCell ⟨g, 1, none⟩ a1).setCell ⟨g, 2, none⟩ a2).cell? ⟨g2, x2 + k * 6 + 4, none⟩ = some (.slice o4 l4 c4) ∧ (((W.setCell ⟨g, 0, none⟩ a0).setCell ⟨g, 1, none⟩ a1).setCell ⟨g, 2, none⟩ a2).cell? ⟨g2, x2 + k * 6 + 5, none⟩ = some (.slice r4 m4 z4) ∧ (((W.setCell ⟨g, 0, none⟩ a0).setCell ⟨g, 1, none⟩ a1).setCell ⟨g, 2, none⟩ a2).cell? ⟨g8, 0, none⟩ = some (.bool bq8) ∧ (((W.setCell ⟨g, 0, none⟩ a0).setCell ⟨g, 1, none⟩ a1).setCell ⟨g, 2, none⟩ a2).cell? ⟨g8, 1, none⟩ = some (.slice o8 l8 c8) ∧ (((W.setCell ⟨g, 0, none⟩ a0).setCell ⟨g, 1, none⟩ a1).setCell ⟨g, 2, none⟩ a2).cell? ⟨g8, 2, none⟩ = some (.slice r8 m8 z8) := by
  have e1 : ∀ i, (((W.setCell ⟨g, 0, none⟩ a0).setCell ⟨g, 1, none⟩ a1).setCell ⟨g, 2, none⟩ a2).cell? ⟨g1, i, none⟩ = W.cell? ⟨g1, i, none⟩ := fun i => sto3_cell W g a0 a1 a2 g1 i (Nat.ne_of_lt hn.1)
  have e2 : ∀ i, (((W.setCell ⟨g, 0, none⟩ a0).setCell ⟨g, 1, none⟩ a1).setCell ⟨g, 2, none⟩ a2).cell? ⟨g2, i, none⟩ = W.cell? ⟨g2, i, none⟩ := fun i => sto3_cell W g a0 a1 a2 g2 i (Nat.ne_of_lt hn.2.1)
  have e3 : ∀ i, (((W.setCell ⟨g, 0, none⟩ a0).setCell ⟨g, 1, none⟩ a1).setCell ⟨g, 2, none⟩ a2).cell? ⟨g8, i, none⟩ = W.cell? ⟨g8, i, none⟩ := fun i => sto3_cell W g a0 a1 a2 g8 i (Nat.ne_of_lt hn.2.2)
  exact ⟨(e1 _).trans H.1, (e1 _).trans H.2.1, (e1 _).trans H.2.2.1, (e1 _).trans H.2.2.2.1, (e1 _).trans H.2.2.2.2.1, (e1 _).trans H.2.2.2.2.2.1, (e2 _).trans H.2.2.2.2.2.2.1, (e2 _).trans H.2.2.2.2.2.2.2.1, (e2 _).trans H.2.2.2.2.2.2.2.2.1, (e2 _).trans H.2.2.2.2.2.2.2.2.2.1, (e2 _).trans H.2.2.2.2.2.2.2.2.2.2.1, (e2 _).trans H.2.2.2.2.2.2.2.2.2.2.2.1, (e3 _).trans H.2.2.2.2.2.2.2.2.2.2.2.2.1, (e3 _).trans H.2.2.2.2.2.2.2.2.2.2.2.2.2.1, (e3 _).trans H.2.2.2.2.2.2.2.2.2.2.2.2.2.2⟩
theorem set12l {W : World} {g1 g2 x1 x2 k g : Nat} {bq1 : Bool} {o1 r1 : Option Addr} {l1 c1 m1 z1 : Nat} {bq2 : Bool} {o2 r2 : Option Addr} {l2 c2 m2 z2 : Nat} {bq3 : Bool} {o3 r3 : Option Addr} {l3 c3 m3 z3 : Nat} {bq4 : Bool} {o4 r4 : Option Addr} {l4 c4 m4 z4 : Nat} (hn : g1 < g ∧ g2 < g) (a0 a1 a2 : Value) (H : W.cell? ⟨g1, x1 + k * 6, none⟩ = some (.bool bq1) ∧ W.cell? ⟨g1, x1 + k * 6 + 1, none⟩ = some (.slice o1 l1 c1) ∧ W.cell? ⟨g1, x1 + k * 6 + 2, none⟩ = some (.slice r1 m1 z1) ∧ W.cell? ⟨g1, x1 + k * 6 + 3, none⟩ = some (.bool bq2) ∧ W.cell? ⟨g1, x1 + k * 6 + 4, none⟩ = some (.slice o2 l2 c2) ∧ W.cell? ⟨g1, x1 + k * 6 + 5, none⟩ = some (.slice r2 m2 z2) ∧ W.cell? ⟨g2, x2 + k * 6, none⟩ = some (.bool bq3) ∧ W.cell? ⟨g2, x2 + k * 6 + 1, none⟩ = some (.slice o3 l3 c3) ∧ W.cell? ⟨g2, x2 + k * 6 + 2, none⟩ = some (.slice r3 m3 z3) ∧ W.cell? ⟨g2, x2 + k * 6 + 3, none⟩ = some (.bool bq4) ∧ W.cell? ⟨g2, x2 + k * 6 + 4, none⟩ = some (.slice o4 l4 c4) ∧ W.cell? ⟨g2, x2 + k * 6 + 5, none⟩ = some (.slice r4 m4 z4)) : (((W.setCell ⟨g, 0, none⟩ a0).setCell ⟨g, 1, none⟩ a1).setCell ⟨g, 2, none⟩ a2).cell? ⟨g1, x1 + k * 6, none⟩ = some (.bool bq1) ∧ (((W.setCell ⟨g, 0, none⟩ a0).setCell ⟨g, 1, none⟩ a1).setCell ⟨g, 2, none⟩ a2).cell? ⟨g1, x1 + k * 6 + 1, none⟩ = some (.slice o1 l1 c1) ∧ (((W.setCell ⟨g, 0, none⟩ a0).setCell ⟨g, 1, none⟩ a1).setCell ⟨g, 2, none⟩ a2).cell? ⟨g1, x1 + k * 6 + 2, none⟩ = some (.slice r1 m1 z1) ∧ (((W.setCell ⟨g, 0, none⟩ a0).setCell ⟨g, 1, none⟩ a1).setCell ⟨g, 2, none⟩ a2).cell? ⟨g1, x1 + k * 6 + 3, none⟩ = some (.bool bq2) ∧ (((W.setCell ⟨g, 0, none⟩ a0).setCell ⟨g, 1, none⟩ a1).setCell ⟨g, 2, none⟩ a2).cell? ⟨g1, x1 + k * 6 + 4, none⟩ = some (.slice o2 l2 c2) ∧ (((W.setCell ⟨g, 0, none⟩ a0).setCell ⟨g, 1, none⟩ a1).setCell ⟨g, 2, none⟩ a2).cell? ⟨g1, x1 + k * 6 + 5, none⟩ = some (.slice r2 m2 z2) ∧ (((W.setCell ⟨g, 0, none⟩ a0).setCell ⟨g, 1, none⟩ a1).setCell ⟨g, 2, none⟩ a2).cell? ⟨g2, x2 + k * 6, none⟩ = some (.bool bq3) ∧ (((W.setCell ⟨g, 0, none⟩ a0).setCell ⟨g, 1, none⟩ a1).setCell ⟨g, 2, none⟩ a2).cell? ⟨g2, x2 + k * 6 + 1, none⟩ = some (.slice o3 l3 c3) ∧ (((W.setCell ⟨g, 0, none⟩ a0).setCell ⟨g, 1, none⟩ a1).setCell ⟨g, 2, none⟩ a2).cell? ⟨g2, x2 + k * 6 + 2, none⟩ = some (.slice r3 m3 z3) ∧ (((W.setCell ⟨g, 0, none⟩ a0).setCell ⟨g, 1, none⟩ a1).setCell ⟨g, 2, none⟩ a2).cell? ⟨g2, x2 + k * 6 + 3, none⟩ = some (.bool bq4) ∧ (((W.setCell ⟨g, 0, none⟩ a0).setCell ⟨g, 1, none⟩ a1).setCell ⟨g, 2, none⟩ a2).cell? ⟨g2, x2 + k * 6 + 4, none⟩ = some (.slice o4 l4 c4) ∧ (((W.setCell ⟨g, 0, none⟩ a0).setCell ⟨g, 1, none⟩ a1).setCell ⟨g, 2, none⟩ a2).cell? ⟨g2, x2 + k * 6 + 5, none⟩ = some (.slice r4 m4 z4) := set12 ⟨Nat.ne_of_lt hn.1, Nat.ne_of_lt hn.2⟩ a0 a1 a2 H
theorem lt2 {g1 g2 : Nat} {w W : World} (hn : g1 < w.heap.size ∧ g2 < w.heap.size) (hb : Below w.heap.size w W) : g1 < W.heap.size ∧ g2 < W.heap.size := ⟨Nat.lt_of_lt_of_le hn.1 hb.size, Nat.lt_of_lt_of_le hn.2 hb.size⟩
theorem lt3 {g1 g2 g3 : Nat} {w W : World} (hn : g1 < w.heap.size ∧ g2 < w.heap.size ∧ g3 < w.heap.size) (hb : Below w.heap.size w W) : g1 < W.heap.size ∧ g2 < W.heap.size ∧ g3 < W.heap.size := ⟨Nat.lt_of_lt_of_le hn.1 hb.size, Nat.lt_of_lt_of_le hn.2.1 hb.size, Nat.lt_of_lt_of_le hn.2.2 hb.size⟩
theorem lt2r {g1 g2 : Nat} {w : World} (hn : g1 < w.heap.size ∧ g2 < w.heap.size) : g1 < w.heap.size ∧ g2 < w.heap.size := hn
set_option maxRecDepth 20000 in
set_option maxHeartbeats 4000000 in
theorem rchoose_any (v1 v2 : Value) (N : Nat) (E F : Nat → Nm × Nm) (w : World) (h1 : RE w v1 N E) (h2 : RE w v2 N F) (hN : N ≤ 100) :
    Calls Try.prog 36 #[v1, v2] w fun e w' => ∃ v, e = .returned (.tuple #[v, .bool (cho E F N).isSome]) ∧ IsQ w' v ((cho E F N).getD (intM 0)) ∧ Below w.heap.size w w' := by
  obtain ⟨p1, k1, rfl, fE, hE⟩ := h1
  obtain ⟨p2, k2, rfl, fF, hF⟩ := h2
  have HE : Hid ((∀ k, k < N → Fits (E k).1 256 ∧ Fits (E k).2 256) ∧ (∀ k, k < N → Fits (F k).1 256 ∧ Fits (F k).2 256)) := ⟨fE, fF⟩
  obtain ⟨er, eer⟩ : ∃ x : Bool, (cho E F N).isSome = x := ⟨_, rfl⟩
  obtain ⟨rr, err⟩ : ∃ x : Nm, (cho E F N).getD (intM 0) = x := ⟨_, rfl⟩
  rw [eer, err]
  have ER : Hid ((cho E F N).isSome = er ∧ (cho E F N).getD (intM 0) = rr) := ⟨eer, err⟩
  have HC : Hid ((0 < N → _) ∧ (0 < N → _)) := ⟨hE, hF⟩
  clear fE fF hE hF eer err
  obtain ⟨W0, eW0, hb0, hk0⟩ := one_new w (.cells #[.bool false, .slice none 0 0, .slice none 0 0] 31)
  have HK0 : Hid (W0.heap[w.heap.size]? = some (.cells #[.bool false, .slice none 0 0, .slice none 0 0] 31)) := hk0
  have EW : Hid (_ = W0) := eW0
  have cI := q_int 1 W0 (by decide) (by decide)
  clear eW0 hk0
  go_enter Try.func36, Try.ntmps36
  go_upto_region 1 with fail
  rw [EW.out]
  clear EW
  go_upto_region 4 with (go_at_call 28; refine cI.mono ?_; rintro e w1 ⟨v1, rfl, R1, hb1⟩; obtain ⟨mb, mo, ml, mc, mr, mm, mz, rfl⟩ := R1.shape3)
  obtain ⟨W1, eW1, B1, k6⟩ := one_new w1 (.cells #[.bool mb, .slice mo ml mc, .slice mr mm mz] 31)
  rw [eW1]
  have BB := bt hb1 B1
  have hg6 : w.heap.size < w1.heap.size := Nat.lt_of_lt_of_le (in_heap HK0.out) hb1.size
  have HS : Hid (cho E F 0 = some (intM 1) ∧ Fits (intM 1) 1026) := ⟨rfl, (fits_int 1 (by decide) (by decide)).more (by omega)⟩
  have HR : Hid (W1.heap[w1.heap.size]? = some (.cells #[.bool mb, .slice mo ml mc, .slice mr mm mz] 31) ∧ IsQ W1 (.agg #[.bool mb, .slice mo ml mc, .slice mr mm mz]) (intM 1)) := ⟨k6, R1.below B1⟩
  have HZ : Hid (W1.heap[w.heap.size]? = some (.cells #[.bool false, .slice none 0 0, .slice none 0 0] 31)) := box_kept HK0.out BB (in_heap HK0.out)
  have HB : Hid (Below w.heap.size w W1) := bt hb0 BB
  obtain ⟨g6, eg6⟩ : ∃ g, w1.heap.size = g := ⟨_, rfl⟩
  rw [eg6] at HR hg6 ⊢
  clear eW1 B1 k6 BB hb0 hb1 HK0 R1 cI eg6
  go_wp2
  go_loopw [19] (fun iv wr => ∃ (k : Nat) (mb : Bool) (mo : Option Addr) (ml mc : Nat) (mr : Option Addr) (mm mz : Nat) (m : Nm), k ≤ N ∧ iv = .int .i64 (k : Int) ∧ Hid (cho E F k = some m ∧ Fits m 1026) ∧ Hid (wr.heap[g6]? = some (.cells #[.bool mb, .slice mo ml mc, .slice mr mm mz] 31) ∧ IsQ wr (.agg #[.bool mb, .slice mo ml mc, .slice mr mm mz]) m) ∧ Hid (wr.heap[w.heap.size]? = some (.cells #[.bool false, .slice none 0 0, .slice none 0 0] 31)) ∧ Hid (Below w.heap.size w wr)) (fun iv _ => N - (intOf iv).toNat)
  case atStart => exact ⟨0, mb, mo, ml, mc, mr, mm, mz, intM 1, Nat.zero_le _, rfl, HS, HR, HZ, HB⟩
  case round =>
    clear HS HR HZ HB
    obtain ⟨k, mb, mo, ml, mc, mr, mm, mz, m, hk, rfl, HS, HR, HZ, HB⟩ := hrel
    by_cases hlt : k < N
    · obtain ⟨g1, f1, rfl, hg1, hrow1⟩ := HC.out.1 (by omega)
      obtain ⟨g2, f2, rfl, hg2, hrow2⟩ := HC.out.2 (by omega)
      obtain ⟨bq1, o1, l1, c1, r1, m1, z1, bq2, o2, l2, c2, r2, m2, z2, a0, a1, a2, a3, a4, a5, i1, i2⟩ := hrow1 k hlt
      obtain ⟨bq3, o3, l3, c3, r3, m3, z3, bq4, o4, l4, c4, r4, m4, z4, e0, e1, e2, e3, e4, e5, i3, i4⟩ := hrow2 k hlt
      have cw1 : ∀ i, wr.cell? ⟨g1, i, none⟩ = w.cell? ⟨g1, i, none⟩ := fun i => HB.out.cell (p := ⟨g1, i, none⟩) hg1
      have cw2 : ∀ i, wr.cell? ⟨g2, i, none⟩ = w.cell? ⟨g2, i, none⟩ := fun i => HB.out.cell (p := ⟨g2, i, none⟩) hg2
      have s0 : wr.drew.cell? ⟨g1, f1 + k * 6, none⟩ = some (.bool bq1) ∧ wr.drew.cell? ⟨g1, f1 + k * 6 + 1, none⟩ = some (.slice o1 l1 c1) ∧ wr.drew.cell? ⟨g1, f1 + k * 6 + 2, none⟩ = some (.slice r1 m1 z1) ∧ wr.drew.cell? ⟨g1, f1 + k * 6 + 3, none⟩ = some (.bool bq2) ∧ wr.drew.cell? ⟨g1, f1 + k * 6 + 4, none⟩ = some (.slice o2 l2 c2) ∧ wr.drew.cell? ⟨g1, f1 + k * 6 + 5, none⟩ = some (.slice r2 m2 z2) ∧ wr.drew.cell? ⟨g2, f2 + k * 6, none⟩ = some (.bool bq3) ∧ wr.drew.cell? ⟨g2, f2 + k * 6 + 1, none⟩ = some (.slice o3 l3 c3) ∧ wr.drew.cell? ⟨g2, f2 + k * 6 + 2, none⟩ = some (.slice r3 m3 z3) ∧ wr.drew.cell? ⟨g2, f2 + k * 6 + 3, none⟩ = some (.bool bq4) ∧ wr.drew.cell? ⟨g2, f2 + k * 6 + 4, none⟩ = some (.slice o4 l4 c4) ∧ wr.drew.cell? ⟨g2, f2 + k * 6 + 5, none⟩ = some (.slice r4 m4 z4) := ⟨(cw1 _).trans a0, (cw1 _).trans a1, (cw1 _).trans a2, (cw1 _).trans a3, (cw1 _).trans a4, (cw1 _).trans a5, (cw2 _).trans e0, (cw2 _).trans e1, (cw2 _).trans e2, (cw2 _).trans e3, (cw2 _).trans e4, (cw2 _).trans e5⟩
      have Dr : Below wr.heap.size wr wr.drew := (Below.refl _ _).drew
      have P1 : Hid (IsE wr.drew (.agg #[.bool bq1, .slice o1 l1 c1, .slice r1 m1 z1, .bool bq2, .slice o2 l2 c2, .slice r2 m2 z2]) (E k).1 (E k).2) := ⟨_, _, _, _, _, _, _, _, _, _, _, _, _, _, rfl, (i1.below HB.out).below Dr, (i2.below HB.out).below Dr⟩
      have P2 : Hid (IsE wr.drew (.agg #[.bool bq3, .slice o3 l3 c3, .slice r3 m3 z3, .bool bq4, .slice o4 l4 c4, .slice r4 m4 z4]) (F k).1 (F k).2) := ⟨_, _, _, _, _, _, _, _, _, _, _, _, _, _, rfl, (i3.below HB.out).below Dr, (i4.below HB.out).below Dr⟩
      have fe := HE.out.1 k hlt
      have ff := HE.out.2 k hlt
      have cC := rdcmp _ _ _ _ _ _ 256 (by omega) _ P1.out P2.out fe.1 fe.2 ff.1 ff.2
      have hstop := fun (h : 0 < cmpD (E k).1 (E k).2 (F k).1 (F k).2) => cho_none (cho_stop HS.out.1 h) N hlt
      have hgo := fun (h : ¬ 0 < cmpD (E k).1 (E k).2 (F k).1 (F k).2) => cho_some HS.out.1 h
      obtain ⟨CV, eCV⟩ : ∃ x, cmpD (E k).1 (E k).2 (F k).1 (F k).2 = x := ⟨_, rfl⟩
      rw [eCV] at cC hstop hgo
      have HST : Hid ((0 < CV → cho E F N = none) ∧ (CV ≤ 0 → cho E F (k + 1) = some (stepM m (E k) (F k)))) := ⟨hstop, fun h => hgo (by omega)⟩
      have q1 : (k : Int) < (N : Int) := by omega
      have HBd : Hid (Below w.heap.size w wr.drew) := HB.out.drew
      have HRd : Hid (wr.drew.heap[g6]? = some (.cells #[.bool mb, .slice mo ml mc, .slice mr mm mz] 31) ∧ IsQ wr.drew (.agg #[.bool mb, .slice mo ml mc, .slice mr mm mz]) m) := ⟨World.drew_at HR.out.1, HR.out.2.below Dr⟩
      have HZd : Hid (wr.drew.heap[w.heap.size]? = some (.cells #[.bool false, .slice none 0 0, .slice none 0 0] 31)) := World.drew_at HZ.out
      clear a0 a1 a2 a3 a4 a5 e0 e1 e2 e3 e4 e5 i1 i2 i3 i4 cw1 cw2 hrow1 hrow2 hg1 hg2 eCV hstop hgo HR HZ HB Dr fe ff
      go_upto_region 7 with fail
      go_region_held3 (fun w' => w'.cell? ⟨g1, f1 + k * 6, none⟩ = some (.bool bq1) ∧ w'.cell? ⟨g1, f1 + k * 6 + 1, none⟩ = some (.slice o1 l1 c1) ∧ w'.cell? ⟨g1, f1 + k * 6 + 2, none⟩ = some (.slice r1 m1 z1) ∧ w'.cell? ⟨g1, f1 + k * 6 + 3, none⟩ = some (.bool bq2) ∧ w'.cell? ⟨g1, f1 + k * 6 + 4, none⟩ = some (.slice o2 l2 c2) ∧ w'.cell? ⟨g1, f1 + k * 6 + 5, none⟩ = some (.slice r2 m2 z2) ∧ w'.cell? ⟨g2, f2 + k * 6, none⟩ = some (.bool bq3) ∧ w'.cell? ⟨g2, f2 + k * 6 + 1, none⟩ = some (.slice o3 l3 c3) ∧ w'.cell? ⟨g2, f2 + k * 6 + 2, none⟩ = some (.slice r3 m3 z3) ∧ w'.cell? ⟨g2, f2 + k * 6 + 3, none⟩ = some (.bool bq4) ∧ w'.cell? ⟨g2, f2 + k * 6 + 4, none⟩ = some (.slice o4 l4 c4) ∧ w'.cell? ⟨g2, f2 + k * 6 + 5, none⟩ = some (.slice r4 m4 z4)) (first | with_reducible exact s0 | with_reducible exact s1) (first
        | (go_at_call 33; refine cC.mono ?_; rintro e w2 ⟨rfl, hb2⟩; have s1 := keep12 hb2 s0))
      have HBw : Hid (Below w.heap.size w w2) := bt HBd.out hb2
      have HRw : Hid (w2.heap[g6]? = some (.cells #[.bool mb, .slice mo ml mc, .slice mr mm mz] 31) ∧ IsQ w2 (.agg #[.bool mb, .slice mo ml mc, .slice mr mm mz]) m) := ⟨box_kept HRd.out.1 hb2 (in_heap HRd.out.1), HRd.out.2.below hb2⟩
      have HZw : Hid (w2.heap[w.heap.size]? = some (.cells #[.bool false, .slice none 0 0, .slice none 0 0] 31)) := box_kept HZd.out hb2 (in_heap HZd.out)
      have P3 : Hid (IsE w2 (.agg #[.bool bq1, .slice o1 l1 c1, .slice r1 m1 z1, .bool bq2, .slice o2 l2 c2, .slice r2 m2 z2]) (E k).1 (E k).2) := P1.out.below hb2
      have P4 : Hid (IsE w2 (.agg #[.bool bq3, .slice o3 l3 c3, .slice r3 m3 z3, .bool bq4, .slice o4 l4 c4, .slice r4 m4 z4]) (F k).1 (F k).2) := P2.out.below hb2
      clear P1 P2 HBd HRd HZd s0 hb2 cC
      by_cases hc : 0 < CV
      · have hd : decide (0 < CV) = true := decide_eq_true hc
        have hnone := HST.out.1 hc
        have e1 : er = false := by rw [← ER.out.1, hnone]; rfl
        have e2 : rr = intM 0 := by rw [← ER.out.2, hnone]; rfl
        subst e1
        subst e2
        have cZ := q_int 0 w2 (by decide) (by decide)
        clear hnone s1 P3 P4 HST HS ER HRw
        go_wp2_with (go_at_call 28; refine cZ.mono ?_; rintro e w3 ⟨v3, rfl, R3, hb3⟩; obtain ⟨bq8, o8, l8, c8, r8, m8, z8, rfl⟩ := R3.shape3; have kk := box_kept HZw.out hb3 (in_heap HZw.out); have dd := cell_at kk; have d0 : w3.cell? ⟨w.heap.size, 0, none⟩ = some (.bool false) := dd 0 _ rfl; have d1 : w3.cell? ⟨w.heap.size, 1, none⟩ = some (.slice none 0 0) := dd 1 _ rfl; have d2 : w3.cell? ⟨w.heap.size, 2, none⟩ = some (.slice none 0 0) := dd 2 _ rfl; have ff := nofreeze kk; have HK : Hid (w3.heap[w.heap.size]? = some (.cells #[.bool false, .slice none 0 0, .slice none 0 0] 31)) := kk; clear kk dd)
        have fin := QY.set R3 HK.out
        have hB := sto3_below (bt HBw.out hb3) (Nat.le_refl _) (.bool bq8) (.slice o8 l8 c8) (.slice r8 m8 z8)
        clear d0 d1 d2 ff HK HZw HBw R3
        generalize World.setCell _ _ _ = W' at *
        have gg := cell_at fin.box
        have y0 : W'.cell? ⟨w.heap.size, 0, none⟩ = some (.bool bq8) := gg 0 _ rfl
        have y1 : W'.cell? ⟨w.heap.size, 1, none⟩ = some (.slice o8 l8 c8) := gg 1 _ rfl
        have y2 : W'.cell? ⟨w.heap.size, 2, none⟩ = some (.slice r8 m8 z8) := gg 2 _ rfl
        refine bodyPost_ret (v := .tuple #[.agg #[.bool bq8, .slice o8 l8 c8, .slice r8 m8 z8], .bool false]) ?_ rfl ?_
        · simp [results, go_sem, y0, y1, y2]
        · exact ⟨_, rfl, fin.is, hB⟩
      · have hd : decide (0 < CV) = false := decide_eq_false hc
        have hn1 : Hid (cho E F (k + 1) = some (stepM m (E k) (F k)) ∧ Fits (stepM m (E k) (F k)) 1026) := ⟨HST.out.2 (by omega), fits_step HS.out.2 (HE.out.1 k hlt) (HE.out.2 k hlt)⟩
        have PE := IsE.parts P3.out
        have PF := IsE.parts P4.out
        have HP : Hid ((IsQ w2 (.agg #[.bool bq1, .slice o1 l1 c1, .slice r1 m1 z1]) (E k).1 ∧ IsQ w2 (.agg #[.bool bq2, .slice o2 l2 c2, .slice r2 m2 z2]) (E k).2) ∧ IsQ w2 (.agg #[.bool bq3, .slice o3 l3 c3, .slice r3 m3 z3]) (F k).1 ∧ IsQ w2 (.agg #[.bool bq4, .slice o4 l4 c4, .slice r4 m4 z4]) (F k).2) := ⟨PE, PF⟩
        have fe := HE.out.1 k hlt
        have ff := HE.out.2 k hlt
        have FF : Hid ((Fits (E k).1 256 ∧ Fits (E k).2 256) ∧ Fits (F k).1 256 ∧ Fits (F k).2 256) := ⟨fe, ff⟩
        have cN := fun (W : World) (hb : Below w2.heap.size w2 W) => q_neg (PF.2.below hb) ff.2
        have cA := fun (W : World) (v : Value) (h : IsQ W v (negM (F k).2)) (hb : Below w2.heap.size w2 W) => q_add (k := 256) (by omega) (PE.2.below hb) h fe.2 (fits_neg ff.2)
        have fu : Fits (upM (E k) (F k)) 513 := fits_add fe.2 (fits_neg ff.2)
        have usg : (upM (E k) (F k)).n = 0 → (upM (E k) (F k)).b = false := add_sg _ _
        obtain ⟨up, eup⟩ : ∃ x, upM (E k) (F k) = x := ⟨_, rfl⟩
        have cA2 : ∀ (W : World) (v : Value), IsQ W v (negM (F k).2) → Below w2.heap.size w2 W → Calls Try.prog 21 #[.agg #[.bool bq2, .slice o2 l2 c2, .slice r2 m2 z2], v] W fun e w' => ∃ v', e = .returned v' ∧ IsQ w' v' up ∧ Below W.heap.size W w' := by rw [← eup]; exact cA
        rw [eup] at fu usg
        have HU : Hid (upM (E k) (F k) = up ∧ Fits up 513 ∧ (up.n = 0 → up.b = false)) := ⟨eup, fu, usg⟩
        have nl : g1 < w2.heap.size ∧ g2 < w2.heap.size := ⟨World.block_lt_of_cell? w2 _ s1.1, World.block_lt_of_cell? w2 _ s1.2.2.2.2.2.2.1⟩
        clear hc HST P3 P4 PE PF fe ff cA fu usg eup
        simp only [hd]
        clear hd
        go_upto_region 9 with fail
        have sd : w2.drew.cell? ⟨g1, f1 + k * 6, none⟩ = some (.bool bq1) ∧ w2.drew.cell? ⟨g1, f1 + k * 6 + 1, none⟩ = some (.slice o1 l1 c1) ∧ w2.drew.cell? ⟨g1, f1 + k * 6 + 2, none⟩ = some (.slice r1 m1 z1) ∧ w2.drew.cell? ⟨g1, f1 + k * 6 + 3, none⟩ = some (.bool bq2) ∧ w2.drew.cell? ⟨g1, f1 + k * 6 + 4, none⟩ = some (.slice o2 l2 c2) ∧ w2.drew.cell? ⟨g1, f1 + k * 6 + 5, none⟩ = some (.slice r2 m2 z2) ∧ w2.drew.cell? ⟨g2, f2 + k * 6, none⟩ = some (.bool bq3) ∧ w2.drew.cell? ⟨g2, f2 + k * 6 + 1, none⟩ = some (.slice o3 l3 c3) ∧ w2.drew.cell? ⟨g2, f2 + k * 6 + 2, none⟩ = some (.slice r3 m3 z3) ∧ w2.drew.cell? ⟨g2, f2 + k * 6 + 3, none⟩ = some (.bool bq4) ∧ w2.drew.cell? ⟨g2, f2 + k * 6 + 4, none⟩ = some (.slice o4 l4 c4) ∧ w2.drew.cell? ⟨g2, f2 + k * 6 + 5, none⟩ = some (.slice r4 m4 z4) := s1
        have sz : ((w2.alloc (.cells #[.bool false, .slice none 0 0, .slice none 0 0] 31)).drew).cell? ⟨g1, f1 + k * 6, none⟩ = some (.bool bq1) ∧ ((w2.alloc (.cells #[.bool false, .slice none 0 0, .slice none 0 0] 31)).drew).cell? ⟨g1, f1 + k * 6 + 1, none⟩ = some (.slice o1 l1 c1) ∧ ((w2.alloc (.cells #[.bool false, .slice none 0 0, .slice none 0 0] 31)).drew).cell? ⟨g1, f1 + k * 6 + 2, none⟩ = some (.slice r1 m1 z1) ∧ ((w2.alloc (.cells #[.bool false, .slice none 0 0, .slice none 0 0] 31)).drew).cell? ⟨g1, f1 + k * 6 + 3, none⟩ = some (.bool bq2) ∧ ((w2.alloc (.cells #[.bool false, .slice none 0 0, .slice none 0 0] 31)).drew).cell? ⟨g1, f1 + k * 6 + 4, none⟩ = some (.slice o2 l2 c2) ∧ ((w2.alloc (.cells #[.bool false, .slice none 0 0, .slice none 0 0] 31)).drew).cell? ⟨g1, f1 + k * 6 + 5, none⟩ = some (.slice r2 m2 z2) ∧ ((w2.alloc (.cells #[.bool false, .slice none 0 0, .slice none 0 0] 31)).drew).cell? ⟨g2, f2 + k * 6, none⟩ = some (.bool bq3) ∧ ((w2.alloc (.cells #[.bool false, .slice none 0 0, .slice none 0 0] 31)).drew).cell? ⟨g2, f2 + k * 6 + 1, none⟩ = some (.slice o3 l3 c3) ∧ ((w2.alloc (.cells #[.bool false, .slice none 0 0, .slice none 0 0] 31)).drew).cell? ⟨g2, f2 + k * 6 + 2, none⟩ = some (.slice r3 m3 z3) ∧ ((w2.alloc (.cells #[.bool false, .slice none 0 0, .slice none 0 0] 31)).drew).cell? ⟨g2, f2 + k * 6 + 3, none⟩ = some (.bool bq4) ∧ ((w2.alloc (.cells #[.bool false, .slice none 0 0, .slice none 0 0] 31)).drew).cell? ⟨g2, f2 + k * 6 + 4, none⟩ = some (.slice o4 l4 c4) ∧ ((w2.alloc (.cells #[.bool false, .slice none 0 0, .slice none 0 0] 31)).drew).cell? ⟨g2, f2 + k * 6 + 5, none⟩ = some (.slice r4 m4 z4) := new12 _ s1
        have sy : (w2.drew.alloc (.cells #[.bool false, .slice none 0 0, .slice none 0 0] 31)).cell? ⟨g1, f1 + k * 6, none⟩ = some (.bool bq1) ∧ (w2.drew.alloc (.cells #[.bool false, .slice none 0 0, .slice none 0 0] 31)).cell? ⟨g1, f1 + k * 6 + 1, none⟩ = some (.slice o1 l1 c1) ∧ (w2.drew.alloc (.cells #[.bool false, .slice none 0 0, .slice none 0 0] 31)).cell? ⟨g1, f1 + k * 6 + 2, none⟩ = some (.slice r1 m1 z1) ∧ (w2.drew.alloc (.cells #[.bool false, .slice none 0 0, .slice none 0 0] 31)).cell? ⟨g1, f1 + k * 6 + 3, none⟩ = some (.bool bq2) ∧ (w2.drew.alloc (.cells #[.bool false, .slice none 0 0, .slice none 0 0] 31)).cell? ⟨g1, f1 + k * 6 + 4, none⟩ = some (.slice o2 l2 c2) ∧ (w2.drew.alloc (.cells #[.bool false, .slice none 0 0, .slice none 0 0] 31)).cell? ⟨g1, f1 + k * 6 + 5, none⟩ = some (.slice r2 m2 z2) ∧ (w2.drew.alloc (.cells #[.bool false, .slice none 0 0, .slice none 0 0] 31)).cell? ⟨g2, f2 + k * 6, none⟩ = some (.bool bq3) ∧ (w2.drew.alloc (.cells #[.bool false, .slice none 0 0, .slice none 0 0] 31)).cell? ⟨g2, f2 + k * 6 + 1, none⟩ = some (.slice o3 l3 c3) ∧ (w2.drew.alloc (.cells #[.bool false, .slice none 0 0, .slice none 0 0] 31)).cell? ⟨g2, f2 + k * 6 + 2, none⟩ = some (.slice r3 m3 z3) ∧ (w2.drew.alloc (.cells #[.bool false, .slice none 0 0, .slice none 0 0] 31)).cell? ⟨g2, f2 + k * 6 + 3, none⟩ = some (.bool bq4) ∧ (w2.drew.alloc (.cells #[.bool false, .slice none 0 0, .slice none 0 0] 31)).cell? ⟨g2, f2 + k * 6 + 4, none⟩ = some (.slice o4 l4 c4) ∧ (w2.drew.alloc (.cells #[.bool false, .slice none 0 0, .slice none 0 0] 31)).cell? ⟨g2, f2 + k * 6 + 5, none⟩ = some (.slice r4 m4 z4) := new12 _ s1
        have hwd : Below w2.heap.size w2 w2.drew := (Below.refl _ _).drew
        have hwz : Below w2.heap.size w2 ((w2.alloc (.cells #[.bool false, .slice none 0 0, .slice none 0 0] 31)).drew) := ((Below.refl _ _).alloc (Nat.le_refl _) _).drew
        have hwy : Below w2.heap.size w2 (w2.drew.alloc (.cells #[.bool false, .slice none 0 0, .slice none 0 0] 31)) := hwd.alloc (Nat.le_refl _) _
        have kz : ((w2.alloc (.cells #[.bool false, .slice none 0 0, .slice none 0 0] 31)).drew).heap[w2.heap.size]? = some (.cells #[.bool false, .slice none 0 0, .slice none 0 0] 31) := heap_alloc_new _ _
        have ky : (w2.drew.alloc (.cells #[.bool false, .slice none 0 0, .slice none 0 0] 31)).heap[w2.heap.size]? = some (.cells #[.bool false, .slice none 0 0, .slice none 0 0] 31) := heap_alloc_new w2.drew _
        have ltz := in_heap kz
        have lty := in_heap ky
        clear s1
        go_cut [8] from 33 to 44 (fun v8 wx => ∃ (g8 : Nat) (bq8 : Bool) (o8 : Option Addr) (l8 c8 : Nat) (r8 : Option Addr) (m8 z8 : Nat), v8 = .pointer (some ⟨g8, 0, none⟩) ∧ Hid (QY wx g8 up bq8 o8 l8 c8 r8 m8 z8) ∧ Hid (Below w2.heap.size w2 wx) ∧ Hid (w2.heap.size ≤ g8))
        case first =>
          clear HS HRw HZw HBw HE ER hn1 HC HP FF HU
          go_region_held3 (fun w' => w'.cell? ⟨g1, f1 + k * 6, none⟩ = some (.bool bq1) ∧ w'.cell? ⟨g1, f1 + k * 6 + 1, none⟩ = some (.slice o1 l1 c1) ∧ w'.cell? ⟨g1, f1 + k * 6 + 2, none⟩ = some (.slice r1 m1 z1) ∧ w'.cell? ⟨g1, f1 + k * 6 + 3, none⟩ = some (.bool bq2) ∧ w'.cell? ⟨g1, f1 + k * 6 + 4, none⟩ = some (.slice o2 l2 c2) ∧ w'.cell? ⟨g1, f1 + k * 6 + 5, none⟩ = some (.slice r2 m2 z2) ∧ w'.cell? ⟨g2, f2 + k * 6, none⟩ = some (.bool bq3) ∧ w'.cell? ⟨g2, f2 + k * 6 + 1, none⟩ = some (.slice o3 l3 c3) ∧ w'.cell? ⟨g2, f2 + k * 6 + 2, none⟩ = some (.slice r3 m3 z3) ∧ w'.cell? ⟨g2, f2 + k * 6 + 3, none⟩ = some (.bool bq4) ∧ w'.cell? ⟨g2, f2 + k * 6 + 4, none⟩ = some (.slice o4 l4 c4) ∧ w'.cell? ⟨g2, f2 + k * 6 + 5, none⟩ = some (.slice r4 m4 z4)) (first | with_reducible exact sd | with_reducible exact sz | with_reducible exact sy | with_reducible exact s0 | with_reducible exact s1 | with_reducible exact new12 _ s0 | with_reducible exact new12 _ s1 | with_reducible exact set12l nl _ _ _ s1 | with_reducible exact set12l (lt2 nl H0) _ _ _ s1) (first
            | (go_at_call 23; refine (cN _ ?_).mono ?_; (first | with_reducible exact hwd | with_reducible exact hwz | with_reducible exact hwy); rintro e v0w ⟨u0, rfl, J0, hb0⟩; (first | with_reducible have H0 := bt hwd hb0 | with_reducible have H0 := bt hwz hb0 | with_reducible have H0 := bt hwy hb0); (first | with_reducible have s0 := keep12 hb0 sd | with_reducible have s0 := keep12 hb0 sz | with_reducible have s0 := keep12 hb0 sy); (first | with_reducible have kr0 := box_kept kz hb0 ltz | with_reducible have kr0 := box_kept ky hb0 lty | skip))
            | (go_at_call 21; refine (cA2 _ _ (by first | with_reducible exact J0 | with_reducible exact J0.below ((Below.refl _ _).alloc (Nat.le_refl _) _)) ?_).mono ?_; (first | with_reducible exact H0 | with_reducible exact H0.alloc H0.size _); rintro e v1w ⟨u1, rfl, J1, hb1⟩; (first | with_reducible have H1 := bt H0 hb1 | with_reducible have H1 := bt (H0.alloc H0.size _) hb1); (first | with_reducible have s1 := keep12 hb1 s0 | with_reducible have s1 := keep12 hb1 (new12 _ s0)); (first | with_reducible have kr1 := box_kept (box3_new v0w) hb1 (alloc_lt _ _) | with_reducible have kr1 := box_kept kr0 hb1 (heap_lt kr0) | skip); obtain ⟨bq8, o8, l8, c8, r8, m8, z8, rfl⟩ := J1.shape3; (first | (have dd := cell_at kr1; have d0 := dd 0 _ rfl; have d1 := dd 1 _ rfl; have d2 := dd 2 _ rfl; have ff := nofreeze kr1; clear dd) | skip)))
          all_goals go_wp2
          all_goals go_meet
          all_goals first
            | exact ⟨_, bq8, o8, l8, c8, r8, m8, z8, rfl, QY.new J1, H1.alloc H1.size _, H1.size⟩
            | exact ⟨_, bq8, o8, l8, c8, r8, m8, z8, rfl, QY.set J1 kr1, sto3_below H1 (Nat.le_refl _) _ _ _, Nat.le_refl _⟩
            | exact ⟨_, bq8, o8, l8, c8, r8, m8, z8, rfl, QY.set J1 kr1, sto3_below H1 H0.size _ _ _, H0.size⟩
        case rest =>
          obtain ⟨g8, bq8, o8, l8, c8, r8, m8, z8, rfl, HY, HX, HG⟩ := hcut
          have sA := keep12 (W := w2) HX.out sd
          have HBA : Hid (Below w.heap.size w wc) := bt HBw.out HX.out
          have HRA : Hid (wc.heap[g6]? = some (.cells #[.bool mb, .slice mo ml mc, .slice mr mm mz] 31) ∧ IsQ wc (.agg #[.bool mb, .slice mo ml mc, .slice mr mm mz]) m) := ⟨box_kept HRw.out.1 HX.out (in_heap HRw.out.1), HRw.out.2.below HX.out⟩
          have HZA : Hid (wc.heap[w.heap.size]? = some (.cells #[.bool false, .slice none 0 0, .slice none 0 0] 31)) := box_kept HZw.out HX.out (in_heap HZw.out)
          have HPA : Hid (IsQ wc (.agg #[.bool bq1, .slice o1 l1 c1, .slice r1 m1 z1]) (E k).1 ∧ IsQ wc (.agg #[.bool bq3, .slice o3 l3 c3, .slice r3 m3 z3]) (F k).1) := ⟨HP.out.1.1.below HX.out, HP.out.2.1.below HX.out⟩
          have nlA := lt2 nl HX.out
          clear HBw HRw HZw HX cN cA2 sd sz sy hwd hwz hwy kz ky ltz lty nl HP
          have xx := cell_at HY.out.box
          have t0 : wc.cell? ⟨g8, 0, none⟩ = some (.bool bq8) := xx 0 _ rfl
          have t1 : wc.cell? ⟨g8, 1, none⟩ = some (.slice o8 l8 c8) := xx 1 _ rfl
          have t2 : wc.cell? ⟨g8, 2, none⟩ = some (.slice r8 m8 z8) := xx 2 _ rfl
          have cS := q_sign (k := 513) (by omega) HY.out.is HU.out.2.2 HU.out.2.1
          generalize wc = wA at *
          clear xx
          by_cases hs : 0 < sgnM up
          · have hnz : up.n ≠ 0 := sgn_nz hs
            have fe := FF.out.1.1
            have ff := FF.out.2.1
            have fq : Fits (quoM (E k) (F k)) 1026 := fits_quo FF.out.1 FF.out.2 (by rw [HU.out.1]; exact hs)
            have est : stepM m (E k) (F k) = minM m (quoM (E k) (F k)) := by unfold stepM; rw [HU.out.1, if_pos hs]
            obtain ⟨qq, eqq⟩ : ∃ x, quoM (E k) (F k) = x := ⟨_, rfl⟩
            have eq2 : mulM (addM (F k).1 (negM (E k).1)) (invM up) = qq := by rw [← eqq]; unfold quoM; rw [HU.out.1]
            rw [eqq] at fq est
            have Hn1 : Hid ((cho E F (k + 1) = some (minM m qq) ∧ Fits (minM m qq) 1026) ∧ Fits qq 1026) := by unfold Hid; rw [← est]; exact ⟨hn1.out, fq⟩
            have hd : decide (0 < sgnM up) = true := decide_eq_true hs
            have fi : Fits (invM up) 513 := fits_inv HU.out.2.1 hnz
            have fu := HU.out.2.1
            clear hn1 est fq eqq hs hnz HU FF
            generalize sgnM up = SG at *
            go_upto_region 11 with (go_at_call 63; refine cS.mono ?_; rintro e w4 ⟨rfl, hb4⟩)
            have HB4 : Hid (Below w.heap.size w w4) := bt HBA.out hb4
            have HR4 : Hid (w4.heap[g6]? = some (.cells #[.bool mb, .slice mo ml mc, .slice mr mm mz] 31) ∧ IsQ w4 (.agg #[.bool mb, .slice mo ml mc, .slice mr mm mz]) m) := ⟨box_kept HRA.out.1 hb4 (in_heap HRA.out.1), HRA.out.2.below hb4⟩
            have HZ4 : Hid (w4.heap[w.heap.size]? = some (.cells #[.bool false, .slice none 0 0, .slice none 0 0] 31)) := box_kept HZA.out hb4 (in_heap HZA.out)
            have HY4 := HY.out.below hb4
            have PA := HPA.out.1.below hb4
            have PB := HPA.out.2.below hb4
            have yy := cell_at HY4.box
            have nl : g1 < w4.heap.size ∧ g2 < w4.heap.size ∧ g8 < w4.heap.size := ⟨(lt2 nlA hb4).1, (lt2 nlA hb4).2, in_heap HY4.box⟩
            have s4 := keep12 hb4 sA
            have s1 : w4.cell? ⟨g1, f1 + k * 6, none⟩ = some (.bool bq1) ∧ w4.cell? ⟨g1, f1 + k * 6 + 1, none⟩ = some (.slice o1 l1 c1) ∧ w4.cell? ⟨g1, f1 + k * 6 + 2, none⟩ = some (.slice r1 m1 z1) ∧ w4.cell? ⟨g1, f1 + k * 6 + 3, none⟩ = some (.bool bq2) ∧ w4.cell? ⟨g1, f1 + k * 6 + 4, none⟩ = some (.slice o2 l2 c2) ∧ w4.cell? ⟨g1, f1 + k * 6 + 5, none⟩ = some (.slice r2 m2 z2) ∧ w4.cell? ⟨g2, f2 + k * 6, none⟩ = some (.bool bq3) ∧ w4.cell? ⟨g2, f2 + k * 6 + 1, none⟩ = some (.slice o3 l3 c3) ∧ w4.cell? ⟨g2, f2 + k * 6 + 2, none⟩ = some (.slice r3 m3 z3) ∧ w4.cell? ⟨g2, f2 + k * 6 + 3, none⟩ = some (.bool bq4) ∧ w4.cell? ⟨g2, f2 + k * 6 + 4, none⟩ = some (.slice o4 l4 c4) ∧ w4.cell? ⟨g2, f2 + k * 6 + 5, none⟩ = some (.slice r4 m4 z4) ∧ w4.cell? ⟨g8, 0, none⟩ = some (.bool bq8) ∧ w4.cell? ⟨g8, 1, none⟩ = some (.slice o8 l8 c8) ∧ w4.cell? ⟨g8, 2, none⟩ = some (.slice r8 m8 z8) := by
              obtain ⟨z0_, z1_, z2_, z3_, z4_, z5_, z6_, z7_, z8_, z9_, z10_, z11_⟩ := s4
              exact ⟨z0_, z1_, z2_, z3_, z4_, z5_, z6_, z7_, z8_, z9_, z10_, z11_, yy 0 _ rfl, yy 1 _ rfl, yy 2 _ rfl⟩
            have cN1 := fun (W : World) (hb : Below w4.heap.size w4 W) => q_neg (PA.below hb) fe
            have cA1 := fun (W : World) (v : Value) (h : IsQ W v (negM (E k).1)) (hb : Below w4.heap.size w4 W) => q_add (k := 256) (by omega) (PB.below hb) h ff (fits_neg fe)
            have cV := fun (W : World) (hb : Below w4.heap.size w4 W) => q_inv (HY4.is.below hb) fu
            have cM0 := fun (W : World) (v v' : Value) (h : IsQ W v (addM (F k).1 (negM (E k).1))) (h' : IsQ W v' (invM up)) (_ : Below w4.heap.size w4 W) => q_mul (k := 513) (by omega) h h' (fits_add ff (fits_neg fe)) fi
            have cM : ∀ (W : World) (v v' : Value), IsQ W v (addM (F k).1 (negM (E k).1)) → IsQ W v' (invM up) → Below w4.heap.size w4 W → Calls Try.prog 26 #[v, v'] W fun e w' => ∃ v', e = .returned v' ∧ IsQ w' v' qq ∧ Below W.heap.size W w' := by rw [← eq2]; exact cM0
            clear hd PA PB HY4 yy s4 sA HBA HRA HZA HPA cS t0 t1 t2 hb4 HY fe ff fi fu eq2 cM0 HG nlA
            have sd : w4.drew.cell? ⟨g1, f1 + k * 6, none⟩ = some (.bool bq1) ∧ w4.drew.cell? ⟨g1, f1 + k * 6 + 1, none⟩ = some (.slice o1 l1 c1) ∧ w4.drew.cell? ⟨g1, f1 + k * 6 + 2, none⟩ = some (.slice r1 m1 z1) ∧ w4.drew.cell? ⟨g1, f1 + k * 6 + 3, none⟩ = some (.bool bq2) ∧ w4.drew.cell? ⟨g1, f1 + k * 6 + 4, none⟩ = some (.slice o2 l2 c2) ∧ w4.drew.cell? ⟨g1, f1 + k * 6 + 5, none⟩ = some (.slice r2 m2 z2) ∧ w4.drew.cell? ⟨g2, f2 + k * 6, none⟩ = some (.bool bq3) ∧ w4.drew.cell? ⟨g2, f2 + k * 6 + 1, none⟩ = some (.slice o3 l3 c3) ∧ w4.drew.cell? ⟨g2, f2 + k * 6 + 2, none⟩ = some (.slice r3 m3 z3) ∧ w4.drew.cell? ⟨g2, f2 + k * 6 + 3, none⟩ = some (.bool bq4) ∧ w4.drew.cell? ⟨g2, f2 + k * 6 + 4, none⟩ = some (.slice o4 l4 c4) ∧ w4.drew.cell? ⟨g2, f2 + k * 6 + 5, none⟩ = some (.slice r4 m4 z4) ∧ w4.drew.cell? ⟨g8, 0, none⟩ = some (.bool bq8) ∧ w4.drew.cell? ⟨g8, 1, none⟩ = some (.slice o8 l8 c8) ∧ w4.drew.cell? ⟨g8, 2, none⟩ = some (.slice r8 m8 z8) := s1
            have sz : ((w4.alloc (.cells #[.bool false, .slice none 0 0, .slice none 0 0] 31)).drew).cell? ⟨g1, f1 + k * 6, none⟩ = some (.bool bq1) ∧ ((w4.alloc (.cells #[.bool false, .slice none 0 0, .slice none 0 0] 31)).drew).cell? ⟨g1, f1 + k * 6 + 1, none⟩ = some (.slice o1 l1 c1) ∧ ((w4.alloc (.cells #[.bool false, .slice none 0 0, .slice none 0 0] 31)).drew).cell? ⟨g1, f1 + k * 6 + 2, none⟩ = some (.slice r1 m1 z1) ∧ ((w4.alloc (.cells #[.bool false, .slice none 0 0, .slice none 0 0] 31)).drew).cell? ⟨g1, f1 + k * 6 + 3, none⟩ = some (.bool bq2) ∧ ((w4.alloc (.cells #[.bool false, .slice none 0 0, .slice none 0 0] 31)).drew).cell? ⟨g1, f1 + k * 6 + 4, none⟩ = some (.slice o2 l2 c2) ∧ ((w4.alloc (.cells #[.bool false, .slice none 0 0, .slice none 0 0] 31)).drew).cell? ⟨g1, f1 + k * 6 + 5, none⟩ = some (.slice r2 m2 z2) ∧ ((w4.alloc (.cells #[.bool false, .slice none 0 0, .slice none 0 0] 31)).drew).cell? ⟨g2, f2 + k * 6, none⟩ = some (.bool bq3) ∧ ((w4.alloc (.cells #[.bool false, .slice none 0 0, .slice none 0 0] 31)).drew).cell? ⟨g2, f2 + k * 6 + 1, none⟩ = some (.slice o3 l3 c3) ∧ ((w4.alloc (.cells #[.bool false, .slice none 0 0, .slice none 0 0] 31)).drew).cell? ⟨g2, f2 + k * 6 + 2, none⟩ = some (.slice r3 m3 z3) ∧ ((w4.alloc (.cells #[.bool false, .slice none 0 0, .slice none 0 0] 31)).drew).cell? ⟨g2, f2 + k * 6 + 3, none⟩ = some (.bool bq4) ∧ ((w4.alloc (.cells #[.bool false, .slice none 0 0, .slice none 0 0] 31)).drew).cell? ⟨g2, f2 + k * 6 + 4, none⟩ = some (.slice o4 l4 c4) ∧ ((w4.alloc (.cells #[.bool false, .slice none 0 0, .slice none 0 0] 31)).drew).cell? ⟨g2, f2 + k * 6 + 5, none⟩ = some (.slice r4 m4 z4) ∧ ((w4.alloc (.cells #[.bool false, .slice none 0 0, .slice none 0 0] 31)).drew).cell? ⟨g8, 0, none⟩ = some (.bool bq8) ∧ ((w4.alloc (.cells #[.bool false, .slice none 0 0, .slice none 0 0] 31)).drew).cell? ⟨g8, 1, none⟩ = some (.slice o8 l8 c8) ∧ ((w4.alloc (.cells #[.bool false, .slice none 0 0, .slice none 0 0] 31)).drew).cell? ⟨g8, 2, none⟩ = some (.slice r8 m8 z8) := new15 _ s1
            have sy : (w4.drew.alloc (.cells #[.bool false, .slice none 0 0, .slice none 0 0] 31)).cell? ⟨g1, f1 + k * 6, none⟩ = some (.bool bq1) ∧ (w4.drew.alloc (.cells #[.bool false, .slice none 0 0, .slice none 0 0] 31)).cell? ⟨g1, f1 + k * 6 + 1, none⟩ = some (.slice o1 l1 c1) ∧ (w4.drew.alloc (.cells #[.bool false, .slice none 0 0, .slice none 0 0] 31)).cell? ⟨g1, f1 + k * 6 + 2, none⟩ = some (.slice r1 m1 z1) ∧ (w4.drew.alloc (.cells #[.bool false, .slice none 0 0, .slice none 0 0] 31)).cell? ⟨g1, f1 + k * 6 + 3, none⟩ = some (.bool bq2) ∧ (w4.drew.alloc (.cells #[.bool false, .slice none 0 0, .slice none 0 0] 31)).cell? ⟨g1, f1 + k * 6 + 4, none⟩ = some (.slice o2 l2 c2) ∧ (w4.drew.alloc (.cells #[.bool false, .slice none 0 0, .slice none 0 0] 31)).cell? ⟨g1, f1 + k * 6 + 5, none⟩ = some (.slice r2 m2 z2) ∧ (w4.drew.alloc (.cells #[.bool false, .slice none 0 0, .slice none 0 0] 31)).cell? ⟨g2, f2 + k * 6, none⟩ = some (.bool bq3) ∧ (w4.drew.alloc (.cells #[.bool false, .slice none 0 0, .slice none 0 0] 31)).cell? ⟨g2, f2 + k * 6 + 1, none⟩ = some (.slice o3 l3 c3) ∧ (w4.drew.alloc (.cells #[.bool false, .slice none 0 0, .slice none 0 0] 31)).cell? ⟨g2, f2 + k * 6 + 2, none⟩ = some (.slice r3 m3 z3) ∧ (w4.drew.alloc (.cells #[.bool false, .slice none 0 0, .slice none 0 0] 31)).cell? ⟨g2, f2 + k * 6 + 3, none⟩ = some (.bool bq4) ∧ (w4.drew.alloc (.cells #[.bool false, .slice none 0 0, .slice none 0 0] 31)).cell? ⟨g2, f2 + k * 6 + 4, none⟩ = some (.slice o4 l4 c4) ∧ (w4.drew.alloc (.cells #[.bool false, .slice none 0 0, .slice none 0 0] 31)).cell? ⟨g2, f2 + k * 6 + 5, none⟩ = some (.slice r4 m4 z4) ∧ (w4.drew.alloc (.cells #[.bool false, .slice none 0 0, .slice none 0 0] 31)).cell? ⟨g8, 0, none⟩ = some (.bool bq8) ∧ (w4.drew.alloc (.cells #[.bool false, .slice none 0 0, .slice none 0 0] 31)).cell? ⟨g8, 1, none⟩ = some (.slice o8 l8 c8) ∧ (w4.drew.alloc (.cells #[.bool false, .slice none 0 0, .slice none 0 0] 31)).cell? ⟨g8, 2, none⟩ = some (.slice r8 m8 z8) := new15 _ s1
            have hwd : Below w4.heap.size w4 w4.drew := (Below.refl _ _).drew
            have hwz : Below w4.heap.size w4 ((w4.alloc (.cells #[.bool false, .slice none 0 0, .slice none 0 0] 31)).drew) := ((Below.refl _ _).alloc (Nat.le_refl _) _).drew
            have hwy : Below w4.heap.size w4 (w4.drew.alloc (.cells #[.bool false, .slice none 0 0, .slice none 0 0] 31)) := hwd.alloc (Nat.le_refl _) _
            have kz : ((w4.alloc (.cells #[.bool false, .slice none 0 0, .slice none 0 0] 31)).drew).heap[w4.heap.size]? = some (.cells #[.bool false, .slice none 0 0, .slice none 0 0] 31) := heap_alloc_new _ _
            have ky : (w4.drew.alloc (.cells #[.bool false, .slice none 0 0, .slice none 0 0] 31)).heap[w4.heap.size]? = some (.cells #[.bool false, .slice none 0 0, .slice none 0 0] 31) := heap_alloc_new w4.drew _
            have ltz := in_heap kz
            have lty := in_heap ky
            clear s1
            go_cut [9] from 48 to 62 (fun v9 wx => ∃ (g9 : Nat) (bq9 : Bool) (o9 : Option Addr) (l9 c9 : Nat) (r9 : Option Addr) (m9 z9 : Nat), v9 = .pointer (some ⟨g9, 0, none⟩) ∧ Hid (QY wx g9 qq bq9 o9 l9 c9 r9 m9 z9) ∧ Hid (Below w4.heap.size w4 wx) ∧ Hid (w4.heap.size ≤ g9))
            case first =>
              clear HS HR4 HZ4 HB4 HE ER Hn1 HC
              go_region_held3 (fun w' => w'.cell? ⟨g1, f1 + k * 6, none⟩ = some (.bool bq1) ∧ w'.cell? ⟨g1, f1 + k * 6 + 1, none⟩ = some (.slice o1 l1 c1) ∧ w'.cell? ⟨g1, f1 + k * 6 + 2, none⟩ = some (.slice r1 m1 z1) ∧ w'.cell? ⟨g1, f1 + k * 6 + 3, none⟩ = some (.bool bq2) ∧ w'.cell? ⟨g1, f1 + k * 6 + 4, none⟩ = some (.slice o2 l2 c2) ∧ w'.cell? ⟨g1, f1 + k * 6 + 5, none⟩ = some (.slice r2 m2 z2) ∧ w'.cell? ⟨g2, f2 + k * 6, none⟩ = some (.bool bq3) ∧ w'.cell? ⟨g2, f2 + k * 6 + 1, none⟩ = some (.slice o3 l3 c3) ∧ w'.cell? ⟨g2, f2 + k * 6 + 2, none⟩ = some (.slice r3 m3 z3) ∧ w'.cell? ⟨g2, f2 + k * 6 + 3, none⟩ = some (.bool bq4) ∧ w'.cell? ⟨g2, f2 + k * 6 + 4, none⟩ = some (.slice o4 l4 c4) ∧ w'.cell? ⟨g2, f2 + k * 6 + 5, none⟩ = some (.slice r4 m4 z4) ∧ w'.cell? ⟨g8, 0, none⟩ = some (.bool bq8) ∧ w'.cell? ⟨g8, 1, none⟩ = some (.slice o8 l8 c8) ∧ w'.cell? ⟨g8, 2, none⟩ = some (.slice r8 m8 z8)) (first | with_reducible exact sd | with_reducible exact sz | with_reducible exact sy | with_reducible exact s0 | with_reducible exact s1 | with_reducible exact s2 | with_reducible exact s3 | with_reducible exact new15 _ s0 | with_reducible exact new15 _ s1 | with_reducible exact new15 _ s2 | with_reducible exact new15 _ s3 | with_reducible exact set15 nl _ _ _ s3 | with_reducible exact set15 (lt3 nl H0) _ _ _ s3 | with_reducible exact set15 (lt3 nl H1) _ _ _ s3 | with_reducible exact set15 (lt3 nl H2) _ _ _ s3) (first
                | (go_at_call 23; refine (cN1 _ ?_).mono ?_; (first | with_reducible exact hwd | with_reducible exact hwz | with_reducible exact hwy); rintro e v0w ⟨u0, rfl, J0, hb0⟩; (first | with_reducible have H0 := bt hwd hb0 | with_reducible have H0 := bt hwz hb0 | with_reducible have H0 := bt hwy hb0); (first | with_reducible have s0 := keep15 hb0 sd | with_reducible have s0 := keep15 hb0 sz | with_reducible have s0 := keep15 hb0 sy); (first | with_reducible have kr0 := box_kept kz hb0 ltz | with_reducible have kr0 := box_kept ky hb0 lty | skip))
                | (go_at_call 21; refine (cA1 _ _ (by first | with_reducible exact J0 | with_reducible exact J0.below ((Below.refl _ _).alloc (Nat.le_refl _) _)) ?_).mono ?_; (first | with_reducible exact H0 | with_reducible exact H0.alloc H0.size _); rintro e v1w ⟨u1, rfl, J1, hb1⟩; (first | with_reducible have H1 := bt H0 hb1 | with_reducible have H1 := bt (H0.alloc H0.size _) hb1); (first | with_reducible have s1 := keep15 hb1 s0 | with_reducible have s1 := keep15 hb1 (new15 _ s0)); (first | with_reducible have kr1 := box_kept (box3_new v0w) hb1 (alloc_lt _ _) | with_reducible have kr1 := box_kept kr0 hb1 (heap_lt kr0) | skip))
                | (go_at_call 64; refine (cV _ ?_).mono ?_; (first | with_reducible exact H1 | with_reducible exact H1.alloc H1.size _); rintro e v2w ⟨u2, rfl, J2, hb2⟩; (first | with_reducible have H2 := bt H1 hb2 | with_reducible have H2 := bt (H1.alloc H1.size _) hb2); (first | with_reducible have s2 := keep15 hb2 s1 | with_reducible have s2 := keep15 hb2 (new15 _ s1)); (first | with_reducible have kr2 := box_kept (box3_new v1w) hb2 (alloc_lt _ _) | with_reducible have kr2 := box_kept kr1 hb2 (heap_lt kr1) | skip); (first | with_reducible have J1b := J1.below hb2 | with_reducible have J1b := (J1.below ((Below.refl _ _).alloc (Nat.le_refl _) _)).below hb2))
                | (go_at_call 26; refine (cM _ _ _ (by first | with_reducible exact J1b | with_reducible exact J1b.below ((Below.refl _ _).alloc (Nat.le_refl _) _)) (by first | with_reducible exact J2 | with_reducible exact J2.below ((Below.refl _ _).alloc (Nat.le_refl _) _)) ?_).mono ?_; (first | with_reducible exact H2 | with_reducible exact H2.alloc H2.size _); rintro e v3w ⟨u3, rfl, J3, hb3⟩; (first | with_reducible have H3 := bt H2 hb3 | with_reducible have H3 := bt (H2.alloc H2.size _) hb3); (first | with_reducible have s3 := keep15 hb3 s2 | with_reducible have s3 := keep15 hb3 (new15 _ s2)); (first | with_reducible have kr3 := box_kept (box3_new v2w) hb3 (alloc_lt _ _) | with_reducible have kr3 := box_kept kr2 hb3 (heap_lt kr2) | skip); obtain ⟨bq9, o9, l9, c9, r9, m9, z9, rfl⟩ := J3.shape3; (first | (have dd := cell_at kr3; have d0 := dd 0 _ rfl; have d1 := dd 1 _ rfl; have d2 := dd 2 _ rfl; have ff := nofreeze kr3; clear dd) | skip)))
              all_goals go_wp2
              all_goals go_meet
              all_goals first
                | exact ⟨_, bq9, o9, l9, c9, r9, m9, z9, rfl, QY.new J3, H3.alloc H3.size _, H3.size⟩
                | exact ⟨_, bq9, o9, l9, c9, r9, m9, z9, rfl, QY.set J3 kr3, sto3_below H3 (Nat.le_refl _) _ _ _, Nat.le_refl _⟩
                | exact ⟨_, bq9, o9, l9, c9, r9, m9, z9, rfl, QY.set J3 kr3, sto3_below H3 H0.size _ _ _, H0.size⟩
                | exact ⟨_, bq9, o9, l9, c9, r9, m9, z9, rfl, QY.set J3 kr3, sto3_below H3 H1.size _ _ _, H1.size⟩
                | exact ⟨_, bq9, o9, l9, c9, r9, m9, z9, rfl, QY.set J3 kr3, sto3_below H3 H2.size _ _ _, H2.size⟩
            case rest =>
              obtain ⟨g9, bq9, o9, l9, c9, r9, m9, z9, rfl, HY9, HX9, HG9⟩ := hcut
              have HBB : Hid (Below w.heap.size w wc) := bt HB4.out HX9.out
              have HRB : Hid (wc.heap[g6]? = some (.cells #[.bool mb, .slice mo ml mc, .slice mr mm mz] 31) ∧ IsQ wc (.agg #[.bool mb, .slice mo ml mc, .slice mr mm mz]) m) := ⟨box_kept HR4.out.1 HX9.out (in_heap HR4.out.1), HR4.out.2.below HX9.out⟩
              have HZB : Hid (wc.heap[w.heap.size]? = some (.cells #[.bool false, .slice none 0 0, .slice none 0 0] 31)) := box_kept HZ4.out HX9.out (in_heap HZ4.out)
              clear HB4 HR4 HZ4 HX9 cN1 cA1 cV cM sd sz sy hwd hwz hwy kz ky ltz lty nl HG9
              have xx := cell_at HY9.out.box
              have yy := cell_at HRB.out.1
              have t0 : wc.cell? ⟨g9, 0, none⟩ = some (.bool bq9) := xx 0 _ rfl
              have t1 : wc.cell? ⟨g9, 1, none⟩ = some (.slice o9 l9 c9) := xx 1 _ rfl
              have t2 : wc.cell? ⟨g9, 2, none⟩ = some (.slice r9 m9 z9) := xx 2 _ rfl
              have r0 : wc.cell? ⟨g6, 0, none⟩ = some (.bool mb) := yy 0 _ rfl
              have r1 : wc.cell? ⟨g6, 1, none⟩ = some (.slice mo ml mc) := yy 1 _ rfl
              have r2 : wc.cell? ⟨g6, 2, none⟩ = some (.slice mr mm mz) := yy 2 _ rfl
              have cC := q_cmp (k := 1026) (by omega) HY9.out.is HRB.out.2 Hn1.out.2 HS.out.2
              have hmin := min_swap m qq
              clear xx yy
              by_cases hq : cmpM qq m < 0
              · rw [if_pos hq] at hmin
                have Hn2 : Hid (cho E F (k + 1) = some qq ∧ Fits qq 1026) := by unfold Hid; rw [← hmin]; rw [hmin]; exact ⟨by rw [← hmin]; exact Hn1.out.1.1, Hn1.out.2⟩
                have hd : decide (cmpM qq m < 0) = true := decide_eq_true hq
                clear hq hmin Hn1 HS
                generalize cmpM qq m = CQ at *
                go_wp2_with (go_at_call 60; refine cC.mono ?_; rintro e w5 ⟨rfl, hb5⟩; have kk := box_kept HRB.out.1 hb5 (in_heap HRB.out.1); have dd := cell_at kk; have d0 : w5.cell? ⟨g6, 0, none⟩ = some (.bool mb) := dd 0 _ rfl; have d1 : w5.cell? ⟨g6, 1, none⟩ = some (.slice mo ml mc) := dd 1 _ rfl; have d2 : w5.cell? ⟨g6, 2, none⟩ = some (.slice mr mm mz) := dd 2 _ rfl; have ff := nofreeze kk; have HK : Hid (w5.heap[g6]? = some (.cells #[.bool mb, .slice mo ml mc, .slice mr mm mz] 31)) := kk; have HY5 : Hid (QY w5 g9 qq bq9 o9 l9 c9 r9 m9 z9) := HY9.out.below hb5; have x5 := cell_at HY5.out.box; have y0 : w5.cell? ⟨g9, 0, none⟩ = some (.bool bq9) := x5 0 _ rfl; have y1 : w5.cell? ⟨g9, 1, none⟩ = some (.slice o9 l9 c9) := x5 1 _ rfl; have y2 : w5.cell? ⟨g9, 2, none⟩ = some (.slice r9 m9 z9) := x5 2 _ rfl; have HZ5 : Hid (w5.heap[w.heap.size]? = some (.cells #[.bool false, .slice none 0 0, .slice none 0 0] 31)) := box_kept HZB.out hb5 (in_heap HZB.out); have HB5 : Hid (Below w.heap.size w w5) := bt HBB.out hb5; clear kk dd x5)
                go_roundw
                case rel => exact ⟨k + 1, bq9, o9, l9, c9, r9, m9, z9, qq, hlt, by go_num, Hn2, ⟨(QY.set HY5.out.is HK.out).box, (QY.set HY5.out.is HK.out).is⟩, ((sto3_off w5 g6 _ _ _).1 _ (Nat.ne_of_lt hg6)).trans HZ5.out, sto3_below HB5.out (Nat.le_of_lt hg6) _ _ _⟩
                case measure => simp only [intOf]; omega
              · rw [if_neg hq] at hmin
                have Hn2 : Hid (cho E F (k + 1) = some m ∧ Fits m 1026) := ⟨by rw [← hmin]; rw [hmin]; have := Hn1.out.1.1; rw [hmin] at this; exact this, HS.out.2⟩
                have hd : decide (cmpM qq m < 0) = false := decide_eq_false hq
                clear hq hmin Hn1 HS
                generalize cmpM qq m = CQ at *
                go_wp2_with (go_at_call 60; refine cC.mono ?_; rintro e w5 ⟨rfl, hb5⟩; have HR5 : Hid (w5.heap[g6]? = some (.cells #[.bool mb, .slice mo ml mc, .slice mr mm mz] 31) ∧ IsQ w5 (.agg #[.bool mb, .slice mo ml mc, .slice mr mm mz]) m) := ⟨box_kept HRB.out.1 hb5 (in_heap HRB.out.1), HRB.out.2.below hb5⟩; have HZ5 : Hid (w5.heap[w.heap.size]? = some (.cells #[.bool false, .slice none 0 0, .slice none 0 0] 31)) := box_kept HZB.out hb5 (in_heap HZB.out); have HB5 : Hid (Below w.heap.size w w5) := bt HBB.out hb5)
                go_roundw
                case rel => exact ⟨k + 1, mb, mo, ml, mc, mr, mm, mz, m, hlt, by go_num, Hn2, HR5, HZ5, HB5⟩
                case measure => simp only [intOf]; omega
          · have est : stepM m (E k) (F k) = m := by unfold stepM; rw [HU.out.1, if_neg hs]
            have Hn2 : Hid (cho E F (k + 1) = some m ∧ Fits m 1026) := by have := hn1.out; rw [est] at this; exact this
            have hd : decide (0 < sgnM up) = false := decide_eq_false hs
            clear hn1 est hs HU FF HS nlA HPA sA HY HG
            generalize sgnM up = SG at *
            go_wp2_with (go_at_call 63; refine cS.mono ?_; rintro e w5 ⟨rfl, hb5⟩; have HR5 : Hid (w5.heap[g6]? = some (.cells #[.bool mb, .slice mo ml mc, .slice mr mm mz] 31) ∧ IsQ w5 (.agg #[.bool mb, .slice mo ml mc, .slice mr mm mz]) m) := ⟨box_kept HRA.out.1 hb5 (in_heap HRA.out.1), HRA.out.2.below hb5⟩; have HZ5 : Hid (w5.heap[w.heap.size]? = some (.cells #[.bool false, .slice none 0 0, .slice none 0 0] 31)) := box_kept HZA.out hb5 (in_heap HZA.out); have HB5 : Hid (Below w.heap.size w w5) := bt HBA.out hb5)
            go_roundw
            case rel => exact ⟨k + 1, mb, mo, ml, mc, mr, mm, mz, m, hlt, by go_num, Hn2, HR5, HZ5, HB5⟩
            case measure => simp only [intOf]; omega
    · obtain rfl : k = N := by omega
      have e1 : er = true := by rw [← ER.out.1, HS.out.1]; rfl
      have e2 : rr = m := by rw [← ER.out.2, HS.out.1]; rfl
      subst e1
      subst e2
      have x0 := cell_at HR.out.1
      have r0 : wr.cell? ⟨g6, 0, none⟩ = some (.bool mb) := x0 0 _ rfl
      have r1 : wr.cell? ⟨g6, 1, none⟩ = some (.slice mo ml mc) := x0 1 _ rfl
      have r2 : wr.cell? ⟨g6, 2, none⟩ = some (.slice mr mm mz) := x0 2 _ rfl
      have dd := cell_at HZ.out
      have d0 : wr.cell? ⟨w.heap.size, 0, none⟩ = some (.bool false) := dd 0 _ rfl
      have d1 : wr.cell? ⟨w.heap.size, 1, none⟩ = some (.slice none 0 0) := dd 1 _ rfl
      have d2 : wr.cell? ⟨w.heap.size, 2, none⟩ = some (.slice none 0 0) := dd 2 _ rfl
      have ff := nofreeze HZ.out
      clear x0 dd HS ER HC HE
      go_wp2
      have fin := QY.set HR.out.2 HZ.out
      have hB := sto3_below HB.out (Nat.le_refl _) (.bool mb) (.slice mo ml mc) (.slice mr mm mz)
      clear d0 d1 d2 ff HZ HB HR r0 r1 r2
      generalize World.setCell _ _ _ = W' at *
      have gg := cell_at fin.box
      have y0 : W'.cell? ⟨w.heap.size, 0, none⟩ = some (.bool mb) := gg 0 _ rfl
      have y1 : W'.cell? ⟨w.heap.size, 1, none⟩ = some (.slice mo ml mc) := gg 1 _ rfl
      have y2 : W'.cell? ⟨w.heap.size, 2, none⟩ = some (.slice mr mm mz) := gg 2 _ rfl
      refine bodyPost_ret (v := .tuple #[.agg #[.bool mb, .slice mo ml mc, .slice mr mm mz], .bool true]) ?_ rfl ?_
      · simp [results, go_sem, y0, y1, y2]
      · exact ⟨_, rfl, fin.is, hB⟩
end Go.Proofs.Ytdliookkkgobbaa.RdL

/- Layer 7: Choose and the reference's where the lists are not of one length. -/
namespace Go.Proofs.Ytdliookkkgobbaa.CnL
open Go.RowKit Mem LimbNum Limb1 NatL GcdA RatL RatM RatN RatF RatO MulN MulW MulL RefR RefT RefU InvL DivL QNum CmpL CmqL RefX RefY RefZ FloL Mk5 AddN JoinL AddW AddV AddR FldL SubL NmL DelL DelM DelB DaL DmL DcL Law5 Aw5 RcL RdL

set_option maxRecDepth 20000 in
set_option maxHeartbeats 2000000 in
theorem choose_ne (o1 o2 : Option Addr) (n1 c1 n2 c2 : Nat) (w : World) (h : n1 ≠ n2) :
    Calls Try.prog 35 #[.slice o1 n1 c1, .slice o2 n2 c2] w fun e w' => ∃ v, e = .returned (.tuple #[v, .int .i64 4]) ∧ IsR w' v (intM 0) ∧ Below w.heap.size w w' := by
  obtain ⟨W0, eW0, hb0, hk0⟩ := one_new w (.cells #[.bool false, .int .u64 0, .int .u64 0, .pointer none] 28)
  have EW : Hid (_ = W0) := eW0
  have dd := cell_at hk0
  have d0 : W0.cell? ⟨w.heap.size, 0, none⟩ = some (.bool false) := dd 0 _ rfl
  have d1 : W0.cell? ⟨w.heap.size, 1, none⟩ = some (.int .u64 0) := dd 1 _ rfl
  have d2 : W0.cell? ⟨w.heap.size, 2, none⟩ = some (.int .u64 0) := dd 2 _ rfl
  have d3 : W0.cell? ⟨w.heap.size, 3, none⟩ = some (.pointer none) := dd 3 _ rfl
  have ff := nofreeze hk0
  have HK : Hid (W0.heap[w.heap.size]? = some (.cells #[.bool false, .int .u64 0, .int .u64 0, .pointer none] 28)) := hk0
  have hne : ((n1 : Int) != (n2 : Int)) = true := by simp; omega
  clear eW0 dd hk0
  go_enter Try.func35, Try.ntmps35
  go_upto_region 1 with fail
  rw [EW.out]
  clear EW
  go_wp2
  have k2 := sto4_box HK.out (.bool false) (.int .u64 0) (.int .u64 0) (.pointer none)
  have hB := sto4_below hb0 (Nat.le_refl _) (.bool false) (.int .u64 0) (.int .u64 0) (.pointer none)
  clear d0 d1 d2 d3 ff HK hb0
  generalize World.setCell _ _ _ = W' at *
  have gg := cell_at k2
  have y0 : W'.cell? ⟨w.heap.size, 0, none⟩ = some (.bool false) := gg 0 _ rfl
  have y1 : W'.cell? ⟨w.heap.size, 1, none⟩ = some (.int .u64 0) := gg 1 _ rfl
  have y2 : W'.cell? ⟨w.heap.size, 2, none⟩ = some (.int .u64 0) := gg 2 _ rfl
  have y3 : W'.cell? ⟨w.heap.size, 3, none⟩ = some (.pointer none) := gg 3 _ rfl
  refine bodyPost_ret (v := .tuple #[.agg #[.bool false, .int .u64 0, .int .u64 0, .pointer none], .int .i64 4]) ?_ rfl ?_
  · simp [results, go_sem, y0, y1, y2, y3]
  · exact ⟨_, rfl, isR_zero _, hB⟩
set_option maxRecDepth 20000 in
set_option maxHeartbeats 2000000 in
theorem rchoose_ne (o1 o2 : Option Addr) (n1 c1 n2 c2 : Nat) (w : World) (h : n1 ≠ n2) :
    Calls Try.prog 36 #[.slice o1 n1 c1, .slice o2 n2 c2] w fun e w' => ∃ v, e = .returned (.tuple #[v, .bool false]) ∧ IsQ w' v (intM 0) ∧ Below w.heap.size w w' := by
  obtain ⟨W0, eW0, hb0, hk0⟩ := one_new w (.cells #[.bool false, .slice none 0 0, .slice none 0 0] 31)
  have EW : Hid (_ = W0) := eW0
  have HZ : Hid (W0.heap[w.heap.size]? = some (.cells #[.bool false, .slice none 0 0, .slice none 0 0] 31)) := hk0
  have hne : ((n1 : Int) != (n2 : Int)) = true := by simp; omega
  have cZ := q_int 0 W0 (by decide) (by decide)
  clear eW0 hk0
  go_enter Try.func36, Try.ntmps36
  go_upto_region 1 with fail
  rw [EW.out]
  clear EW
  go_wp2_with (go_at_call 28; refine cZ.mono ?_; rintro e w3 ⟨v3, rfl, R3, hb3⟩; obtain ⟨bq8, o8, l8, c8, r8, m8, z8, rfl⟩ := R3.shape3; have kk := box_kept HZ.out hb3 (in_heap HZ.out); have dd := cell_at kk; have d0 : w3.cell? ⟨w.heap.size, 0, none⟩ = some (.bool false) := dd 0 _ rfl; have d1 : w3.cell? ⟨w.heap.size, 1, none⟩ = some (.slice none 0 0) := dd 1 _ rfl; have d2 : w3.cell? ⟨w.heap.size, 2, none⟩ = some (.slice none 0 0) := dd 2 _ rfl; have ff := nofreeze kk; have HK : Hid (w3.heap[w.heap.size]? = some (.cells #[.bool false, .slice none 0 0, .slice none 0 0] 31)) := kk; clear kk dd)
  have fin := QY.set R3 HK.out
  have hB := sto3_below (bt hb0 hb3) (Nat.le_refl _) (.bool bq8) (.slice o8 l8 c8) (.slice r8 m8 z8)
  clear d0 d1 d2 ff HK R3
  generalize World.setCell _ _ _ = W' at *
  have gg := cell_at fin.box
  have y0 : W'.cell? ⟨w.heap.size, 0, none⟩ = some (.bool bq8) := gg 0 _ rfl
  have y1 : W'.cell? ⟨w.heap.size, 1, none⟩ = some (.slice o8 l8 c8) := gg 1 _ rfl
  have y2 : W'.cell? ⟨w.heap.size, 2, none⟩ = some (.slice r8 m8 z8) := gg 2 _ rfl
  refine bodyPost_ret (v := .tuple #[.agg #[.bool bq8, .slice o8 l8 c8, .slice r8 m8 z8], .bool false]) ?_ rfl ?_
  · simp [results, go_sem, y0, y1, y2]
  · exact ⟨_, rfl, fin.is, hB⟩
end Go.Proofs.Ytdliookkkgobbaa.CnL

/- Numbers as fractions, in Lean's own field: what the number that is chosen does. -/
namespace Go.Proofs.Ytdliookkkgobbaa.HoN
open Go.RowKit Mem LimbNum Limb1 NatL GcdA RatL RatM RatN RatF RatO MulN MulW MulL RefR RefT RefU InvL DivL QNum CmpL CmqL RefX RefY RefZ FloL Mk5 AddN JoinL AddW AddV AddR FldL SubL NmL DelL DelM DelB DaL DmL DcL Law5

theorem frac_eq {A D P Q g : Int} (h1 : A * g = P) (h2 : D * g = Q) (hQ : Q ≠ 0) : (A : Rat) / (D : Rat) = (P : Rat) / (Q : Rat) := by
  have hg : (g : Rat) ≠ 0 := by
    intro h; apply hQ; have : g = 0 := by exact_mod_cast h
    rw [← h2, this]; simp
  have hD : (D : Rat) ≠ 0 := by
    intro h; apply hQ; have : D = 0 := by exact_mod_cast h
    rw [← h2, this]; simp
  rw [← h1, ← h2]
  simp only [Rat.intCast_mul]
  grind
theorem f_add {a b c d : Rat} (hb : b ≠ 0) (hd : d ≠ 0) : a / b + c / d = (a * d + c * b) / (b * d) := by grind
theorem f_mul {a b c d : Rat} (hb : b ≠ 0) (hd : d ≠ 0) : a / b * (c / d) = (a * c) / (b * d) := by grind
theorem f_lt {a b c d : Rat} (hb : 0 < b) (hd : 0 < d) : a / b < c / d ↔ a * d < c * b := by
  have e1 : a = a / b * b := by grind
  have e2 : c = c / d * d := by grind
  generalize a / b = x at *
  generalize c / d = y at *
  subst e1 e2
  have h : 0 < b * d := Rat.mul_pos hb hd
  constructor
  · intro h1
    have := Rat.mul_lt_mul_of_pos_right h1 h
    grind
  · intro h1
    apply Rat.not_le.mp
    intro h2
    have := Rat.mul_le_mul_of_nonneg_right h2 (Rat.le_of_lt h)
    grind
/-- The number's value. -/
def vq (p : Nm) : Rat := ((sv p.b p.n : Int) : Rat) / (((p.d : Nat) : Int) : Rat)
theorem dpos {p : Nm} (h : 0 < p.d) : (0 : Rat) < (((p.d : Nat) : Int) : Rat) := by
  have : (0 : Int) < ((p.d : Nat) : Int) := by omega
  exact_mod_cast this
theorem dne {p : Nm} (h : 0 < p.d) : (((p.d : Nat) : Int) : Rat) ≠ 0 := by have := dpos h; grind
theorem vq_add {p q : Nm} (hp : 0 < p.d) (hq : 0 < q.d) : vq (addM p q) = vq p + vq q := by
  obtain ⟨g, e1, e2⟩ := add_val p.b q.b p.n p.d q.n q.d
  have e3 : (((addM p q).d : Nat) : Int) * (g : Int) = (p.d : Int) * (q.d : Int) := by
    rw [← Int.natCast_mul, ← Int.natCast_mul]; exact congrArg _ e2
  have e1' : sv (addM p q).b (addM p q).n * (g : Int) = sv p.b p.n * (q.d : Int) + sv q.b q.n * (p.d : Int) := e1
  unfold vq
  rw [f_add (dne hp) (dne hq), frac_eq e1' e3 (Int.ne_of_gt (Int.mul_pos (by omega) (by omega)))]
  simp only [Rat.intCast_mul, Rat.intCast_add]
theorem vq_mul {p q : Nm} (hp : 0 < p.d) (hq : 0 < q.d) : vq (mulM p q) = vq p * vq q := by
  obtain ⟨g, e1, e2⟩ := mul_val p.b q.b p.n p.d q.n q.d
  have e3 : (((mulM p q).d : Nat) : Int) * (g : Int) = (p.d : Int) * (q.d : Int) := by
    rw [← Int.natCast_mul, ← Int.natCast_mul]; exact congrArg _ e2
  have e1' : sv (mulM p q).b (mulM p q).n * (g : Int) = sv p.b p.n * sv q.b q.n := e1
  unfold vq
  rw [f_mul (dne hp) (dne hq), frac_eq e1' e3 (Int.ne_of_gt (Int.mul_pos (by omega) (by omega)))]
  simp only [Rat.intCast_mul]
theorem sv_negM (p : Nm) : sv (negM p).b (negM p).n = - sv p.b p.n := by
  unfold negM
  rw [sv_flag]
  unfold sv
  cases p.b <;> simp
theorem vq_neg (p : Nm) : vq (negM p) = - vq p := by
  unfold vq
  rw [sv_negM]
  show ((-sv p.b p.n : Int) : Rat) / (((p.d : Nat) : Int) : Rat) = _
  rw [Rat.intCast_neg]
  grind
theorem cmp_lt {p q : Nm} (hp : 0 < p.d) (hq : 0 < q.d) : 0 < cmpM p q ↔ vq q < vq p := by
  have e : cmpM p q = cmpI (sv p.b p.n * (q.d : Int)) (sv q.b q.n * (p.d : Int)) := by
    unfold cmpM cmpQ; rw [sv_mul, sv_mul]
  have l : vq q < vq p ↔ sv q.b q.n * (p.d : Int) < sv p.b p.n * (q.d : Int) := by
    unfold vq
    rw [f_lt (dpos hq) (dpos hp), ← Rat.intCast_mul, ← Rat.intCast_mul, Rat.intCast_lt_intCast]
  rw [e, l]
  unfold cmpI
  split
  · omega
  · split <;> omega
theorem cmp_eq {p q : Nm} (hp : 0 < p.d) (hq : 0 < q.d) : cmpM p q = 0 ↔ vq p = vq q := by
  have e : ∀ x y : Nm, cmpM x y = cmpI (sv x.b x.n * (y.d : Int)) (sv y.b y.n * (x.d : Int)) := by
    intro x y; unfold cmpM cmpQ; rw [sv_mul, sv_mul]
  have h1 := cmp_lt hp hq
  have h2 := cmp_lt hq hp
  rw [e] at h1 h2 ⊢
  have h3 : vq p = vq q ↔ ¬ vq q < vq p ∧ ¬ vq p < vq q := by
    constructor
    · intro h; grind
    · intro h; grind
  rw [h3, ← h1, ← h2]
  unfold cmpI
  split <;> split <;> (try split) <;> omega
theorem sgn_lt {p : Nm} (hp : 0 < p.d) : 0 < sgnM p ↔ 0 < vq p := by
  have l : (0 : Rat) < vq p ↔ 0 < sv p.b p.n := by
    have e0 : (0 : Rat) = ((0 : Int) : Rat) / ((1 : Int) : Rat) := by decide +kernel
    unfold vq
    rw [e0, f_lt (by decide +kernel) (dpos hp), ← Rat.intCast_mul, ← Rat.intCast_mul, Rat.intCast_lt_intCast]
    simp
  rw [l]
  unfold sgnM sgn sv
  split
  · simp_all
  · cases p.b <;> simp <;> omega
theorem vq_inv {p : Nm} (hp : 0 < p.d) (h : 0 < sgnM p) : vq (invM p) = (vq p)⁻¹ := by
  have hn : 0 < p.n := by have := sgn_nz h; omega
  have hb : p.b = false := by
    unfold sgnM sgn at h
    rw [if_neg (by omega)] at h
    revert h
    cases p.b <;> simp
  have d1 : (((p.d : Nat) : Int) : Rat) ≠ 0 := dne hp
  have d2 : (((p.n : Nat) : Int) : Rat) ≠ 0 := by
    intro e
    have : ((p.n : Nat) : Int) = 0 := by exact_mod_cast e
    omega
  unfold vq invM sv
  simp only [hb, Bool.false_eq_true, if_false]
  grind
theorem vq_min {m x : Nm} (hm : 0 < m.d) (hx : 0 < x.d) : 0 < (minM m x).d ∧ (vq (minM m x) = vq m ∨ vq (minM m x) = vq x) ∧ vq (minM m x) ≤ vq m ∧ vq (minM m x) ≤ vq x := by
  have h := cmp_lt hm hx
  unfold minM
  split
  · rename_i hc
    have := h.mp hc
    exact ⟨hx, .inr rfl, by grind, by grind⟩
  · rename_i hc
    have : ¬ vq x < vq m := fun e => hc (h.mpr e)
    exact ⟨hm, .inl rfl, by grind, by grind⟩
theorem d_add {p q : Nm} (hp : 0 < p.d) (hq : 0 < q.d) : 0 < (addM p q).d :=
  Nat.div_pos (Nat.le_of_dvd (Nat.mul_pos hp hq) (Nat.gcd_dvd_right _ _)) (Nat.gcd_pos_of_pos_right _ (Nat.mul_pos hp hq))
theorem d_mul {p q : Nm} (hp : 0 < p.d) (hq : 0 < q.d) : 0 < (mulM p q).d :=
  Nat.div_pos (Nat.le_of_dvd (Nat.mul_pos hp hq) (Nat.gcd_dvd_right _ _)) (Nat.gcd_pos_of_pos_right _ (Nat.mul_pos hp hq))
/-- The pair stays in order up to m. -/
def Ok (p q : Nm × Nm) (m : Rat) : Prop := vq p.1 ≤ vq q.1 ∧ (0 < vq p.2 - vq q.2 → m * (vq p.2 - vq q.2) ≤ vq q.1 - vq p.1)
/-- The pair meets just at m. -/
def At (p q : Nm × Nm) (m : Rat) : Prop := 0 < vq p.2 - vq q.2 ∧ m * (vq p.2 - vq q.2) = vq q.1 - vq p.1
theorem vq_one : vq (intM 1) = 1 := by decide +kernel
theorem step_holds {m : Nm} {p q : Nm × Nm} (hp : 0 < p.1.d ∧ 0 < p.2.d) (hq : 0 < q.1.d ∧ 0 < q.2.d) (hm : 0 < m.d) (h0 : 0 < vq m) (hc : ¬ 0 < cmpD p.1 p.2 q.1 q.2) :
    0 < (stepM m p q).d ∧ 0 < vq (stepM m p q) ∧ vq (stepM m p q) ≤ vq m ∧ Ok p q (vq (stepM m p q)) ∧ (vq (stepM m p q) = vq m ∨ At p q (vq (stepM m p q))) := by
  have c1 := cmp_lt hp.1 hq.1
  have c2 := cmp_lt hp.2 hq.2
  have c3 := cmp_eq hp.1 hq.1
  have hle : vq p.1 ≤ vq q.1 ∧ (vq p.1 = vq q.1 → vq p.2 ≤ vq q.2) := by
    unfold cmpD at hc
    by_cases e : cmpM p.1 q.1 = 0
    · rw [if_pos e, c2] at hc
      have := c3.mp e
      exact ⟨by grind, fun _ => by grind⟩
    · rw [if_neg e, c1] at hc
      exact ⟨by grind, fun h => absurd (c3.mpr h) e⟩
  have hud : 0 < (upM p q).d := d_add hp.2 hq.2
  have hu : vq (upM p q) = vq p.2 - vq q.2 := by
    unfold upM
    rw [vq_add hp.2 (show 0 < (negM q.2).d from hq.2), vq_neg]
    grind
  unfold stepM
  by_cases hs : 0 < sgnM (upM p q)
  · rw [if_pos hs]
    have hup := (sgn_lt hud).mp hs
    have hn := sgn_nz hs
    have had : 0 < (addM q.1 (negM p.1)).d := d_add hq.1 (show 0 < (negM p.1).d from hp.1)
    have hid : 0 < (invM (upM p q)).d := by show 0 < (upM p q).n; omega
    have hqd : 0 < (quoM p q).d := d_mul had hid
    have hqv : vq (quoM p q) * (vq p.2 - vq q.2) = vq q.1 - vq p.1 := by
      unfold quoM
      rw [vq_mul had hid, vq_inv hud hs, vq_add hq.1 (show 0 < (negM p.1).d from hp.1), vq_neg, ← hu]
      have : vq (upM p q) ≠ 0 := by grind
      grind
    obtain ⟨m1, m2, m3, m4⟩ := vq_min hm hqd
    have hlt : 0 < vq q.1 - vq p.1 := by
      have : ¬ vq p.1 = vq q.1 := fun e => by have := hle.2 e; grind
      grind
    have hq0 : 0 < vq (quoM p q) := by
      apply Rat.not_le.mp
      intro h
      have := Rat.mul_le_mul_of_nonneg_right h (show 0 ≤ vq p.2 - vq q.2 by grind)
      grind
    refine ⟨m1, by grind, m3, ⟨hle.1, fun _ => ?_⟩, ?_⟩
    · have := Rat.mul_le_mul_of_nonneg_right m4 (show 0 ≤ vq p.2 - vq q.2 by grind)
      grind
    · rcases m2 with e | e
      · exact .inl e
      · refine .inr ⟨by grind, ?_⟩
        rw [e]; exact hqv
  · rw [if_neg hs]
    have : ¬ 0 < vq (upM p q) := fun e => hs ((sgn_lt hud).mpr e)
    exact ⟨hm, h0, by grind, ⟨hle.1, fun h => by grind⟩, .inl rfl⟩
theorem ok_less {p q : Nm × Nm} {a b : Rat} (h : Ok p q a) (hl : b ≤ a) : Ok p q b := by
  refine ⟨h.1, fun h2 => ?_⟩
  have := Rat.mul_le_mul_of_nonneg_right hl (Rat.le_of_lt h2)
  have := h.2 h2
  grind
theorem cho_holds {E F : Nat → Nm × Nm} {N : Nat} (hE : ∀ k, k < N → 0 < (E k).1.d ∧ 0 < (E k).2.d) (hF : ∀ k, k < N → 0 < (F k).1.d ∧ 0 < (F k).2.d) (n : Nat) (hn : n ≤ N) :
    ∀ m, cho E F n = some m → 0 < m.d ∧ 0 < vq m ∧ vq m ≤ 1 ∧ (∀ k, k < n → Ok (E k) (F k) (vq m)) ∧ (vq m = 1 ∨ ∃ k, k < n ∧ At (E k) (F k) (vq m)) := by
  induction n with
  | zero =>
    intro m h
    simp only [cho, Option.some.injEq] at h
    subst h
    rw [vq_one]
    exact ⟨by simp [intM], by decide, by decide, fun k hk => absurd hk (by omega), .inl rfl⟩
  | succ n ih =>
    intro m h
    cases hc : cho E F n with
    | none => simp [cho, hc] at h
    | some m' =>
      by_cases hp : 0 < cmpD (E n).1 (E n).2 (F n).1 (F n).2
      · rw [cho_stop hc hp] at h; cases h
      · rw [cho_some hc hp] at h
        obtain rfl := Option.some.inj h
        obtain ⟨i1, i2, i3, i4, i5⟩ := ih (by omega) m' hc
        obtain ⟨s1, s2, s3, s4, s5⟩ := step_holds (hE n (by omega)) (hF n (by omega)) i1 i2 hp
        refine ⟨s1, s2, by grind, fun k hk => ?_, ?_⟩
        · by_cases e : k = n
          · rw [e]; exact s4
          · exact ok_less (i4 k (by omega)) s3
        · rcases s5 with e | e
          · rcases i5 with e2 | ⟨k, hk, e2⟩
            · exact .inl (by rw [e, e2])
            · exact .inr ⟨k, by omega, by rw [e]; exact e2⟩
          · exact .inr ⟨n, by omega, e⟩
/-- The pair's value at a number, as the program reckons it. -/
def atM (p : Nm × Nm) (e : Nm) : Nm := addM p.1 (mulM p.2 e)
theorem vq_at {p : Nm × Nm} {e : Nm} (hp : 0 < p.1.d ∧ 0 < p.2.d) (he : 0 < e.d) : 0 < (atM p e).d ∧ vq (atM p e) = vq p.1 + vq p.2 * vq e := by
  have := d_mul hp.2 he
  refine ⟨d_add hp.1 this, ?_⟩
  unfold atM
  rw [vq_add hp.1 this, vq_mul hp.2 he]
theorem at_le {p q : Nm × Nm} {e : Nm} (hp : 0 < p.1.d ∧ 0 < p.2.d) (hq : 0 < q.1.d ∧ 0 < q.2.d) (he : 0 < e.d) (h0 : 0 ≤ vq e) (h : Ok p q (vq e)) : ¬ 0 < cmpM (atM p e) (atM q e) := by
  obtain ⟨a1, a2⟩ := vq_at hp he
  obtain ⟨b1, b2⟩ := vq_at hq he
  rw [cmp_lt a1 b1, a2, b2]
  obtain ⟨h1, h2⟩ := h
  intro hlt
  by_cases hs : 0 < vq p.2 - vq q.2
  · have := h2 hs; grind
  · have := Rat.mul_le_mul_of_nonneg_right (show vq p.2 ≤ vq q.2 by grind) h0
    grind
theorem at_gt {p q : Nm × Nm} {e : Nm} {m : Rat} (hp : 0 < p.1.d ∧ 0 < p.2.d) (hq : 0 < q.1.d ∧ 0 < q.2.d) (he : 0 < e.d) (hm : m < vq e) (h : At p q m) : 0 < cmpM (atM p e) (atM q e) := by
  obtain ⟨a1, a2⟩ := vq_at hp he
  obtain ⟨b1, b2⟩ := vq_at hq he
  rw [cmp_lt a1 b1, a2, b2]
  obtain ⟨h1, h2⟩ := h
  have := Rat.mul_lt_mul_of_pos_right hm h1
  grind
def halfM : Nm := ⟨false, 1, 2⟩
theorem vq_half : vq halfM = 1 / 2 := by decide +kernel
def absM (p : Nm) : Nm := ⟨false, p.n, p.d⟩
theorem vq_abs {p : Nm} (hp : 0 < p.d) : 0 ≤ vq (absM p) ∧ (p.n ≠ 0 → 0 < vq (absM p)) := by
  have h := sgn_lt (p := absM p) hp
  have e : sgnM (absM p) = if p.n = 0 then 0 else 1 := by unfold sgnM sgn absM; simp
  rw [e] at h
  by_cases hn : p.n = 0
  · refine ⟨?_, fun h2 => absurd hn h2⟩
    unfold vq absM sv
    simp only [hn]
    simp
    grind
  · rw [if_neg hn] at h
    have := h.mp (by decide)
    exact ⟨by grind, fun _ => this⟩
/-- With the number that is chosen and with its half each pair is in order. -/
theorem low_ok {E F : Nat → Nm × Nm} {n : Nat} (hE : ∀ k, k < n → 0 < (E k).1.d ∧ 0 < (E k).2.d) (hF : ∀ k, k < n → 0 < (F k).1.d ∧ 0 < (F k).2.d) {m : Nm} (h : cho E F n = some m) :
    0 < sgnM m ∧ ∀ k, k < n → ¬ 0 < cmpM (atM (E k) m) (atM (F k) m) ∧ ¬ 0 < cmpM (atM (E k) (mulM m halfM)) (atM (F k) (mulM m halfM)) := by
  obtain ⟨s1, s2, s3, s4, s5⟩ := cho_holds hE hF n (Nat.le_refl _) m h
  refine ⟨(sgn_lt s1).mpr s2, fun k hk => ⟨at_le (hE k hk) (hF k hk) s1 (by grind) (s4 k hk), ?_⟩⟩
  have e : vq (mulM m halfM) = vq m * (1 / 2) := by rw [vq_mul s1 (by decide), vq_half]
  refine at_le (hE k hk) (hF k hk) (d_mul s1 (by decide)) (by rw [e]; grind) (ok_less (s4 k hk) (by rw [e]; grind))
/-- With a greater one up to 1 some is not. -/
theorem big_no {E F : Nat → Nm × Nm} {n : Nat} (hE : ∀ k, k < n → 0 < (E k).1.d ∧ 0 < (E k).2.d) (hF : ∀ k, k < n → 0 < (F k).1.d ∧ 0 < (F k).2.d) {m u : Nm} (h : cho E F n = some m) (hu : 0 < u.d) (hn : u.n ≠ 0) (h1 : ¬ 0 < cmpM (addM m (absM u)) (intM 1)) :
    ∃ k, k < n ∧ 0 < cmpM (atM (E k) (addM m (absM u))) (atM (F k) (addM m (absM u))) := by
  obtain ⟨s1, s2, s3, s4, s5⟩ := cho_holds hE hF n (Nat.le_refl _) m h
  have ua := (vq_abs hu).2 hn
  have e : vq (addM m (absM u)) = vq m + vq (absM u) := vq_add s1 hu
  have hd : 0 < (addM m (absM u)).d := d_add s1 hu
  rw [cmp_lt hd (by simp [intM]), vq_one, e] at h1
  rcases s5 with e1 | ⟨k, hk, hA⟩
  · exfalso; grind
  · exact ⟨k, hk, at_gt (hE k hk) (hF k hk) hd (by rw [e]; grind) hA⟩
end Go.Proofs.Ytdliookkkgobbaa.HoN
