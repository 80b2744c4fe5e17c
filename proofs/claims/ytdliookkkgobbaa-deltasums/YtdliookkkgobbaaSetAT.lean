/- DeltaSums: the walk. -/
import Derived.Test.YtdliookkkgobbaaSetAS
namespace Go.Proofs.Ytdliookkkgobbaa.DsW
open Go.RowKit Mem LimbNum Limb1 NatL GcdA RatL RatM RatN RatF RatO MulN MulW MulL RefR RefT RefU InvL DivL QNum CmpL CmqL RefX RefY RefZ FloL Mk5 AddN JoinL AddW AddV AddR FldL SubL NmL DelL DelM DelB DaL Law5 Aw5

theorem IsE.parts {w : World} {p q : Nm} {bq1 : Bool} {o1 r1 : Option Addr} {l1 c1 m1 z1 : Nat} {bq2 : Bool} {o2 r2 : Option Addr} {l2 c2 m2 z2 : Nat} (h : IsE w (.agg #[.bool bq1, .slice o1 l1 c1, .slice r1 m1 z1, .bool bq2, .slice o2 l2 c2, .slice r2 m2 z2]) p q) : IsQ w (.agg #[.bool bq1, .slice o1 l1 c1, .slice r1 m1 z1]) p ∧ IsQ w (.agg #[.bool bq2, .slice o2 l2 c2, .slice r2 m2 z2]) q := by
  obtain ⟨_, _, _, _, _, _, _, _, _, _, _, _, _, _, e, h1, h2⟩ := h
  simp only [Value.agg.injEq, Array.mk.injEq, List.cons.injEq, Value.bool.injEq, Value.slice.injEq, and_true] at e
  obtain ⟨rfl, ⟨rfl, rfl, rfl⟩, ⟨rfl, rfl, rfl⟩, rfl, ⟨rfl, rfl, rfl⟩, rfl, rfl, rfl⟩ := e
  exact ⟨h1, h2⟩
theorem keepS {W W' : World} {g0x g0p g1x g1p g2x g2p : Nat} {b1 bq1 : Bool} {A1 L1 : Int} {p1 o1 r1 : Option Addr} {l1 c1 m1 z1 : Nat} {b2 bq2 : Bool} {A2 L2 : Int} {p2 o2 r2 : Option Addr} {l2 c2 m2 z2 : Nat} {b3 bq3 : Bool} {A3 L3 : Int} {p3 o3 r3 : Option Addr} {l3 c3 m3 z3 : Nat} {b4 bq4 : Bool} {A4 L4 : Int} {p4 o4 r4 : Option Addr} {l4 c4 m4 z4 : Nat} {b5 bq5 : Bool} {A5 L5 : Int} {p5 o5 r5 : Option Addr} {l5 c5 m5 z5 : Nat} (hb : Below W.heap.size W W') (H : W.cell? ⟨g0x, 0, none⟩ = some (.bool b1) ∧ W.cell? ⟨g0x, 1, none⟩ = some (.int .u64 A1) ∧ W.cell? ⟨g0x, 2, none⟩ = some (.int .u64 L1) ∧ W.cell? ⟨g0x, 3, none⟩ = some (.pointer p1) ∧ W.cell? ⟨g0x, 4, none⟩ = some (.bool b2) ∧ W.cell? ⟨g0x, 5, none⟩ = some (.int .u64 A2) ∧ W.cell? ⟨g0x, 6, none⟩ = some (.int .u64 L2) ∧ W.cell? ⟨g0x, 7, none⟩ = some (.pointer p2) ∧ W.cell? ⟨g0p, 0, none⟩ = some (.bool bq1) ∧ W.cell? ⟨g0p, 1, none⟩ = some (.slice o1 l1 c1) ∧ W.cell? ⟨g0p, 2, none⟩ = some (.slice r1 m1 z1) ∧ W.cell? ⟨g0p, 3, none⟩ = some (.bool bq2) ∧ W.cell? ⟨g0p, 4, none⟩ = some (.slice o2 l2 c2) ∧ W.cell? ⟨g0p, 5, none⟩ = some (.slice r2 m2 z2) ∧ W.cell? ⟨g1x, 0, none⟩ = some (.bool b3) ∧ W.cell? ⟨g1x, 1, none⟩ = some (.int .u64 A3) ∧ W.cell? ⟨g1x, 2, none⟩ = some (.int .u64 L3) ∧ W.cell? ⟨g1x, 3, none⟩ = some (.pointer p3) ∧ W.cell? ⟨g1x, 4, none⟩ = some (.bool b4) ∧ W.cell? ⟨g1x, 5, none⟩ = some (.int .u64 A4) ∧ W.cell? ⟨g1x, 6, none⟩ = some (.int .u64 L4) ∧ W.cell? ⟨g1x, 7, none⟩ = some (.pointer p4) ∧ W.cell? ⟨g1p, 0, none⟩ = some (.bool bq3) ∧ W.cell? ⟨g1p, 1, none⟩ = some (.slice o3 l3 c3) ∧ W.cell? ⟨g1p, 2, none⟩ = some (.slice r3 m3 z3) ∧ W.cell? ⟨g1p, 3, none⟩ = some (.bool bq4) ∧ W.cell? ⟨g1p, 4, none⟩ = some (.slice o4 l4 c4) ∧ W.cell? ⟨g1p, 5, none⟩ = some (.slice r4 m4 z4) ∧ W.cell? ⟨g2x, 0, none⟩ = some (.bool b5) ∧ W.cell? ⟨g2x, 1, none⟩ = some (.int .u64 A5) ∧ W.cell? ⟨g2x, 2, none⟩ = some (.int .u64 L5) ∧ W.cell? ⟨g2x, 3, none⟩ = some (.pointer p5) ∧ W.cell? ⟨g2p, 0, none⟩ = some (.bool bq5) ∧ W.cell? ⟨g2p, 1, none⟩ = some (.slice o5 l5 c5) ∧ W.cell? ⟨g2p, 2, none⟩ = some (.slice r5 m5 z5)) : W'.cell? ⟨g0x, 0, none⟩ = some (.bool b1) ∧ W'.cell? ⟨g0x, 1, none⟩ = some (.int .u64 A1) ∧ W'.cell? ⟨g0x, 2, none⟩ = some (.int .u64 L1) ∧ W'.cell? ⟨g0x, 3, none⟩ = some (.pointer p1) ∧ W'.cell? ⟨g0x, 4, none⟩ = some (.bool b2) ∧ W'.cell? ⟨g0x, 5, none⟩ = some (.int .u64 A2) ∧ W'.cell? ⟨g0x, 6, none⟩ = some (.int .u64 L2) ∧ W'.cell? ⟨g0x, 7, none⟩ = some (.pointer p2) ∧ W'.cell? ⟨g0p, 0, none⟩ = some (.bool bq1) ∧ W'.cell? ⟨g0p, 1, none⟩ = some (.slice o1 l1 c1) ∧ W'.cell? ⟨g0p, 2, none⟩ = some (.slice r1 m1 z1) ∧ W'.cell? ⟨g0p, 3, none⟩ = some (.bool bq2) ∧ W'.cell? ⟨g0p, 4, none⟩ = some (.slice o2 l2 c2) ∧ W'.cell? ⟨g0p, 5, none⟩ = some (.slice r2 m2 z2) ∧ W'.cell? ⟨g1x, 0, none⟩ = some (.bool b3) ∧ W'.cell? ⟨g1x, 1, none⟩ = some (.int .u64 A3) ∧ W'.cell? ⟨g1x, 2, none⟩ = some (.int .u64 L3) ∧ W'.cell? ⟨g1x, 3, none⟩ = some (.pointer p3) ∧ W'.cell? ⟨g1x, 4, none⟩ = some (.bool b4) ∧ W'.cell? ⟨g1x, 5, none⟩ = some (.int .u64 A4) ∧ W'.cell? ⟨g1x, 6, none⟩ = some (.int .u64 L4) ∧ W'.cell? ⟨g1x, 7, none⟩ = some (.pointer p4) ∧ W'.cell? ⟨g1p, 0, none⟩ = some (.bool bq3) ∧ W'.cell? ⟨g1p, 1, none⟩ = some (.slice o3 l3 c3) ∧ W'.cell? ⟨g1p, 2, none⟩ = some (.slice r3 m3 z3) ∧ W'.cell? ⟨g1p, 3, none⟩ = some (.bool bq4) ∧ W'.cell? ⟨g1p, 4, none⟩ = some (.slice o4 l4 c4) ∧ W'.cell? ⟨g1p, 5, none⟩ = some (.slice r4 m4 z4) ∧ W'.cell? ⟨g2x, 0, none⟩ = some (.bool b5) ∧ W'.cell? ⟨g2x, 1, none⟩ = some (.int .u64 A5) ∧ W'.cell? ⟨g2x, 2, none⟩ = some (.int .u64 L5) ∧ W'.cell? ⟨g2x, 3, none⟩ = some (.pointer p5) ∧ W'.cell? ⟨g2p, 0, none⟩ = some (.bool bq5) ∧ W'.cell? ⟨g2p, 1, none⟩ = some (.slice o5 l5 c5) ∧ W'.cell? ⟨g2p, 2, none⟩ = some (.slice r5 m5 z5) := by
  have kc : ∀ {p : Addr} {v : Value}, W.cell? p = some v → W'.cell? p = some v := fun {p v} h => by rw [hb.cell (World.block_lt_of_cell? W p h)]; exact h
  exact ⟨kc H.1, kc H.2.1, kc H.2.2.1, kc H.2.2.2.1, kc H.2.2.2.2.1, kc H.2.2.2.2.2.1, kc H.2.2.2.2.2.2.1, kc H.2.2.2.2.2.2.2.1, kc H.2.2.2.2.2.2.2.2.1, kc H.2.2.2.2.2.2.2.2.2.1, kc H.2.2.2.2.2.2.2.2.2.2.1, kc H.2.2.2.2.2.2.2.2.2.2.2.1, kc H.2.2.2.2.2.2.2.2.2.2.2.2.1, kc H.2.2.2.2.2.2.2.2.2.2.2.2.2.1, kc H.2.2.2.2.2.2.2.2.2.2.2.2.2.2.1, kc H.2.2.2.2.2.2.2.2.2.2.2.2.2.2.2.1, kc H.2.2.2.2.2.2.2.2.2.2.2.2.2.2.2.2.1, kc H.2.2.2.2.2.2.2.2.2.2.2.2.2.2.2.2.2.1, kc H.2.2.2.2.2.2.2.2.2.2.2.2.2.2.2.2.2.2.1, kc H.2.2.2.2.2.2.2.2.2.2.2.2.2.2.2.2.2.2.2.1, kc H.2.2.2.2.2.2.2.2.2.2.2.2.2.2.2.2.2.2.2.2.1, kc H.2.2.2.2.2.2.2.2.2.2.2.2.2.2.2.2.2.2.2.2.2.1, kc H.2.2.2.2.2.2.2.2.2.2.2.2.2.2.2.2.2.2.2.2.2.2.1, kc H.2.2.2.2.2.2.2.2.2.2.2.2.2.2.2.2.2.2.2.2.2.2.2.1, kc H.2.2.2.2.2.2.2.2.2.2.2.2.2.2.2.2.2.2.2.2.2.2.2.2.1, kc H.2.2.2.2.2.2.2.2.2.2.2.2.2.2.2.2.2.2.2.2.2.2.2.2.2.1, kc H.2.2.2.2.2.2.2.2.2.2.2.2.2.2.2.2.2.2.2.2.2.2.2.2.2.2.1, kc H.2.2.2.2.2.2.2.2.2.2.2.2.2.2.2.2.2.2.2.2.2.2.2.2.2.2.2.1, kc H.2.2.2.2.2.2.2.2.2.2.2.2.2.2.2.2.2.2.2.2.2.2.2.2.2.2.2.2.1, kc H.2.2.2.2.2.2.2.2.2.2.2.2.2.2.2.2.2.2.2.2.2.2.2.2.2.2.2.2.2.1, kc H.2.2.2.2.2.2.2.2.2.2.2.2.2.2.2.2.2.2.2.2.2.2.2.2.2.2.2.2.2.2.1, kc H.2.2.2.2.2.2.2.2.2.2.2.2.2.2.2.2.2.2.2.2.2.2.2.2.2.2.2.2.2.2.2.1, kc H.2.2.2.2.2.2.2.2.2.2.2.2.2.2.2.2.2.2.2.2.2.2.2.2.2.2.2.2.2.2.2.2.1, kc H.2.2.2.2.2.2.2.2.2.2.2.2.2.2.2.2.2.2.2.2.2.2.2.2.2.2.2.2.2.2.2.2.2.1, kc H.2.2.2.2.2.2.2.2.2.2.2.2.2.2.2.2.2.2.2.2.2.2.2.2.2.2.2.2.2.2.2.2.2.2⟩
set_option maxRecDepth 20000 in
set_option maxHeartbeats 8000000 in
theorem law (xx0 yy0 : Bool) (SA0 SB0 SC0 SE0 : Value) (xx1 yy1 : Bool) (SA1 SB1 SC1 SE1 : Value) (xx2 : Bool) (SA2 SB2 : Value) (w : World)
    (cB0 : ∀ W, Below w.heap.size w W → Calls Try.prog 17 #[.agg #[.bool xx0, SA0, SB0, .bool yy0, SC0, SE0]] W fun e w' => ∃ v q p1 p2, e = .returned (.tuple #[v, q]) ∧ IsD w' v p1 p2 ∧ IsE w' q p1 p2 ∧ Fits p1 256 ∧ Fits p2 256 ∧ Below W.heap.size W w')
    (cB1 : ∀ W, Below w.heap.size w W → Calls Try.prog 17 #[.agg #[.bool xx1, SA1, SB1, .bool yy1, SC1, SE1]] W fun e w' => ∃ v q p1 p2, e = .returned (.tuple #[v, q]) ∧ IsD w' v p1 p2 ∧ IsE w' q p1 p2 ∧ Fits p1 256 ∧ Fits p2 256 ∧ Below W.heap.size W w')
    (cB2 : ∀ W, Below w.heap.size w W → Calls Try.prog 8 #[.agg #[.bool xx2, SA2, SB2]] W fun e w' => ∃ v q p, e = .returned (.tuple #[v, q]) ∧ IsR w' v p ∧ IsQ w' q p ∧ Fits p 256 ∧ Below W.heap.size W w') :
    Calls Try.prog 4 #[.agg #[.bool xx0, SA0, SB0, .bool yy0, SC0, SE0], .agg #[.bool xx1, SA1, SB1, .bool yy1, SC1, SE1], .agg #[.bool xx2, SA2, SB2]] w fun e w' => e = .returned (.bool true) ∧ Below w.heap.size w w' := by
  obtain ⟨W0, eW0, hb0, k0, k1, k2⟩ := three_new w (.cells #[.bool xx0, SA0, SB0, .bool yy0, SC0, SE0] 47) (.cells #[.bool xx1, SA1, SB1, .bool yy1, SC1, SE1] 47) (.cells #[.bool xx2, SA2, SB2] 24)
  have e0 := cell_at k0
  have ha0 : W0.cell? ⟨w.heap.size, 0, none⟩ = some (.bool xx0) := e0 0 _ rfl
  have ha1 : W0.cell? ⟨w.heap.size, 1, none⟩ = some (SA0) := e0 1 _ rfl
  have ha2 : W0.cell? ⟨w.heap.size, 2, none⟩ = some (SB0) := e0 2 _ rfl
  have ha3 : W0.cell? ⟨w.heap.size, 3, none⟩ = some (.bool yy0) := e0 3 _ rfl
  have ha4 : W0.cell? ⟨w.heap.size, 4, none⟩ = some (SC0) := e0 4 _ rfl
  have ha5 : W0.cell? ⟨w.heap.size, 5, none⟩ = some (SE0) := e0 5 _ rfl
  have HK1 : Hid (W0.heap[w.heap.size + 1]? = some (.cells #[.bool xx1, SA1, SB1, .bool yy1, SC1, SE1] 47)) := k1
  have HK2 : Hid (W0.heap[w.heap.size + 1 + 1]? = some (.cells #[.bool xx2, SA2, SB2] 24)) := k2
  have EW : Hid (_ = W0) := eW0
  have C0 : Hid (Below w.heap.size w W0) := hb0
  have cc := cB0 W0 hb0
  clear eW0 e0 k0 k1 k2 cB0 hb0
  go_enter Try.func4, Try.ntmps4
  go_upto_region 1 with fail
  rw [EW.out]
  clear EW
  go_upto_region 2 with (go_at_call 17; refine cc.mono ?_; rintro e w1 ⟨v, y, q1, q2, rfl, RR, QQ, F1, F2, hb⟩; obtain ⟨b1, A1, L1, p1, b2, A2, L2, p2, rfl, _, _⟩ := id RR; obtain ⟨bq1, o1, l1, c1, r1, m1, z1, bq2, o2, l2, c2, r2, m2, z2, rfl, _, _⟩ := id QQ)
  obtain ⟨W1, eW, B, kx, kp⟩ := two_new w1 (.cells #[.bool b1, .int .u64 A1, .int .u64 L1, .pointer p1, .bool b2, .int .u64 A2, .int .u64 L2, .pointer p2] 49) (.cells #[.bool bq1, .slice o1 l1 c1, .slice r1 m1 z1, .bool bq2, .slice o2 l2 c2, .slice r2 m2 z2] 51)
  rw [eW]
  have BB := bt hb B
  have C1 : Hid (Below w.heap.size w W1) := bt C0.out BB
  have D0a : Hid (IsD W1 (.agg #[.bool b1, .int .u64 A1, .int .u64 L1, .pointer p1, .bool b2, .int .u64 A2, .int .u64 L2, .pointer p2]) q1 q2) := RR.below B
  have D0b : Hid (IsE W1 (.agg #[.bool bq1, .slice o1 l1 c1, .slice r1 m1 z1, .bool bq2, .slice o2 l2 c2, .slice r2 m2 z2]) q1 q2) := QQ.below B
  obtain ⟨g0x, eg⟩ : ∃ g, w1.heap.size = g := ⟨_, rfl⟩
  obtain ⟨g0p, eg2⟩ : ∃ g, w1.heap.size + 1 = g := ⟨_, rfl⟩
  rw [eg2] at kp
  rw [eg] at kx
  simp only [eg2]
  simp only [eg]
  have K0x : Hid (W1.heap[g0x]? = some (.cells #[.bool b1, .int .u64 A1, .int .u64 L1, .pointer p1, .bool b2, .int .u64 A2, .int .u64 L2, .pointer p2] 49)) := kx
  have K0p : Hid (W1.heap[g0p]? = some (.cells #[.bool bq1, .slice o1 l1 c1, .slice r1 m1 z1, .bool bq2, .slice o2 l2 c2, .slice r2 m2 z2] 51)) := kp
  have G1 : Hid (Fits q1 256) := F1
  have G2 : Hid (Fits q2 256) := F2
  have kn := box_kept HK1.out BB (in_heap HK1.out)
  have e0 := cell_at kn
  have hz00 : W1.cell? ⟨w.heap.size + 1, 0, none⟩ = some (.bool xx1) := e0 0 _ rfl
  have hz01 : W1.cell? ⟨w.heap.size + 1, 1, none⟩ = some (SA1) := e0 1 _ rfl
  have hz02 : W1.cell? ⟨w.heap.size + 1, 2, none⟩ = some (SB1) := e0 2 _ rfl
  have hz03 : W1.cell? ⟨w.heap.size + 1, 3, none⟩ = some (.bool yy1) := e0 3 _ rfl
  have hz04 : W1.cell? ⟨w.heap.size + 1, 4, none⟩ = some (SC1) := e0 4 _ rfl
  have hz05 : W1.cell? ⟨w.heap.size + 1, 5, none⟩ = some (SE1) := e0 5 _ rfl
  have HK2n : Hid (W1.heap[w.heap.size + 1 + 1]? = some (.cells #[.bool xx2, SA2, SB2] 24)) := box_kept HK2.out BB (in_heap HK2.out)
  clear HK2
  have HK2 := HK2n
  clear HK2n
  clear cc
  have cc := cB1 W1 C1.out
  clear cB1
  clear eW B kx kp BB hb RR QQ C0 eg eg2 F1 F2 ha0 ha1 ha2 ha3 ha4 ha5 kn e0 HK1
  go_upto_region 3 with (go_at_call 17; refine cc.mono ?_; rintro e w2 ⟨v, y, q3, q4, rfl, RR, QQ, F3, F4, hb⟩; obtain ⟨b3, A3, L3, p3, b4, A4, L4, p4, rfl, _, _⟩ := id RR; obtain ⟨bq3, o3, l3, c3, r3, m3, z3, bq4, o4, l4, c4, r4, m4, z4, rfl, _, _⟩ := id QQ)
  obtain ⟨W2, eW, B, kx, kp⟩ := two_new w2 (.cells #[.bool b3, .int .u64 A3, .int .u64 L3, .pointer p3, .bool b4, .int .u64 A4, .int .u64 L4, .pointer p4] 49) (.cells #[.bool bq3, .slice o3 l3 c3, .slice r3 m3 z3, .bool bq4, .slice o4 l4 c4, .slice r4 m4 z4] 51)
  rw [eW]
  have BB := bt hb B
  have C2 : Hid (Below w.heap.size w W2) := bt C1.out BB
  have K0xn : Hid (W2.heap[g0x]? = some (.cells #[.bool b1, .int .u64 A1, .int .u64 L1, .pointer p1, .bool b2, .int .u64 A2, .int .u64 L2, .pointer p2] 49)) := box_kept K0x.out BB (in_heap K0x.out)
  clear K0x
  have K0x := K0xn
  clear K0xn
  have K0pn : Hid (W2.heap[g0p]? = some (.cells #[.bool bq1, .slice o1 l1 c1, .slice r1 m1 z1, .bool bq2, .slice o2 l2 c2, .slice r2 m2 z2] 51)) := box_kept K0p.out BB (in_heap K0p.out)
  clear K0p
  have K0p := K0pn
  clear K0pn
  have D0an : Hid (IsD W2 (.agg #[.bool b1, .int .u64 A1, .int .u64 L1, .pointer p1, .bool b2, .int .u64 A2, .int .u64 L2, .pointer p2]) q1 q2) := D0a.out.below BB
  clear D0a
  have D0a := D0an
  clear D0an
  have D0bn : Hid (IsE W2 (.agg #[.bool bq1, .slice o1 l1 c1, .slice r1 m1 z1, .bool bq2, .slice o2 l2 c2, .slice r2 m2 z2]) q1 q2) := D0b.out.below BB
  clear D0b
  have D0b := D0bn
  clear D0bn
  have D1a : Hid (IsD W2 (.agg #[.bool b3, .int .u64 A3, .int .u64 L3, .pointer p3, .bool b4, .int .u64 A4, .int .u64 L4, .pointer p4]) q3 q4) := RR.below B
  have D1b : Hid (IsE W2 (.agg #[.bool bq3, .slice o3 l3 c3, .slice r3 m3 z3, .bool bq4, .slice o4 l4 c4, .slice r4 m4 z4]) q3 q4) := QQ.below B
  obtain ⟨g1x, eg⟩ : ∃ g, w2.heap.size = g := ⟨_, rfl⟩
  obtain ⟨g1p, eg2⟩ : ∃ g, w2.heap.size + 1 = g := ⟨_, rfl⟩
  rw [eg2] at kp
  rw [eg] at kx
  simp only [eg2]
  simp only [eg]
  have K1x : Hid (W2.heap[g1x]? = some (.cells #[.bool b3, .int .u64 A3, .int .u64 L3, .pointer p3, .bool b4, .int .u64 A4, .int .u64 L4, .pointer p4] 49)) := kx
  have K1p : Hid (W2.heap[g1p]? = some (.cells #[.bool bq3, .slice o3 l3 c3, .slice r3 m3 z3, .bool bq4, .slice o4 l4 c4, .slice r4 m4 z4] 51)) := kp
  have G3 : Hid (Fits q3 256) := F3
  have G4 : Hid (Fits q4 256) := F4
  have kn := box_kept HK2.out BB (in_heap HK2.out)
  have e0 := cell_at kn
  have hz10 : W2.cell? ⟨w.heap.size + 1 + 1, 0, none⟩ = some (.bool xx2) := e0 0 _ rfl
  have hz11 : W2.cell? ⟨w.heap.size + 1 + 1, 1, none⟩ = some (SA2) := e0 1 _ rfl
  have hz12 : W2.cell? ⟨w.heap.size + 1 + 1, 2, none⟩ = some (SB2) := e0 2 _ rfl
  clear cc
  have cc := cB2 W2 C2.out
  clear cB2
  clear eW B kx kp BB hb RR QQ C1 eg eg2 F3 F4 hz00 hz01 hz02 hz03 hz04 hz05 kn e0 HK2
  go_upto_region 4 with (go_at_call 8; refine cc.mono ?_; rintro e w3 ⟨v, y, q5, rfl, RR, QQ, F5, hb⟩; obtain ⟨b5, A5, L5, p5, rfl⟩ := RR.shape4; obtain ⟨bq5, o5, l5, c5, r5, m5, z5, rfl⟩ := QQ.shape3)
  obtain ⟨W3, eW, B, kx, kp⟩ := two_new w3 (.cells #[.bool b5, .int .u64 A5, .int .u64 L5, .pointer p5] 28) (.cells #[.bool bq5, .slice o5 l5 c5, .slice r5 m5 z5] 31)
  rw [eW]
  have BB := bt hb B
  have C3 : Hid (Below w.heap.size w W3) := bt C2.out BB
  have K0xn : Hid (W3.heap[g0x]? = some (.cells #[.bool b1, .int .u64 A1, .int .u64 L1, .pointer p1, .bool b2, .int .u64 A2, .int .u64 L2, .pointer p2] 49)) := box_kept K0x.out BB (in_heap K0x.out)
  clear K0x
  have K0x := K0xn
  clear K0xn
  have K0pn : Hid (W3.heap[g0p]? = some (.cells #[.bool bq1, .slice o1 l1 c1, .slice r1 m1 z1, .bool bq2, .slice o2 l2 c2, .slice r2 m2 z2] 51)) := box_kept K0p.out BB (in_heap K0p.out)
  clear K0p
  have K0p := K0pn
  clear K0pn
  have K1xn : Hid (W3.heap[g1x]? = some (.cells #[.bool b3, .int .u64 A3, .int .u64 L3, .pointer p3, .bool b4, .int .u64 A4, .int .u64 L4, .pointer p4] 49)) := box_kept K1x.out BB (in_heap K1x.out)
  clear K1x
  have K1x := K1xn
  clear K1xn
  have K1pn : Hid (W3.heap[g1p]? = some (.cells #[.bool bq3, .slice o3 l3 c3, .slice r3 m3 z3, .bool bq4, .slice o4 l4 c4, .slice r4 m4 z4] 51)) := box_kept K1p.out BB (in_heap K1p.out)
  clear K1p
  have K1p := K1pn
  clear K1pn
  have D0an : Hid (IsD W3 (.agg #[.bool b1, .int .u64 A1, .int .u64 L1, .pointer p1, .bool b2, .int .u64 A2, .int .u64 L2, .pointer p2]) q1 q2) := D0a.out.below BB
  clear D0a
  have D0a := D0an
  clear D0an
  have D0bn : Hid (IsE W3 (.agg #[.bool bq1, .slice o1 l1 c1, .slice r1 m1 z1, .bool bq2, .slice o2 l2 c2, .slice r2 m2 z2]) q1 q2) := D0b.out.below BB
  clear D0b
  have D0b := D0bn
  clear D0bn
  have D1an : Hid (IsD W3 (.agg #[.bool b3, .int .u64 A3, .int .u64 L3, .pointer p3, .bool b4, .int .u64 A4, .int .u64 L4, .pointer p4]) q3 q4) := D1a.out.below BB
  clear D1a
  have D1a := D1an
  clear D1an
  have D1bn : Hid (IsE W3 (.agg #[.bool bq3, .slice o3 l3 c3, .slice r3 m3 z3, .bool bq4, .slice o4 l4 c4, .slice r4 m4 z4]) q3 q4) := D1b.out.below BB
  clear D1b
  have D1b := D1bn
  clear D1bn
  have D2a : Hid (IsR W3 (.agg #[.bool b5, .int .u64 A5, .int .u64 L5, .pointer p5]) q5) := RR.below B
  have D2b : Hid (IsQ W3 (.agg #[.bool bq5, .slice o5 l5 c5, .slice r5 m5 z5]) q5) := QQ.below B
  obtain ⟨g2x, eg⟩ : ∃ g, w3.heap.size = g := ⟨_, rfl⟩
  obtain ⟨g2p, eg2⟩ : ∃ g, w3.heap.size + 1 = g := ⟨_, rfl⟩
  rw [eg2] at kp
  rw [eg] at kx
  simp only [eg2]
  simp only [eg]
  have K2x : Hid (W3.heap[g2x]? = some (.cells #[.bool b5, .int .u64 A5, .int .u64 L5, .pointer p5] 28)) := kx
  have K2p : Hid (W3.heap[g2p]? = some (.cells #[.bool bq5, .slice o5 l5 c5, .slice r5 m5 z5] 31)) := kp
  have G5 : Hid (Fits q5 256) := F5
  clear cc
  clear eW B kx kp BB hb RR QQ C2 eg eg2 F5 hz10 hz11 hz12
  have s0 : W3.drew.cell? ⟨g0x, 0, none⟩ = some (.bool b1) ∧ W3.drew.cell? ⟨g0x, 1, none⟩ = some (.int .u64 A1) ∧ W3.drew.cell? ⟨g0x, 2, none⟩ = some (.int .u64 L1) ∧ W3.drew.cell? ⟨g0x, 3, none⟩ = some (.pointer p1) ∧ W3.drew.cell? ⟨g0x, 4, none⟩ = some (.bool b2) ∧ W3.drew.cell? ⟨g0x, 5, none⟩ = some (.int .u64 A2) ∧ W3.drew.cell? ⟨g0x, 6, none⟩ = some (.int .u64 L2) ∧ W3.drew.cell? ⟨g0x, 7, none⟩ = some (.pointer p2) ∧ W3.drew.cell? ⟨g0p, 0, none⟩ = some (.bool bq1) ∧ W3.drew.cell? ⟨g0p, 1, none⟩ = some (.slice o1 l1 c1) ∧ W3.drew.cell? ⟨g0p, 2, none⟩ = some (.slice r1 m1 z1) ∧ W3.drew.cell? ⟨g0p, 3, none⟩ = some (.bool bq2) ∧ W3.drew.cell? ⟨g0p, 4, none⟩ = some (.slice o2 l2 c2) ∧ W3.drew.cell? ⟨g0p, 5, none⟩ = some (.slice r2 m2 z2) ∧ W3.drew.cell? ⟨g1x, 0, none⟩ = some (.bool b3) ∧ W3.drew.cell? ⟨g1x, 1, none⟩ = some (.int .u64 A3) ∧ W3.drew.cell? ⟨g1x, 2, none⟩ = some (.int .u64 L3) ∧ W3.drew.cell? ⟨g1x, 3, none⟩ = some (.pointer p3) ∧ W3.drew.cell? ⟨g1x, 4, none⟩ = some (.bool b4) ∧ W3.drew.cell? ⟨g1x, 5, none⟩ = some (.int .u64 A4) ∧ W3.drew.cell? ⟨g1x, 6, none⟩ = some (.int .u64 L4) ∧ W3.drew.cell? ⟨g1x, 7, none⟩ = some (.pointer p4) ∧ W3.drew.cell? ⟨g1p, 0, none⟩ = some (.bool bq3) ∧ W3.drew.cell? ⟨g1p, 1, none⟩ = some (.slice o3 l3 c3) ∧ W3.drew.cell? ⟨g1p, 2, none⟩ = some (.slice r3 m3 z3) ∧ W3.drew.cell? ⟨g1p, 3, none⟩ = some (.bool bq4) ∧ W3.drew.cell? ⟨g1p, 4, none⟩ = some (.slice o4 l4 c4) ∧ W3.drew.cell? ⟨g1p, 5, none⟩ = some (.slice r4 m4 z4) ∧ W3.drew.cell? ⟨g2x, 0, none⟩ = some (.bool b5) ∧ W3.drew.cell? ⟨g2x, 1, none⟩ = some (.int .u64 A5) ∧ W3.drew.cell? ⟨g2x, 2, none⟩ = some (.int .u64 L5) ∧ W3.drew.cell? ⟨g2x, 3, none⟩ = some (.pointer p5) ∧ W3.drew.cell? ⟨g2p, 0, none⟩ = some (.bool bq5) ∧ W3.drew.cell? ⟨g2p, 1, none⟩ = some (.slice o5 l5 c5) ∧ W3.drew.cell? ⟨g2p, 2, none⟩ = some (.slice r5 m5 z5) := by
    have f0 := cell_at (World.drew_at K0x.out)
    have f1 := cell_at (World.drew_at K0p.out)
    have f2 := cell_at (World.drew_at K1x.out)
    have f3 := cell_at (World.drew_at K1p.out)
    have f4 := cell_at (World.drew_at K2x.out)
    have f5 := cell_at (World.drew_at K2p.out)
    exact ⟨f0 0 _ rfl, f0 1 _ rfl, f0 2 _ rfl, f0 3 _ rfl, f0 4 _ rfl, f0 5 _ rfl, f0 6 _ rfl, f0 7 _ rfl, f1 0 _ rfl, f1 1 _ rfl, f1 2 _ rfl, f1 3 _ rfl, f1 4 _ rfl, f1 5 _ rfl, f2 0 _ rfl, f2 1 _ rfl, f2 2 _ rfl, f2 3 _ rfl, f2 4 _ rfl, f2 5 _ rfl, f2 6 _ rfl, f2 7 _ rfl, f3 0 _ rfl, f3 1 _ rfl, f3 2 _ rfl, f3 3 _ rfl, f3 4 _ rfl, f3 5 _ rfl, f4 0 _ rfl, f4 1 _ rfl, f4 2 _ rfl, f4 3 _ rfl, f5 0 _ rfl, f5 1 _ rfl, f5 2 _ rfl⟩
  have Dr : Below W3.heap.size W3 W3.drew := (Below.refl _ _).drew
  have D0an : Hid (IsD W3.drew (.agg #[.bool b1, .int .u64 A1, .int .u64 L1, .pointer p1, .bool b2, .int .u64 A2, .int .u64 L2, .pointer p2]) q1 q2) := D0a.out.below Dr
  clear D0a
  have D0a := D0an
  clear D0an
  have D0bn : Hid (IsE W3.drew (.agg #[.bool bq1, .slice o1 l1 c1, .slice r1 m1 z1, .bool bq2, .slice o2 l2 c2, .slice r2 m2 z2]) q1 q2) := D0b.out.below Dr
  clear D0b
  have D0b := D0bn
  clear D0bn
  have D1an : Hid (IsD W3.drew (.agg #[.bool b3, .int .u64 A3, .int .u64 L3, .pointer p3, .bool b4, .int .u64 A4, .int .u64 L4, .pointer p4]) q3 q4) := D1a.out.below Dr
  clear D1a
  have D1a := D1an
  clear D1an
  have D1bn : Hid (IsE W3.drew (.agg #[.bool bq3, .slice o3 l3 c3, .slice r3 m3 z3, .bool bq4, .slice o4 l4 c4, .slice r4 m4 z4]) q3 q4) := D1b.out.below Dr
  clear D1b
  have D1b := D1bn
  clear D1bn
  have D2an : Hid (IsR W3.drew (.agg #[.bool b5, .int .u64 A5, .int .u64 L5, .pointer p5]) q5) := D2a.out.below Dr
  clear D2a
  have D2a := D2an
  clear D2an
  have D2bn : Hid (IsQ W3.drew (.agg #[.bool bq5, .slice o5 l5 c5, .slice r5 m5 z5]) q5) := D2b.out.below Dr
  clear D2b
  have D2b := D2bn
  clear D2bn
  have CC : Hid (Below w.heap.size w W3.drew) := C3.out.drew
  have H0 : Below W3.drew.heap.size W3.drew W3.drew := Below.refl _ _
  clear Dr C3 K0x K0p K1x K1p K2x K2p
  simp only [List.append_eq, List.cons_append, List.nil_append]
  have Ta2 : True := trivial
  have Ta3 : True := trivial
  have Ta7 : True := trivial
  have Ta4 : True := trivial
  have Ta10 : True := trivial
  have Ta14 : True := trivial
  have Ta18 : True := trivial
  have Ta6 : True := trivial
  have Ta8 : True := trivial
  have Ta12 : True := trivial
  have Ta16 : True := trivial
  go_region_held3 (fun w' => w'.cell? ⟨g0x, 0, none⟩ = some (.bool b1) ∧ w'.cell? ⟨g0x, 1, none⟩ = some (.int .u64 A1) ∧ w'.cell? ⟨g0x, 2, none⟩ = some (.int .u64 L1) ∧ w'.cell? ⟨g0x, 3, none⟩ = some (.pointer p1) ∧ w'.cell? ⟨g0x, 4, none⟩ = some (.bool b2) ∧ w'.cell? ⟨g0x, 5, none⟩ = some (.int .u64 A2) ∧ w'.cell? ⟨g0x, 6, none⟩ = some (.int .u64 L2) ∧ w'.cell? ⟨g0x, 7, none⟩ = some (.pointer p2) ∧ w'.cell? ⟨g0p, 0, none⟩ = some (.bool bq1) ∧ w'.cell? ⟨g0p, 1, none⟩ = some (.slice o1 l1 c1) ∧ w'.cell? ⟨g0p, 2, none⟩ = some (.slice r1 m1 z1) ∧ w'.cell? ⟨g0p, 3, none⟩ = some (.bool bq2) ∧ w'.cell? ⟨g0p, 4, none⟩ = some (.slice o2 l2 c2) ∧ w'.cell? ⟨g0p, 5, none⟩ = some (.slice r2 m2 z2) ∧ w'.cell? ⟨g1x, 0, none⟩ = some (.bool b3) ∧ w'.cell? ⟨g1x, 1, none⟩ = some (.int .u64 A3) ∧ w'.cell? ⟨g1x, 2, none⟩ = some (.int .u64 L3) ∧ w'.cell? ⟨g1x, 3, none⟩ = some (.pointer p3) ∧ w'.cell? ⟨g1x, 4, none⟩ = some (.bool b4) ∧ w'.cell? ⟨g1x, 5, none⟩ = some (.int .u64 A4) ∧ w'.cell? ⟨g1x, 6, none⟩ = some (.int .u64 L4) ∧ w'.cell? ⟨g1x, 7, none⟩ = some (.pointer p4) ∧ w'.cell? ⟨g1p, 0, none⟩ = some (.bool bq3) ∧ w'.cell? ⟨g1p, 1, none⟩ = some (.slice o3 l3 c3) ∧ w'.cell? ⟨g1p, 2, none⟩ = some (.slice r3 m3 z3) ∧ w'.cell? ⟨g1p, 3, none⟩ = some (.bool bq4) ∧ w'.cell? ⟨g1p, 4, none⟩ = some (.slice o4 l4 c4) ∧ w'.cell? ⟨g1p, 5, none⟩ = some (.slice r4 m4 z4) ∧ w'.cell? ⟨g2x, 0, none⟩ = some (.bool b5) ∧ w'.cell? ⟨g2x, 1, none⟩ = some (.int .u64 A5) ∧ w'.cell? ⟨g2x, 2, none⟩ = some (.int .u64 L5) ∧ w'.cell? ⟨g2x, 3, none⟩ = some (.pointer p5) ∧ w'.cell? ⟨g2p, 0, none⟩ = some (.bool bq5) ∧ w'.cell? ⟨g2p, 1, none⟩ = some (.slice o5 l5 c5) ∧ w'.cell? ⟨g2p, 2, none⟩ = some (.slice r5 m5 z5)) (first | with_reducible exact s0 | with_reducible exact sa0 | with_reducible exact sa1 | with_reducible exact sa2 | with_reducible exact sa3 | with_reducible exact sa4 | with_reducible exact sa5 | with_reducible exact sa6 | with_reducible exact sa7 | with_reducible exact sa8 | with_reducible exact sa9 | with_reducible exact sa10 | with_reducible exact sa11 | with_reducible exact sa12 | with_reducible exact sa13 | with_reducible exact sa14 | with_reducible exact sa15 | with_reducible exact sa16 | with_reducible exact sa17 | with_reducible exact sa18 | with_reducible exact sa19 | with_reducible exact sa20 | with_reducible exact sa21 | with_reducible exact sa22 | with_reducible exact sa23 | with_reducible exact sa24) (first
    | (go_at_call 18; refine (awake7 _).mono ?_; rintro e wa0 ⟨rfl, hba0⟩; have Ha0 := bt H0 hba0; have sa0 := keepS hba0 s0)
    | (go_at_call 20; refine (dadd _ _ _ _ _ _ 256 (by omega) _ ((D0a.out).below Ha0) ((D1a.out).below Ha0) G1.out G2.out G3.out G4.out).mono ?_; rintro e wa1 ⟨va1, rfl, Ra1, hba1⟩; have Ha1 := bt Ha0 hba1; have sa1 := keepS hba1 sa0)
    | (go_at_call 21; have _t := Ta2; clear _t Ta2; refine (q_add (k := 256) (by omega) (((IsE.parts D0b.out).1).below Ha1) (((IsE.parts D1b.out).1).below Ha1) G1.out G3.out).mono ?_; rintro e wa2 ⟨va2, rfl, Ra2, hba2⟩; have Ha2 := bt Ha1 hba2; have sa2 := keepS hba2 sa1)
    | (go_at_call 21; have _t := Ta3; clear _t Ta3; refine (q_add (k := 256) (by omega) (((IsE.parts D0b.out).2).below Ha2) (((IsE.parts D1b.out).2).below Ha2) G2.out G4.out).mono ?_; rintro e wa3 ⟨va3, rfl, Ra3, hba3⟩; have Ha3 := bt Ha2 hba3; have sa3 := keepS hba3 sa2)
    | (go_at_call 19; have _t := Ta4; clear _t Ta4; refine (dis _ _ _ _ _ 513 (by omega) _ ((Ra1.below hba2).below hba3) (Ra2.below hba3) Ra3 (fits_add G1.out G3.out) (fits_add G2.out G4.out)).mono ?_; rintro e wa4 ⟨rfl, hba4⟩; have Ha4 := bt Ha3 hba4; have sa4 := keepS hba4 sa3)
    | (go_at_call 22; refine (dsub _ _ _ _ _ _ 256 (by omega) _ ((D0a.out).below Ha4) ((D1a.out).below Ha4) G1.out G2.out G3.out G4.out).mono ?_; rintro e wa5 ⟨va5, rfl, Ra5, hba5⟩; have Ha5 := bt Ha4 hba5; have sa5 := keepS hba5 sa4)
    | (go_at_call 23; have _t := Ta6; clear _t Ta6; refine (q_neg (((IsE.parts D1b.out).1).below Ha5) G3.out).mono ?_; rintro e wa6 ⟨va6, rfl, Ra6, hba6⟩; have Ha6 := bt Ha5 hba6; have sa6 := keepS hba6 sa5)
    | (go_at_call 21; have _t := Ta7; clear _t Ta7; refine (q_add (k := 256) (by omega) (((IsE.parts D0b.out).1).below Ha6) Ra6 G1.out (fits_neg G3.out)).mono ?_; rintro e wa7 ⟨va7, rfl, Ra7, hba7⟩; have Ha7 := bt Ha6 hba7; have sa7 := keepS hba7 sa6)
    | (go_at_call 23; have _t := Ta8; clear _t Ta8; refine (q_neg (((IsE.parts D1b.out).2).below Ha7) G4.out).mono ?_; rintro e wa8 ⟨va8, rfl, Ra8, hba8⟩; have Ha8 := bt Ha7 hba8; have sa8 := keepS hba8 sa7)
    | (go_at_call 21; refine (q_add (k := 256) (by omega) (((IsE.parts D0b.out).2).below Ha8) Ra8 G2.out (fits_neg G4.out)).mono ?_; rintro e wa9 ⟨va9, rfl, Ra9, hba9⟩; have Ha9 := bt Ha8 hba9; have sa9 := keepS hba9 sa8)
    | (go_at_call 19; have _t := Ta10; clear _t Ta10; refine (dis _ _ _ _ _ 513 (by omega) _ ((((Ra5.below hba6).below hba7).below hba8).below hba9) ((Ra7.below hba8).below hba9) Ra9 (fits_add G1.out (fits_neg G3.out)) (fits_add G2.out (fits_neg G4.out))).mono ?_; rintro e wa10 ⟨rfl, hba10⟩; have Ha10 := bt Ha9 hba10; have sa10 := keepS hba10 sa9)
    | (go_at_call 24; refine (dneg _ _ _ _ ((D0a.out).below Ha10)).mono ?_; rintro e wa11 ⟨va11, rfl, Ra11, hba11⟩; have Ha11 := bt Ha10 hba11; have sa11 := keepS hba11 sa10)
    | (go_at_call 23; have _t := Ta12; clear _t Ta12; refine (q_neg (((IsE.parts D0b.out).1).below Ha11) G1.out).mono ?_; rintro e wa12 ⟨va12, rfl, Ra12, hba12⟩; have Ha12 := bt Ha11 hba12; have sa12 := keepS hba12 sa11)
    | (go_at_call 23; refine (q_neg (((IsE.parts D0b.out).2).below Ha12) G2.out).mono ?_; rintro e wa13 ⟨va13, rfl, Ra13, hba13⟩; have Ha13 := bt Ha12 hba13; have sa13 := keepS hba13 sa12)
    | (go_at_call 19; have _t := Ta14; clear _t Ta14; refine (dis _ _ _ _ _ 256 (by omega) _ ((Ra11.below hba12).below hba13) (Ra12.below hba13) Ra13 (fits_neg G1.out) (fits_neg G2.out)).mono ?_; rintro e wa14 ⟨rfl, hba14⟩; have Ha14 := bt Ha13 hba14; have sa14 := keepS hba14 sa13)
    | (go_at_call 25; refine (dscale _ _ _ _ _ 256 (by omega) _ ((D2a.out).below Ha14) ((D0a.out).below Ha14) G5.out G1.out G2.out).mono ?_; rintro e wa15 ⟨va15, rfl, Ra15, hba15⟩; have Ha15 := bt Ha14 hba15; have sa15 := keepS hba15 sa14)
    | (go_at_call 26; have _t := Ta16; clear _t Ta16; refine (q_mul (k := 256) (by omega) ((D2b.out).below Ha15) (((IsE.parts D0b.out).1).below Ha15) G5.out G1.out).mono ?_; rintro e wa16 ⟨va16, rfl, Ra16, hba16⟩; have Ha16 := bt Ha15 hba16; have sa16 := keepS hba16 sa15)
    | (go_at_call 26; refine (q_mul (k := 256) (by omega) ((D2b.out).below Ha16) (((IsE.parts D0b.out).2).below Ha16) G5.out G2.out).mono ?_; rintro e wa17 ⟨va17, rfl, Ra17, hba17⟩; have Ha17 := bt Ha16 hba17; have sa17 := keepS hba17 sa16)
    | (go_at_call 19; have _t := Ta18; clear _t Ta18; refine (dis _ _ _ _ _ 512 (by omega) _ ((Ra15.below hba16).below hba17) (Ra16.below hba17) Ra17 (fits_mul G5.out G1.out) (fits_mul G5.out G2.out)).mono ?_; rintro e wa18 ⟨rfl, hba18⟩; have Ha18 := bt Ha17 hba18; have sa18 := keepS hba18 sa17)
    | (go_at_call 27; refine (dof _ _ _ ((D2a.out).below Ha18)).mono ?_; rintro e wa19 ⟨va19, rfl, Ra19, hba19⟩; have Ha19 := bt Ha18 hba19; have sa19 := keepS hba19 sa18)
    | (go_at_call 28; refine (q_int 0 _ (by decide) (by decide)).mono ?_; rintro e wa20 ⟨va20, rfl, Ra20, hba20⟩; have Ha20 := bt Ha19 hba20; have sa20 := keepS hba20 sa19)
    | (go_at_call 19; refine (dis _ _ _ _ _ 256 (by omega) _ (Ra19.below hba20) ((D2b.out).below Ha20) Ra20 G5.out ((fits_int 0 (by decide) (by decide)).more (by omega))).mono ?_; rintro e wa21 ⟨rfl, hba21⟩; have Ha21 := bt Ha20 hba21; have sa21 := keepS hba21 sa20)
    | (go_at_call 30; refine (dat _ _ _ _ _ 256 (by omega) _ ((D0a.out).below Ha21) ((D2a.out).below Ha21) G1.out G2.out G5.out).mono ?_; rintro e wa22 ⟨va22, rfl, Ra22, hba22⟩; have Ha22 := bt Ha21 hba22; have sa22 := keepS hba22 sa21)
    | (go_at_call 31; refine (rdat _ _ _ _ _ 256 (by omega) _ ((D0b.out).below Ha22) ((D2b.out).below Ha22) G1.out G2.out G5.out).mono ?_; rintro e wa23 ⟨va23, rfl, Ra23, hba23⟩; have Ha23 := bt Ha22 hba23; have sa23 := keepS hba23 sa22)
    | (go_at_call 29; refine (a_is (k := 1025) (by omega) (Ra22.below hba23) Ra23 (fits_add (k := 512) (G1.out.more (by omega)) (fits_mul G2.out G5.out))).mono ?_; rintro e wa24 ⟨rfl, hba24⟩; have Ha24 := bt Ha23 hba24; have sa24 := keepS hba24 sa23))
  all_goals go_wp2
  all_goals go_ret
  all_goals exact ⟨rfl, bt CC.out Ha24⟩
end Go.Proofs.Ytdliookkkgobbaa.DsW
