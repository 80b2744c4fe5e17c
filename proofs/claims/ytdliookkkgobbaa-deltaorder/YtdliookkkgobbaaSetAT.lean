/- DeltaOrder: the walk. -/
import Derived.Test.YtdliookkkgobbaaSetAS
namespace Go.Proofs.Ytdliookkkgobbaa.DoW
open Go.RowKit Mem LimbNum Limb1 NatL GcdA RatL RatM RatN RatF RatO MulN MulW MulL RefR RefT RefU InvL DivL QNum CmpL CmqL RefX RefY RefZ FloL Mk5 AddN JoinL AddW AddV AddR FldL SubL NmL DelL DelM DelB DaL Law5 Aw5

theorem keepS {W W' : World} {g0x g0p g1x g1p : Nat} {b1 bq1 : Bool} {A1 L1 : Int} {p1 o1 r1 : Option Addr} {l1 c1 m1 z1 : Nat} {b2 bq2 : Bool} {A2 L2 : Int} {p2 o2 r2 : Option Addr} {l2 c2 m2 z2 : Nat} {b3 bq3 : Bool} {A3 L3 : Int} {p3 o3 r3 : Option Addr} {l3 c3 m3 z3 : Nat} {b4 bq4 : Bool} {A4 L4 : Int} {p4 o4 r4 : Option Addr} {l4 c4 m4 z4 : Nat} (hb : Below W.heap.size W W') (H : W.cell? ⟨g0x, 0, none⟩ = some (.bool b1) ∧ W.cell? ⟨g0x, 1, none⟩ = some (.int .u64 A1) ∧ W.cell? ⟨g0x, 2, none⟩ = some (.int .u64 L1) ∧ W.cell? ⟨g0x, 3, none⟩ = some (.pointer p1) ∧ W.cell? ⟨g0x, 4, none⟩ = some (.bool b2) ∧ W.cell? ⟨g0x, 5, none⟩ = some (.int .u64 A2) ∧ W.cell? ⟨g0x, 6, none⟩ = some (.int .u64 L2) ∧ W.cell? ⟨g0x, 7, none⟩ = some (.pointer p2) ∧ W.cell? ⟨g0p, 0, none⟩ = some (.bool bq1) ∧ W.cell? ⟨g0p, 1, none⟩ = some (.slice o1 l1 c1) ∧ W.cell? ⟨g0p, 2, none⟩ = some (.slice r1 m1 z1) ∧ W.cell? ⟨g0p, 3, none⟩ = some (.bool bq2) ∧ W.cell? ⟨g0p, 4, none⟩ = some (.slice o2 l2 c2) ∧ W.cell? ⟨g0p, 5, none⟩ = some (.slice r2 m2 z2) ∧ W.cell? ⟨g1x, 0, none⟩ = some (.bool b3) ∧ W.cell? ⟨g1x, 1, none⟩ = some (.int .u64 A3) ∧ W.cell? ⟨g1x, 2, none⟩ = some (.int .u64 L3) ∧ W.cell? ⟨g1x, 3, none⟩ = some (.pointer p3) ∧ W.cell? ⟨g1x, 4, none⟩ = some (.bool b4) ∧ W.cell? ⟨g1x, 5, none⟩ = some (.int .u64 A4) ∧ W.cell? ⟨g1x, 6, none⟩ = some (.int .u64 L4) ∧ W.cell? ⟨g1x, 7, none⟩ = some (.pointer p4) ∧ W.cell? ⟨g1p, 0, none⟩ = some (.bool bq3) ∧ W.cell? ⟨g1p, 1, none⟩ = some (.slice o3 l3 c3) ∧ W.cell? ⟨g1p, 2, none⟩ = some (.slice r3 m3 z3) ∧ W.cell? ⟨g1p, 3, none⟩ = some (.bool bq4) ∧ W.cell? ⟨g1p, 4, none⟩ = some (.slice o4 l4 c4) ∧ W.cell? ⟨g1p, 5, none⟩ = some (.slice r4 m4 z4)) : W'.cell? ⟨g0x, 0, none⟩ = some (.bool b1) ∧ W'.cell? ⟨g0x, 1, none⟩ = some (.int .u64 A1) ∧ W'.cell? ⟨g0x, 2, none⟩ = some (.int .u64 L1) ∧ W'.cell? ⟨g0x, 3, none⟩ = some (.pointer p1) ∧ W'.cell? ⟨g0x, 4, none⟩ = some (.bool b2) ∧ W'.cell? ⟨g0x, 5, none⟩ = some (.int .u64 A2) ∧ W'.cell? ⟨g0x, 6, none⟩ = some (.int .u64 L2) ∧ W'.cell? ⟨g0x, 7, none⟩ = some (.pointer p2) ∧ W'.cell? ⟨g0p, 0, none⟩ = some (.bool bq1) ∧ W'.cell? ⟨g0p, 1, none⟩ = some (.slice o1 l1 c1) ∧ W'.cell? ⟨g0p, 2, none⟩ = some (.slice r1 m1 z1) ∧ W'.cell? ⟨g0p, 3, none⟩ = some (.bool bq2) ∧ W'.cell? ⟨g0p, 4, none⟩ = some (.slice o2 l2 c2) ∧ W'.cell? ⟨g0p, 5, none⟩ = some (.slice r2 m2 z2) ∧ W'.cell? ⟨g1x, 0, none⟩ = some (.bool b3) ∧ W'.cell? ⟨g1x, 1, none⟩ = some (.int .u64 A3) ∧ W'.cell? ⟨g1x, 2, none⟩ = some (.int .u64 L3) ∧ W'.cell? ⟨g1x, 3, none⟩ = some (.pointer p3) ∧ W'.cell? ⟨g1x, 4, none⟩ = some (.bool b4) ∧ W'.cell? ⟨g1x, 5, none⟩ = some (.int .u64 A4) ∧ W'.cell? ⟨g1x, 6, none⟩ = some (.int .u64 L4) ∧ W'.cell? ⟨g1x, 7, none⟩ = some (.pointer p4) ∧ W'.cell? ⟨g1p, 0, none⟩ = some (.bool bq3) ∧ W'.cell? ⟨g1p, 1, none⟩ = some (.slice o3 l3 c3) ∧ W'.cell? ⟨g1p, 2, none⟩ = some (.slice r3 m3 z3) ∧ W'.cell? ⟨g1p, 3, none⟩ = some (.bool bq4) ∧ W'.cell? ⟨g1p, 4, none⟩ = some (.slice o4 l4 c4) ∧ W'.cell? ⟨g1p, 5, none⟩ = some (.slice r4 m4 z4) := by
  have kc : ∀ {p : Addr} {v : Value}, W.cell? p = some v → W'.cell? p = some v := fun {p v} h => by rw [hb.cell (World.block_lt_of_cell? W p h)]; exact h
  exact ⟨kc H.1, kc H.2.1, kc H.2.2.1, kc H.2.2.2.1, kc H.2.2.2.2.1, kc H.2.2.2.2.2.1, kc H.2.2.2.2.2.2.1, kc H.2.2.2.2.2.2.2.1, kc H.2.2.2.2.2.2.2.2.1, kc H.2.2.2.2.2.2.2.2.2.1, kc H.2.2.2.2.2.2.2.2.2.2.1, kc H.2.2.2.2.2.2.2.2.2.2.2.1, kc H.2.2.2.2.2.2.2.2.2.2.2.2.1, kc H.2.2.2.2.2.2.2.2.2.2.2.2.2.1, kc H.2.2.2.2.2.2.2.2.2.2.2.2.2.2.1, kc H.2.2.2.2.2.2.2.2.2.2.2.2.2.2.2.1, kc H.2.2.2.2.2.2.2.2.2.2.2.2.2.2.2.2.1, kc H.2.2.2.2.2.2.2.2.2.2.2.2.2.2.2.2.2.1, kc H.2.2.2.2.2.2.2.2.2.2.2.2.2.2.2.2.2.2.1, kc H.2.2.2.2.2.2.2.2.2.2.2.2.2.2.2.2.2.2.2.1, kc H.2.2.2.2.2.2.2.2.2.2.2.2.2.2.2.2.2.2.2.2.1, kc H.2.2.2.2.2.2.2.2.2.2.2.2.2.2.2.2.2.2.2.2.2.1, kc H.2.2.2.2.2.2.2.2.2.2.2.2.2.2.2.2.2.2.2.2.2.2.1, kc H.2.2.2.2.2.2.2.2.2.2.2.2.2.2.2.2.2.2.2.2.2.2.2.1, kc H.2.2.2.2.2.2.2.2.2.2.2.2.2.2.2.2.2.2.2.2.2.2.2.2.1, kc H.2.2.2.2.2.2.2.2.2.2.2.2.2.2.2.2.2.2.2.2.2.2.2.2.2.1, kc H.2.2.2.2.2.2.2.2.2.2.2.2.2.2.2.2.2.2.2.2.2.2.2.2.2.2.1, kc H.2.2.2.2.2.2.2.2.2.2.2.2.2.2.2.2.2.2.2.2.2.2.2.2.2.2.2⟩
set_option maxRecDepth 20000 in
set_option maxHeartbeats 8000000 in
theorem law (xx0 yy0 : Bool) (SA0 SB0 SC0 SE0 : Value) (xx1 yy1 : Bool) (SA1 SB1 SC1 SE1 : Value) (w : World)
    (cB0 : ∀ W, Below w.heap.size w W → Calls Try.prog 17 #[.agg #[.bool xx0, SA0, SB0, .bool yy0, SC0, SE0]] W fun e w' => ∃ v q p1 p2, e = .returned (.tuple #[v, q]) ∧ IsD w' v p1 p2 ∧ IsE w' q p1 p2 ∧ Fits p1 256 ∧ Fits p2 256 ∧ Below W.heap.size W w')
    (cB1 : ∀ W, Below w.heap.size w W → Calls Try.prog 17 #[.agg #[.bool xx1, SA1, SB1, .bool yy1, SC1, SE1]] W fun e w' => ∃ v q p1 p2, e = .returned (.tuple #[v, q]) ∧ IsD w' v p1 p2 ∧ IsE w' q p1 p2 ∧ Fits p1 256 ∧ Fits p2 256 ∧ Below W.heap.size W w') :
    Calls Try.prog 5 #[.agg #[.bool xx0, SA0, SB0, .bool yy0, SC0, SE0], .agg #[.bool xx1, SA1, SB1, .bool yy1, SC1, SE1]] w fun e w' => e = .returned (.bool true) ∧ Below w.heap.size w w' := by
  obtain ⟨W0, eW0, hb0, k0, k1⟩ := two_new w (.cells #[.bool xx0, SA0, SB0, .bool yy0, SC0, SE0] 47) (.cells #[.bool xx1, SA1, SB1, .bool yy1, SC1, SE1] 47)
  have e0 := cell_at k0
  have ha0 : W0.cell? ⟨w.heap.size, 0, none⟩ = some (.bool xx0) := e0 0 _ rfl
  have ha1 : W0.cell? ⟨w.heap.size, 1, none⟩ = some (SA0) := e0 1 _ rfl
  have ha2 : W0.cell? ⟨w.heap.size, 2, none⟩ = some (SB0) := e0 2 _ rfl
  have ha3 : W0.cell? ⟨w.heap.size, 3, none⟩ = some (.bool yy0) := e0 3 _ rfl
  have ha4 : W0.cell? ⟨w.heap.size, 4, none⟩ = some (SC0) := e0 4 _ rfl
  have ha5 : W0.cell? ⟨w.heap.size, 5, none⟩ = some (SE0) := e0 5 _ rfl
  have HK1 : Hid (W0.heap[w.heap.size + 1]? = some (.cells #[.bool xx1, SA1, SB1, .bool yy1, SC1, SE1] 47)) := k1
  have EW : Hid (_ = W0) := eW0
  have C0 : Hid (Below w.heap.size w W0) := hb0
  have cc := cB0 W0 hb0
  clear eW0 e0 k0 k1 cB0 hb0
  go_enter Try.func5, Try.ntmps5
  go_upto_region 1 with fail
  rw [EW.out]
  clear EW
  go_upto_region 2 with (go_at_call 17; refine cc.mono ?_; rintro e w1 ⟨v, y, q1, q2, rfl, RR, QQ, F1, F2, hb⟩; obtain ⟨b1, A1, L1, p1, b2, A2, L2, p2, rfl, _, _⟩ := id RR; obtain ⟨bq1, o1, l1, c1, r1, m1, z1, bq2, o2, l2, c2, r2, m2, z2, rfl, _, _⟩ := id QQ)
  obtain ⟨W1, eW, B, kx, kp⟩ := two_new w1 (.cells #[.bool b1, .int .u64 A1, .int .u64 L1, .pointer p1, .bool b2, .int .u64 A2, .int .u64 L2, .pointer p2] 49) (.cells #[.bool bq1, .slice o1 l1 c1, .slice r1 m1 z1, .bool bq2, .slice o2 l2 c2, .slice r2 m2 z2] 51)
  rw [eW]
  have BB := bt hb B
  have C1 : Hid (Below w.heap.size w W1) := bt C0.out BB
  have D0a : Hid (IsD W1 (.agg #[.bool b1, .int .u64 A1, .int .u64 L1, .pointer p1, .bool b2, .int .u64 A2, .int .u64 L2, .pointer p2]) q1 q2) := RR.below B
  have D0b : Hid (IsE W1 (.agg #[.bool bq1, .slice o1 l1 c1, .slice r1 m1 z1, .bool bq2, .slice o2 l2 c2, .slice r2 m2 z2]) q1 q2) := QQ.below B
  obtain ⟨g0x, eg⟩ : ∃ g, w1.heap.size = g := ⟨_, rfl⟩
  obtain ⟨g0p, eg2⟩ : ∃ g, w1.heap.size + 1 = g := ⟨_, rfl⟩
  rw [eg2] at kp
  rw [eg] at kx
  simp only [eg2]
  simp only [eg]
  have K0x : Hid (W1.heap[g0x]? = some (.cells #[.bool b1, .int .u64 A1, .int .u64 L1, .pointer p1, .bool b2, .int .u64 A2, .int .u64 L2, .pointer p2] 49)) := kx
  have K0p : Hid (W1.heap[g0p]? = some (.cells #[.bool bq1, .slice o1 l1 c1, .slice r1 m1 z1, .bool bq2, .slice o2 l2 c2, .slice r2 m2 z2] 51)) := kp
  have G1 : Hid (Fits q1 256) := F1
  have G2 : Hid (Fits q2 256) := F2
  have kn := box_kept HK1.out BB (in_heap HK1.out)
  have e0 := cell_at kn
  have hz00 : W1.cell? ⟨w.heap.size + 1, 0, none⟩ = some (.bool xx1) := e0 0 _ rfl
  have hz01 : W1.cell? ⟨w.heap.size + 1, 1, none⟩ = some (SA1) := e0 1 _ rfl
  have hz02 : W1.cell? ⟨w.heap.size + 1, 2, none⟩ = some (SB1) := e0 2 _ rfl
  have hz03 : W1.cell? ⟨w.heap.size + 1, 3, none⟩ = some (.bool yy1) := e0 3 _ rfl
  have hz04 : W1.cell? ⟨w.heap.size + 1, 4, none⟩ = some (SC1) := e0 4 _ rfl
  have hz05 : W1.cell? ⟨w.heap.size + 1, 5, none⟩ = some (SE1) := e0 5 _ rfl
  clear cc
  have cc := cB1 W1 C1.out
  clear cB1
  clear eW B kx kp BB hb RR QQ C0 eg eg2 F1 F2 ha0 ha1 ha2 ha3 ha4 ha5 kn e0 HK1
  go_upto_region 3 with (go_at_call 17; refine cc.mono ?_; rintro e w2 ⟨v, y, q3, q4, rfl, RR, QQ, F3, F4, hb⟩; obtain ⟨b3, A3, L3, p3, b4, A4, L4, p4, rfl, _, _⟩ := id RR; obtain ⟨bq3, o3, l3, c3, r3, m3, z3, bq4, o4, l4, c4, r4, m4, z4, rfl, _, _⟩ := id QQ)
  obtain ⟨W2, eW, B, kx, kp⟩ := two_new w2 (.cells #[.bool b3, .int .u64 A3, .int .u64 L3, .pointer p3, .bool b4, .int .u64 A4, .int .u64 L4, .pointer p4] 49) (.cells #[.bool bq3, .slice o3 l3 c3, .slice r3 m3 z3, .bool bq4, .slice o4 l4 c4, .slice r4 m4 z4] 51)
  rw [eW]
  have BB := bt hb B
  have C2 : Hid (Below w.heap.size w W2) := bt C1.out BB
  have K0xn : Hid (W2.heap[g0x]? = some (.cells #[.bool b1, .int .u64 A1, .int .u64 L1, .pointer p1, .bool b2, .int .u64 A2, .int .u64 L2, .pointer p2] 49)) := box_kept K0x.out BB (in_heap K0x.out)
  clear K0x
  have K0x := K0xn
  clear K0xn
  have K0pn : Hid (W2.heap[g0p]? = some (.cells #[.bool bq1, .slice o1 l1 c1, .slice r1 m1 z1, .bool bq2, .slice o2 l2 c2, .slice r2 m2 z2] 51)) := box_kept K0p.out BB (in_heap K0p.out)
  clear K0p
  have K0p := K0pn
  clear K0pn
  have D0an : Hid (IsD W2 (.agg #[.bool b1, .int .u64 A1, .int .u64 L1, .pointer p1, .bool b2, .int .u64 A2, .int .u64 L2, .pointer p2]) q1 q2) := D0a.out.below BB
  clear D0a
  have D0a := D0an
  clear D0an
  have D0bn : Hid (IsE W2 (.agg #[.bool bq1, .slice o1 l1 c1, .slice r1 m1 z1, .bool bq2, .slice o2 l2 c2, .slice r2 m2 z2]) q1 q2) := D0b.out.below BB
  clear D0b
  have D0b := D0bn
  clear D0bn
  have D1a : Hid (IsD W2 (.agg #[.bool b3, .int .u64 A3, .int .u64 L3, .pointer p3, .bool b4, .int .u64 A4, .int .u64 L4, .pointer p4]) q3 q4) := RR.below B
  have D1b : Hid (IsE W2 (.agg #[.bool bq3, .slice o3 l3 c3, .slice r3 m3 z3, .bool bq4, .slice o4 l4 c4, .slice r4 m4 z4]) q3 q4) := QQ.below B
  obtain ⟨g1x, eg⟩ : ∃ g, w2.heap.size = g := ⟨_, rfl⟩
  obtain ⟨g1p, eg2⟩ : ∃ g, w2.heap.size + 1 = g := ⟨_, rfl⟩
  rw [eg2] at kp
  rw [eg] at kx
  simp only [eg2]
  simp only [eg]
  have K1x : Hid (W2.heap[g1x]? = some (.cells #[.bool b3, .int .u64 A3, .int .u64 L3, .pointer p3, .bool b4, .int .u64 A4, .int .u64 L4, .pointer p4] 49)) := kx
  have K1p : Hid (W2.heap[g1p]? = some (.cells #[.bool bq3, .slice o3 l3 c3, .slice r3 m3 z3, .bool bq4, .slice o4 l4 c4, .slice r4 m4 z4] 51)) := kp
  have G3 : Hid (Fits q3 256) := F3
  have G4 : Hid (Fits q4 256) := F4
  clear cc
  clear eW B kx kp BB hb RR QQ C1 eg eg2 F3 F4 hz00 hz01 hz02 hz03 hz04 hz05
  have s0 : W2.drew.cell? ⟨g0x, 0, none⟩ = some (.bool b1) ∧ W2.drew.cell? ⟨g0x, 1, none⟩ = some (.int .u64 A1) ∧ W2.drew.cell? ⟨g0x, 2, none⟩ = some (.int .u64 L1) ∧ W2.drew.cell? ⟨g0x, 3, none⟩ = some (.pointer p1) ∧ W2.drew.cell? ⟨g0x, 4, none⟩ = some (.bool b2) ∧ W2.drew.cell? ⟨g0x, 5, none⟩ = some (.int .u64 A2) ∧ W2.drew.cell? ⟨g0x, 6, none⟩ = some (.int .u64 L2) ∧ W2.drew.cell? ⟨g0x, 7, none⟩ = some (.pointer p2) ∧ W2.drew.cell? ⟨g0p, 0, none⟩ = some (.bool bq1) ∧ W2.drew.cell? ⟨g0p, 1, none⟩ = some (.slice o1 l1 c1) ∧ W2.drew.cell? ⟨g0p, 2, none⟩ = some (.slice r1 m1 z1) ∧ W2.drew.cell? ⟨g0p, 3, none⟩ = some (.bool bq2) ∧ W2.drew.cell? ⟨g0p, 4, none⟩ = some (.slice o2 l2 c2) ∧ W2.drew.cell? ⟨g0p, 5, none⟩ = some (.slice r2 m2 z2) ∧ W2.drew.cell? ⟨g1x, 0, none⟩ = some (.bool b3) ∧ W2.drew.cell? ⟨g1x, 1, none⟩ = some (.int .u64 A3) ∧ W2.drew.cell? ⟨g1x, 2, none⟩ = some (.int .u64 L3) ∧ W2.drew.cell? ⟨g1x, 3, none⟩ = some (.pointer p3) ∧ W2.drew.cell? ⟨g1x, 4, none⟩ = some (.bool b4) ∧ W2.drew.cell? ⟨g1x, 5, none⟩ = some (.int .u64 A4) ∧ W2.drew.cell? ⟨g1x, 6, none⟩ = some (.int .u64 L4) ∧ W2.drew.cell? ⟨g1x, 7, none⟩ = some (.pointer p4) ∧ W2.drew.cell? ⟨g1p, 0, none⟩ = some (.bool bq3) ∧ W2.drew.cell? ⟨g1p, 1, none⟩ = some (.slice o3 l3 c3) ∧ W2.drew.cell? ⟨g1p, 2, none⟩ = some (.slice r3 m3 z3) ∧ W2.drew.cell? ⟨g1p, 3, none⟩ = some (.bool bq4) ∧ W2.drew.cell? ⟨g1p, 4, none⟩ = some (.slice o4 l4 c4) ∧ W2.drew.cell? ⟨g1p, 5, none⟩ = some (.slice r4 m4 z4) := by
    have f0 := cell_at (World.drew_at K0x.out)
    have f1 := cell_at (World.drew_at K0p.out)
    have f2 := cell_at (World.drew_at K1x.out)
    have f3 := cell_at (World.drew_at K1p.out)
    exact ⟨f0 0 _ rfl, f0 1 _ rfl, f0 2 _ rfl, f0 3 _ rfl, f0 4 _ rfl, f0 5 _ rfl, f0 6 _ rfl, f0 7 _ rfl, f1 0 _ rfl, f1 1 _ rfl, f1 2 _ rfl, f1 3 _ rfl, f1 4 _ rfl, f1 5 _ rfl, f2 0 _ rfl, f2 1 _ rfl, f2 2 _ rfl, f2 3 _ rfl, f2 4 _ rfl, f2 5 _ rfl, f2 6 _ rfl, f2 7 _ rfl, f3 0 _ rfl, f3 1 _ rfl, f3 2 _ rfl, f3 3 _ rfl, f3 4 _ rfl, f3 5 _ rfl⟩
  have Dr : Below W2.heap.size W2 W2.drew := (Below.refl _ _).drew
  have D0an : Hid (IsD W2.drew (.agg #[.bool b1, .int .u64 A1, .int .u64 L1, .pointer p1, .bool b2, .int .u64 A2, .int .u64 L2, .pointer p2]) q1 q2) := D0a.out.below Dr
  clear D0a
  have D0a := D0an
  clear D0an
  have D0bn : Hid (IsE W2.drew (.agg #[.bool bq1, .slice o1 l1 c1, .slice r1 m1 z1, .bool bq2, .slice o2 l2 c2, .slice r2 m2 z2]) q1 q2) := D0b.out.below Dr
  clear D0b
  have D0b := D0bn
  clear D0bn
  have D1an : Hid (IsD W2.drew (.agg #[.bool b3, .int .u64 A3, .int .u64 L3, .pointer p3, .bool b4, .int .u64 A4, .int .u64 L4, .pointer p4]) q3 q4) := D1a.out.below Dr
  clear D1a
  have D1a := D1an
  clear D1an
  have D1bn : Hid (IsE W2.drew (.agg #[.bool bq3, .slice o3 l3 c3, .slice r3 m3 z3, .bool bq4, .slice o4 l4 c4, .slice r4 m4 z4]) q3 q4) := D1b.out.below Dr
  clear D1b
  have D1b := D1bn
  clear D1bn
  have CC : Hid (Below w.heap.size w W2.drew) := C2.out.drew
  have H0 : Below W2.drew.heap.size W2.drew W2.drew := Below.refl _ _
  clear Dr C2 K0x K0p K1x K1p
  have cX1 := fun (W : World) (h1 : IsD W (.agg #[.bool b1, .int .u64 A1, .int .u64 L1, .pointer p1, .bool b2, .int .u64 A2, .int .u64 L2, .pointer p2]) q1 q2) (h2 : IsD W (.agg #[.bool b3, .int .u64 A3, .int .u64 L3, .pointer p3, .bool b4, .int .u64 A4, .int .u64 L4, .pointer p4]) q3 q4) => dcmp _ _ _ _ _ _ 256 (by omega) W h1 h2 G1.out G2.out G3.out G4.out
  have cX2 := fun (W : World) (h2 : IsD W (.agg #[.bool b3, .int .u64 A3, .int .u64 L3, .pointer p3, .bool b4, .int .u64 A4, .int .u64 L4, .pointer p4]) q3 q4) (h1 : IsD W (.agg #[.bool b1, .int .u64 A1, .int .u64 L1, .pointer p1, .bool b2, .int .u64 A2, .int .u64 L2, .pointer p2]) q1 q2) => dcmp _ _ _ _ _ _ 256 (by omega) W h2 h1 G3.out G4.out G1.out G2.out
  have cY1 := fun (W : World) (h1 : IsE W (.agg #[.bool bq1, .slice o1 l1 c1, .slice r1 m1 z1, .bool bq2, .slice o2 l2 c2, .slice r2 m2 z2]) q1 q2) (h2 : IsE W (.agg #[.bool bq3, .slice o3 l3 c3, .slice r3 m3 z3, .bool bq4, .slice o4 l4 c4, .slice r4 m4 z4]) q3 q4) => rdcmp _ _ _ _ _ _ 256 (by omega) W h1 h2 G1.out G2.out G3.out G4.out
  rw [cmpD_swap] at cX2
  have hr := cmpD_range q1 q2 q3 q4
  generalize cmpD q1 q2 q3 q4 = CV at *
  obtain ⟨CN, eN⟩ : ∃ x, -CV = x := ⟨_, rfl⟩
  rw [eN] at cX2
  have hr2 : (CV = -1 ∧ CN = 1) ∨ (CV = 0 ∧ CN = 0) ∨ (CV = 1 ∧ CN = -1) := by omega
  clear hr eN
  rcases hr2 with ⟨rfl, rfl⟩ | ⟨rfl, rfl⟩ | ⟨rfl, rfl⟩
  · have Ta1 : True := trivial
    have Ta2 : True := trivial
    go_region_held3 (fun w' => w'.cell? ⟨g0x, 0, none⟩ = some (.bool b1) ∧ w'.cell? ⟨g0x, 1, none⟩ = some (.int .u64 A1) ∧ w'.cell? ⟨g0x, 2, none⟩ = some (.int .u64 L1) ∧ w'.cell? ⟨g0x, 3, none⟩ = some (.pointer p1) ∧ w'.cell? ⟨g0x, 4, none⟩ = some (.bool b2) ∧ w'.cell? ⟨g0x, 5, none⟩ = some (.int .u64 A2) ∧ w'.cell? ⟨g0x, 6, none⟩ = some (.int .u64 L2) ∧ w'.cell? ⟨g0x, 7, none⟩ = some (.pointer p2) ∧ w'.cell? ⟨g0p, 0, none⟩ = some (.bool bq1) ∧ w'.cell? ⟨g0p, 1, none⟩ = some (.slice o1 l1 c1) ∧ w'.cell? ⟨g0p, 2, none⟩ = some (.slice r1 m1 z1) ∧ w'.cell? ⟨g0p, 3, none⟩ = some (.bool bq2) ∧ w'.cell? ⟨g0p, 4, none⟩ = some (.slice o2 l2 c2) ∧ w'.cell? ⟨g0p, 5, none⟩ = some (.slice r2 m2 z2) ∧ w'.cell? ⟨g1x, 0, none⟩ = some (.bool b3) ∧ w'.cell? ⟨g1x, 1, none⟩ = some (.int .u64 A3) ∧ w'.cell? ⟨g1x, 2, none⟩ = some (.int .u64 L3) ∧ w'.cell? ⟨g1x, 3, none⟩ = some (.pointer p3) ∧ w'.cell? ⟨g1x, 4, none⟩ = some (.bool b4) ∧ w'.cell? ⟨g1x, 5, none⟩ = some (.int .u64 A4) ∧ w'.cell? ⟨g1x, 6, none⟩ = some (.int .u64 L4) ∧ w'.cell? ⟨g1x, 7, none⟩ = some (.pointer p4) ∧ w'.cell? ⟨g1p, 0, none⟩ = some (.bool bq3) ∧ w'.cell? ⟨g1p, 1, none⟩ = some (.slice o3 l3 c3) ∧ w'.cell? ⟨g1p, 2, none⟩ = some (.slice r3 m3 z3) ∧ w'.cell? ⟨g1p, 3, none⟩ = some (.bool bq4) ∧ w'.cell? ⟨g1p, 4, none⟩ = some (.slice o4 l4 c4) ∧ w'.cell? ⟨g1p, 5, none⟩ = some (.slice r4 m4 z4)) (first | with_reducible exact s0 | with_reducible exact sa0 | with_reducible exact sa1 | with_reducible exact sa2 | with_reducible exact sa3 | with_reducible exact sa4) (first
      | (go_at_call 18; refine (awake7 _).mono ?_; rintro e wa0 ⟨rfl, hba0⟩; have Ha0 := bt H0 hba0; have sa0 := keepS hba0 s0)
      | (go_at_call 32; have _t := Ta1; clear _t Ta1; refine (cX1 _ (D0a.out.below Ha0) (D1a.out.below Ha0)).mono ?_; rintro e wa1 ⟨rfl, hba1⟩; have Ha1 := bt Ha0 hba1; have sa1 := keepS hba1 sa0)
      | (go_at_call 33; have _t := Ta2; clear _t Ta2; refine (cY1 _ (D0b.out.below Ha1) (D1b.out.below Ha1)).mono ?_; rintro e wa2 ⟨rfl, hba2⟩; have Ha2 := bt Ha1 hba2; have sa2 := keepS hba2 sa1)
      | (go_at_call 32; refine (cX2 _ (D1a.out.below Ha2) (D0a.out.below Ha2)).mono ?_; rintro e wa3 ⟨rfl, hba3⟩; have Ha3 := bt Ha2 hba3; have sa3 := keepS hba3 sa2)
      | (go_at_call 33; refine (cY1 _ (D0b.out.below Ha3) (D1b.out.below Ha3)).mono ?_; rintro e wa4 ⟨rfl, hba4⟩; have Ha4 := bt Ha3 hba4; have sa4 := keepS hba4 sa3))
    all_goals go_wp2
    all_goals go_ret
    all_goals exact ⟨rfl, bt CC.out Ha4⟩
  · have Ta1 : True := trivial
    have Ta2 : True := trivial
    go_region_held3 (fun w' => w'.cell? ⟨g0x, 0, none⟩ = some (.bool b1) ∧ w'.cell? ⟨g0x, 1, none⟩ = some (.int .u64 A1) ∧ w'.cell? ⟨g0x, 2, none⟩ = some (.int .u64 L1) ∧ w'.cell? ⟨g0x, 3, none⟩ = some (.pointer p1) ∧ w'.cell? ⟨g0x, 4, none⟩ = some (.bool b2) ∧ w'.cell? ⟨g0x, 5, none⟩ = some (.int .u64 A2) ∧ w'.cell? ⟨g0x, 6, none⟩ = some (.int .u64 L2) ∧ w'.cell? ⟨g0x, 7, none⟩ = some (.pointer p2) ∧ w'.cell? ⟨g0p, 0, none⟩ = some (.bool bq1) ∧ w'.cell? ⟨g0p, 1, none⟩ = some (.slice o1 l1 c1) ∧ w'.cell? ⟨g0p, 2, none⟩ = some (.slice r1 m1 z1) ∧ w'.cell? ⟨g0p, 3, none⟩ = some (.bool bq2) ∧ w'.cell? ⟨g0p, 4, none⟩ = some (.slice o2 l2 c2) ∧ w'.cell? ⟨g0p, 5, none⟩ = some (.slice r2 m2 z2) ∧ w'.cell? ⟨g1x, 0, none⟩ = some (.bool b3) ∧ w'.cell? ⟨g1x, 1, none⟩ = some (.int .u64 A3) ∧ w'.cell? ⟨g1x, 2, none⟩ = some (.int .u64 L3) ∧ w'.cell? ⟨g1x, 3, none⟩ = some (.pointer p3) ∧ w'.cell? ⟨g1x, 4, none⟩ = some (.bool b4) ∧ w'.cell? ⟨g1x, 5, none⟩ = some (.int .u64 A4) ∧ w'.cell? ⟨g1x, 6, none⟩ = some (.int .u64 L4) ∧ w'.cell? ⟨g1x, 7, none⟩ = some (.pointer p4) ∧ w'.cell? ⟨g1p, 0, none⟩ = some (.bool bq3) ∧ w'.cell? ⟨g1p, 1, none⟩ = some (.slice o3 l3 c3) ∧ w'.cell? ⟨g1p, 2, none⟩ = some (.slice r3 m3 z3) ∧ w'.cell? ⟨g1p, 3, none⟩ = some (.bool bq4) ∧ w'.cell? ⟨g1p, 4, none⟩ = some (.slice o4 l4 c4) ∧ w'.cell? ⟨g1p, 5, none⟩ = some (.slice r4 m4 z4)) (first | with_reducible exact s0 | with_reducible exact sa0 | with_reducible exact sa1 | with_reducible exact sa2 | with_reducible exact sa3 | with_reducible exact sa4) (first
      | (go_at_call 18; refine (awake7 _).mono ?_; rintro e wa0 ⟨rfl, hba0⟩; have Ha0 := bt H0 hba0; have sa0 := keepS hba0 s0)
      | (go_at_call 32; have _t := Ta1; clear _t Ta1; refine (cX1 _ (D0a.out.below Ha0) (D1a.out.below Ha0)).mono ?_; rintro e wa1 ⟨rfl, hba1⟩; have Ha1 := bt Ha0 hba1; have sa1 := keepS hba1 sa0)
      | (go_at_call 33; have _t := Ta2; clear _t Ta2; refine (cY1 _ (D0b.out.below Ha1) (D1b.out.below Ha1)).mono ?_; rintro e wa2 ⟨rfl, hba2⟩; have Ha2 := bt Ha1 hba2; have sa2 := keepS hba2 sa1)
      | (go_at_call 32; refine (cX2 _ (D1a.out.below Ha2) (D0a.out.below Ha2)).mono ?_; rintro e wa3 ⟨rfl, hba3⟩; have Ha3 := bt Ha2 hba3; have sa3 := keepS hba3 sa2)
      | (go_at_call 33; refine (cY1 _ (D0b.out.below Ha3) (D1b.out.below Ha3)).mono ?_; rintro e wa4 ⟨rfl, hba4⟩; have Ha4 := bt Ha3 hba4; have sa4 := keepS hba4 sa3))
    all_goals go_wp2
    all_goals go_ret
    all_goals exact ⟨rfl, bt CC.out Ha4⟩
  · have Ta1 : True := trivial
    have Ta2 : True := trivial
    go_region_held3 (fun w' => w'.cell? ⟨g0x, 0, none⟩ = some (.bool b1) ∧ w'.cell? ⟨g0x, 1, none⟩ = some (.int .u64 A1) ∧ w'.cell? ⟨g0x, 2, none⟩ = some (.int .u64 L1) ∧ w'.cell? ⟨g0x, 3, none⟩ = some (.pointer p1) ∧ w'.cell? ⟨g0x, 4, none⟩ = some (.bool b2) ∧ w'.cell? ⟨g0x, 5, none⟩ = some (.int .u64 A2) ∧ w'.cell? ⟨g0x, 6, none⟩ = some (.int .u64 L2) ∧ w'.cell? ⟨g0x, 7, none⟩ = some (.pointer p2) ∧ w'.cell? ⟨g0p, 0, none⟩ = some (.bool bq1) ∧ w'.cell? ⟨g0p, 1, none⟩ = some (.slice o1 l1 c1) ∧ w'.cell? ⟨g0p, 2, none⟩ = some (.slice r1 m1 z1) ∧ w'.cell? ⟨g0p, 3, none⟩ = some (.bool bq2) ∧ w'.cell? ⟨g0p, 4, none⟩ = some (.slice o2 l2 c2) ∧ w'.cell? ⟨g0p, 5, none⟩ = some (.slice r2 m2 z2) ∧ w'.cell? ⟨g1x, 0, none⟩ = some (.bool b3) ∧ w'.cell? ⟨g1x, 1, none⟩ = some (.int .u64 A3) ∧ w'.cell? ⟨g1x, 2, none⟩ = some (.int .u64 L3) ∧ w'.cell? ⟨g1x, 3, none⟩ = some (.pointer p3) ∧ w'.cell? ⟨g1x, 4, none⟩ = some (.bool b4) ∧ w'.cell? ⟨g1x, 5, none⟩ = some (.int .u64 A4) ∧ w'.cell? ⟨g1x, 6, none⟩ = some (.int .u64 L4) ∧ w'.cell? ⟨g1x, 7, none⟩ = some (.pointer p4) ∧ w'.cell? ⟨g1p, 0, none⟩ = some (.bool bq3) ∧ w'.cell? ⟨g1p, 1, none⟩ = some (.slice o3 l3 c3) ∧ w'.cell? ⟨g1p, 2, none⟩ = some (.slice r3 m3 z3) ∧ w'.cell? ⟨g1p, 3, none⟩ = some (.bool bq4) ∧ w'.cell? ⟨g1p, 4, none⟩ = some (.slice o4 l4 c4) ∧ w'.cell? ⟨g1p, 5, none⟩ = some (.slice r4 m4 z4)) (first | with_reducible exact s0 | with_reducible exact sa0 | with_reducible exact sa1 | with_reducible exact sa2 | with_reducible exact sa3 | with_reducible exact sa4) (first
      | (go_at_call 18; refine (awake7 _).mono ?_; rintro e wa0 ⟨rfl, hba0⟩; have Ha0 := bt H0 hba0; have sa0 := keepS hba0 s0)
      | (go_at_call 32; have _t := Ta1; clear _t Ta1; refine (cX1 _ (D0a.out.below Ha0) (D1a.out.below Ha0)).mono ?_; rintro e wa1 ⟨rfl, hba1⟩; have Ha1 := bt Ha0 hba1; have sa1 := keepS hba1 sa0)
      | (go_at_call 33; have _t := Ta2; clear _t Ta2; refine (cY1 _ (D0b.out.below Ha1) (D1b.out.below Ha1)).mono ?_; rintro e wa2 ⟨rfl, hba2⟩; have Ha2 := bt Ha1 hba2; have sa2 := keepS hba2 sa1)
      | (go_at_call 32; refine (cX2 _ (D1a.out.below Ha2) (D0a.out.below Ha2)).mono ?_; rintro e wa3 ⟨rfl, hba3⟩; have Ha3 := bt Ha2 hba3; have sa3 := keepS hba3 sa2)
      | (go_at_call 33; refine (cY1 _ (D0b.out.below Ha3) (D1b.out.below Ha3)).mono ?_; rintro e wa4 ⟨rfl, hba4⟩; have Ha4 := bt Ha3 hba4; have sa4 := keepS hba4 sa3))
    all_goals go_wp2
    all_goals go_ret
    all_goals exact ⟨rfl, bt CC.out Ha4⟩
end Go.Proofs.Ytdliookkkgobbaa.DoW
