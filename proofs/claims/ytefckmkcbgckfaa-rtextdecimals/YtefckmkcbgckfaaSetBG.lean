/- RtextDecimals: the walk. -/
import Derived.Test.YtefckmkcbgckfaaSetBC
import Derived.Test.YtefckmkcbgckfaaSetBF
import Derived.Test.YtefckmkcbgckfaaSetAW
namespace Go.Proofs.Ytefckmkcbgckfaa.DeW
open Go.RowKit Mem LimbNum Limb1 DigNum DigL StrL TxN ShelfC TextL RText RatL RatM RatN RatW RefR RefT RefU InvL DivL QNum CmpL CmqL RefX RefY RefZ FloL Mk5 AddN JoinL AddW AddV AddR FldL SubL NmL MulN MulW MulL PaL PtL PbL Law5 Aw5 PadL TensAll DcM RpL RdM

set_option maxRecDepth 20000 in
set_option maxHeartbeats 8000000 in
theorem law (xx0 : Bool) (SA0 SB0 : Value) (i : Int) (w : World) (hm : ML w)
    (cB0 : ∀ W, Below w.heap.size w W → Calls Try.prog 12 #[.agg #[.bool xx0, SA0, SB0]] W fun e w' => ∃ v q p, e = .returned (.tuple #[v, q]) ∧ IsR w' v p ∧ IsQ w' q p ∧ Fits p 256 ∧ Below W.heap.size W w') :
    Calls Try.prog 5 #[.agg #[.bool xx0, SA0, SB0], .int .i64 i] w fun e w' => e = .returned (.bool true) ∧ Below w.heap.size w w' := by
  obtain ⟨W0, eW0, hb0, k0⟩ := one_new w (.cells #[.bool xx0, SA0, SB0] 40)
  have e0 := cell_at k0
  have ha0 : W0.cell? ⟨w.heap.size, 0, none⟩ = some (.bool xx0) := e0 0 _ rfl
  have ha1 : W0.cell? ⟨w.heap.size, 1, none⟩ = some (SA0) := e0 1 _ rfl
  have ha2 : W0.cell? ⟨w.heap.size, 2, none⟩ = some (SB0) := e0 2 _ rfl
  have EW : Hid (_ = W0) := eW0
  have C0 : Hid (Below w.heap.size w W0) := hb0
  have cc := cB0 W0 hb0
  clear eW0 e0 k0 cB0 hb0
  go_enter Try.func5, Try.ntmps5
  go_upto_region 1 with fail
  rw [EW.out]
  clear EW
  go_upto_region 2 with (go_at_call 12; refine cc.mono ?_; rintro e w1 ⟨v, y, q1, rfl, RR, QQ, F1, hb⟩; obtain ⟨b1, A1, L1, p1, rfl⟩ := RR.shape4; obtain ⟨bq1, o1, l1, c1, r1, m1, z1, rfl⟩ := QQ.shape3)
  obtain ⟨W1, eW, B, kx, kp⟩ := two_new w1 (.cells #[.bool b1, .int .u64 A1, .int .u64 L1, .pointer p1] 25) (.cells #[.bool bq1, .slice o1 l1 c1, .slice r1 m1 z1] 33)
  rw [eW]
  have BB := bt hb B
  have C1 : Hid (Below w.heap.size w W1) := bt C0.out BB
  have D0a : Hid (IsR W1 (.agg #[.bool b1, .int .u64 A1, .int .u64 L1, .pointer p1]) q1) := RR.below B
  have D0b : Hid (IsQ W1 (.agg #[.bool bq1, .slice o1 l1 c1, .slice r1 m1 z1]) q1) := QQ.below B
  obtain ⟨g0x, eg⟩ : ∃ g, w1.heap.size = g := ⟨_, rfl⟩
  obtain ⟨g0p, eg2⟩ : ∃ g, w1.heap.size + 1 = g := ⟨_, rfl⟩
  rw [eg2] at kp
  rw [eg] at kx
  simp only [eg2]
  simp only [eg]
  have K0x : Hid (W1.heap[g0x]? = some (.cells #[.bool b1, .int .u64 A1, .int .u64 L1, .pointer p1] 25)) := kx
  have K0p : Hid (W1.heap[g0p]? = some (.cells #[.bool bq1, .slice o1 l1 c1, .slice r1 m1 z1] 33)) := kp
  have G1 : Hid (Fits q1 256) := F1
  clear cc
  clear eW B kx kp BB hb RR QQ C0 eg eg2 F1 ha0 ha1 ha2
  have HM : Hid (ML W1) := hm.below C1.out
  have e0 := cell_at K0x.out
  have u0 : W1.cell? ⟨g0x, 0, none⟩ = some (.bool b1) := e0 0 _ rfl; have u1 : W1.cell? ⟨g0x, 1, none⟩ = some (.int .u64 A1) := e0 1 _ rfl; have u2 : W1.cell? ⟨g0x, 2, none⟩ = some (.int .u64 L1) := e0 2 _ rfl; have u3 : W1.cell? ⟨g0x, 3, none⟩ = some (.pointer p1) := e0 3 _ rfl
  clear e0 hm
  by_cases h1 : i < 0
  · go_wp2_with (first
      | (go_at_call 17; refine (dec_low _ q1 i _ D0a.out h1).mono ?_; rintro e w5 ⟨rfl, hb5⟩)
      | (go_at_call 8; refine (awake6 _ (HM.out.below hb5)).mono ?_; rintro e w6 ⟨rfl, hb6⟩))
    all_goals go_ret
    all_goals exact ⟨rfl, bt C1.out (bt hb5 hb6)⟩
  · by_cases h2 : 1000 < i
    · go_wp2_with (first
        | (go_at_call 17; refine (dec_high _ q1 i _ D0a.out h2).mono ?_; rintro e w5 ⟨rfl, hb5⟩)
        | (go_at_call 8; refine (awake6 _ (HM.out.below hb5)).mono ?_; rintro e w6 ⟨rfl, hb6⟩))
      all_goals go_ret
      all_goals exact ⟨rfl, bt C1.out (bt hb5 hb6)⟩
    · obtain ⟨k, rfl⟩ : ∃ k : Nat, i = (k : Int) := ⟨i.toNat, by omega⟩
      have hk : k ≤ 1000 := by omega
      by_cases h3 : 60 < k
      · have q3 : (60 : Int) < (k : Int) := by omega
        go_wp2_with (first
          | (go_at_call 17; refine (dec_any _ q1 k _ D0a.out G1.out hk).mono ?_; rintro e w5 ⟨rfl, hb5⟩)
          | (go_at_call 8; refine (awake6 _ (HM.out.below hb5)).mono ?_; rintro e w6 ⟨rfl, hb6⟩))
        all_goals go_ret
        all_goals exact ⟨rfl, bt C1.out (bt hb5 hb6)⟩
      · have q3 : ¬ (60 : Int) < (k : Int) := by omega
        have cD := dec_any _ q1 k _ D0a.out G1.out hk
        have cE := fun (V : World) (h : IsQ V (.agg #[.bool bq1, .slice o1 l1 c1, .slice r1 m1 z1]) q1) => rdec_any _ q1 k V h G1.out (by omega)
        generalize bs (decM q1.b q1.n q1.d k) = SS at *
        go_wp2_with (first
          | (go_at_call 17; refine (cD).mono ?_; rintro e w5 ⟨rfl, hb5⟩)
          | (go_at_call 8; refine (awake6 _ (HM.out.below hb5)).mono ?_; rintro e w6 ⟨rfl, hb6⟩; have f0 := cell_at (box_kept K0p.out (bt hb5 hb6) (in_heap K0p.out)); have yy0 : w6.cell? ⟨g0p, 0, none⟩ = some (.bool bq1) := f0 0 _ rfl; have yy1 : w6.cell? ⟨g0p, 1, none⟩ = some (.slice o1 l1 c1) := f0 1 _ rfl; have yy2 : w6.cell? ⟨g0p, 2, none⟩ = some (.slice r1 m1 z1) := f0 2 _ rfl; clear f0)
          | (go_at_call 18; refine (cE _ (D0b.out.below (bt hb5 hb6))).mono ?_; rintro e w7 ⟨rfl, hb7⟩))
        all_goals go_ret
        all_goals exact ⟨rfl, bt C1.out (bt hb5 (bt hb6 hb7))⟩
end Go.Proofs.Ytefckmkcbgckfaa.DeW
