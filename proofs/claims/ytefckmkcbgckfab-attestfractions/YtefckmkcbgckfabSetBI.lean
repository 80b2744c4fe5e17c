/- AttestFractions: the walk. -/
import Derived.Test.YtefckmkcbgckfabSetBF
import Derived.Test.YtefckmkcbgckfabSetBG
import Derived.Test.YtefckmkcbgckfabSetBH
namespace Go.Proofs.Ytefckmkcbgckfab.FrW
open Go.RowKit Mem LimbNum Limb1 DigNum DigL StrL TxN ShelfC TextL RText RatL RatM RatN RatW RefR RefT RefU InvL DivL QNum CmpL CmqL RefX RefY RefZ FloL Mk5 AddN JoinL AddW AddV AddR FldL SubL NmL MulN MulW MulL PaL PtL PbL Law5 Aw5 VqN BkL RatF RatO ByNum AppZ FrN FrR StabL
open Go.Maps

theorem keep6 {W W' : World} {ga gb : Nat} {xx1 xx2 : Bool} {SA1 SB1 SA2 SB2 : Value} (hb : Below W.heap.size W W') (H : W.cell? ⟨ga, 0, none⟩ = some (.bool xx1) ∧ W.cell? ⟨ga, 1, none⟩ = some (SA1) ∧ W.cell? ⟨ga, 2, none⟩ = some (SB1) ∧ W.cell? ⟨gb, 0, none⟩ = some (.bool xx2) ∧ W.cell? ⟨gb, 1, none⟩ = some (SA2) ∧ W.cell? ⟨gb, 2, none⟩ = some (SB2)) : W'.cell? ⟨ga, 0, none⟩ = some (.bool xx1) ∧ W'.cell? ⟨ga, 1, none⟩ = some (SA1) ∧ W'.cell? ⟨ga, 2, none⟩ = some (SB1) ∧ W'.cell? ⟨gb, 0, none⟩ = some (.bool xx2) ∧ W'.cell? ⟨gb, 1, none⟩ = some (SA2) ∧ W'.cell? ⟨gb, 2, none⟩ = some (SB2) := by
  have kc : ∀ {p : Addr} {v : Value}, W.cell? p = some v → W'.cell? p = some v := fun {p v} h => by rw [hb.cell (World.block_lt_of_cell? W p h)]; exact h
  exact ⟨kc H.1, kc H.2.1, kc H.2.2.1, kc H.2.2.2.1, kc H.2.2.2.2.1, kc H.2.2.2.2.2⟩

theorem keep8 {W W' : World} {gx1 gx2 : Nat} {x1b : Bool} {x1A x1L : Int} {x1p : Option Addr} {x2b : Bool} {x2A x2L : Int} {x2p : Option Addr} (hb : Below W.heap.size W W') (H : W.cell? ⟨gx1, 0, none⟩ = some (.bool x1b) ∧ W.cell? ⟨gx1, 1, none⟩ = some (.int .u64 x1A) ∧ W.cell? ⟨gx1, 2, none⟩ = some (.int .u64 x1L) ∧ W.cell? ⟨gx1, 3, none⟩ = some (.pointer x1p) ∧ W.cell? ⟨gx2, 0, none⟩ = some (.bool x2b) ∧ W.cell? ⟨gx2, 1, none⟩ = some (.int .u64 x2A) ∧ W.cell? ⟨gx2, 2, none⟩ = some (.int .u64 x2L) ∧ W.cell? ⟨gx2, 3, none⟩ = some (.pointer x2p)) : W'.cell? ⟨gx1, 0, none⟩ = some (.bool x1b) ∧ W'.cell? ⟨gx1, 1, none⟩ = some (.int .u64 x1A) ∧ W'.cell? ⟨gx1, 2, none⟩ = some (.int .u64 x1L) ∧ W'.cell? ⟨gx1, 3, none⟩ = some (.pointer x1p) ∧ W'.cell? ⟨gx2, 0, none⟩ = some (.bool x2b) ∧ W'.cell? ⟨gx2, 1, none⟩ = some (.int .u64 x2A) ∧ W'.cell? ⟨gx2, 2, none⟩ = some (.int .u64 x2L) ∧ W'.cell? ⟨gx2, 3, none⟩ = some (.pointer x2p) := by
  have kc : ∀ {p : Addr} {v : Value}, W.cell? p = some v → W'.cell? p = some v := fun {p v} h => by rw [hb.cell (World.block_lt_of_cell? W p h)]; exact h
  exact ⟨kc H.1, kc H.2.1, kc H.2.2.1, kc H.2.2.2.1, kc H.2.2.2.2.1, kc H.2.2.2.2.2.1, kc H.2.2.2.2.2.2.1, kc H.2.2.2.2.2.2.2⟩
theorem keepj {W W' : World} {gr gr1 j : Nat} {jb : Bool} {jA jL : Int} {jp : Option Addr} {b : Bool} {A L : Int} {p : Option Addr} (hb : Below W.heap.size W W') (H : W.cell? ⟨gr, j * 4, none⟩ = some (.bool jb) ∧ W.cell? ⟨gr, j * 4 + 1, none⟩ = some (.int .u64 jA) ∧ W.cell? ⟨gr, j * 4 + 2, none⟩ = some (.int .u64 jL) ∧ W.cell? ⟨gr, j * 4 + 3, none⟩ = some (.pointer jp) ∧ W.cell? ⟨gr1, 0, none⟩ = some (.bool b) ∧ W.cell? ⟨gr1, 1, none⟩ = some (.int .u64 A) ∧ W.cell? ⟨gr1, 2, none⟩ = some (.int .u64 L) ∧ W.cell? ⟨gr1, 3, none⟩ = some (.pointer p)) : W'.cell? ⟨gr, j * 4, none⟩ = some (.bool jb) ∧ W'.cell? ⟨gr, j * 4 + 1, none⟩ = some (.int .u64 jA) ∧ W'.cell? ⟨gr, j * 4 + 2, none⟩ = some (.int .u64 jL) ∧ W'.cell? ⟨gr, j * 4 + 3, none⟩ = some (.pointer jp) ∧ W'.cell? ⟨gr1, 0, none⟩ = some (.bool b) ∧ W'.cell? ⟨gr1, 1, none⟩ = some (.int .u64 A) ∧ W'.cell? ⟨gr1, 2, none⟩ = some (.int .u64 L) ∧ W'.cell? ⟨gr1, 3, none⟩ = some (.pointer p) := by
  have kc : ∀ {p : Addr} {v : Value}, W.cell? p = some v → W'.cell? p = some v := fun {p v} h => by rw [hb.cell (World.block_lt_of_cell? W p h)]; exact h
  exact ⟨kc H.1, kc H.2.1, kc H.2.2.1, kc H.2.2.2.1, kc H.2.2.2.2.1, kc H.2.2.2.2.2.1, kc H.2.2.2.2.2.2.1, kc H.2.2.2.2.2.2.2⟩
theorem keep12 {W W' : World} {gr1 gt gm : Nat} {b : Bool} {A L : Int} {p : Option Addr} {tb : Bool} {tA tL : Int} {tp : Option Addr} {mb : Bool} {mA mL : Int} {mp : Option Addr} (hb : Below W.heap.size W W') (H : W.cell? ⟨gr1, 0, none⟩ = some (.bool b) ∧ W.cell? ⟨gr1, 1, none⟩ = some (.int .u64 A) ∧ W.cell? ⟨gr1, 2, none⟩ = some (.int .u64 L) ∧ W.cell? ⟨gr1, 3, none⟩ = some (.pointer p) ∧ W.cell? ⟨gt, 0, none⟩ = some (.bool tb) ∧ W.cell? ⟨gt, 1, none⟩ = some (.int .u64 tA) ∧ W.cell? ⟨gt, 2, none⟩ = some (.int .u64 tL) ∧ W.cell? ⟨gt, 3, none⟩ = some (.pointer tp) ∧ W.cell? ⟨gm, 0, none⟩ = some (.bool mb) ∧ W.cell? ⟨gm, 1, none⟩ = some (.int .u64 mA) ∧ W.cell? ⟨gm, 2, none⟩ = some (.int .u64 mL) ∧ W.cell? ⟨gm, 3, none⟩ = some (.pointer mp)) : W'.cell? ⟨gr1, 0, none⟩ = some (.bool b) ∧ W'.cell? ⟨gr1, 1, none⟩ = some (.int .u64 A) ∧ W'.cell? ⟨gr1, 2, none⟩ = some (.int .u64 L) ∧ W'.cell? ⟨gr1, 3, none⟩ = some (.pointer p) ∧ W'.cell? ⟨gt, 0, none⟩ = some (.bool tb) ∧ W'.cell? ⟨gt, 1, none⟩ = some (.int .u64 tA) ∧ W'.cell? ⟨gt, 2, none⟩ = some (.int .u64 tL) ∧ W'.cell? ⟨gt, 3, none⟩ = some (.pointer tp) ∧ W'.cell? ⟨gm, 0, none⟩ = some (.bool mb) ∧ W'.cell? ⟨gm, 1, none⟩ = some (.int .u64 mA) ∧ W'.cell? ⟨gm, 2, none⟩ = some (.int .u64 mL) ∧ W'.cell? ⟨gm, 3, none⟩ = some (.pointer mp) := by
  have kc : ∀ {p : Addr} {v : Value}, W.cell? p = some v → W'.cell? p = some v := fun {p v} h => by rw [hb.cell (World.block_lt_of_cell? W p h)]; exact h
  exact ⟨kc H.1, kc H.2.1, kc H.2.2.1, kc H.2.2.2.1, kc H.2.2.2.2.1, kc H.2.2.2.2.2.1, kc H.2.2.2.2.2.2.1, kc H.2.2.2.2.2.2.2.1, kc H.2.2.2.2.2.2.2.2.1, kc H.2.2.2.2.2.2.2.2.2.1, kc H.2.2.2.2.2.2.2.2.2.2.1, kc H.2.2.2.2.2.2.2.2.2.2.2⟩
theorem half_read : readM (signM [48, 46, 53]).2 = some (5, 10) := by decide +kernel
theorem half_low : lowM (signM [48, 46, 53]).1 5 10 = ⟨false, 1, 2⟩ := by
  have e : Nat.gcd 5 10 = 5 := by decide +kernel
  unfold lowM
  rw [e]
  rfl
theorem half_prn : bs (prn false 1 2) = ByteArray.mk #[49, 47, 50] := by unfold prn; rw [tx1, tx2]; rfl
set_option maxRecDepth 20000 in
set_option maxHeartbeats 8000000 in
theorem law (xx1 xx2 : Bool) (SA1 SB1 SA2 SB2 : Value) (w : World) (hm : ML w)
    (cB1 : ∀ W, Below w.heap.size w W → Calls Try.prog 6 #[.agg #[.bool xx1, SA1, SB1]] W fun e w' => ∃ v q, e = .returned v ∧ IsR w' v q ∧ Fits q 256 ∧ Below W.heap.size W w')
    (cB2 : ∀ W, Below w.heap.size w W → Calls Try.prog 6 #[.agg #[.bool xx2, SA2, SB2]] W fun e w' => ∃ v q, e = .returned v ∧ IsR w' v q ∧ Fits q 256 ∧ Below W.heap.size W w') :
    Calls Try.prog 3 #[.agg #[.bool xx1, SA1, SB1], .agg #[.bool xx2, SA2, SB2]] w fun e w' => e = .returned (.bool true) ∧ Below w.heap.size w w' := by
  obtain ⟨W0, eW0, hb0, k0, k1⟩ := two_new w (.cells #[.bool xx1, SA1, SB1] 24) (.cells #[.bool xx2, SA2, SB2] 24)
  have cA := parse_some [48, 46, 53] 5 10 W0 (hm.below hb0) (by intro x hx; simp at hx; omega) (by decide) half_read (by omega)
  rw [half_low, show bs [48, 46, 53] = ByteArray.mk #[48, 46, 53] from rfl] at cA
  have cP := fun (W : World) (v : Value) (h : IsR W v ⟨false, 1, 2⟩) => print_any v ⟨false, 1, 2⟩ W h (by decide +kernel) (by decide +kernel)
  rw [half_prn] at cP
  have EW : Hid (_ = W0) := eW0
  have C0 : Hid (Below w.heap.size w W0) := hb0
  have K0 : Hid (W0.heap[w.heap.size]? = some (.cells #[.bool xx1, SA1, SB1] 24)) := k0
  have K1 : Hid (W0.heap[w.heap.size + 1]? = some (.cells #[.bool xx2, SA2, SB2] 24)) := k1
  have HM0 : Hid (ML W0) := hm.below hb0
  have HMw : Hid (ML w) := hm
  clear eW0 hb0 k0 k1 hm
  go_enter Try.func3, Try.ntmps3
  go_upto_region 1 with fail
  rw [EW.out]
  clear EW
  go_upto_region 2 with (go_at_call 4; refine cA.mono ?_; rintro e w1 ⟨v1, rfl, R1, hb1⟩; obtain ⟨hb, hA, hL, hp, rfl⟩ := R1.shape4)
  obtain ⟨W1, eW1, B1, kh⟩ := one_new w1 (.cells #[.bool hb, .int .u64 hA, .int .u64 hL, .pointer hp] 28)
  rw [eW1]
  have R2 := R1.below B1
  have e0 := cell_at kh
  have a0 : W1.cell? ⟨w1.heap.size, 0, none⟩ = some (.bool hb) := e0 0 _ rfl
  have a1 : W1.cell? ⟨w1.heap.size, 1, none⟩ = some (.int .u64 hA) := e0 1 _ rfl
  have a2 : W1.cell? ⟨w1.heap.size, 2, none⟩ = some (.int .u64 hL) := e0 2 _ rfl
  have a3 : W1.cell? ⟨w1.heap.size, 3, none⟩ = some (.pointer hp) := e0 3 _ rfl
  have C1 : Hid (Below w.heap.size w W1) := bt C0.out (bt hb1 B1)
  have BX : Hid (Below W0.heap.size W0 W1) := bt hb1 B1
  clear eW1 e0 kh cA
  go_upto_region 4 with (go_at_call 5; refine (cP _ _ R2).mono ?_; rintro e w2 ⟨rfl, hb2⟩)
  have hD : Below w2.heap.size w2 w2.drew := (Below.refl _ _).drew
  have BY := bt BX.out (bt hb2 hD)
  have C2 : Hid (Below w.heap.size w w2.drew) := bt C1.out (bt hb2 hD)
  have HM2 : Hid (ML w2.drew) := HM0.out.below BY
  have n0 := cell_at (box_kept K0.out BY (in_heap K0.out))
  have n1 := cell_at (box_kept K1.out BY (in_heap K1.out))
  obtain ⟨ga, ega⟩ : ∃ g, w.heap.size = g := ⟨_, rfl⟩
  obtain ⟨gb, egb⟩ : ∃ g, w.heap.size + 1 = g := ⟨_, rfl⟩
  have s0 : w2.drew.cell? ⟨w.heap.size, 0, none⟩ = some (.bool xx1) ∧ w2.drew.cell? ⟨w.heap.size, 1, none⟩ = some (SA1) ∧ w2.drew.cell? ⟨w.heap.size, 2, none⟩ = some (SB1) ∧ w2.drew.cell? ⟨w.heap.size + 1, 0, none⟩ = some (.bool xx2) ∧ w2.drew.cell? ⟨w.heap.size + 1, 1, none⟩ = some (SA2) ∧ w2.drew.cell? ⟨w.heap.size + 1, 2, none⟩ = some (SB2) := ⟨n0 0 _ rfl, n0 1 _ rfl, n0 2 _ rfl, n1 0 _ rfl, n1 1 _ rfl, n1 2 _ rfl⟩
  simp only [egb] at s0 ⊢
  simp only [ega] at s0 ⊢
  clear n0 n1 BY hD hb1 B1 R1 R2 a0 a1 a2 a3 hb2 cP BX C1 C0 K0 K1 HM0 ega egb
  refine wp_region_inv (fun a0 f b v => ∃ (x0 x1 x2 x3 x4 x5 : Value), b = ((((((a0.put (some 33) x0).put (some 34) x1).put (some 35) x2).put (some 36) x3).put (some 7) x4).put (some 8) x5) ∧ Below w2.drew.heap.size w2.drew v ∧ LdF (f 0) x0 (.agg #[.bool xx1, SA1, SB1]) ∧ ClF (f 1) 256 v x1 ∧ LdF (f 2) x2 (.agg #[.bool xx2, SA2, SB2]) ∧ ClF (f 3) 256 v x3 ∧ AlF (f 4) w2.drew.heap.size v x4 ∧ AlF (f 5) w2.drew.heap.size v x5 ∧ (f 4 = true → f 5 = true → x4 ≠ x5) ∧ StF (f 6) 256 v x4 ∧ StF (f 7) 256 v x5 ∧ (f 6 = true → f 4 = true) ∧ (f 7 = true → f 5 = true)) (by kernel_rfl) (by kernel_rfl) ?_ ?_ ?_
  · exact ⟨undef, undef, undef, undef, undef, undef, rfl, Below.refl _ _, fun h => (Bool.false_ne_true h).elim, fun h => (Bool.false_ne_true h).elim, fun h => (Bool.false_ne_true h).elim, fun h => (Bool.false_ne_true h).elim, fun h => (Bool.false_ne_true h).elim, fun h => (Bool.false_ne_true h).elim, fun h => (Bool.false_ne_true h).elim, fun h => (Bool.false_ne_true h).elim, fun h => (Bool.false_ne_true h).elim, fun h => (Bool.false_ne_true h).elim, fun h => (Bool.false_ne_true h).elim⟩
  · intro i o ho f b v hI hf hw Q' K hK
    obtain ⟨x0, x1, x2, x3, x4, x5, rfl, HB, L0, C1, L2, C3, A4, A5, D4_5, S6, S7, N6, N7⟩ := hI
    have s1 := keep6 HB s0
    revert ho hf hw hK
    match i with
    | 0 =>
      intro ho hf hw hK
      obtain rfl := Option.some.inj ho
      have HK : Hid (∀ b v, _ → K b v) := hK
      clear ho hK cB1 cB2 hw
      simp only [Act.put, List.setIfInBounds_toArray, List.set_cons_succ, List.set_cons_zero]
      go_wp2
      refine HK.out _ _ ?_
      exact ⟨_, x1, x2, x3, x4, x5, rfl, HB, fun _ => rfl, C1, L2, C3, A4, A5, D4_5, S6, S7, N6, N7⟩
    | 1 =>
      intro ho hf hw hK
      obtain rfl := Option.some.inj ho
      have HK : Hid (∀ b v, _ → K b v) := hK
      clear ho hK cB2
      have e0 := L0 (hw ⟨0, .data⟩ (by simp) rfl)
      subst e0
      clear hw
      simp only [Act.put, List.setIfInBounds_toArray, List.set_cons_succ, List.set_cons_zero]
      go_wp2_with (go_at_call 6; refine (cB1 _ (bt C2.out HB)).mono ?_; rintro e v' ⟨y, q, rfl, R, F, hb⟩; obtain ⟨xb, xA, xL, xp, rfl⟩ := R.shape4)
      refine HK.out _ _ ?_
      exact ⟨_, _, x2, x3, x4, x5, rfl, bt HB hb, L0, fun _ => ⟨q, xb, xA, xL, xp, rfl, R, F⟩, L2, C3.below hb, A4.below hb, A5.below hb, D4_5, S6.below hb, S7.below hb, N6, N7⟩
    | 2 =>
      intro ho hf hw hK
      obtain rfl := Option.some.inj ho
      have HK : Hid (∀ b v, _ → K b v) := hK
      clear ho hK cB1 cB2 hw
      simp only [Act.put, List.setIfInBounds_toArray, List.set_cons_succ, List.set_cons_zero]
      go_wp2
      refine HK.out _ _ ?_
      exact ⟨x0, x1, _, x3, x4, x5, rfl, HB, L0, C1, fun _ => rfl, C3, A4, A5, D4_5, S6, S7, N6, N7⟩
    | 3 =>
      intro ho hf hw hK
      obtain rfl := Option.some.inj ho
      have HK : Hid (∀ b v, _ → K b v) := hK
      clear ho hK cB1
      have e0 := L2 (hw ⟨2, .data⟩ (by simp) rfl)
      subst e0
      clear hw
      simp only [Act.put, List.setIfInBounds_toArray, List.set_cons_succ, List.set_cons_zero]
      go_wp2_with (go_at_call 6; refine (cB2 _ (bt C2.out HB)).mono ?_; rintro e v' ⟨y, q, rfl, R, F, hb⟩; obtain ⟨xb, xA, xL, xp, rfl⟩ := R.shape4)
      refine HK.out _ _ ?_
      exact ⟨x0, x1, _, _, x4, x5, rfl, bt HB hb, L0, C1.below hb, L2, fun _ => ⟨q, xb, xA, xL, xp, rfl, R, F⟩, A4.below hb, A5.below hb, D4_5, S6.below hb, S7.below hb, N6, N7⟩
    | 4 =>
      intro ho hf hw hK
      obtain rfl := Option.some.inj ho
      have HK : Hid (∀ b v, _ → K b v) := hK
      clear ho hK cB1 cB2 hw
      have ba : Below v.heap.size v (v.alloc (.cells #[.bool false, .int .u64 0, .int .u64 0, .pointer none] 28)) := (Below.refl _ _).alloc (Nat.le_refl _) _
      simp only [Act.put, List.setIfInBounds_toArray, List.set_cons_succ, List.set_cons_zero]
      go_wp2
      refine HK.out _ _ ?_
      exact ⟨x0, x1, x2, x3, _, x5, rfl, bt HB ba, L0, C1.below ba, L2, C3.below ba, AlF.new HB.size, A5.below ba, fun _ h5 => (A5.ne h5).symm, fun e => absurd (N6 e) (by rw [hf]; exact Bool.false_ne_true), S7.below ba, fun e => absurd (N6 e) (by rw [hf]; exact Bool.false_ne_true), N7⟩
    | 5 =>
      intro ho hf hw hK
      obtain rfl := Option.some.inj ho
      have HK : Hid (∀ b v, _ → K b v) := hK
      clear ho hK cB1 cB2 hw
      have ba : Below v.heap.size v (v.alloc (.cells #[.bool false, .int .u64 0, .int .u64 0, .pointer none] 28)) := (Below.refl _ _).alloc (Nat.le_refl _) _
      simp only [Act.put, List.setIfInBounds_toArray, List.set_cons_succ, List.set_cons_zero]
      go_wp2
      refine HK.out _ _ ?_
      exact ⟨x0, x1, x2, x3, x4, _, rfl, bt HB ba, L0, C1.below ba, L2, C3.below ba, A4.below ba, AlF.new HB.size, fun h4 _ => A4.ne h4, S6.below ba, fun e => absurd (N7 e) (by rw [hf]; exact Bool.false_ne_true), N6, fun e => absurd (N7 e) (by rw [hf]; exact Bool.false_ne_true)⟩
    | 6 =>
      intro ho hf hw hK
      obtain rfl := Option.some.inj ho
      have HK : Hid (∀ b v, _ → K b v) := hK
      clear ho hK cB1 cB2
      have fa := hw ⟨4, .data⟩ (by simp) rfl
      have fc := hw ⟨1, .data⟩ (by simp) rfl
      obtain ⟨g, zb, zA, zL, zp, rfl, hg, Kg⟩ := A4 fa
      obtain ⟨q, xb, xA, xL, xp, rfl, R, F⟩ := C1 fc
      have e0 := cell_at Kg
      have z0 : v.cell? ⟨g, 0, none⟩ = some (.bool zb) := e0 0 _ rfl
      have z1 : v.cell? ⟨g, 1, none⟩ = some (.int .u64 zA) := e0 1 _ rfl
      have z2 : v.cell? ⟨g, 2, none⟩ = some (.int .u64 zL) := e0 2 _ rfl
      have z3 : v.cell? ⟨g, 3, none⟩ = some (.pointer zp) := e0 3 _ rfl
      have fz : ∀ i, v.frozen? ⟨g, i, none⟩ = false := fun i => by simp [World.frozen?, Kg]
      have fz0 := fz 0
      have fz1 := fz 1
      have fz2 := fz 2
      have fz3 := fz 3
      clear fz e0 hw
      simp only [Act.put, List.setIfInBounds_toArray, List.set_cons_succ, List.set_cons_zero]
      go_wp2
      refine HK.out _ _ ?_
      exact ⟨x0, _, x2, x3, _, x5, rfl, sto4_below HB hg _ _ _ _, L0, C1.off Kg _ _ _ _, L2, C3.off Kg _ _ _ _, A4.off Kg _ _ _ _, A5.off Kg _ _ _ _, D4_5, StF.new R F Kg, S7.off Kg (fun e e2 => D4_5 fa (N7 e) e2.symm) _ _ _ _, fun _ => fa, N7⟩
    | 7 =>
      intro ho hf hw hK
      obtain rfl := Option.some.inj ho
      have HK : Hid (∀ b v, _ → K b v) := hK
      clear ho hK cB1 cB2
      have fa := hw ⟨5, .data⟩ (by simp) rfl
      have fc := hw ⟨3, .data⟩ (by simp) rfl
      obtain ⟨g, zb, zA, zL, zp, rfl, hg, Kg⟩ := A5 fa
      obtain ⟨q, xb, xA, xL, xp, rfl, R, F⟩ := C3 fc
      have e0 := cell_at Kg
      have z0 : v.cell? ⟨g, 0, none⟩ = some (.bool zb) := e0 0 _ rfl
      have z1 : v.cell? ⟨g, 1, none⟩ = some (.int .u64 zA) := e0 1 _ rfl
      have z2 : v.cell? ⟨g, 2, none⟩ = some (.int .u64 zL) := e0 2 _ rfl
      have z3 : v.cell? ⟨g, 3, none⟩ = some (.pointer zp) := e0 3 _ rfl
      have fz : ∀ i, v.frozen? ⟨g, i, none⟩ = false := fun i => by simp [World.frozen?, Kg]
      have fz0 := fz 0
      have fz1 := fz 1
      have fz2 := fz 2
      have fz3 := fz 3
      clear fz e0 hw
      simp only [Act.put, List.setIfInBounds_toArray, List.set_cons_succ, List.set_cons_zero]
      go_wp2
      refine HK.out _ _ ?_
      exact ⟨x0, x1, x2, _, x4, _, rfl, sto4_below HB hg _ _ _ _, L0, C1.off Kg _ _ _ _, L2, C3.off Kg _ _ _ _, A4.off Kg _ _ _ _, A5.off Kg _ _ _ _, D4_5, S6.off Kg (fun e e2 => D4_5 (N6 e) fa e2) _ _ _ _, StF.new R F Kg, N6, fun _ => fa⟩
    | i + 8 =>
      intro ho
      simp at ho
  · intro f b v hf hI
    obtain ⟨x0, x1, x2, x3, x4, x5, rfl, HB, L0, C1, L2, C3, A4, A5, D4_5, S6, S7, N6, N7⟩ := hI
    obtain ⟨gx1, q1, x1b, x1A, x1L, x1p, rfl, Bx1, F1⟩ := S6 (hf 6 (by decide))
    obtain ⟨gx2, q2, x2b, x2A, x2L, x2p, rfl, Bx2, F2⟩ := S7 (hf 7 (by decide))
    have e0 := L0 (hf 0 (by decide))
    subst e0
    have e1 := L2 (hf 2 (by decide))
    subst e1
    obtain ⟨_, _, _, _, _, e0, _, _⟩ := C1 (hf 1 (by decide))
    subst e0
    obtain ⟨_, _, _, _, _, e1, _, _⟩ := C3 (hf 3 (by decide))
    subst e1
    clear L0 C1 L2 C3 A4 A5 S6 S7 N6 N7 hf
    simp only [Act.put, List.setIfInBounds_toArray, List.set_cons_succ, List.set_cons_zero]
    clear s0 cB1 cB2 D4_5
    have hvd : Below v.heap.size v v.drew := (Below.refl _ _).drew
    have HM : Hid (ML v.drew) := HM2.out.below (bt HB hvd)
    have C3 : Hid (Below w.heap.size w v.drew) := bt C2.out (bt HB hvd)
    have R1 : Hid (IsR v.drew (.agg #[.bool x1b, .int .u64 x1A, .int .u64 x1L, .pointer x1p]) q1) := Bx1.is.below hvd
    have R2 : Hid (IsR v.drew (.agg #[.bool x2b, .int .u64 x2A, .int .u64 x2L, .pointer x2p]) q2) := Bx2.is.below hvd
    have K1 : Hid (v.drew.heap[gx1]? = some (.cells #[.bool x1b, .int .u64 x1A, .int .u64 x1L, .pointer x1p] 28)) := Bx1.box
    have K2 : Hid (v.drew.heap[gx2]? = some (.cells #[.bool x2b, .int .u64 x2A, .int .u64 x2L, .pointer x2p] 28)) := Bx2.box
    have FF : Hid (Fits q1 256 ∧ Fits q2 256) := ⟨F1, F2⟩
    have s0 : v.drew.cell? ⟨gx1, 0, none⟩ = some (.bool x1b) ∧ v.drew.cell? ⟨gx1, 1, none⟩ = some (.int .u64 x1A) ∧ v.drew.cell? ⟨gx1, 2, none⟩ = some (.int .u64 x1L) ∧ v.drew.cell? ⟨gx1, 3, none⟩ = some (.pointer x1p) ∧ v.drew.cell? ⟨gx2, 0, none⟩ = some (.bool x2b) ∧ v.drew.cell? ⟨gx2, 1, none⟩ = some (.int .u64 x2A) ∧ v.drew.cell? ⟨gx2, 2, none⟩ = some (.int .u64 x2L) ∧ v.drew.cell? ⟨gx2, 3, none⟩ = some (.pointer x2p) := ⟨Bx1.cells.1, Bx1.cells.2.1, Bx1.cells.2.2.1, Bx1.cells.2.2.2, Bx2.cells⟩
    have H0 : Below v.drew.heap.size v.drew v.drew := Below.refl _ _
    clear Bx1 Bx2 F1 F2 hvd HM2 C2 HB
    go_upto_region 5 with fail
    go_region_held3 (fun w' => w'.cell? ⟨gx1, 0, none⟩ = some (.bool x1b) ∧ w'.cell? ⟨gx1, 1, none⟩ = some (.int .u64 x1A) ∧ w'.cell? ⟨gx1, 2, none⟩ = some (.int .u64 x1L) ∧ w'.cell? ⟨gx1, 3, none⟩ = some (.pointer x1p) ∧ w'.cell? ⟨gx2, 0, none⟩ = some (.bool x2b) ∧ w'.cell? ⟨gx2, 1, none⟩ = some (.int .u64 x2A) ∧ w'.cell? ⟨gx2, 2, none⟩ = some (.int .u64 x2L) ∧ w'.cell? ⟨gx2, 3, none⟩ = some (.pointer x2p)) (first | with_reducible exact keep8 ((Below.refl _ _).alloc (Nat.le_refl _) _) sa5 | with_reducible exact s0 | with_reducible exact sa0 | with_reducible exact sa1 | with_reducible exact sa2 | with_reducible exact sa3 | with_reducible exact sa4 | with_reducible exact sa5) (first
      | (go_at_call 7; refine (a_add (k := 256) (by omega) (R1.out.below H0) (R2.out.below H0) FF.out.1 FF.out.2).mono ?_; rintro e wa0 ⟨ya0, rfl, Ra0, hba0⟩; obtain ⟨ba0, Aa0, La0, pa0, rfl⟩ := Ra0.shape4; have Ha0 := bt H0 hba0; have sa0 := keep8 hba0 s0)
      | (go_at_call 8; refine (a_sub (k := 256) (by omega) (R1.out.below Ha0) (R2.out.below Ha0) FF.out.1 FF.out.2).mono ?_; rintro e wa1 ⟨ya1, rfl, Ra1, hba1⟩; obtain ⟨ba1, Aa1, La1, pa1, rfl⟩ := Ra1.shape4; have Ha1 := bt Ha0 hba1; have sa1 := keep8 hba1 sa0)
      | (go_at_call 9; refine (a_mul (k := 256) (by omega) (R1.out.below Ha1) (R2.out.below Ha1) FF.out.1 FF.out.2).mono ?_; rintro e wa2 ⟨ya2, rfl, Ra2, hba2⟩; obtain ⟨ba2, Aa2, La2, pa2, rfl⟩ := Ra2.shape4; have Ha2 := bt Ha1 hba2; have sa2 := keep8 hba2 sa1)
      | (go_at_call 10; refine (a_neg (R1.out.below Ha2)).mono ?_; rintro e wa3 ⟨ya3, rfl, Ra3, hba3⟩; obtain ⟨ba3, Aa3, La3, pa3, rfl⟩ := Ra3.shape4; have Ha3 := bt Ha2 hba3; have sa3 := keep8 hba3 sa2)
      | (go_at_call 11; refine (a_abs (R2.out.below Ha3)).mono ?_; rintro e wa4 ⟨ya4, rfl, Ra4, hba4⟩; obtain ⟨ba4, Aa4, La4, pa4, rfl⟩ := Ra4.shape4; have Ha4 := bt Ha3 hba4; have sa4 := keep8 hba4 sa3)
      | (go_at_call 12; refine (a_flo (k := 256) (by omega) (R1.out.below Ha4) FF.out.1).mono ?_; rintro e wa5 ⟨ya5, rfl, Ra5, hba5⟩; obtain ⟨ba5, Aa5, La5, pa5, rfl⟩ := Ra5.shape4; have Ha5 := bt Ha4 hba5; have sa5 := keep8 hba5 sa4))
    obtain ⟨W5, eW5, B5, k5⟩ := one_new wa5 (.cells #[.bool x1b, .int .u64 x1A, .int .u64 x1L, .pointer x1p, .bool x2b, .int .u64 x2A, .int .u64 x2L, .pointer x2p, .bool ba0, .int .u64 Aa0, .int .u64 La0, .pointer pa0, .bool ba1, .int .u64 Aa1, .int .u64 La1, .pointer pa1, .bool ba2, .int .u64 Aa2, .int .u64 La2, .pointer pa2, .bool ba3, .int .u64 Aa3, .int .u64 La3, .pointer pa3, .bool ba4, .int .u64 Aa4, .int .u64 La4, .pointer pa4, .bool ba5, .int .u64 Aa5, .int .u64 La5, .pointer pa5] 28)
    rw [eW5]
    obtain ⟨g5, eg5⟩ : ∃ g, wa5.heap.size = g := ⟨_, rfl⟩
    rw [eg5] at k5 ⊢
    have K5 : Hid (W5.heap[g5]? = some (.cells (flat [(x1b, x1A, x1L, x1p), (x2b, x2A, x2L, x2p), (ba0, Aa0, La0, pa0), (ba1, Aa1, La1, pa1), (ba2, Aa2, La2, pa2), (ba3, Aa3, La3, pa3), (ba4, Aa4, La4, pa4), (ba5, Aa5, La5, pa5)]).toArray 28)) := k5
    have BB := bt Ha5 B5
    have II : Hid (IsR W5 (ag4 (x1b, x1A, x1L, x1p)) (q1) ∧ IsR W5 (ag4 (x2b, x2A, x2L, x2p)) (q2) ∧ IsR W5 (ag4 (ba0, Aa0, La0, pa0)) (addM q1 q2) ∧ IsR W5 (ag4 (ba1, Aa1, La1, pa1)) (addM q1 (negM q2)) ∧ IsR W5 (ag4 (ba2, Aa2, La2, pa2)) (mulM q1 q2) ∧ IsR W5 (ag4 (ba3, Aa3, La3, pa3)) (negM q1) ∧ IsR W5 (ag4 (ba4, Aa4, La4, pa4)) (absM q2) ∧ IsR W5 (ag4 (ba5, Aa5, La5, pa5)) (floM q1)) := ⟨R1.out.below BB, R2.out.below BB, ((((((Ra0.below hba1).below hba2).below hba3).below hba4).below hba5).below B5), (((((Ra1.below hba2).below hba3).below hba4).below hba5).below B5), ((((Ra2.below hba3).below hba4).below hba5).below B5), (((Ra3.below hba4).below hba5).below B5), ((Ra4.below hba5).below B5), (Ra5.below B5)⟩
    have X15 : Hid (Bx W5 gx1 q1 x1b x1A x1L x1p) := ⟨box_kept K1.out BB (in_heap K1.out), R1.out.below BB⟩
    have X25 : Hid (Bx W5 gx2 q2 x2b x2A x2L x2p) := ⟨box_kept K2.out BB (in_heap K2.out), R2.out.below BB⟩
    have HM5 : Hid (ML W5) := HM.out.below BB
    have C5 : Hid (Below w.heap.size w W5) := bt C3.out BB
    have hg5 : Hid (w.heap.size ≤ g5) := by have := bt C3.out Ha5; have := this.size; rw [eg5] at this; exact this
    have FE : Hid (Fits (q1) 600 ∧ Fits (q2) 600 ∧ Fits (addM q1 q2) 600 ∧ Fits (addM q1 (negM q2)) 600 ∧ Fits (mulM q1 q2) 600 ∧ Fits (negM q1) 600 ∧ Fits (absM q2) 600 ∧ Fits (floM q1) 600) := ⟨(FF.out.1.more (by omega)), (FF.out.2.more (by omega)), ((fits_add FF.out.1 FF.out.2).more (by omega)), ((fits_add FF.out.1 (fits_neg FF.out.2)).more (by omega)), ((fits_mul FF.out.1 FF.out.2).more (by omega)), ((fits_neg FF.out.1).more (by omega)), ((show Fits q2 256 from FF.out.2).more (by omega)), ((fits_flo FF.out.1 (by omega)).more (by omega))⟩
    have hgx : Hid (gx1 < g5 ∧ gx2 < g5) := by have z1 := in_heap K1.out; have z2 := in_heap K2.out; have z3 := Ha5.size; rw [eg5] at z3; exact ⟨Nat.lt_of_lt_of_le z1 z3, Nat.lt_of_lt_of_le z2 z3⟩
    clear eW5 B5 k5 eg5 BB R1 R2 K1 K2 HM C3 s0 H0 Ra0 Ha0 hba0 sa0 Ra1 Ha1 hba1 sa1 Ra2 Ha2 hba2 sa2 Ra3 Ha3 hba3 sa3 Ra4 Ha4 hba4 sa4 Ra5 Ha5 hba5 sa5
    obtain ⟨d0, d1, d2, d3⟩ := X15.out.cells
    obtain ⟨t0, t1, t2, t3⟩ := X25.out.cells
    by_cases hq : q2.n = 0
    · have cDv := a_div0 X15.out.is X25.out.is hq
      go_upto_region 7 with (go_at_call 13; refine cDv.mono ?_; rintro e w6 ⟨rfl, hb6⟩)
      obtain ⟨W6, eW6, B6, k6⟩ := one_new w6 (.cells #[.bool false, .int .u64 0, .int .u64 0, .pointer none] 28)
      rw [eW6]
      have BB := bt hb6 B6
      obtain ⟨E, hE⟩ : ∃ E : Nat → Nm, E = fun k => ([q1, q2, addM q1 q2, addM q1 (negM q2), mulM q1 q2, negM q1, absM q2, floM q1] : List Nm)[k]?.getD q1 := ⟨_, rfl⟩
      obtain ⟨gr, egr⟩ : ∃ g, g5 = g := ⟨_, rfl⟩
      have RN : Hid (RowG W6 gr 8 E) := by
        subst egr hE
        refine (row_of_owns (owns_lit K5.out hg5.out (Nat.le_trans (show _ ≤ 8 from Nat.le_refl 8) (by decide))) rfl ?_).below BB
        obtain ⟨i1, i2, i3, i4, i5, i6, i7, i8⟩ := II.out
        rintro (_ | _ | _ | _ | _ | _ | _ | _ | k) d hd
        · cases hd; exact i1
        · cases hd; exact i2
        · cases hd; exact i3
        · cases hd; exact i4
        · cases hd; exact i5
        · cases hd; exact i6
        · cases hd; exact i7
        · cases hd; exact i8
        · simp at hd
      have EF : Hid (∀ k, k < 8 → Fits (E k) 600 ∧ Low (E k).b (E k).n (E k).d) := by
        subst hE
        obtain ⟨i1, i2, i3, i4, i5, i6, i7, i8⟩ := II.out
        obtain ⟨f1, f2, f3, f4, f5, f6, f7, f8⟩ := FE.out
        rintro (_ | _ | _ | _ | _ | _ | _ | _ | k) hk
        · exact ⟨f1, i1.1⟩
        · exact ⟨f2, i2.1⟩
        · exact ⟨f3, i3.1⟩
        · exact ⟨f4, i4.1⟩
        · exact ⟨f5, i5.1⟩
        · exact ⟨f6, i6.1⟩
        · exact ⟨f7, i7.1⟩
        · exact ⟨f8, i8.1⟩
        · omega
      have XX : Hid (Bx W6 gx1 q1 x1b x1A x1L x1p ∧ Bx W6 gx2 q2 x2b x2A x2L x2p) := ⟨X15.out.below BB, X25.out.below BB⟩
      have HMt : Hid (ML W6) := HM5.out.below BB
      have HC : Hid (Below w.heap.size w W6) := bt C5.out BB
      rw [egr]
      clear eW6 B6 k6 BB hE egr X15 X25 HM5 C5 K5 II hg5 FE cDv hb6 d0 d1 d2 d3 t0 t1 t2 t3 hq
      go_upto_region 10 with fail
      go_loopw [68] (fun iv wr => ∃ (k : Nat), k ≤ 8 ∧ iv = .int .i64 (k : Int) ∧ Hid (RowG wr gr 8 E) ∧ Hid (Bx wr gx1 q1 x1b x1A x1L x1p ∧ Bx wr gx2 q2 x2b x2A x2L x2p) ∧ Hid (ML wr) ∧ Hid (Below w.heap.size w wr)) (fun iv _ => 8 - (intOf iv).toNat)
      case atStart => exact ⟨0, by omega, rfl, RN.out, XX.out, HMt.out, HC.out⟩
      case round =>
        clear RN XX HMt HC
        obtain ⟨k, hk, rfl, RN, XX, HMt, HC⟩ := hrel
        by_cases hlt : k < 8
        · obtain ⟨b, A, L, p, a0, a1, a2, a3, hi⟩ := RN.out.2 k hlt
          have q1i : (k : Int) < 8 := by omega
          have EFk : Hid (Fits (E k) 600 ∧ Low (E k).b (E k).n (E k).d) := EF.out k hlt
          have HI : Hid (IsR wr (.agg #[.bool b, .int .u64 A, .int .u64 L, .pointer p]) (E k)) := hi
          clear hi
          go_upto_region 12 with fail
          obtain ⟨V1, eV1, B1, k1⟩ := one_new wr (.cells #[.bool b, .int .u64 A, .int .u64 L, .pointer p] 28)
          rw [eV1]
          obtain ⟨gr1, egr1⟩ : ∃ g, wr.heap.size = g := ⟨_, rfl⟩
          rw [egr1] at k1 ⊢
          have RN1 : Hid (RowG V1 gr 8 E) := RN.out.below B1
          have XX1 : Hid (Bx V1 gx1 q1 x1b x1A x1L x1p ∧ Bx V1 gx2 q2 x2b x2A x2L x2p) := ⟨XX.out.1.below B1, XX.out.2.below B1⟩
          have HM1 : Hid (ML V1) := HMt.out.below B1
          have HC1 : Hid (Below w.heap.size w V1) := bt HC.out B1
          have HR1 : Hid (Bx V1 gr1 (E k) b A L p) := ⟨k1, HI.out.below B1⟩
          clear eV1 B1 k1 RN XX HMt HC HI egr1 a0 a1 a2 a3
          obtain ⟨d0, d1, d2, d3⟩ := HR1.out.cells
          have cPr := fun (h : IsR V1 (.agg #[.bool b, .int .u64 A, .int .u64 L, .pointer p]) (E k)) => print_any _ (E k) V1 h (EFk.out.1.nl (by omega)).1 (EFk.out.1.nl (by omega)).2
          have cBk := fun (W : World) (hm : ML W) => back_any (E k) 600 (by omega) (by omega) W hm EFk.out.1 EFk.out.2
          generalize bs (prn (E k).b (E k).n (E k).d) = SS at *
          go_upto_region 13 with (first
            | (go_at_call 5; refine (cPr HR1.out.is).mono ?_; rintro e u1 ⟨rfl, hu1⟩)
            | (go_at_call 4; refine (cBk _ (HM1.out.below hu1)).mono ?_; rintro e u2 ⟨v5, rfl, R5, hu2⟩; obtain ⟨tb, tA, tL, tp, rfl⟩ := R5.shape4))
          clear cPr cBk
          obtain ⟨V2, eV2, B2, k2⟩ := one_new u2 (.cells #[.bool tb, .int .u64 tA, .int .u64 tL, .pointer tp] 28)
          rw [eV2]
          have BB := bt hu1 (bt hu2 B2)
          obtain ⟨gt, egt⟩ : ∃ g, u2.heap.size = g := ⟨_, rfl⟩
          rw [egt] at k2 ⊢
          have HT2 : Hid (Bx V2 gt (E k) tb tA tL tp) := ⟨k2, R5.below B2⟩
          have HR2 : Hid (Bx V2 gr1 (E k) b A L p) := HR1.out.below BB
          have RN2 : Hid (RowG V2 gr 8 E) := RN1.out.below BB
          have XX2 : Hid (Bx V2 gx1 q1 x1b x1A x1L x1p ∧ Bx V2 gx2 q2 x2b x2A x2L x2p) := ⟨XX1.out.1.below BB, XX1.out.2.below BB⟩
          have HM2 : Hid (ML V2) := HM1.out.below BB
          have HC2 : Hid (Below w.heap.size w V2) := bt HC1.out BB
          clear eV2 B2 k2 BB egt RN1 XX1 HM1 HC1 HR1 hu1 hu2 R5 d0 d1 d2 d3
          obtain ⟨d0, d1, d2, d3⟩ := HR2.out.cells
          have cPa := parts_any _ (E k).b (E k).n (E k).d V2 HR2.out.is (Nat.le_trans (EFk.out.1.nl (by omega)).1 (by omega)) (Nat.le_trans (EFk.out.1.nl (by omega)).2 (by omega))
          have cMk := fun (o1 o2 : Option Addr) (c1 c2 : Nat) (W : World) (h1 : Lies W o1 c1 (ints .u32 (nl (E k).n))) (h2 : Lies W o2 c2 (ints .u32 (nl (E k).d))) => a_make (E k) o1 o2 c1 c2 (k := 600) (by omega) h1 h2 EFk.out.1 EFk.out.2
          have cGc := fun (o1 o2 : Option Addr) (c1 c2 : Nat) (W : World) (h1 : Lies W o1 c1 (ints .u32 (nl (E k).n))) (h2 : Lies W o2 c2 (ints .u32 (nl (E k).d))) => a_gcd (E k) o1 o2 c1 c2 (k := 600) (by omega) h1 h2 EFk.out.1 EFk.out.2
          generalize (nl (E k).n).length = l1 at *
          generalize (nl (E k).d).length = l2 at *
          generalize (E k).b = eb at *
          go_upto_region 15 with (first
            | (go_at_call 14; refine cPa.mono ?_; rintro e u3 ⟨o1, c1, o2, c2, rfl, own1, own2, hu3⟩; have LL1 : Hid (Lies u3 o1 c1 (ints .u32 (nl (E k).n)) ∧ Lies u3 o2 c2 (ints .u32 (nl (E k).d))) := ⟨lies_of_owns own1, lies_of_owns own2⟩; clear own1 own2)
            | (go_at_call 15; refine (cMk _ _ _ _ _ LL1.out.1 LL1.out.2).mono ?_; rintro e u4 ⟨v6, rfl, R6, hu4⟩; obtain ⟨mb, mA, mL, mp, rfl⟩ := R6.shape4))
          clear cPa cMk
          obtain ⟨V3, eV3, B3, k3⟩ := one_new u4 (.cells #[.bool mb, .int .u64 mA, .int .u64 mL, .pointer mp] 28)
          rw [eV3]
          have BB := bt hu3 (bt hu4 B3)
          obtain ⟨gm, egm⟩ : ∃ g, u4.heap.size = g := ⟨_, rfl⟩
          rw [egm] at k3 ⊢
          have HQ3 : Hid (Bx V3 gm (E k) mb mA mL mp) := ⟨k3, R6.below B3⟩
          have HT3 : Hid (Bx V3 gt (E k) tb tA tL tp) := HT2.out.below BB
          have HR3 : Hid (Bx V3 gr1 (E k) b A L p) := HR2.out.below BB
          have LL3 : Hid (Lies V3 o1 c1 (ints .u32 (nl (E k).n)) ∧ Lies V3 o2 c2 (ints .u32 (nl (E k).d))) := ⟨LL1.out.1.below (bt hu4 B3) (Nat.le_refl _), LL1.out.2.below (bt hu4 B3) (Nat.le_refl _)⟩
          have RN3 : Hid (RowG V3 gr 8 E) := RN2.out.below BB
          have XX3 : Hid (Bx V3 gx1 q1 x1b x1A x1L x1p ∧ Bx V3 gx2 q2 x2b x2A x2L x2p) := ⟨XX2.out.1.below BB, XX2.out.2.below BB⟩
          have HM3 : Hid (ML V3) := HM2.out.below BB
          have HC3 : Hid (Below w.heap.size w V3) := bt HC2.out BB
          clear eV3 B3 k3 BB egm RN2 XX2 HM2 HC2 HR2 HT2 LL1 hu3 hu4 R6 d0 d1 d2 d3
          obtain ⟨d0, d1, d2, d3⟩ := HR3.out.cells
          obtain ⟨t0, t1, t2, t3⟩ := HT3.out.cells
          obtain ⟨m0, m1, m2, m3⟩ := HQ3.out.cells
          have s0 : V3.cell? ⟨gr1, 0, none⟩ = some (.bool b) ∧ V3.cell? ⟨gr1, 1, none⟩ = some (.int .u64 A) ∧ V3.cell? ⟨gr1, 2, none⟩ = some (.int .u64 L) ∧ V3.cell? ⟨gr1, 3, none⟩ = some (.pointer p) ∧ V3.cell? ⟨gt, 0, none⟩ = some (.bool tb) ∧ V3.cell? ⟨gt, 1, none⟩ = some (.int .u64 tA) ∧ V3.cell? ⟨gt, 2, none⟩ = some (.int .u64 tL) ∧ V3.cell? ⟨gt, 3, none⟩ = some (.pointer tp) ∧ V3.cell? ⟨gm, 0, none⟩ = some (.bool mb) ∧ V3.cell? ⟨gm, 1, none⟩ = some (.int .u64 mA) ∧ V3.cell? ⟨gm, 2, none⟩ = some (.int .u64 mL) ∧ V3.cell? ⟨gm, 3, none⟩ = some (.pointer mp) := ⟨d0, d1, d2, d3, t0, t1, t2, t3, m0, m1, m2, m3⟩
          clear d0 d1 d2 d3 t0 t1 t2 t3 m0 m1 m2 m3
          obtain ⟨d0, d1, d2, d3, t0, t1, t2, t3, m0, m1, m2, m3⟩ := id s0
          have cAl := fun (W : World) (v v' : Value) (h1 : IsR W v (E k)) (h2 : IsR W v' (E k)) => alike_any (k := 600) (by omega) h1 h2 EFk.out.1 EFk.out.1
          simp only [cmp_self, decide_true] at cAl
          have T1 : True := trivial
          have T2 : True := trivial
          go_upto_region 17 with (first
            | (go_at_call 16; have _t := T1; clear _t T1; refine (cAl _ _ _ HT3.out.is HR3.out.is).mono ?_; rintro e u5 ⟨rfl, hu5⟩; have s1 := keep12 hu5 s0; clear d0 d1 d2 d3 t0 t1 t2 t3 m0 m1 m2 m3; obtain ⟨d0, d1, d2, d3, t0, t1, t2, t3, m0, m1, m2, m3⟩ := id s1)
            | (go_at_call 16; refine (cAl _ _ _ (HQ3.out.is.below hu5) (HR3.out.is.below hu5)).mono ?_; rintro e u6 ⟨rfl, hu6⟩)
            | (go_at_call 17; have _t := T2; clear _t T2; refine (cGc _ _ _ _ _ (LL3.out.1.below (bt hu5 hu6) (Nat.le_refl _)) (LL3.out.2.below (bt hu5 hu6) (Nat.le_refl _))).mono ?_; rintro e u7 ⟨gg, og, cg, rfl, hg1, hu7⟩)
            | (go_at_call 17; refine (cGc _ _ _ _ _ (LL3.out.1.below (bt hu5 (bt hu6 hu7)) (Nat.le_refl _)) (LL3.out.2.below (bt hu5 (bt hu6 hu7)) (Nat.le_refl _))).mono ?_; rintro e u8 ⟨gg2, og2, cg2, rfl, hg2, hu8⟩))
          have BB := bt hu5 (bt hu6 (bt hu7 hu8))
          have HR4 : Hid (Bx u8 gr1 (E k) b A L p) := HR3.out.below BB
          have RN4 : Hid (RowG u8 gr 8 E) := RN3.out.below BB
          have XX4 : Hid (Bx u8 gx1 q1 x1b x1A x1L x1p ∧ Bx u8 gx2 q2 x2b x2A x2L x2p) := ⟨XX3.out.1.below BB, XX3.out.2.below BB⟩
          have HM4 : Hid (ML u8) := HM3.out.below BB
          have HC4 : Hid (Below w.heap.size w u8) := bt HC3.out BB
          clear BB HR3 RN3 XX3 HM3 HC3 HQ3 HT3 LL3 hu5 hu6 hu7 hu8 hg1 hg2 d0 d1 d2 d3 t0 t1 t2 t3 m0 m1 m2 m3 s0 s1 cAl cGc
          go_wp2
          go_loopw [21] (fun jv wr => ∃ (j : Nat), j ≤ k ∧ jv = .int .i64 (j : Int) ∧ Hid (RowG wr gr 8 E) ∧ Hid (Bx wr gx1 q1 x1b x1A x1L x1p ∧ Bx wr gx2 q2 x2b x2A x2L x2p) ∧ Hid (ML wr) ∧ Hid (Below w.heap.size w wr) ∧ Hid (Bx wr gr1 (E k) b A L p)) (fun jv _ => k - (intOf jv).toNat)
          case atStart => exact ⟨0, by omega, rfl, RN4.out, XX4.out, HM4.out, HC4.out, HR4.out⟩
          case round =>
            clear RN4 XX4 HM4 HC4 HR4
            obtain ⟨j, hj, rfl, RN, XX, HMt, HC, HR⟩ := hrel
            by_cases hjl : j < k
            · obtain ⟨jb, jA, jL, jp, a0, a1, a2, a3, hi⟩ := RN.out.2 j (by omega)
              have q2i : (j : Int) < (k : Int) := by omega
              have q3i : (j : Int) < 8 := by omega
              obtain ⟨d0, d1, d2, d3⟩ := HR.out.cells
              have Dr : Below wr.heap.size wr wr.drew := (Below.refl _ _).drew
              have HJd : Hid (IsR wr.drew (.agg #[.bool jb, .int .u64 jA, .int .u64 jL, .pointer jp]) (E j)) := hi.below Dr
              have HRd : Hid (IsR wr.drew (.agg #[.bool b, .int .u64 A, .int .u64 L, .pointer p]) (E k)) := HR.out.is.below Dr
              have s0 : wr.drew.cell? ⟨gr, j * 4, none⟩ = some (.bool jb) ∧ wr.drew.cell? ⟨gr, j * 4 + 1, none⟩ = some (.int .u64 jA) ∧ wr.drew.cell? ⟨gr, j * 4 + 2, none⟩ = some (.int .u64 jL) ∧ wr.drew.cell? ⟨gr, j * 4 + 3, none⟩ = some (.pointer jp) ∧ wr.drew.cell? ⟨gr1, 0, none⟩ = some (.bool b) ∧ wr.drew.cell? ⟨gr1, 1, none⟩ = some (.int .u64 A) ∧ wr.drew.cell? ⟨gr1, 2, none⟩ = some (.int .u64 L) ∧ wr.drew.cell? ⟨gr1, 3, none⟩ = some (.pointer p) := ⟨a0, a1, a2, a3, d0, d1, d2, d3⟩
              have H0 : Below wr.drew.heap.size wr.drew wr.drew := Below.refl _ _
              have RNd : Hid (RowG wr.drew gr 8 E) := RN.out.below Dr
              have XXd : Hid (Bx wr.drew gx1 q1 x1b x1A x1L x1p ∧ Bx wr.drew gx2 q2 x2b x2A x2L x2p) := ⟨XX.out.1.below Dr, XX.out.2.below Dr⟩
              have HMd : Hid (ML wr.drew) := HMt.out.below Dr
              have HCd : Hid (Below w.heap.size w wr.drew) := bt HC.out Dr
              have HBd : Hid (Bx wr.drew gr1 (E k) b A L p) := HR.out.below Dr
              have EJ := EF.out j (by omega)
              have EK := EF.out k hlt
              have cAl := fun (W : World) (v v' : Value) (h1 : IsR W v (E j)) (h2 : IsR W v' (E k)) => alike_any (k := 600) (by omega) h1 h2 EJ.1 EK.1
              have cK1 := fun (W : World) (v : Value) (h : IsR W v (E j)) => KeyL.keyof_any v (E j) 600 (by omega) W h EJ.1
              have cK2 := fun (W : World) (v : Value) (h : IsR W v (E k)) => KeyL.keyof_any v (E k) 600 (by omega) W h EK.1
              have hE := fun (W : World) => eql_key W (E j) (E k) (fits_ny EJ.1 (by omega)).1 (fits_ny EJ.1 (by omega)).2 (fits_ny EK.1 (by omega)).1 (fits_ny EK.1 (by omega)).2
              simp only [KeyL.keyV] at cK1 cK2
              simp only [key_cmp EJ.2 EK.2] at hE
              generalize decide (cmpM (E j) (E k) = 0) = BV at *
              clear EJ EK hi a0 a1 a2 a3 d0 d1 d2 d3 RN XX HMt HC HR Dr
              go_upto_region 20 with fail
              have Tj1 : True := trivial
              go_region_held3 (fun w' => w'.cell? ⟨gr, j * 4, none⟩ = some (.bool jb) ∧ w'.cell? ⟨gr, j * 4 + 1, none⟩ = some (.int .u64 jA) ∧ w'.cell? ⟨gr, j * 4 + 2, none⟩ = some (.int .u64 jL) ∧ w'.cell? ⟨gr, j * 4 + 3, none⟩ = some (.pointer jp) ∧ w'.cell? ⟨gr1, 0, none⟩ = some (.bool b) ∧ w'.cell? ⟨gr1, 1, none⟩ = some (.int .u64 A) ∧ w'.cell? ⟨gr1, 2, none⟩ = some (.int .u64 L) ∧ w'.cell? ⟨gr1, 3, none⟩ = some (.pointer p)) (first | with_reducible exact s0 | with_reducible exact sj0 | with_reducible exact sj1 | with_reducible exact sj2) (first
                | (go_at_call 16; refine (cAl _ _ _ (HJd.out.below H0) (HRd.out.below H0)).mono ?_; rintro e wj0 ⟨rfl, hbj0⟩; have Hj0 := bt H0 hbj0; have sj0 := keepj hbj0 s0)
                | (go_at_call 18; have _t := Tj1; clear _t Tj1; refine (cK1 _ _ (HJd.out.below Hj0)).mono ?_; rintro e wj1 ⟨rfl, hbj1⟩; have Hj1 := bt Hj0 hbj1; have sj1 := keepj hbj1 sj0)
                | (go_at_call 18; refine (cK2 _ _ (HRd.out.below Hj1)).mono ?_; rintro e wj2 ⟨rfl, hbj2⟩; have Hj2 := bt Hj1 hbj2; have sj2 := keepj hbj2 sj1))
              have RN5 : Hid (RowG wj2 gr 8 E) := RNd.out.below Hj2
              have XX5 : Hid (Bx wj2 gx1 q1 x1b x1A x1L x1p ∧ Bx wj2 gx2 q2 x2b x2A x2L x2p) := ⟨XXd.out.1.below Hj2, XXd.out.2.below Hj2⟩
              have HM5 : Hid (ML wj2) := HMd.out.below Hj2
              have HC5 : Hid (Below w.heap.size w wj2) := bt HCd.out Hj2
              have HB5 : Hid (Bx wj2 gr1 (E k) b A L p) := HBd.out.below Hj2
              clear RNd XXd HMd HCd HBd s0 sj0 sj1 sj2 Hj0 Hj1 Hj2 hbj0 hbj1 hbj2 H0 cAl cK1 cK2 hE HJd HRd
              have hBV : (BV != BV) = false := by simp
              go_wp2
              go_roundw
              case rel => exact ⟨j + 1, by omega, by go_num, RN5.out, XX5.out, HM5.out, HC5.out, HB5.out⟩
              case measure => simp [intOf]; omega
            · obtain rfl : k = j := by omega
              clear HR
              go_wp2
              go_roundw
              case rel => exact ⟨k + 1, by omega, by go_num, RN.out, XX.out, HMt.out, HC.out⟩
              case measure => simp [intOf]; omega
        · obtain rfl : 8 = k := by omega
          have Dr : Below wr.heap.size wr wr.drew := (Below.refl _ _).drew
          have R1 : Hid (IsR wr.drew (.agg #[.bool x1b, .int .u64 x1A, .int .u64 x1L, .pointer x1p]) q1) := XX.out.1.is.below Dr
          have R2 : Hid (IsR wr.drew (.agg #[.bool x2b, .int .u64 x2A, .int .u64 x2L, .pointer x2p]) q2) := XX.out.2.is.below Dr
          have s0 : wr.drew.cell? ⟨gx1, 0, none⟩ = some (.bool x1b) ∧ wr.drew.cell? ⟨gx1, 1, none⟩ = some (.int .u64 x1A) ∧ wr.drew.cell? ⟨gx1, 2, none⟩ = some (.int .u64 x1L) ∧ wr.drew.cell? ⟨gx1, 3, none⟩ = some (.pointer x1p) ∧ wr.drew.cell? ⟨gx2, 0, none⟩ = some (.bool x2b) ∧ wr.drew.cell? ⟨gx2, 1, none⟩ = some (.int .u64 x2A) ∧ wr.drew.cell? ⟨gx2, 2, none⟩ = some (.int .u64 x2L) ∧ wr.drew.cell? ⟨gx2, 3, none⟩ = some (.pointer x2p) := ⟨XX.out.1.cells.1, XX.out.1.cells.2.1, XX.out.1.cells.2.2.1, XX.out.1.cells.2.2.2, XX.out.2.cells⟩
          have H0 : Below wr.drew.heap.size wr.drew wr.drew := Below.refl _ _
          have HCd : Hid (Below w.heap.size w wr.drew) := bt HC.out Dr
          have fs : Hid (Fits (addM q1 (negM q2)) 513) := fits_add FF.out.1 (fits_neg FF.out.2)
          have ft : Hid (Fits (addM (addM q1 (negM q2)) q2) 1027) := fits_add fs.out (FF.out.2.more (by omega))
          have hsub : cmpM (addM (addM q1 (negM q2)) q2) q1 = 0 := by
            have d2 : 0 < (negM q2).d := FF.out.2.1
            have d1 := d_add FF.out.1.1 d2
            rw [cmp_eq (d_add d1 FF.out.2.1) FF.out.1.1, vq_add d1 FF.out.2.1, vq_add FF.out.1.1 d2, vq_neg]
            grind
          have cS := fun (W : World) (v v' : Value) (h1 : IsR W v (addM (addM q1 (negM q2)) q2)) (h2 : IsR W v' q1) => alike_any (k := 1027) (by omega) h1 h2 ft.out (FF.out.1.more (by omega))
          simp only [hsub, decide_true] at cS
          have q1i : ¬ ((((8 : Nat) : Int)) < 8) := by omega
          clear RN XX HMt HC Dr hsub EF
          go_upto_region 23 with fail
          go_region_held3 (fun w' => w'.cell? ⟨gx1, 0, none⟩ = some (.bool x1b) ∧ w'.cell? ⟨gx1, 1, none⟩ = some (.int .u64 x1A) ∧ w'.cell? ⟨gx1, 2, none⟩ = some (.int .u64 x1L) ∧ w'.cell? ⟨gx1, 3, none⟩ = some (.pointer x1p) ∧ w'.cell? ⟨gx2, 0, none⟩ = some (.bool x2b) ∧ w'.cell? ⟨gx2, 1, none⟩ = some (.int .u64 x2A) ∧ w'.cell? ⟨gx2, 2, none⟩ = some (.int .u64 x2L) ∧ w'.cell? ⟨gx2, 3, none⟩ = some (.pointer x2p)) (first | with_reducible exact s0 | with_reducible exact sz0 | with_reducible exact sz1 | with_reducible exact sz2 | with_reducible exact sz3) (first
            | (go_at_call 8; refine (a_sub (k := 256) (by omega) (R1.out.below H0) (R2.out.below H0) FF.out.1 FF.out.2).mono ?_; rintro e wz0 ⟨yz0, rfl, Rz0, hbz0⟩; have Hz0 := bt H0 hbz0; have sz0 := keep8 hbz0 s0)
            | (go_at_call 7; refine (a_add (k := 513) (by omega) Rz0 (R2.out.below Hz0) fs.out (FF.out.2.more (by omega))).mono ?_; rintro e wz1 ⟨yz1, rfl, Rz1, hbz1⟩; have Hz1 := bt Hz0 hbz1; have sz1 := keep8 hbz1 sz0)
            | (go_at_call 16; refine (cS _ _ _ Rz1 (R1.out.below Hz1)).mono ?_; rintro e wz2 ⟨rfl, hbz2⟩; have Hz2 := bt Hz1 hbz2; have sz2 := keep8 hbz2 sz1)
            | (go_at_call 19; refine (cmp_nil _).mono ?_; rintro e wz3 ⟨rfl, hbz3⟩; have Hz3 := bt Hz2 hbz3; have sz3 := keep8 hbz3 sz2))
          all_goals go_wp2
          all_goals go_ret
          all_goals exact ⟨rfl, bt HCd.out Hz3⟩
    · have cDv := a_div (k := 256) (by omega) X15.out.is X25.out.is hq FF.out.1 FF.out.2
      go_upto_region 7 with (go_at_call 13; refine cDv.mono ?_; rintro e w6 ⟨v9, rfl, R9, hb6⟩; obtain ⟨yb, yA, yL, yp, rfl⟩ := R9.shape4)
      obtain ⟨W6, eW6, B6, k6⟩ := one_new w6 (.cells #[.bool yb, .int .u64 yA, .int .u64 yL, .pointer yp] 28)
      rw [eW6]
      obtain ⟨gq, egq⟩ : ∃ g, w6.heap.size = g := ⟨_, rfl⟩
      rw [egq] at k6 ⊢
      obtain ⟨i0, hi, hz0, hz1, hz2⟩ := info_parts info4
      have al : Below W6.heap.size W6 (W6.alloc (.cells #[.bool yb, .int .u64 yA, .int .u64 yL, .pointer yp] 28)) := (Below.refl _ _).alloc (Nat.le_refl _) _
      have BB : Below W5.heap.size W5 (W6.alloc (.cells #[.bool yb, .int .u64 yA, .int .u64 yL, .pointer yp] 28)) := bt hb6 (bt B6 al)
      have K7 : (W6.alloc (.cells #[.bool yb, .int .u64 yA, .int .u64 yL, .pointer yp] 28)).heap[g5]? = some (.cells (flat [(x1b, x1A, x1L, x1p), (x2b, x2A, x2L, x2p), (ba0, Aa0, La0, pa0), (ba1, Aa1, La1, pa1), (ba2, Aa2, La2, pa2), (ba3, Aa3, La3, pa3), (ba4, Aa4, La4, pa4), (ba5, Aa5, La5, pa5)]).toArray 28) := box_kept K5.out BB (in_heap K5.out)
      have own7 := owns_lit (cs := [(x1b, x1A, x1L, x1p), (x2b, x2A, x2L, x2p), (ba0, Aa0, La0, pa0), (ba1, Aa1, La1, pa1), (ba2, Aa2, La2, pa2), (ba3, Aa3, La3, pa3), (ba4, Aa4, La4, pa4), (ba5, Aa5, La5, pa5)]) K7 hg5.out (Nat.le_trans (show _ ≤ 8 from Nat.le_refl 8) (by decide))
      have blk7 : Hid (BlkZ (W6.alloc (.cells #[.bool yb, .int .u64 yA, .int .u64 yL, .pointer yp] 28)) (.slice (some ⟨g5, 0, none⟩) 8 8)) := blk_lit K7
      have R9b : Hid (IsR (W6.alloc (.cells #[.bool yb, .int .u64 yA, .int .u64 yL, .pointer yp] 28)) (ag4 (yb, yA, yL, yp)) (mulM q1 (invM q2))) := R9.below (bt B6 al)
      have C7 : Hid (Below w.heap.size w (W6.alloc (.cells #[.bool yb, .int .u64 yA, .int .u64 yL, .pointer yp] 28))) := bt C5.out BB
      have hbase := C7.out.size
      have f9 : Hid (Fits (mulM q1 (invM q2)) 600) := (fits_mul FF.out.1 (fits_inv FF.out.2 hq)).more (by omega)
      have z := cell_at k6
      have z0 : W6.cell? ⟨gq, 0, none⟩ = some (.bool yb) := z 0 _ rfl
      have z1 : W6.cell? ⟨gq, 1, none⟩ = some (.int .u64 yA) := z 1 _ rfl
      have z2 : W6.cell? ⟨gq, 2, none⟩ = some (.int .u64 yL) := z 2 _ rfl
      have z3 : W6.cell? ⟨gq, 3, none⟩ = some (.pointer yp) := z 3 _ rfl
      clear eW6 egq k6 z d0 d1 d2 d3 t0 t1 t2 t3 cDv
      go_upto_region 8 with fail
      go_upto_region 9 with (at_builtin; refine wpList_append_z _ rfl _ _ 36 rfl w.heap.size 28 i0 (.agg #[.bool false, .int .u64 0, .int .u64 0, .pointer none]) 4 32 Try.underlying36 hi hz0 hz1 hz2 rfl (by decide) (.slice (some ⟨g5, 0, none⟩) 8 8) 8 (flat [(x1b, x1A, x1L, x1p), (x2b, x2A, x2L, x2p), (ba0, Aa0, La0, pa0), (ba1, Aa1, La1, pa1), (ba2, Aa2, La2, pa2), (ba3, Aa3, La3, pa3), (ba4, Aa4, La4, pa4), (ba5, Aa5, La5, pa5)]) rfl own7 ⟨W6.heap.size, 0, none⟩ 1 [.bool yb, .int .u64 yA, .int .u64 yL, .pointer yp] rfl rfl (news_at W6 _ _ _ rfl) (by simp [Value.oneCell']) (by unfold maxLen; omega) (by omega) hbase pz4 (flat_pl [(yb, yA, yL, yp)]) blk7.out ?_; intro va' W8 own9 grow9 blk9 loc9)
      have GG : World.grownBy (W6.alloc (.cells #[.bool yb, .int .u64 yA, .int .u64 yL, .pointer yp] 28)) W8 (some g5) := grow9
      obtain ⟨gr, cr, rfl⟩ := owns_slice (K := 9) own9 (by omega)
      have own9' : W8.ownsRow w.heap.size 28 4 (.slice (some ⟨gr, 0, none⟩) 9 cr) 9 (flat [(x1b, x1A, x1L, x1p), (x2b, x2A, x2L, x2p), (ba0, Aa0, La0, pa0), (ba1, Aa1, La1, pa1), (ba2, Aa2, La2, pa2), (ba3, Aa3, La3, pa3), (ba4, Aa4, La4, pa4), (ba5, Aa5, La5, pa5), (yb, yA, yL, yp)]) := own9
      obtain ⟨E, hE⟩ : ∃ E : Nat → Nm, E = fun k => ([q1, q2, addM q1 q2, addM q1 (negM q2), mulM q1 q2, negM q1, absM q2, floM q1, mulM q1 (invM q2)] : List Nm)[k]?.getD q1 := ⟨_, rfl⟩
      have RN : Hid (RowG W8 gr 9 E) := by
        subst hE
        refine row_of_owns own9' rfl ?_
        obtain ⟨i1, i2, i3, i4, i5, i6, i7, i8⟩ := II.out
        rintro (_ | _ | _ | _ | _ | _ | _ | _ | _ | k) d hd
        · cases hd; exact IsR.grown (i1.below BB) (blk7.out.plain rfl) GG
        · cases hd; exact IsR.grown (i2.below BB) (blk7.out.plain rfl) GG
        · cases hd; exact IsR.grown (i3.below BB) (blk7.out.plain rfl) GG
        · cases hd; exact IsR.grown (i4.below BB) (blk7.out.plain rfl) GG
        · cases hd; exact IsR.grown (i5.below BB) (blk7.out.plain rfl) GG
        · cases hd; exact IsR.grown (i6.below BB) (blk7.out.plain rfl) GG
        · cases hd; exact IsR.grown (i7.below BB) (blk7.out.plain rfl) GG
        · cases hd; exact IsR.grown (i8.below BB) (blk7.out.plain rfl) GG
        · cases hd; exact IsR.grown R9b.out (blk7.out.plain rfl) GG
        · simp at hd
      have EF : Hid (∀ k, k < 9 → Fits (E k) 600 ∧ Low (E k).b (E k).n (E k).d) := by
        subst hE
        obtain ⟨i1, i2, i3, i4, i5, i6, i7, i8⟩ := II.out
        obtain ⟨f1, f2, f3, f4, f5, f6, f7, f8⟩ := FE.out
        rintro (_ | _ | _ | _ | _ | _ | _ | _ | _ | k) hk
        · exact ⟨f1, i1.1⟩
        · exact ⟨f2, i2.1⟩
        · exact ⟨f3, i3.1⟩
        · exact ⟨f4, i4.1⟩
        · exact ⟨f5, i5.1⟩
        · exact ⟨f6, i6.1⟩
        · exact ⟨f7, i7.1⟩
        · exact ⟨f8, i8.1⟩
        · exact ⟨f9.out, R9b.out.1⟩
        · omega
      have X17 := X15.out.below BB
      have X27 := X25.out.below BB
      have XX : Hid (Bx W8 gx1 q1 x1b x1A x1L x1p ∧ Bx W8 gx2 q2 x2b x2A x2L x2p) := ⟨⟨(GG.block gx1 (in_heap X17.box) (by have := hgx.out.1; simp; omega)).trans X17.box, IsR.grown X17.is (blk7.out.plain rfl) GG⟩, ⟨(GG.block gx2 (in_heap X27.box) (by have := hgx.out.2; simp; omega)).trans X27.box, IsR.grown X27.is (blk7.out.plain rfl) GG⟩⟩
      have HC : Hid (Below w.heap.size w W8) := C7.out.grown grow9 hbase (fun j hj => (own7.lt j hj).1)
      have HMt : Hid (ML W8) := HMw.out.below HC.out
      clear own9 own9' grow9 blk9 loc9 GG X17 X27 hbase C7 R9b blk7 own7 K7 BB al hz0 hz1 hz2 hi hE X15 X25 HM5 C5 K5 II hg5 FE f9 hb6 B6 R9 z0 z1 z2 z3 hq hgx
      go_upto_region 10 with fail
      go_loopw [68] (fun iv wr => ∃ (k : Nat), k ≤ 9 ∧ iv = .int .i64 (k : Int) ∧ Hid (RowG wr gr 9 E) ∧ Hid (Bx wr gx1 q1 x1b x1A x1L x1p ∧ Bx wr gx2 q2 x2b x2A x2L x2p) ∧ Hid (ML wr) ∧ Hid (Below w.heap.size w wr)) (fun iv _ => 9 - (intOf iv).toNat)
      case atStart => exact ⟨0, by omega, rfl, RN.out, XX.out, HMt.out, HC.out⟩
      case round =>
        clear RN XX HMt HC
        obtain ⟨k, hk, rfl, RN, XX, HMt, HC⟩ := hrel
        by_cases hlt : k < 9
        · obtain ⟨b, A, L, p, a0, a1, a2, a3, hi⟩ := RN.out.2 k hlt
          have q1i : (k : Int) < 9 := by omega
          have EFk : Hid (Fits (E k) 600 ∧ Low (E k).b (E k).n (E k).d) := EF.out k hlt
          have HI : Hid (IsR wr (.agg #[.bool b, .int .u64 A, .int .u64 L, .pointer p]) (E k)) := hi
          clear hi
          go_upto_region 12 with fail
          obtain ⟨V1, eV1, B1, k1⟩ := one_new wr (.cells #[.bool b, .int .u64 A, .int .u64 L, .pointer p] 28)
          rw [eV1]
          obtain ⟨gr1, egr1⟩ : ∃ g, wr.heap.size = g := ⟨_, rfl⟩
          rw [egr1] at k1 ⊢
          have RN1 : Hid (RowG V1 gr 9 E) := RN.out.below B1
          have XX1 : Hid (Bx V1 gx1 q1 x1b x1A x1L x1p ∧ Bx V1 gx2 q2 x2b x2A x2L x2p) := ⟨XX.out.1.below B1, XX.out.2.below B1⟩
          have HM1 : Hid (ML V1) := HMt.out.below B1
          have HC1 : Hid (Below w.heap.size w V1) := bt HC.out B1
          have HR1 : Hid (Bx V1 gr1 (E k) b A L p) := ⟨k1, HI.out.below B1⟩
          clear eV1 B1 k1 RN XX HMt HC HI egr1 a0 a1 a2 a3
          obtain ⟨d0, d1, d2, d3⟩ := HR1.out.cells
          have cPr := fun (h : IsR V1 (.agg #[.bool b, .int .u64 A, .int .u64 L, .pointer p]) (E k)) => print_any _ (E k) V1 h (EFk.out.1.nl (by omega)).1 (EFk.out.1.nl (by omega)).2
          have cBk := fun (W : World) (hm : ML W) => back_any (E k) 600 (by omega) (by omega) W hm EFk.out.1 EFk.out.2
          generalize bs (prn (E k).b (E k).n (E k).d) = SS at *
          go_upto_region 13 with (first
            | (go_at_call 5; refine (cPr HR1.out.is).mono ?_; rintro e u1 ⟨rfl, hu1⟩)
            | (go_at_call 4; refine (cBk _ (HM1.out.below hu1)).mono ?_; rintro e u2 ⟨v5, rfl, R5, hu2⟩; obtain ⟨tb, tA, tL, tp, rfl⟩ := R5.shape4))
          clear cPr cBk
          obtain ⟨V2, eV2, B2, k2⟩ := one_new u2 (.cells #[.bool tb, .int .u64 tA, .int .u64 tL, .pointer tp] 28)
          rw [eV2]
          have BB := bt hu1 (bt hu2 B2)
          obtain ⟨gt, egt⟩ : ∃ g, u2.heap.size = g := ⟨_, rfl⟩
          rw [egt] at k2 ⊢
          have HT2 : Hid (Bx V2 gt (E k) tb tA tL tp) := ⟨k2, R5.below B2⟩
          have HR2 : Hid (Bx V2 gr1 (E k) b A L p) := HR1.out.below BB
          have RN2 : Hid (RowG V2 gr 9 E) := RN1.out.below BB
          have XX2 : Hid (Bx V2 gx1 q1 x1b x1A x1L x1p ∧ Bx V2 gx2 q2 x2b x2A x2L x2p) := ⟨XX1.out.1.below BB, XX1.out.2.below BB⟩
          have HM2 : Hid (ML V2) := HM1.out.below BB
          have HC2 : Hid (Below w.heap.size w V2) := bt HC1.out BB
          clear eV2 B2 k2 BB egt RN1 XX1 HM1 HC1 HR1 hu1 hu2 R5 d0 d1 d2 d3
          obtain ⟨d0, d1, d2, d3⟩ := HR2.out.cells
          have cPa := parts_any _ (E k).b (E k).n (E k).d V2 HR2.out.is (Nat.le_trans (EFk.out.1.nl (by omega)).1 (by omega)) (Nat.le_trans (EFk.out.1.nl (by omega)).2 (by omega))
          have cMk := fun (o1 o2 : Option Addr) (c1 c2 : Nat) (W : World) (h1 : Lies W o1 c1 (ints .u32 (nl (E k).n))) (h2 : Lies W o2 c2 (ints .u32 (nl (E k).d))) => a_make (E k) o1 o2 c1 c2 (k := 600) (by omega) h1 h2 EFk.out.1 EFk.out.2
          have cGc := fun (o1 o2 : Option Addr) (c1 c2 : Nat) (W : World) (h1 : Lies W o1 c1 (ints .u32 (nl (E k).n))) (h2 : Lies W o2 c2 (ints .u32 (nl (E k).d))) => a_gcd (E k) o1 o2 c1 c2 (k := 600) (by omega) h1 h2 EFk.out.1 EFk.out.2
          generalize (nl (E k).n).length = l1 at *
          generalize (nl (E k).d).length = l2 at *
          generalize (E k).b = eb at *
          go_upto_region 15 with (first
            | (go_at_call 14; refine cPa.mono ?_; rintro e u3 ⟨o1, c1, o2, c2, rfl, own1, own2, hu3⟩; have LL1 : Hid (Lies u3 o1 c1 (ints .u32 (nl (E k).n)) ∧ Lies u3 o2 c2 (ints .u32 (nl (E k).d))) := ⟨lies_of_owns own1, lies_of_owns own2⟩; clear own1 own2)
            | (go_at_call 15; refine (cMk _ _ _ _ _ LL1.out.1 LL1.out.2).mono ?_; rintro e u4 ⟨v6, rfl, R6, hu4⟩; obtain ⟨mb, mA, mL, mp, rfl⟩ := R6.shape4))
          clear cPa cMk
          obtain ⟨V3, eV3, B3, k3⟩ := one_new u4 (.cells #[.bool mb, .int .u64 mA, .int .u64 mL, .pointer mp] 28)
          rw [eV3]
          have BB := bt hu3 (bt hu4 B3)
          obtain ⟨gm, egm⟩ : ∃ g, u4.heap.size = g := ⟨_, rfl⟩
          rw [egm] at k3 ⊢
          have HQ3 : Hid (Bx V3 gm (E k) mb mA mL mp) := ⟨k3, R6.below B3⟩
          have HT3 : Hid (Bx V3 gt (E k) tb tA tL tp) := HT2.out.below BB
          have HR3 : Hid (Bx V3 gr1 (E k) b A L p) := HR2.out.below BB
          have LL3 : Hid (Lies V3 o1 c1 (ints .u32 (nl (E k).n)) ∧ Lies V3 o2 c2 (ints .u32 (nl (E k).d))) := ⟨LL1.out.1.below (bt hu4 B3) (Nat.le_refl _), LL1.out.2.below (bt hu4 B3) (Nat.le_refl _)⟩
          have RN3 : Hid (RowG V3 gr 9 E) := RN2.out.below BB
          have XX3 : Hid (Bx V3 gx1 q1 x1b x1A x1L x1p ∧ Bx V3 gx2 q2 x2b x2A x2L x2p) := ⟨XX2.out.1.below BB, XX2.out.2.below BB⟩
          have HM3 : Hid (ML V3) := HM2.out.below BB
          have HC3 : Hid (Below w.heap.size w V3) := bt HC2.out BB
          clear eV3 B3 k3 BB egm RN2 XX2 HM2 HC2 HR2 HT2 LL1 hu3 hu4 R6 d0 d1 d2 d3
          obtain ⟨d0, d1, d2, d3⟩ := HR3.out.cells
          obtain ⟨t0, t1, t2, t3⟩ := HT3.out.cells
          obtain ⟨m0, m1, m2, m3⟩ := HQ3.out.cells
          have s0 : V3.cell? ⟨gr1, 0, none⟩ = some (.bool b) ∧ V3.cell? ⟨gr1, 1, none⟩ = some (.int .u64 A) ∧ V3.cell? ⟨gr1, 2, none⟩ = some (.int .u64 L) ∧ V3.cell? ⟨gr1, 3, none⟩ = some (.pointer p) ∧ V3.cell? ⟨gt, 0, none⟩ = some (.bool tb) ∧ V3.cell? ⟨gt, 1, none⟩ = some (.int .u64 tA) ∧ V3.cell? ⟨gt, 2, none⟩ = some (.int .u64 tL) ∧ V3.cell? ⟨gt, 3, none⟩ = some (.pointer tp) ∧ V3.cell? ⟨gm, 0, none⟩ = some (.bool mb) ∧ V3.cell? ⟨gm, 1, none⟩ = some (.int .u64 mA) ∧ V3.cell? ⟨gm, 2, none⟩ = some (.int .u64 mL) ∧ V3.cell? ⟨gm, 3, none⟩ = some (.pointer mp) := ⟨d0, d1, d2, d3, t0, t1, t2, t3, m0, m1, m2, m3⟩
          clear d0 d1 d2 d3 t0 t1 t2 t3 m0 m1 m2 m3
          obtain ⟨d0, d1, d2, d3, t0, t1, t2, t3, m0, m1, m2, m3⟩ := id s0
          have cAl := fun (W : World) (v v' : Value) (h1 : IsR W v (E k)) (h2 : IsR W v' (E k)) => alike_any (k := 600) (by omega) h1 h2 EFk.out.1 EFk.out.1
          simp only [cmp_self, decide_true] at cAl
          have T1 : True := trivial
          have T2 : True := trivial
          go_upto_region 17 with (first
            | (go_at_call 16; have _t := T1; clear _t T1; refine (cAl _ _ _ HT3.out.is HR3.out.is).mono ?_; rintro e u5 ⟨rfl, hu5⟩; have s1 := keep12 hu5 s0; clear d0 d1 d2 d3 t0 t1 t2 t3 m0 m1 m2 m3; obtain ⟨d0, d1, d2, d3, t0, t1, t2, t3, m0, m1, m2, m3⟩ := id s1)
            | (go_at_call 16; refine (cAl _ _ _ (HQ3.out.is.below hu5) (HR3.out.is.below hu5)).mono ?_; rintro e u6 ⟨rfl, hu6⟩)
            | (go_at_call 17; have _t := T2; clear _t T2; refine (cGc _ _ _ _ _ (LL3.out.1.below (bt hu5 hu6) (Nat.le_refl _)) (LL3.out.2.below (bt hu5 hu6) (Nat.le_refl _))).mono ?_; rintro e u7 ⟨gg, og, cg, rfl, hg1, hu7⟩)
            | (go_at_call 17; refine (cGc _ _ _ _ _ (LL3.out.1.below (bt hu5 (bt hu6 hu7)) (Nat.le_refl _)) (LL3.out.2.below (bt hu5 (bt hu6 hu7)) (Nat.le_refl _))).mono ?_; rintro e u8 ⟨gg2, og2, cg2, rfl, hg2, hu8⟩))
          have BB := bt hu5 (bt hu6 (bt hu7 hu8))
          have HR4 : Hid (Bx u8 gr1 (E k) b A L p) := HR3.out.below BB
          have RN4 : Hid (RowG u8 gr 9 E) := RN3.out.below BB
          have XX4 : Hid (Bx u8 gx1 q1 x1b x1A x1L x1p ∧ Bx u8 gx2 q2 x2b x2A x2L x2p) := ⟨XX3.out.1.below BB, XX3.out.2.below BB⟩
          have HM4 : Hid (ML u8) := HM3.out.below BB
          have HC4 : Hid (Below w.heap.size w u8) := bt HC3.out BB
          clear BB HR3 RN3 XX3 HM3 HC3 HQ3 HT3 LL3 hu5 hu6 hu7 hu8 hg1 hg2 d0 d1 d2 d3 t0 t1 t2 t3 m0 m1 m2 m3 s0 s1 cAl cGc
          go_wp2
          go_loopw [21] (fun jv wr => ∃ (j : Nat), j ≤ k ∧ jv = .int .i64 (j : Int) ∧ Hid (RowG wr gr 9 E) ∧ Hid (Bx wr gx1 q1 x1b x1A x1L x1p ∧ Bx wr gx2 q2 x2b x2A x2L x2p) ∧ Hid (ML wr) ∧ Hid (Below w.heap.size w wr) ∧ Hid (Bx wr gr1 (E k) b A L p)) (fun jv _ => k - (intOf jv).toNat)
          case atStart => exact ⟨0, by omega, rfl, RN4.out, XX4.out, HM4.out, HC4.out, HR4.out⟩
          case round =>
            clear RN4 XX4 HM4 HC4 HR4
            obtain ⟨j, hj, rfl, RN, XX, HMt, HC, HR⟩ := hrel
            by_cases hjl : j < k
            · obtain ⟨jb, jA, jL, jp, a0, a1, a2, a3, hi⟩ := RN.out.2 j (by omega)
              have q2i : (j : Int) < (k : Int) := by omega
              have q3i : (j : Int) < 9 := by omega
              obtain ⟨d0, d1, d2, d3⟩ := HR.out.cells
              have Dr : Below wr.heap.size wr wr.drew := (Below.refl _ _).drew
              have HJd : Hid (IsR wr.drew (.agg #[.bool jb, .int .u64 jA, .int .u64 jL, .pointer jp]) (E j)) := hi.below Dr
              have HRd : Hid (IsR wr.drew (.agg #[.bool b, .int .u64 A, .int .u64 L, .pointer p]) (E k)) := HR.out.is.below Dr
              have s0 : wr.drew.cell? ⟨gr, j * 4, none⟩ = some (.bool jb) ∧ wr.drew.cell? ⟨gr, j * 4 + 1, none⟩ = some (.int .u64 jA) ∧ wr.drew.cell? ⟨gr, j * 4 + 2, none⟩ = some (.int .u64 jL) ∧ wr.drew.cell? ⟨gr, j * 4 + 3, none⟩ = some (.pointer jp) ∧ wr.drew.cell? ⟨gr1, 0, none⟩ = some (.bool b) ∧ wr.drew.cell? ⟨gr1, 1, none⟩ = some (.int .u64 A) ∧ wr.drew.cell? ⟨gr1, 2, none⟩ = some (.int .u64 L) ∧ wr.drew.cell? ⟨gr1, 3, none⟩ = some (.pointer p) := ⟨a0, a1, a2, a3, d0, d1, d2, d3⟩
              have H0 : Below wr.drew.heap.size wr.drew wr.drew := Below.refl _ _
              have RNd : Hid (RowG wr.drew gr 9 E) := RN.out.below Dr
              have XXd : Hid (Bx wr.drew gx1 q1 x1b x1A x1L x1p ∧ Bx wr.drew gx2 q2 x2b x2A x2L x2p) := ⟨XX.out.1.below Dr, XX.out.2.below Dr⟩
              have HMd : Hid (ML wr.drew) := HMt.out.below Dr
              have HCd : Hid (Below w.heap.size w wr.drew) := bt HC.out Dr
              have HBd : Hid (Bx wr.drew gr1 (E k) b A L p) := HR.out.below Dr
              have EJ := EF.out j (by omega)
              have EK := EF.out k hlt
              have cAl := fun (W : World) (v v' : Value) (h1 : IsR W v (E j)) (h2 : IsR W v' (E k)) => alike_any (k := 600) (by omega) h1 h2 EJ.1 EK.1
              have cK1 := fun (W : World) (v : Value) (h : IsR W v (E j)) => KeyL.keyof_any v (E j) 600 (by omega) W h EJ.1
              have cK2 := fun (W : World) (v : Value) (h : IsR W v (E k)) => KeyL.keyof_any v (E k) 600 (by omega) W h EK.1
              have hE := fun (W : World) => eql_key W (E j) (E k) (fits_ny EJ.1 (by omega)).1 (fits_ny EJ.1 (by omega)).2 (fits_ny EK.1 (by omega)).1 (fits_ny EK.1 (by omega)).2
              simp only [KeyL.keyV] at cK1 cK2
              simp only [key_cmp EJ.2 EK.2] at hE
              generalize decide (cmpM (E j) (E k) = 0) = BV at *
              clear EJ EK hi a0 a1 a2 a3 d0 d1 d2 d3 RN XX HMt HC HR Dr
              go_upto_region 20 with fail
              have Tj1 : True := trivial
              go_region_held3 (fun w' => w'.cell? ⟨gr, j * 4, none⟩ = some (.bool jb) ∧ w'.cell? ⟨gr, j * 4 + 1, none⟩ = some (.int .u64 jA) ∧ w'.cell? ⟨gr, j * 4 + 2, none⟩ = some (.int .u64 jL) ∧ w'.cell? ⟨gr, j * 4 + 3, none⟩ = some (.pointer jp) ∧ w'.cell? ⟨gr1, 0, none⟩ = some (.bool b) ∧ w'.cell? ⟨gr1, 1, none⟩ = some (.int .u64 A) ∧ w'.cell? ⟨gr1, 2, none⟩ = some (.int .u64 L) ∧ w'.cell? ⟨gr1, 3, none⟩ = some (.pointer p)) (first | with_reducible exact s0 | with_reducible exact sj0 | with_reducible exact sj1 | with_reducible exact sj2) (first
                | (go_at_call 16; refine (cAl _ _ _ (HJd.out.below H0) (HRd.out.below H0)).mono ?_; rintro e wj0 ⟨rfl, hbj0⟩; have Hj0 := bt H0 hbj0; have sj0 := keepj hbj0 s0)
                | (go_at_call 18; have _t := Tj1; clear _t Tj1; refine (cK1 _ _ (HJd.out.below Hj0)).mono ?_; rintro e wj1 ⟨rfl, hbj1⟩; have Hj1 := bt Hj0 hbj1; have sj1 := keepj hbj1 sj0)
                | (go_at_call 18; refine (cK2 _ _ (HRd.out.below Hj1)).mono ?_; rintro e wj2 ⟨rfl, hbj2⟩; have Hj2 := bt Hj1 hbj2; have sj2 := keepj hbj2 sj1))
              have RN5 : Hid (RowG wj2 gr 9 E) := RNd.out.below Hj2
              have XX5 : Hid (Bx wj2 gx1 q1 x1b x1A x1L x1p ∧ Bx wj2 gx2 q2 x2b x2A x2L x2p) := ⟨XXd.out.1.below Hj2, XXd.out.2.below Hj2⟩
              have HM5 : Hid (ML wj2) := HMd.out.below Hj2
              have HC5 : Hid (Below w.heap.size w wj2) := bt HCd.out Hj2
              have HB5 : Hid (Bx wj2 gr1 (E k) b A L p) := HBd.out.below Hj2
              clear RNd XXd HMd HCd HBd s0 sj0 sj1 sj2 Hj0 Hj1 Hj2 hbj0 hbj1 hbj2 H0 cAl cK1 cK2 hE HJd HRd
              have hBV : (BV != BV) = false := by simp
              go_wp2
              go_roundw
              case rel => exact ⟨j + 1, by omega, by go_num, RN5.out, XX5.out, HM5.out, HC5.out, HB5.out⟩
              case measure => simp [intOf]; omega
            · obtain rfl : k = j := by omega
              clear HR
              go_wp2
              go_roundw
              case rel => exact ⟨k + 1, by omega, by go_num, RN.out, XX.out, HMt.out, HC.out⟩
              case measure => simp [intOf]; omega
        · obtain rfl : 9 = k := by omega
          have Dr : Below wr.heap.size wr wr.drew := (Below.refl _ _).drew
          have R1 : Hid (IsR wr.drew (.agg #[.bool x1b, .int .u64 x1A, .int .u64 x1L, .pointer x1p]) q1) := XX.out.1.is.below Dr
          have R2 : Hid (IsR wr.drew (.agg #[.bool x2b, .int .u64 x2A, .int .u64 x2L, .pointer x2p]) q2) := XX.out.2.is.below Dr
          have s0 : wr.drew.cell? ⟨gx1, 0, none⟩ = some (.bool x1b) ∧ wr.drew.cell? ⟨gx1, 1, none⟩ = some (.int .u64 x1A) ∧ wr.drew.cell? ⟨gx1, 2, none⟩ = some (.int .u64 x1L) ∧ wr.drew.cell? ⟨gx1, 3, none⟩ = some (.pointer x1p) ∧ wr.drew.cell? ⟨gx2, 0, none⟩ = some (.bool x2b) ∧ wr.drew.cell? ⟨gx2, 1, none⟩ = some (.int .u64 x2A) ∧ wr.drew.cell? ⟨gx2, 2, none⟩ = some (.int .u64 x2L) ∧ wr.drew.cell? ⟨gx2, 3, none⟩ = some (.pointer x2p) := ⟨XX.out.1.cells.1, XX.out.1.cells.2.1, XX.out.1.cells.2.2.1, XX.out.1.cells.2.2.2, XX.out.2.cells⟩
          have H0 : Below wr.drew.heap.size wr.drew wr.drew := Below.refl _ _
          have HCd : Hid (Below w.heap.size w wr.drew) := bt HC.out Dr
          have fs : Hid (Fits (addM q1 (negM q2)) 513) := fits_add FF.out.1 (fits_neg FF.out.2)
          have ft : Hid (Fits (addM (addM q1 (negM q2)) q2) 1027) := fits_add fs.out (FF.out.2.more (by omega))
          have hsub : cmpM (addM (addM q1 (negM q2)) q2) q1 = 0 := by
            have d2 : 0 < (negM q2).d := FF.out.2.1
            have d1 := d_add FF.out.1.1 d2
            rw [cmp_eq (d_add d1 FF.out.2.1) FF.out.1.1, vq_add d1 FF.out.2.1, vq_add FF.out.1.1 d2, vq_neg]
            grind
          have cS := fun (W : World) (v v' : Value) (h1 : IsR W v (addM (addM q1 (negM q2)) q2)) (h2 : IsR W v' q1) => alike_any (k := 1027) (by omega) h1 h2 ft.out (FF.out.1.more (by omega))
          simp only [hsub, decide_true] at cS
          have q1i : ¬ ((((9 : Nat) : Int)) < 9) := by omega
          clear RN XX HMt HC Dr hsub EF
          go_upto_region 23 with fail
          go_region_held3 (fun w' => w'.cell? ⟨gx1, 0, none⟩ = some (.bool x1b) ∧ w'.cell? ⟨gx1, 1, none⟩ = some (.int .u64 x1A) ∧ w'.cell? ⟨gx1, 2, none⟩ = some (.int .u64 x1L) ∧ w'.cell? ⟨gx1, 3, none⟩ = some (.pointer x1p) ∧ w'.cell? ⟨gx2, 0, none⟩ = some (.bool x2b) ∧ w'.cell? ⟨gx2, 1, none⟩ = some (.int .u64 x2A) ∧ w'.cell? ⟨gx2, 2, none⟩ = some (.int .u64 x2L) ∧ w'.cell? ⟨gx2, 3, none⟩ = some (.pointer x2p)) (first | with_reducible exact s0 | with_reducible exact sz0 | with_reducible exact sz1 | with_reducible exact sz2 | with_reducible exact sz3) (first
            | (go_at_call 8; refine (a_sub (k := 256) (by omega) (R1.out.below H0) (R2.out.below H0) FF.out.1 FF.out.2).mono ?_; rintro e wz0 ⟨yz0, rfl, Rz0, hbz0⟩; have Hz0 := bt H0 hbz0; have sz0 := keep8 hbz0 s0)
            | (go_at_call 7; refine (a_add (k := 513) (by omega) Rz0 (R2.out.below Hz0) fs.out (FF.out.2.more (by omega))).mono ?_; rintro e wz1 ⟨yz1, rfl, Rz1, hbz1⟩; have Hz1 := bt Hz0 hbz1; have sz1 := keep8 hbz1 sz0)
            | (go_at_call 16; refine (cS _ _ _ Rz1 (R1.out.below Hz1)).mono ?_; rintro e wz2 ⟨rfl, hbz2⟩; have Hz2 := bt Hz1 hbz2; have sz2 := keep8 hbz2 sz1)
            | (go_at_call 19; refine (cmp_nil _).mono ?_; rintro e wz3 ⟨rfl, hbz3⟩; have Hz3 := bt Hz2 hbz3; have sz3 := keep8 hbz3 sz2))
          all_goals go_wp2
          all_goals go_ret
          all_goals exact ⟨rfl, bt HCd.out Hz3⟩
end Go.Proofs.Ytefckmkcbgckfab.FrW
