/- rtext.Parse: the number of a text; awake of layer 6; rtext: what is printed is read back; RtextBack: the walk. -/
import Derived.Test.YtefckmkcbgckfaaSetAY
import Derived.Test.YtefckmkcbgckfaaSetBB
import Derived.Test.YtefckmkcbgckfaaSetAX
import Derived.Test.YtefckmkcbgckfaaSetAW
/- rtext.Parse: the number of a text; awake of layer 6. -/
namespace Go.Proofs.Ytefckmkcbgckfaa.PbL
open Go.RowKit Mem LimbNum Limb1 DigNum DigL StrL TxN ShelfC RatL RatM RatN NmL QNum ParseL TensAll MulW MulL PaL PtL

theorem nofreeze {w : World} {g : Nat} {cs : Array Value} {T : TypeId} (h : w.heap[g]? = some (.cells cs T)) (i : Nat) : w.frozen? ⟨g, i, none⟩ = false := by simp [World.frozen?, h]
/-- A fraction in lowest terms. -/
def lowM (b : Bool) (n d : Nat) : Nm := ⟨b && decide (n / Nat.gcd n d ≠ 0), n / Nat.gcd n d, d / Nat.gcd n d⟩
theorem b8_sign {l : List Nat} (h : B8 l) : B8 (signM l).2 ∧ (signM l).2.length ≤ l.length := by
  unfold signM
  split
  · exact ⟨fun x hx => h x (List.mem_cons_of_mem _ hx), by simp⟩
  · exact ⟨h, Nat.le_refl _⟩
theorem dv_bits (l : List Nat) (h : okN l = true) (hs : l.length ≤ 20000) : (nl (dv l)).length ≤ 100000 := by
  have h1 := dv_lt l (ok_iff.1 h).2
  have h2 : (10 : Nat) ^ l.length ≤ 4294967296 ^ l.length := Nat.pow_le_pow_left (by omega) _
  have := nl_lt l.length (dv l) (by omega)
  omega
theorem read_len {l : List Nat} {n d : Nat} (hl : B8 l) (h : readM l = some (n, d)) (hs : l.length ≤ 20000) : (nl n).length ≤ 100000 ∧ (nl d).length ≤ 100000 := by
  have c1 := b8_cut (c := 47) hl
  have c2 := b8_cut (c := 46) hl
  unfold readM at h
  split at h
  · split at h
    · rename_i ho
      simp only [Bool.and_eq_true] at ho
      simp only [Option.some.injEq, Prod.mk.injEq] at h
      obtain ⟨rfl, rfl⟩ := h
      exact ⟨dv_bits _ ho.1 (by omega), dv_bits _ ho.2 (by omega)⟩
    · cases h
  · split at h
    · cases h
    · split at h
      · rename_i ho
        simp only [Option.some.injEq, Prod.mk.injEq] at h
        obtain ⟨rfl, rfl⟩ := h
        refine ⟨dv_bits _ ho (by rw [List.length_append]; omega), ?_⟩
        have h2 : (10 : Nat) ^ (cutN 46 l).2.1.length < 4294967296 ^ ((cutN 46 l).2.1.length + 1) :=
          Nat.lt_of_le_of_lt (Nat.pow_le_pow_left (show 10 ≤ 4294967296 by omega) _) (Nat.pow_lt_pow_right (by omega) (by omega))
        have := nl_lt _ _ h2
        omega
      · cases h
theorem isR_z (w : World) : IsR w (.agg #[.bool false, .int .u64 0, .int .u64 0, .pointer none]) (⟨false, 0, 1⟩) := Mk5.is_zero w
set_option maxRecDepth 20000 in
theorem parse_big (l : List Nat) (w : World) (hs : 20000 < l.length) :
    Calls Try.prog 7 #[.string (bs l)] w fun e w' => e = .returned (.tuple #[.agg #[.bool false, .int .u64 0, .int .u64 0, .pointer none], .int .i64 2]) ∧ Below w.heap.size w w' := by
  obtain ⟨W0, eW0, hb0, k0⟩ := one_new w (.cells #[.bool false, .int .u64 0, .int .u64 0, .pointer none] 25)
  have EW : Hid (_ = W0) := eW0
  clear eW0
  have q1 : (20000 : Int) < ((bs l).size : Int) := by rw [bs_size]; omega
  have e0 := cell_at k0
  have a0 : W0.cell? ⟨w.heap.size, 0, none⟩ = some (.bool false) := e0 0 _ rfl
  have a1 : W0.cell? ⟨w.heap.size, 1, none⟩ = some (.int .u64 0) := e0 1 _ rfl
  have a2 : W0.cell? ⟨w.heap.size, 2, none⟩ = some (.int .u64 0) := e0 2 _ rfl
  have a3 : W0.cell? ⟨w.heap.size, 3, none⟩ = some (.pointer none) := e0 3 _ rfl
  have ff := nofreeze k0
  clear e0
  go_enter Try.func7, Try.ntmps7
  go_upto_region 1 with fail
  rw [EW.out]
  clear EW
  go_wp2
  have k2 := sto4_box k0 (.bool false) (.int .u64 0) (.int .u64 0) (.pointer none)
  have hB := sto4_below hb0 (Nat.le_refl _) (.bool false) (.int .u64 0) (.int .u64 0) (.pointer none)
  clear a0 a1 a2 a3 ff
  generalize World.setCell _ _ _ = W' at *
  have gg := cell_at k2
  have z0 : W'.cell? ⟨w.heap.size, 0, none⟩ = some (.bool false) := gg 0 _ rfl
  have z1 : W'.cell? ⟨w.heap.size, 1, none⟩ = some (.int .u64 0) := gg 1 _ rfl
  have z2 : W'.cell? ⟨w.heap.size, 2, none⟩ = some (.int .u64 0) := gg 2 _ rfl
  have z3 : W'.cell? ⟨w.heap.size, 3, none⟩ = some (.pointer none) := gg 3 _ rfl
  refine bodyPost_ret (v := .tuple #[.agg #[.bool false, .int .u64 0, .int .u64 0, .pointer none], .int .i64 2]) ?_ rfl ?_
  · simp [results, go_sem, z0, z1, z2, z3]
  · exact ⟨rfl, hB⟩
set_option maxRecDepth 20000 in
theorem parse_none (l : List Nat) (w : World) (hm : ML w) (hl : B8 l) (hs : l.length ≤ 20000) (h : readM (signM l).2 = none) :
    Calls Try.prog 7 #[.string (bs l)] w fun e w' => e = .returned (.tuple #[.agg #[.bool false, .int .u64 0, .int .u64 0, .pointer none], .int .i64 3]) ∧ Below w.heap.size w w' := by
  obtain ⟨W0, eW0, hb0, k0⟩ := one_new w (.cells #[.bool false, .int .u64 0, .int .u64 0, .pointer none] 25)
  have EW : Hid (_ = W0) := eW0
  have hm0 := hm.below hb0
  clear eW0
  obtain ⟨s1, s2⟩ := b8_sign hl
  have cP := prefix_any l W0 hl (by omega)
  have cR := fun (W : World) (h2 : ML W) => read_any (signM l).2 W h2 s1 (by omega)
  rw [h] at cR
  generalize (signM l).2 = t at *
  generalize (signM l).1 = neg at *
  have q1 : ((bs l).size : Int) ≤ 20000 := by rw [bs_size]; omega
  go_enter Try.func7, Try.ntmps7
  go_upto_region 1 with fail
  rw [EW.out]
  clear EW
  go_upto_region 4 with (go_at_call 22; refine cP.mono ?_; rintro e w1 ⟨rfl, hb1⟩)
  go_upto_region 5 with (go_at_call 23; refine (cR _ (hm0.below hb1)).mono ?_; rintro e w2 ⟨⟨x1, x2, rfl⟩, hb2⟩)
  have H2 := bt hb1 hb2
  have K2 := box_kept k0 H2 (in_heap k0)
  have B2 := bt hb0 H2
  have e0 := cell_at K2
  have a0 : w2.cell? ⟨w.heap.size, 0, none⟩ = some (.bool false) := e0 0 _ rfl
  have a1 : w2.cell? ⟨w.heap.size, 1, none⟩ = some (.int .u64 0) := e0 1 _ rfl
  have a2 : w2.cell? ⟨w.heap.size, 2, none⟩ = some (.int .u64 0) := e0 2 _ rfl
  have a3 : w2.cell? ⟨w.heap.size, 3, none⟩ = some (.pointer none) := e0 3 _ rfl
  have ff := nofreeze K2
  clear e0 hb1 hb2 cP cR hm0 hm H2 k0 hb0
  go_wp2
  have k2 := sto4_box K2 (.bool false) (.int .u64 0) (.int .u64 0) (.pointer none)
  have hB := sto4_below B2 (Nat.le_refl _) (.bool false) (.int .u64 0) (.int .u64 0) (.pointer none)
  clear a0 a1 a2 a3 ff
  generalize World.setCell _ _ _ = W' at *
  have gg := cell_at k2
  have z0 : W'.cell? ⟨w.heap.size, 0, none⟩ = some (.bool false) := gg 0 _ rfl
  have z1 : W'.cell? ⟨w.heap.size, 1, none⟩ = some (.int .u64 0) := gg 1 _ rfl
  have z2 : W'.cell? ⟨w.heap.size, 2, none⟩ = some (.int .u64 0) := gg 2 _ rfl
  have z3 : W'.cell? ⟨w.heap.size, 3, none⟩ = some (.pointer none) := gg 3 _ rfl
  refine bodyPost_ret (v := .tuple #[.agg #[.bool false, .int .u64 0, .int .u64 0, .pointer none], .int .i64 3]) ?_ rfl ?_
  · simp [results, go_sem, z0, z1, z2, z3]
  · exact ⟨rfl, hB⟩
set_option maxRecDepth 20000 in
theorem parse_zero (l : List Nat) (n : Nat) (w : World) (hm : ML w) (hl : B8 l) (hs : l.length ≤ 20000) (h : readM (signM l).2 = some (n, 0)) :
    Calls Try.prog 7 #[.string (bs l)] w fun e w' => e = .returned (.tuple #[.agg #[.bool false, .int .u64 0, .int .u64 0, .pointer none], .int .i64 3]) ∧ Below w.heap.size w w' := by
  obtain ⟨W0, eW0, hb0, k0⟩ := one_new w (.cells #[.bool false, .int .u64 0, .int .u64 0, .pointer none] 25)
  have EW : Hid (_ = W0) := eW0
  have hm0 := hm.below hb0
  clear eW0
  obtain ⟨s1, s2⟩ := b8_sign hl
  have cP := prefix_any l W0 hl (by omega)
  have cR := fun (W : World) (h2 : ML W) => read_any (signM l).2 W h2 s1 (by omega)
  rw [h] at cR
  generalize (signM l).2 = t at *
  generalize (signM l).1 = neg at *
  have q1 : ((bs l).size : Int) ≤ 20000 := by rw [bs_size]; omega
  go_enter Try.func7, Try.ntmps7
  go_upto_region 1 with fail
  rw [EW.out]
  clear EW
  go_upto_region 4 with (go_at_call 22; refine cP.mono ?_; rintro e w1 ⟨rfl, hb1⟩)
  go_upto_region 5 with (go_at_call 23; refine (cR _ (hm0.below hb1)).mono ?_; rintro e w2 ⟨⟨o1, c1, o2, c2, rfl, r1, r2⟩, hb2⟩)
  have H2 := bt hb1 hb2
  have cM := make_no neg (nl n) (nl 0) o1 o2 c1 c2 w2 r2 (small_nl _) (by decide +kernel) (val_nl 0)
  go_upto_region 8 with (go_at_call 24; refine cM.mono ?_; rintro e w3 ⟨rfl, hb3⟩)
  obtain ⟨W3, eW3, B3, k3⟩ := one_new w3 (.cells #[.bool false, .int .u64 0, .int .u64 0, .pointer none] 25)
  rw [eW3]
  have H3 := bt H2 (bt hb3 B3)
  have K2 := box_kept k0 H3 (in_heap k0)
  have B2 := bt hb0 H3
  have e0 := cell_at K2
  have a0 : W3.cell? ⟨w.heap.size, 0, none⟩ = some (.bool false) := e0 0 _ rfl
  have a1 : W3.cell? ⟨w.heap.size, 1, none⟩ = some (.int .u64 0) := e0 1 _ rfl
  have a2 : W3.cell? ⟨w.heap.size, 2, none⟩ = some (.int .u64 0) := e0 2 _ rfl
  have a3 : W3.cell? ⟨w.heap.size, 3, none⟩ = some (.pointer none) := e0 3 _ rfl
  have ff := nofreeze K2
  clear e0 hb1 hb2 cP cR hm0 hm H2 k0 hb0 cM eW3 k3 B3 H3 hb3
  go_wp2
  have k2 := sto4_box K2 (.bool false) (.int .u64 0) (.int .u64 0) (.pointer none)
  have hB := sto4_below B2 (Nat.le_refl _) (.bool false) (.int .u64 0) (.int .u64 0) (.pointer none)
  clear a0 a1 a2 a3 ff
  generalize World.setCell _ _ _ = W' at *
  have gg := cell_at k2
  have z0 : W'.cell? ⟨w.heap.size, 0, none⟩ = some (.bool false) := gg 0 _ rfl
  have z1 : W'.cell? ⟨w.heap.size, 1, none⟩ = some (.int .u64 0) := gg 1 _ rfl
  have z2 : W'.cell? ⟨w.heap.size, 2, none⟩ = some (.int .u64 0) := gg 2 _ rfl
  have z3 : W'.cell? ⟨w.heap.size, 3, none⟩ = some (.pointer none) := gg 3 _ rfl
  refine bodyPost_ret (v := .tuple #[.agg #[.bool false, .int .u64 0, .int .u64 0, .pointer none], .int .i64 3]) ?_ rfl ?_
  · simp [results, go_sem, z0, z1, z2, z3]
  · exact ⟨rfl, hB⟩
set_option maxRecDepth 20000 in
theorem parse_some (l : List Nat) (n d : Nat) (w : World) (hm : ML w) (hl : B8 l) (hs : l.length ≤ 20000) (h : readM (signM l).2 = some (n, d)) (hd : d ≠ 0) :
    Calls Try.prog 7 #[.string (bs l)] w fun e w' => ∃ v, e = .returned (.tuple #[v, .int .i64 0]) ∧ IsR w' v (lowM (signM l).1 n d) ∧ Below w.heap.size w w' := by
  obtain ⟨W0, eW0, hb0, k0⟩ := one_new w (.cells #[.bool false, .int .u64 0, .int .u64 0, .pointer none] 25)
  have EW : Hid (_ = W0) := eW0
  have hm0 := hm.below hb0
  clear eW0
  obtain ⟨s1, s2⟩ := b8_sign hl
  obtain ⟨z1, z2⟩ := read_len s1 h (by omega)
  have cP := prefix_any l W0 hl (by omega)
  have cR := fun (W : World) (h2 : ML W) => read_any (signM l).2 W h2 s1 (by omega)
  rw [h] at cR
  generalize (signM l).2 = t at *
  generalize (signM l).1 = neg at *
  have q1 : ((bs l).size : Int) ≤ 20000 := by rw [bs_size]; omega
  have cM := fun (W : World) (o1 : Option Addr) (c1 : Nat) (o2 : Option Addr) (c2 : Nat) (l1 : Lies W o1 c1 (ints .u32 (nl n))) (l2 : Lies W o2 c2 (ints .u32 (nl d))) => make_any neg (nl n) (nl d) o1 o2 c1 c2 W l1 l2 (small_nl _) (small_nl _) (by omega) (by omega) (by rw [val_nl]; exact hd)
  rw [val_nl, val_nl] at cM
  go_enter Try.func7, Try.ntmps7
  go_upto_region 1 with fail
  rw [EW.out]
  clear EW
  go_upto_region 4 with (go_at_call 22; refine cP.mono ?_; rintro e w1 ⟨rfl, hb1⟩)
  go_upto_region 5 with (go_at_call 23; refine (cR _ (hm0.below hb1)).mono ?_; rintro e w2 ⟨⟨o1, c1, o2, c2, rfl, r1, r2⟩, hb2⟩)
  have H2 := bt hb1 hb2
  go_upto_region 8 with (go_at_call 24; refine (cM _ o1 c1 o2 c2 r1 r2).mono ?_; rintro e w3 ⟨v3, rfl, R3, hb3⟩; obtain ⟨vb, vA, vL, vp, rfl⟩ := IsR.shape4 (p := lowM neg n d) R3)
  obtain ⟨W3, eW3, B3, k3⟩ := one_new w3 (.cells #[.bool vb, .int .u64 vA, .int .u64 vL, .pointer vp] 25)
  rw [eW3]
  have R4 : IsR W3 (.agg #[.bool vb, .int .u64 vA, .int .u64 vL, .pointer vp]) (lowM neg n d) := IsR.below (p := lowM neg n d) R3 B3
  have H3 := bt H2 (bt hb3 B3)
  have K2 := box_kept k0 H3 (in_heap k0)
  have B2 := bt hb0 H3
  have hne : w3.heap.size ≠ w.heap.size := by
    have h1 := in_heap k0
    have h2 := (bt H2 hb3).size
    omega
  have e0 := cell_at K2
  have a0 : W3.cell? ⟨w.heap.size, 0, none⟩ = some (.bool false) := e0 0 _ rfl
  have a1 : W3.cell? ⟨w.heap.size, 1, none⟩ = some (.int .u64 0) := e0 1 _ rfl
  have a2 : W3.cell? ⟨w.heap.size, 2, none⟩ = some (.int .u64 0) := e0 2 _ rfl
  have a3 : W3.cell? ⟨w.heap.size, 3, none⟩ = some (.pointer none) := e0 3 _ rfl
  have ff := nofreeze K2
  have f0 := cell_at k3
  have b0 : W3.cell? ⟨w3.heap.size, 0, none⟩ = some (.bool vb) := f0 0 _ rfl
  have b1 : W3.cell? ⟨w3.heap.size, 1, none⟩ = some (.int .u64 vA) := f0 1 _ rfl
  have b2 : W3.cell? ⟨w3.heap.size, 2, none⟩ = some (.int .u64 vL) := f0 2 _ rfl
  have b3 : W3.cell? ⟨w3.heap.size, 3, none⟩ = some (.pointer vp) := f0 3 _ rfl
  clear e0 f0 hb1 hb2 cP cR hm0 hm H2 k0 hb0 cM eW3 k3 B3 H3 hb3 R3 r1 r2 z1 z2
  go_wp2
  have k2 := sto4_box K2 (.bool vb) (.int .u64 vA) (.int .u64 vL) (.pointer vp)
  have hB := sto4_below B2 (Nat.le_refl _) (.bool vb) (.int .u64 vA) (.int .u64 vL) (.pointer vp)
  have hR := R4.offP (plain4 K2) (sto4_off W3 w.heap.size (.bool vb) (.int .u64 vA) (.int .u64 vL) (.pointer vp)).1 (sto4_off W3 w.heap.size (.bool vb) (.int .u64 vA) (.int .u64 vL) (.pointer vp)).2
  clear a0 a1 a2 a3 ff b0 b1 b2 b3
  generalize World.setCell _ _ _ = W' at *
  have gg := cell_at k2
  have z0 : W'.cell? ⟨w.heap.size, 0, none⟩ = some (.bool vb) := gg 0 _ rfl
  have z1 : W'.cell? ⟨w.heap.size, 1, none⟩ = some (.int .u64 vA) := gg 1 _ rfl
  have z2 : W'.cell? ⟨w.heap.size, 2, none⟩ = some (.int .u64 vL) := gg 2 _ rfl
  have z3 : W'.cell? ⟨w.heap.size, 3, none⟩ = some (.pointer vp) := gg 3 _ rfl
  refine bodyPost_ret (v := .tuple #[.agg #[.bool vb, .int .u64 vA, .int .u64 vL, .pointer vp], .int .i64 0]) ?_ rfl ?_
  · simp [results, go_sem, z0, z1, z2, z3]
  · exact ⟨_, rfl, hR, hB⟩
theorem tx1 : tx 1 = [49] := by unfold tx; rw [if_neg (by omega), dl_pos (by omega), show 1 / 10 = 0 from rfl, dl_zero]; rfl
theorem tx2 : tx 2 = [50] := by unfold tx; rw [if_neg (by omega), dl_pos (by omega), show 2 / 10 = 0 from rfl, dl_zero]; rfl
theorem aw_read : readM (signM [45, 48, 46, 53, 48]).2 = some (50, 100) := by decide +kernel
theorem aw_low : lowM (signM [45, 48, 46, 53, 48]).1 50 100 = ⟨true, 1, 2⟩ := by
  have e : Nat.gcd 50 100 = 50 := by decide +kernel
  unfold lowM
  rw [e]
  rfl
theorem aw_prn : bs (prn true 1 2) = ByteArray.mk #[45, 49, 47, 50] := by unfold prn; rw [tx1, tx2]; rfl
theorem aw_smt : bs (smtN true 1 2) = ByteArray.mk #[40, 45, 32, 40, 47, 32, 49, 32, 50, 41, 41] := by unfold smtN; rw [tx1, tx2]; rfl
set_option maxRecDepth 20000 in
theorem awake6 (w : World) (hm : ML w) : Calls Try.prog 8 #[] w fun e w' => e = .returned (.bool true) ∧ Below w.heap.size w w' := by
  have cA := parse_some [45, 48, 46, 53, 48] 50 100 w hm (by intro x hx; simp at hx; omega) (by decide) aw_read (by omega)
  rw [aw_low, show bs [45, 48, 46, 53, 48] = ByteArray.mk #[45, 48, 46, 53, 48] from rfl] at cA
  have cP := fun (W : World) (v : Value) (h : IsR W v ⟨true, 1, 2⟩) => print_any v ⟨true, 1, 2⟩ W h (by decide +kernel) (by decide +kernel)
  have cS := fun (W : World) (v : Value) (h : IsR W v ⟨true, 1, 2⟩) => smt_any v ⟨true, 1, 2⟩ W h (by decide +kernel) (by decide +kernel)
  rw [aw_prn] at cP
  rw [aw_smt] at cS
  go_enter Try.func8, Try.ntmps8
  go_upto_region 2 with (go_at_call 7; refine cA.mono ?_; rintro e w1 ⟨v1, rfl, R1, hb1⟩; obtain ⟨vb, vA, vL, vp, rfl⟩ := R1.shape4)
  obtain ⟨W1, eW1, B1, k1⟩ := one_new w1 (.cells #[.bool vb, .int .u64 vA, .int .u64 vL, .pointer vp] 25)
  rw [eW1]
  have R2 := R1.below B1
  have H1 := bt hb1 B1
  have e0 := cell_at k1
  have a0 : W1.cell? ⟨w1.heap.size, 0, none⟩ = some (.bool vb) := e0 0 _ rfl
  have a1 : W1.cell? ⟨w1.heap.size, 1, none⟩ = some (.int .u64 vA) := e0 1 _ rfl
  have a2 : W1.cell? ⟨w1.heap.size, 2, none⟩ = some (.int .u64 vL) := e0 2 _ rfl
  have a3 : W1.cell? ⟨w1.heap.size, 3, none⟩ = some (.pointer vp) := e0 3 _ rfl
  clear eW1 e0
  go_wp2_with (first
    | (go_at_call 13; refine (cP _ _ R2).mono ?_; rintro e w2 ⟨rfl, hb2⟩; have e0 := cell_at (box_kept k1 hb2 (in_heap k1)); have d0 : w2.cell? ⟨w1.heap.size, 0, none⟩ = some (.bool vb) := e0 0 _ rfl; have d1 : w2.cell? ⟨w1.heap.size, 1, none⟩ = some (.int .u64 vA) := e0 1 _ rfl; have d2 : w2.cell? ⟨w1.heap.size, 2, none⟩ = some (.int .u64 vL) := e0 2 _ rfl; have d3 : w2.cell? ⟨w1.heap.size, 3, none⟩ = some (.pointer vp) := e0 3 _ rfl; clear e0)
    | (go_at_call 15; refine (cS _ _ (R2.below hb2)).mono ?_; rintro e w3 ⟨rfl, hb3⟩))
  go_ret
  exact ⟨rfl, bt H1 (bt hb2 hb3)⟩
end Go.Proofs.Ytefckmkcbgckfaa.PbL

/- rtext: what is printed is read back. -/
namespace Go.Proofs.Ytefckmkcbgckfaa.BkL
open Go.RowKit Mem LimbNum Limb1 DigNum DigL StrL TxN ShelfC RatL RatM RatN NmL QNum PaL PtL PbL VqN RText

theorem tx_nb (n k : Nat) (h : (nb n).length ≤ k) (hk : 1 ≤ k) : (tx n).length ≤ k := by
  have := dl_nb n
  unfold tx
  split
  · exact hk
  · omega
theorem prn_len (p : Nm) (k : Nat) (h : Fits p k) (hk : 1 ≤ k) : (prn p.b p.n p.d).length ≤ 2 * k + 2 := by
  have h1 := tx_nb p.n k h.2.1 hk
  have h2 := tx_nb p.d k h.2.2 hk
  unfold prn
  rw [List.length_append, List.length_append]
  split <;> split <;> simp <;> omega
theorem back_any (p : Nm) (k : Nat) (hk : k ≤ 5000) (h1 : 1 ≤ k) (w : World) (hm : ML w) (f : Fits p k) (lo : Low p.b p.n p.d) :
    Calls Try.prog 7 #[.string (bs (prn p.b p.n p.d))] w fun e w' => ∃ v, e = .returned (.tuple #[v, .int .i64 0]) ∧ IsR w' v p ∧ Below w.heap.size w w' := by
  have hl := prn_len p k f h1
  have h := parse_some (prn p.b p.n p.d) p.n p.d w hm (b8_prn _ _ _) (by omega) (by rw [sign_prn]; exact read_prn p.n p.d) f.pos
  rw [sign_prn] at h
  have e : lowM p.b p.n p.d = p := low_same lo
  dsimp only at h
  rw [e] at h
  exact h
theorem bs_ne {a b : List Nat} (ha : B8 a) (hb : B8 b) (h : a ≠ b) : ¬ bs a = bs b ∧ ¬ (bs a).toList = (bs b).toList ∧ ((bs a).toList == (bs b).toList) = false := by
  have n1 : ¬ bs a = bs b := fun e => h (bs_inj ha hb e)
  have n2 : ¬ (bs a).toList = (bs b).toList := by
    rw [ByteArray.toList_eq, ByteArray.toList_eq]
    intro e
    apply n1
    apply ByteArray.ext
    exact Array.toList_inj.1 e
  exact ⟨n1, n2, beq_eq_false_iff_ne.2 n2⟩
end Go.Proofs.Ytefckmkcbgckfaa.BkL

/- RtextBack: the walk. -/
namespace Go.Proofs.Ytefckmkcbgckfaa.BkW
open Go.RowKit Mem LimbNum Limb1 DigNum DigL StrL TxN ShelfC TextL RText RatL RatM RatN RatW RefR RefT RefU InvL DivL QNum CmpL CmqL RefX RefY RefZ FloL Mk5 AddN JoinL AddW AddV AddR FldL SubL NmL MulN MulW MulL PaL PtL PbL Law5 Aw5 VqN BkL

theorem keep16 {W W' : World} {g0x g1x ga gb : Nat} {b1 : Bool} {A1 L1 : Int} {p1 : Option Addr} {b2 : Bool} {A2 L2 : Int} {p2 : Option Addr} {b7 : Bool} {A7 L7 : Int} {p7 : Option Addr} {b8 : Bool} {A8 L8 : Int} {p8 : Option Addr} (hb : Below W.heap.size W W') (H : W.cell? ⟨g0x, 0, none⟩ = some (.bool b1) ∧ W.cell? ⟨g0x, 1, none⟩ = some (.int .u64 A1) ∧ W.cell? ⟨g0x, 2, none⟩ = some (.int .u64 L1) ∧ W.cell? ⟨g0x, 3, none⟩ = some (.pointer p1) ∧ W.cell? ⟨g1x, 0, none⟩ = some (.bool b2) ∧ W.cell? ⟨g1x, 1, none⟩ = some (.int .u64 A2) ∧ W.cell? ⟨g1x, 2, none⟩ = some (.int .u64 L2) ∧ W.cell? ⟨g1x, 3, none⟩ = some (.pointer p2) ∧ W.cell? ⟨ga, 0, none⟩ = some (.bool b7) ∧ W.cell? ⟨ga, 1, none⟩ = some (.int .u64 A7) ∧ W.cell? ⟨ga, 2, none⟩ = some (.int .u64 L7) ∧ W.cell? ⟨ga, 3, none⟩ = some (.pointer p7) ∧ W.cell? ⟨gb, 0, none⟩ = some (.bool b8) ∧ W.cell? ⟨gb, 1, none⟩ = some (.int .u64 A8) ∧ W.cell? ⟨gb, 2, none⟩ = some (.int .u64 L8) ∧ W.cell? ⟨gb, 3, none⟩ = some (.pointer p8)) : W'.cell? ⟨g0x, 0, none⟩ = some (.bool b1) ∧ W'.cell? ⟨g0x, 1, none⟩ = some (.int .u64 A1) ∧ W'.cell? ⟨g0x, 2, none⟩ = some (.int .u64 L1) ∧ W'.cell? ⟨g0x, 3, none⟩ = some (.pointer p1) ∧ W'.cell? ⟨g1x, 0, none⟩ = some (.bool b2) ∧ W'.cell? ⟨g1x, 1, none⟩ = some (.int .u64 A2) ∧ W'.cell? ⟨g1x, 2, none⟩ = some (.int .u64 L2) ∧ W'.cell? ⟨g1x, 3, none⟩ = some (.pointer p2) ∧ W'.cell? ⟨ga, 0, none⟩ = some (.bool b7) ∧ W'.cell? ⟨ga, 1, none⟩ = some (.int .u64 A7) ∧ W'.cell? ⟨ga, 2, none⟩ = some (.int .u64 L7) ∧ W'.cell? ⟨ga, 3, none⟩ = some (.pointer p7) ∧ W'.cell? ⟨gb, 0, none⟩ = some (.bool b8) ∧ W'.cell? ⟨gb, 1, none⟩ = some (.int .u64 A8) ∧ W'.cell? ⟨gb, 2, none⟩ = some (.int .u64 L8) ∧ W'.cell? ⟨gb, 3, none⟩ = some (.pointer p8) := by
  have kc : ∀ {p : Addr} {v : Value}, W.cell? p = some v → W'.cell? p = some v := fun {p v} h => by rw [hb.cell (World.block_lt_of_cell? W p h)]; exact h
  exact ⟨kc H.1, kc H.2.1, kc H.2.2.1, kc H.2.2.2.1, kc H.2.2.2.2.1, kc H.2.2.2.2.2.1, kc H.2.2.2.2.2.2.1, kc H.2.2.2.2.2.2.2.1, kc H.2.2.2.2.2.2.2.2.1, kc H.2.2.2.2.2.2.2.2.2.1, kc H.2.2.2.2.2.2.2.2.2.2.1, kc H.2.2.2.2.2.2.2.2.2.2.2.1, kc H.2.2.2.2.2.2.2.2.2.2.2.2.1, kc H.2.2.2.2.2.2.2.2.2.2.2.2.2.1, kc H.2.2.2.2.2.2.2.2.2.2.2.2.2.2.1, kc H.2.2.2.2.2.2.2.2.2.2.2.2.2.2.2⟩
set_option maxRecDepth 20000 in
set_option maxHeartbeats 8000000 in
theorem law (xx0 : Bool) (SA0 SB0 : Value) (xx1 : Bool) (SA1 SB1 : Value) (w : World) (hm : ML w)
    (cB0 : ∀ W, Below w.heap.size w W → Calls Try.prog 12 #[.agg #[.bool xx0, SA0, SB0]] W fun e w' => ∃ v q p, e = .returned (.tuple #[v, q]) ∧ IsR w' v p ∧ IsQ w' q p ∧ Fits p 256 ∧ Below W.heap.size W w')
    (cB1 : ∀ W, Below w.heap.size w W → Calls Try.prog 12 #[.agg #[.bool xx1, SA1, SB1]] W fun e w' => ∃ v q p, e = .returned (.tuple #[v, q]) ∧ IsR w' v p ∧ IsQ w' q p ∧ Fits p 256 ∧ Below W.heap.size W w') :
    Calls Try.prog 6 #[.agg #[.bool xx0, SA0, SB0], .agg #[.bool xx1, SA1, SB1]] w fun e w' => e = .returned (.bool true) ∧ Below w.heap.size w w' := by
  obtain ⟨W0, eW0, hb0, k0, k1⟩ := two_new w (.cells #[.bool xx0, SA0, SB0] 40) (.cells #[.bool xx1, SA1, SB1] 40)
  have e0 := cell_at k0
  have ha0 : W0.cell? ⟨w.heap.size, 0, none⟩ = some (.bool xx0) := e0 0 _ rfl
  have ha1 : W0.cell? ⟨w.heap.size, 1, none⟩ = some (SA0) := e0 1 _ rfl
  have ha2 : W0.cell? ⟨w.heap.size, 2, none⟩ = some (SB0) := e0 2 _ rfl
  have HK1 : Hid (W0.heap[w.heap.size + 1]? = some (.cells #[.bool xx1, SA1, SB1] 40)) := k1
  have EW : Hid (_ = W0) := eW0
  have C0 : Hid (Below w.heap.size w W0) := hb0
  have cc := cB0 W0 hb0
  clear eW0 e0 k0 k1 cB0 hb0
  go_enter Try.func6, Try.ntmps6
  go_upto_region 1 with fail
  rw [EW.out]
  clear EW
  go_upto_region 2 with (go_at_call 12; refine cc.mono ?_; rintro e w1 ⟨v, y, q1, rfl, RR, QQ, F1, hb⟩; obtain ⟨b1, A1, L1, p1, rfl⟩ := RR.shape4; obtain ⟨bq1, o1, l1, c1, r1, m1, z1, rfl⟩ := QQ.shape3)
  obtain ⟨W1, eW, B, kx, kp⟩ := two_new w1 (.cells #[.bool b1, .int .u64 A1, .int .u64 L1, .pointer p1] 25) (.cells #[.bool bq1, .slice o1 l1 c1, .slice r1 m1 z1] 33)
  rw [eW]
  have BB := bt hb B
  have C1 : Hid (Below w.heap.size w W1) := bt C0.out BB
  have D0a : Hid (IsR W1 (.agg #[.bool b1, .int .u64 A1, .int .u64 L1, .pointer p1]) q1) := RR.below B
  have D0b : Hid (IsQ W1 (.agg #[.bool bq1, .slice o1 l1 c1, .slice r1 m1 z1]) q1) := QQ.below B
  obtain ⟨g0x, eg⟩ : ∃ g, w1.heap.size = g := ⟨_, rfl⟩
  obtain ⟨g0p, eg2⟩ : ∃ g, w1.heap.size + 1 = g := ⟨_, rfl⟩
  rw [eg2] at kp
  rw [eg] at kx
  simp only [eg2]
  simp only [eg]
  have K0x : Hid (W1.heap[g0x]? = some (.cells #[.bool b1, .int .u64 A1, .int .u64 L1, .pointer p1] 25)) := kx
  have K0p : Hid (W1.heap[g0p]? = some (.cells #[.bool bq1, .slice o1 l1 c1, .slice r1 m1 z1] 33)) := kp
  have G1 : Hid (Fits q1 256) := F1
  have kn := box_kept HK1.out BB (in_heap HK1.out)
  have e0 := cell_at kn
  have hz00 : W1.cell? ⟨w.heap.size + 1, 0, none⟩ = some (.bool xx1) := e0 0 _ rfl
  have hz01 : W1.cell? ⟨w.heap.size + 1, 1, none⟩ = some (SA1) := e0 1 _ rfl
  have hz02 : W1.cell? ⟨w.heap.size + 1, 2, none⟩ = some (SB1) := e0 2 _ rfl
  clear cc
  have cc := cB1 W1 C1.out
  clear cB1
  clear eW B kx kp BB hb RR QQ C0 eg eg2 F1 ha0 ha1 ha2 kn e0 HK1
  go_upto_region 3 with (go_at_call 12; refine cc.mono ?_; rintro e w2 ⟨v, y, q2, rfl, RR, QQ, F2, hb⟩; obtain ⟨b2, A2, L2, p2, rfl⟩ := RR.shape4; obtain ⟨bq2, o2, l2, c2, r2, m2, z2, rfl⟩ := QQ.shape3)
  obtain ⟨W2, eW, B, kx, kp⟩ := two_new w2 (.cells #[.bool b2, .int .u64 A2, .int .u64 L2, .pointer p2] 25) (.cells #[.bool bq2, .slice o2 l2 c2, .slice r2 m2 z2] 33)
  rw [eW]
  have BB := bt hb B
  have C2 : Hid (Below w.heap.size w W2) := bt C1.out BB
  have K0xn : Hid (W2.heap[g0x]? = some (.cells #[.bool b1, .int .u64 A1, .int .u64 L1, .pointer p1] 25)) := box_kept K0x.out BB (in_heap K0x.out)
  clear K0x
  have K0x := K0xn
  clear K0xn
  have K0pn : Hid (W2.heap[g0p]? = some (.cells #[.bool bq1, .slice o1 l1 c1, .slice r1 m1 z1] 33)) := box_kept K0p.out BB (in_heap K0p.out)
  clear K0p
  have K0p := K0pn
  clear K0pn
  have D0an : Hid (IsR W2 (.agg #[.bool b1, .int .u64 A1, .int .u64 L1, .pointer p1]) q1) := D0a.out.below BB
  clear D0a
  have D0a := D0an
  clear D0an
  have D0bn : Hid (IsQ W2 (.agg #[.bool bq1, .slice o1 l1 c1, .slice r1 m1 z1]) q1) := D0b.out.below BB
  clear D0b
  have D0b := D0bn
  clear D0bn
  have D1a : Hid (IsR W2 (.agg #[.bool b2, .int .u64 A2, .int .u64 L2, .pointer p2]) q2) := RR.below B
  have D1b : Hid (IsQ W2 (.agg #[.bool bq2, .slice o2 l2 c2, .slice r2 m2 z2]) q2) := QQ.below B
  obtain ⟨g1x, eg⟩ : ∃ g, w2.heap.size = g := ⟨_, rfl⟩
  obtain ⟨g1p, eg2⟩ : ∃ g, w2.heap.size + 1 = g := ⟨_, rfl⟩
  rw [eg2] at kp
  rw [eg] at kx
  simp only [eg2]
  simp only [eg]
  have K1x : Hid (W2.heap[g1x]? = some (.cells #[.bool b2, .int .u64 A2, .int .u64 L2, .pointer p2] 25)) := kx
  have K1p : Hid (W2.heap[g1p]? = some (.cells #[.bool bq2, .slice o2 l2 c2, .slice r2 m2 z2] 33)) := kp
  have G2 : Hid (Fits q2 256) := F2
  clear cc
  clear eW B kx kp BB hb RR QQ C1 eg eg2 F2 hz00 hz01 hz02
  have lo1 : Hid (Low q1.b q1.n q1.d) := D0a.out.1
  have lo2 : Hid (Low q2.b q2.n q2.d) := D1a.out.1
  have HM2 : Hid (ML W2) := hm.below C2.out
  clear D0b D1b K0p K1p hm
  have e0 := cell_at K0x.out
  have u0 : W2.cell? ⟨g0x, 0, none⟩ = some (.bool b1) := e0 0 _ rfl; have u1 : W2.cell? ⟨g0x, 1, none⟩ = some (.int .u64 A1) := e0 1 _ rfl; have u2 : W2.cell? ⟨g0x, 2, none⟩ = some (.int .u64 L1) := e0 2 _ rfl; have u3 : W2.cell? ⟨g0x, 3, none⟩ = some (.pointer p1) := e0 3 _ rfl
  go_upto_region 4 with (first
    | (go_at_call 13; refine (print_any _ _ _ D0a.out (G1.out.nl (by omega)).1 (G1.out.nl (by omega)).2).mono ?_; rintro e wa ⟨rfl, hba⟩)
    | (go_at_call 7; refine (back_any q1 256 (by omega) (by omega) _ (HM2.out.below hba) G1.out lo1.out).mono ?_; rintro e wb ⟨v7, rfl, R7, hbb⟩; obtain ⟨b7, A7, L7, p7, rfl⟩ := R7.shape4))
  obtain ⟨W3, eW3, B3, k3⟩ := one_new wb (.cells #[.bool b7, .int .u64 A7, .int .u64 L7, .pointer p7] 25)
  rw [eW3]
  have BB := bt hba (bt hbb B3)
  have C3 : Hid (Below w.heap.size w W3) := bt C2.out BB
  have HM3 : Hid (ML W3) := HM2.out.below BB
  obtain ⟨ga, ega⟩ : ∃ g, wb.heap.size = g := ⟨_, rfl⟩
  rw [ega] at k3 ⊢
  have Kx3 : Hid (W3.heap[g0x]? = some (.cells #[.bool b1, .int .u64 A1, .int .u64 L1, .pointer p1] 25)) := box_kept K0x.out BB (in_heap K0x.out)
  have Ky3 : Hid (W3.heap[g1x]? = some (.cells #[.bool b2, .int .u64 A2, .int .u64 L2, .pointer p2] 25)) := box_kept K1x.out BB (in_heap K1x.out)
  have Ka3 : Hid (W3.heap[ga]? = some (.cells #[.bool b7, .int .u64 A7, .int .u64 L7, .pointer p7] 25)) := k3
  have Dx3 : Hid (IsR W3 (.agg #[.bool b1, .int .u64 A1, .int .u64 L1, .pointer p1]) q1) := D0a.out.below BB
  have Dy3 : Hid (IsR W3 (.agg #[.bool b2, .int .u64 A2, .int .u64 L2, .pointer p2]) q2) := D1a.out.below BB
  have Da3 : Hid (IsR W3 (.agg #[.bool b7, .int .u64 A7, .int .u64 L7, .pointer p7]) q1) := R7.below B3
  clear eW3 B3 k3 BB hba hbb R7 ega K0x K1x D0a D1a C2 HM2 e0 u0 u1 u2 u3
  have e0 := cell_at Kx3.out
  have u0 : W3.cell? ⟨g0x, 0, none⟩ = some (.bool b1) := e0 0 _ rfl; have u1 : W3.cell? ⟨g0x, 1, none⟩ = some (.int .u64 A1) := e0 1 _ rfl; have u2 : W3.cell? ⟨g0x, 2, none⟩ = some (.int .u64 L1) := e0 2 _ rfl; have u3 : W3.cell? ⟨g0x, 3, none⟩ = some (.pointer p1) := e0 3 _ rfl
  have e1 := cell_at Ky3.out
  have y0 : W3.cell? ⟨g1x, 0, none⟩ = some (.bool b2) := e1 0 _ rfl; have y1 : W3.cell? ⟨g1x, 1, none⟩ = some (.int .u64 A2) := e1 1 _ rfl; have y2 : W3.cell? ⟨g1x, 2, none⟩ = some (.int .u64 L2) := e1 2 _ rfl; have y3 : W3.cell? ⟨g1x, 3, none⟩ = some (.pointer p2) := e1 3 _ rfl
  have fs : Hid (Fits (addM q1 q2) 513) := fits_add G1.out G2.out
  go_upto_region 5 with (first
    | (go_at_call 19; refine (a_add (k := 256) (by omega) Dx3.out Dy3.out G1.out G2.out).mono ?_; rintro e wc ⟨v9, rfl, R9, hbc⟩)
    | (go_at_call 13; refine (print_any _ _ _ R9 (fs.out.nl (by omega)).1 (fs.out.nl (by omega)).2).mono ?_; rintro e wd ⟨rfl, hbd⟩)
    | (go_at_call 7; refine (back_any (addM q1 q2) 513 (by omega) (by omega) _ (HM3.out.below (bt hbc hbd)) fs.out R9.1).mono ?_; rintro e we ⟨v8, rfl, R8, hbe⟩; obtain ⟨b8, A8, L8, p8, rfl⟩ := R8.shape4))
  obtain ⟨W4, eW4, B4, k4⟩ := one_new we (.cells #[.bool b8, .int .u64 A8, .int .u64 L8, .pointer p8] 25)
  rw [eW4]
  have BB := (bt hbc (bt hbd (bt hbe B4))).drew
  have CC : Hid (Below w.heap.size w W4.drew) := bt C3.out BB
  have HM4 : Hid (ML W4.drew) := HM3.out.below BB
  obtain ⟨gb, egb⟩ : ∃ g, we.heap.size = g := ⟨_, rfl⟩
  rw [egb] at k4 ⊢
  have Dx4 : Hid (IsR W4.drew (.agg #[.bool b1, .int .u64 A1, .int .u64 L1, .pointer p1]) q1) := Dx3.out.below BB
  have Dy4 : Hid (IsR W4.drew (.agg #[.bool b2, .int .u64 A2, .int .u64 L2, .pointer p2]) q2) := Dy3.out.below BB
  have Da4 : Hid (IsR W4.drew (.agg #[.bool b7, .int .u64 A7, .int .u64 L7, .pointer p7]) q1) := Da3.out.below BB
  have Db4 : Hid (IsR W4.drew (.agg #[.bool b8, .int .u64 A8, .int .u64 L8, .pointer p8]) (addM q1 q2)) := R8.below B4.drew
  have s0 : W4.drew.cell? ⟨g0x, 0, none⟩ = some (.bool b1) ∧ W4.drew.cell? ⟨g0x, 1, none⟩ = some (.int .u64 A1) ∧ W4.drew.cell? ⟨g0x, 2, none⟩ = some (.int .u64 L1) ∧ W4.drew.cell? ⟨g0x, 3, none⟩ = some (.pointer p1) ∧ W4.drew.cell? ⟨g1x, 0, none⟩ = some (.bool b2) ∧ W4.drew.cell? ⟨g1x, 1, none⟩ = some (.int .u64 A2) ∧ W4.drew.cell? ⟨g1x, 2, none⟩ = some (.int .u64 L2) ∧ W4.drew.cell? ⟨g1x, 3, none⟩ = some (.pointer p2) ∧ W4.drew.cell? ⟨ga, 0, none⟩ = some (.bool b7) ∧ W4.drew.cell? ⟨ga, 1, none⟩ = some (.int .u64 A7) ∧ W4.drew.cell? ⟨ga, 2, none⟩ = some (.int .u64 L7) ∧ W4.drew.cell? ⟨ga, 3, none⟩ = some (.pointer p7) ∧ W4.drew.cell? ⟨gb, 0, none⟩ = some (.bool b8) ∧ W4.drew.cell? ⟨gb, 1, none⟩ = some (.int .u64 A8) ∧ W4.drew.cell? ⟨gb, 2, none⟩ = some (.int .u64 L8) ∧ W4.drew.cell? ⟨gb, 3, none⟩ = some (.pointer p8) := by
    have f0 := cell_at (box_kept Kx3.out BB (in_heap Kx3.out))
    have f1 := cell_at (box_kept Ky3.out BB (in_heap Ky3.out))
    have f2 := cell_at (box_kept Ka3.out BB (in_heap Ka3.out))
    have f3 := cell_at (World.drew_at k4)
    exact ⟨f0 0 _ rfl, f0 1 _ rfl, f0 2 _ rfl, f0 3 _ rfl, f1 0 _ rfl, f1 1 _ rfl, f1 2 _ rfl, f1 3 _ rfl, f2 0 _ rfl, f2 1 _ rfl, f2 2 _ rfl, f2 3 _ rfl, f3 0 _ rfl, f3 1 _ rfl, f3 2 _ rfl, f3 3 _ rfl⟩
  have H0 : Below W4.drew.heap.size W4.drew W4.drew := Below.refl _ _
  have fd : Hid (Fits (addM (addM q1 q2) (negM q2)) 1027) := fits_add fs.out (fits_neg (G2.out.more (by omega)))
  have hsub : cmpM (addM (addM q1 q2) (negM q2)) q1 = 0 := by
    have d1 := d_add G1.out.1 G2.out.1
    have d2 : 0 < (negM q2).d := G2.out.1
    rw [cmp_eq (d_add d1 d2) G1.out.1, vq_add d1 d2, vq_add G1.out.1 G2.out.1, vq_neg]
    grind
  have cS := fun (W : World) (v v' : Value) (h1 : IsR W v (addM (addM q1 q2) (negM q2))) (h2 : IsR W v' q1) => a_cmp (k := 1027) (by omega) h1 h2 fd.out (G1.out.more (by omega))
  rw [hsub] at cS
  have cA := fun (W : World) (v v' : Value) (h1 : IsR W v q1) (h2 : IsR W v' q1) => a_cmp (k := 256) (by omega) h1 h2 G1.out G1.out
  rw [cmp_self] at cA
  have cC := fun (W : World) (v v' : Value) (h1 : IsR W v q1) (h2 : IsR W v' q2) => a_cmp (k := 256) (by omega) h1 h2 G1.out G2.out
  have cP1 := fun (W : World) (v : Value) (h : IsR W v q1) => print_any v q1 W h (G1.out.nl (by omega)).1 (G1.out.nl (by omega)).2
  have cP2 := fun (W : World) (v : Value) (h : IsR W v q2) => print_any v q2 W h (G2.out.nl (by omega)).1 (G2.out.nl (by omega)).2
  have hcase : (q1 = q2 ∧ cmpM q1 q2 = 0) ∨ ((prn q1.b q1.n q1.d ≠ prn q2.b q2.n q2.d) ∧ (cmpM q1 q2 = 1 ∨ cmpM q1 q2 = -1)) := by
    by_cases h : cmpM q1 q2 = 0
    · exact .inl ⟨same_of lo1.out lo2.out h, h⟩
    · refine .inr ⟨fun e => h ?_, ?_⟩
      · obtain ⟨e1, e2, e3⟩ := prn_inj e
        have : q1 = q2 := by
          obtain ⟨_, _, _⟩ := q1
          obtain ⟨_, _, _⟩ := q2
          simp_all
        rw [this, cmp_self]
      · unfold cmpM cmpQ cmpI at h ⊢
        split
        · exact .inr rfl
        · split
          · simp_all
          · exact .inl rfl
  clear eW4 B4 k4 BB hbc hbd hbe R8 R9 egb Kx3 Ky3 Ka3 Dx3 Dy3 Da3 C3 HM3 e0 e1 u0 u1 u2 u3 y0 y1 y2 y3 hsub
  rcases hcase with ⟨e, h0⟩ | ⟨hne, hv⟩
  · subst e
    rw [h0] at cC
    generalize bs (prn q1.b q1.n q1.d) = SS at *
    have Ta1 : True := trivial
    have Ta3 : True := trivial
    have Ta4 : True := trivial
    go_region_held3 (fun w' => w'.cell? ⟨g0x, 0, none⟩ = some (.bool b1) ∧ w'.cell? ⟨g0x, 1, none⟩ = some (.int .u64 A1) ∧ w'.cell? ⟨g0x, 2, none⟩ = some (.int .u64 L1) ∧ w'.cell? ⟨g0x, 3, none⟩ = some (.pointer p1) ∧ w'.cell? ⟨g1x, 0, none⟩ = some (.bool b2) ∧ w'.cell? ⟨g1x, 1, none⟩ = some (.int .u64 A2) ∧ w'.cell? ⟨g1x, 2, none⟩ = some (.int .u64 L2) ∧ w'.cell? ⟨g1x, 3, none⟩ = some (.pointer p2) ∧ w'.cell? ⟨ga, 0, none⟩ = some (.bool b7) ∧ w'.cell? ⟨ga, 1, none⟩ = some (.int .u64 A7) ∧ w'.cell? ⟨ga, 2, none⟩ = some (.int .u64 L7) ∧ w'.cell? ⟨ga, 3, none⟩ = some (.pointer p7) ∧ w'.cell? ⟨gb, 0, none⟩ = some (.bool b8) ∧ w'.cell? ⟨gb, 1, none⟩ = some (.int .u64 A8) ∧ w'.cell? ⟨gb, 2, none⟩ = some (.int .u64 L8) ∧ w'.cell? ⟨gb, 3, none⟩ = some (.pointer p8)) (first | with_reducible exact s0 | with_reducible exact sa0 | with_reducible exact sa1 | with_reducible exact sa2 | with_reducible exact sa3 | with_reducible exact sa4 | with_reducible exact sa5 | with_reducible exact sa6) (first
      | (go_at_call 8; refine (awake6 _ (HM4.out.below H0)).mono ?_; rintro e wa0 ⟨rfl, hba0⟩; have Ha0 := bt H0 hba0; have sa0 := keep16 hba0 s0)
      | (go_at_call 20; have _t := Ta1; clear _t Ta1; refine (cA _ _ _ (Da4.out.below Ha0) (Dx4.out.below Ha0)).mono ?_; rintro e wa1 ⟨rfl, hba1⟩; have Ha1 := bt Ha0 hba1; have sa1 := keep16 hba1 sa0)
      | (go_at_call 21; refine (a_sub (k := 513) (by omega) (Db4.out.below Ha1) (Dy4.out.below Ha1) fs.out (G2.out.more (by omega))).mono ?_; rintro e wa2 ⟨va2, rfl, Ra2, hba2⟩; have Ha2 := bt Ha1 hba2; have sa2 := keep16 hba2 sa1)
      | (go_at_call 20; have _t := Ta3; clear _t Ta3; refine (cS _ _ _ Ra2 (Dx4.out.below Ha2)).mono ?_; rintro e wa3 ⟨rfl, hba3⟩; have Ha3 := bt Ha2 hba3; have sa3 := keep16 hba3 sa2)
      | (go_at_call 13; have _t := Ta4; clear _t Ta4; refine (cP1 _ _ (Dx4.out.below Ha3)).mono ?_; rintro e wa4 ⟨rfl, hba4⟩; have Ha4 := bt Ha3 hba4; have sa4 := keep16 hba4 sa3)
      | (go_at_call 13; refine (cP2 _ _ (Dy4.out.below Ha4)).mono ?_; rintro e wa5 ⟨rfl, hba5⟩; have Ha5 := bt Ha4 hba5; have sa5 := keep16 hba5 sa4)
      | (go_at_call 20; refine (cC _ _ _ (Dx4.out.below Ha5) (Dy4.out.below Ha5)).mono ?_; rintro e wa6 ⟨rfl, hba6⟩; have Ha6 := bt Ha5 hba6; have sa6 := keep16 hba6 sa5))
    all_goals go_wp2
    all_goals go_ret
    all_goals exact ⟨rfl, bt CC.out Ha6⟩
  · have nn := bs_ne (b8_prn _ _ _) (b8_prn _ _ _) hne
    generalize bs (prn q1.b q1.n q1.d) = SS at *
    generalize bs (prn q2.b q2.n q2.d) = TT at *
    obtain ⟨n1, n2, n3⟩ := nn
    generalize cmpM q1 q2 = CV at *
    rcases hv with rfl | rfl
    · have Tb1 : True := trivial
      have Tb3 : True := trivial
      have Tb4 : True := trivial
      go_region_held3 (fun w' => w'.cell? ⟨g0x, 0, none⟩ = some (.bool b1) ∧ w'.cell? ⟨g0x, 1, none⟩ = some (.int .u64 A1) ∧ w'.cell? ⟨g0x, 2, none⟩ = some (.int .u64 L1) ∧ w'.cell? ⟨g0x, 3, none⟩ = some (.pointer p1) ∧ w'.cell? ⟨g1x, 0, none⟩ = some (.bool b2) ∧ w'.cell? ⟨g1x, 1, none⟩ = some (.int .u64 A2) ∧ w'.cell? ⟨g1x, 2, none⟩ = some (.int .u64 L2) ∧ w'.cell? ⟨g1x, 3, none⟩ = some (.pointer p2) ∧ w'.cell? ⟨ga, 0, none⟩ = some (.bool b7) ∧ w'.cell? ⟨ga, 1, none⟩ = some (.int .u64 A7) ∧ w'.cell? ⟨ga, 2, none⟩ = some (.int .u64 L7) ∧ w'.cell? ⟨ga, 3, none⟩ = some (.pointer p7) ∧ w'.cell? ⟨gb, 0, none⟩ = some (.bool b8) ∧ w'.cell? ⟨gb, 1, none⟩ = some (.int .u64 A8) ∧ w'.cell? ⟨gb, 2, none⟩ = some (.int .u64 L8) ∧ w'.cell? ⟨gb, 3, none⟩ = some (.pointer p8)) (first | with_reducible exact s0 | with_reducible exact sb0 | with_reducible exact sb1 | with_reducible exact sb2 | with_reducible exact sb3 | with_reducible exact sb4 | with_reducible exact sb5 | with_reducible exact sb6) (first
        | (go_at_call 8; refine (awake6 _ (HM4.out.below H0)).mono ?_; rintro e wb0 ⟨rfl, hbb0⟩; have Hb0 := bt H0 hbb0; have sb0 := keep16 hbb0 s0)
        | (go_at_call 20; have _t := Tb1; clear _t Tb1; refine (cA _ _ _ (Da4.out.below Hb0) (Dx4.out.below Hb0)).mono ?_; rintro e wb1 ⟨rfl, hbb1⟩; have Hb1 := bt Hb0 hbb1; have sb1 := keep16 hbb1 sb0)
        | (go_at_call 21; refine (a_sub (k := 513) (by omega) (Db4.out.below Hb1) (Dy4.out.below Hb1) fs.out (G2.out.more (by omega))).mono ?_; rintro e wb2 ⟨vb2, rfl, Rb2, hbb2⟩; have Hb2 := bt Hb1 hbb2; have sb2 := keep16 hbb2 sb1)
        | (go_at_call 20; have _t := Tb3; clear _t Tb3; refine (cS _ _ _ Rb2 (Dx4.out.below Hb2)).mono ?_; rintro e wb3 ⟨rfl, hbb3⟩; have Hb3 := bt Hb2 hbb3; have sb3 := keep16 hbb3 sb2)
        | (go_at_call 13; have _t := Tb4; clear _t Tb4; refine (cP1 _ _ (Dx4.out.below Hb3)).mono ?_; rintro e wb4 ⟨rfl, hbb4⟩; have Hb4 := bt Hb3 hbb4; have sb4 := keep16 hbb4 sb3)
        | (go_at_call 13; refine (cP2 _ _ (Dy4.out.below Hb4)).mono ?_; rintro e wb5 ⟨rfl, hbb5⟩; have Hb5 := bt Hb4 hbb5; have sb5 := keep16 hbb5 sb4)
        | (go_at_call 20; refine (cC _ _ _ (Dx4.out.below Hb5) (Dy4.out.below Hb5)).mono ?_; rintro e wb6 ⟨rfl, hbb6⟩; have Hb6 := bt Hb5 hbb6; have sb6 := keep16 hbb6 sb5))
      all_goals go_wp2
      all_goals go_ret
      all_goals exact ⟨rfl, bt CC.out Hb6⟩
    · have Tc1 : True := trivial
      have Tc3 : True := trivial
      have Tc4 : True := trivial
      go_region_held3 (fun w' => w'.cell? ⟨g0x, 0, none⟩ = some (.bool b1) ∧ w'.cell? ⟨g0x, 1, none⟩ = some (.int .u64 A1) ∧ w'.cell? ⟨g0x, 2, none⟩ = some (.int .u64 L1) ∧ w'.cell? ⟨g0x, 3, none⟩ = some (.pointer p1) ∧ w'.cell? ⟨g1x, 0, none⟩ = some (.bool b2) ∧ w'.cell? ⟨g1x, 1, none⟩ = some (.int .u64 A2) ∧ w'.cell? ⟨g1x, 2, none⟩ = some (.int .u64 L2) ∧ w'.cell? ⟨g1x, 3, none⟩ = some (.pointer p2) ∧ w'.cell? ⟨ga, 0, none⟩ = some (.bool b7) ∧ w'.cell? ⟨ga, 1, none⟩ = some (.int .u64 A7) ∧ w'.cell? ⟨ga, 2, none⟩ = some (.int .u64 L7) ∧ w'.cell? ⟨ga, 3, none⟩ = some (.pointer p7) ∧ w'.cell? ⟨gb, 0, none⟩ = some (.bool b8) ∧ w'.cell? ⟨gb, 1, none⟩ = some (.int .u64 A8) ∧ w'.cell? ⟨gb, 2, none⟩ = some (.int .u64 L8) ∧ w'.cell? ⟨gb, 3, none⟩ = some (.pointer p8)) (first | with_reducible exact s0 | with_reducible exact sc0 | with_reducible exact sc1 | with_reducible exact sc2 | with_reducible exact sc3 | with_reducible exact sc4 | with_reducible exact sc5 | with_reducible exact sc6) (first
        | (go_at_call 8; refine (awake6 _ (HM4.out.below H0)).mono ?_; rintro e wc0 ⟨rfl, hbc0⟩; have Hc0 := bt H0 hbc0; have sc0 := keep16 hbc0 s0)
        | (go_at_call 20; have _t := Tc1; clear _t Tc1; refine (cA _ _ _ (Da4.out.below Hc0) (Dx4.out.below Hc0)).mono ?_; rintro e wc1 ⟨rfl, hbc1⟩; have Hc1 := bt Hc0 hbc1; have sc1 := keep16 hbc1 sc0)
        | (go_at_call 21; refine (a_sub (k := 513) (by omega) (Db4.out.below Hc1) (Dy4.out.below Hc1) fs.out (G2.out.more (by omega))).mono ?_; rintro e wc2 ⟨vc2, rfl, Rc2, hbc2⟩; have Hc2 := bt Hc1 hbc2; have sc2 := keep16 hbc2 sc1)
        | (go_at_call 20; have _t := Tc3; clear _t Tc3; refine (cS _ _ _ Rc2 (Dx4.out.below Hc2)).mono ?_; rintro e wc3 ⟨rfl, hbc3⟩; have Hc3 := bt Hc2 hbc3; have sc3 := keep16 hbc3 sc2)
        | (go_at_call 13; have _t := Tc4; clear _t Tc4; refine (cP1 _ _ (Dx4.out.below Hc3)).mono ?_; rintro e wc4 ⟨rfl, hbc4⟩; have Hc4 := bt Hc3 hbc4; have sc4 := keep16 hbc4 sc3)
        | (go_at_call 13; refine (cP2 _ _ (Dy4.out.below Hc4)).mono ?_; rintro e wc5 ⟨rfl, hbc5⟩; have Hc5 := bt Hc4 hbc5; have sc5 := keep16 hbc5 sc4)
        | (go_at_call 20; refine (cC _ _ _ (Dx4.out.below Hc5) (Dy4.out.below Hc5)).mono ?_; rintro e wc6 ⟨rfl, hbc6⟩; have Hc6 := bt Hc5 hbc6; have sc6 := keep16 hbc6 sc5))
      all_goals go_wp2
      all_goals go_ret
      all_goals exact ⟨rfl, bt CC.out Hc6⟩
end Go.Proofs.Ytefckmkcbgckfaa.BkW
