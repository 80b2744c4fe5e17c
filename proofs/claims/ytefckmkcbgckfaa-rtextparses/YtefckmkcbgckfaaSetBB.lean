/- rtext.Parse: the number of a text; awake of layer 6; The reference's reading of a text: its pieces; The reference's Parse; The reference's Parse, of every text of up to 200 bytes; RtextParses: the walk. -/
import Derived.Test.YtefckmkcbgckfaaSetAX
import Derived.Test.YtefckmkcbgckfaaSetBA
import Derived.Test.YtefckmkcbgckfaaSetAC
import Derived.Test.YtefckmkcbgckfaaSetAE
import Derived.Test.YtefckmkcbgckfaaSetAG
import Derived.Test.YtefckmkcbgckfaaSetAR
/- rtext.Parse: the number of a text; awake of layer 6. -/
namespace Go.Proofs.Ytefckmkcbgckfaa.PbL
open Go.RowKit Mem LimbNum Limb1 DigNum DigL StrL TxN ShelfC RatL RatM RatN NmL QNum ParseL TensAll MulW MulL PaL PtL

theorem nofreeze {w : World} {g : Nat} {cs : Array Value} {T : TypeId} (h : w.heap[g]? = some (.cells cs T)) (i : Nat) : w.frozen? ⟨g, i, none⟩ = false := by simp [World.frozen?, h]
/-- A fraction in lowest terms. -/
def lowM (b : Bool) (n d : Nat) : Nm := ⟨b && decide (n / Nat.gcd n d ≠ 0), n / Nat.gcd n d, d / Nat.gcd n d⟩
theorem b8_sign {l : List Nat} (h : B8 l) : B8 (signM l).2 ∧ (signM l).2.length ≤ l.length := by
  unfold signM
  split
  · exact ⟨fun x hx => h x (List.mem_cons_of_mem _ hx), by simp⟩
  · exact ⟨h, Nat.le_refl _⟩
theorem dv_bits (l : List Nat) (h : okN l = true) (hs : l.length ≤ 20000) : (nl (dv l)).length ≤ 100000 := by
  have h1 := dv_lt l (ok_iff.1 h).2
  have h2 : (10 : Nat) ^ l.length ≤ 4294967296 ^ l.length := Nat.pow_le_pow_left (by omega) _
  have := nl_lt l.length (dv l) (by omega)
  omega
theorem read_len {l : List Nat} {n d : Nat} (hl : B8 l) (h : readM l = some (n, d)) (hs : l.length ≤ 20000) : (nl n).length ≤ 100000 ∧ (nl d).length ≤ 100000 := by
  have c1 := b8_cut (c := 47) hl
  have c2 := b8_cut (c := 46) hl
  unfold readM at h
  split at h
  · split at h
    · rename_i ho
      simp only [Bool.and_eq_true] at ho
      simp only [Option.some.injEq, Prod.mk.injEq] at h
      obtain ⟨rfl, rfl⟩ := h
      exact ⟨dv_bits _ ho.1 (by omega), dv_bits _ ho.2 (by omega)⟩
    · cases h
  · split at h
    · cases h
    · split at h
      · rename_i ho
        simp only [Option.some.injEq, Prod.mk.injEq] at h
        obtain ⟨rfl, rfl⟩ := h
        refine ⟨dv_bits _ ho (by rw [List.length_append]; omega), ?_⟩
        have h2 : (10 : Nat) ^ (cutN 46 l).2.1.length < 4294967296 ^ ((cutN 46 l).2.1.length + 1) :=
          Nat.lt_of_le_of_lt (Nat.pow_le_pow_left (show 10 ≤ 4294967296 by omega) _) (Nat.pow_lt_pow_right (by omega) (by omega))
        have := nl_lt _ _ h2
        omega
      · cases h
theorem isR_z (w : World) : IsR w (.agg #[.bool false, .int .u64 0, .int .u64 0, .pointer none]) (⟨false, 0, 1⟩) := Mk5.is_zero w
set_option maxRecDepth 20000 in
theorem parse_big (l : List Nat) (w : World) (hs : 20000 < l.length) :
    Calls Try.prog 7 #[.string (bs l)] w fun e w' => e = .returned (.tuple #[.agg #[.bool false, .int .u64 0, .int .u64 0, .pointer none], .int .i64 2]) ∧ Below w.heap.size w w' := by
  obtain ⟨W0, eW0, hb0, k0⟩ := one_new w (.cells #[.bool false, .int .u64 0, .int .u64 0, .pointer none] 25)
  have EW : Hid (_ = W0) := eW0
  clear eW0
  have q1 : (20000 : Int) < ((bs l).size : Int) := by rw [bs_size]; omega
  have e0 := cell_at k0
  have a0 : W0.cell? ⟨w.heap.size, 0, none⟩ = some (.bool false) := e0 0 _ rfl
  have a1 : W0.cell? ⟨w.heap.size, 1, none⟩ = some (.int .u64 0) := e0 1 _ rfl
  have a2 : W0.cell? ⟨w.heap.size, 2, none⟩ = some (.int .u64 0) := e0 2 _ rfl
  have a3 : W0.cell? ⟨w.heap.size, 3, none⟩ = some (.pointer none) := e0 3 _ rfl
  have ff := nofreeze k0
  clear e0
  go_enter Try.func7, Try.ntmps7
  go_upto_region 1 with fail
  rw [EW.out]
  clear EW
  go_wp2
  have k2 := sto4_box k0 (.bool false) (.int .u64 0) (.int .u64 0) (.pointer none)
  have hB := sto4_below hb0 (Nat.le_refl _) (.bool false) (.int .u64 0) (.int .u64 0) (.pointer none)
  clear a0 a1 a2 a3 ff
  generalize World.setCell _ _ _ = W' at *
  have gg := cell_at k2
  have z0 : W'.cell? ⟨w.heap.size, 0, none⟩ = some (.bool false) := gg 0 _ rfl
  have z1 : W'.cell? ⟨w.heap.size, 1, none⟩ = some (.int .u64 0) := gg 1 _ rfl
  have z2 : W'.cell? ⟨w.heap.size, 2, none⟩ = some (.int .u64 0) := gg 2 _ rfl
  have z3 : W'.cell? ⟨w.heap.size, 3, none⟩ = some (.pointer none) := gg 3 _ rfl
  refine bodyPost_ret (v := .tuple #[.agg #[.bool false, .int .u64 0, .int .u64 0, .pointer none], .int .i64 2]) ?_ rfl ?_
  · simp [results, go_sem, z0, z1, z2, z3]
  · exact ⟨rfl, hB⟩
set_option maxRecDepth 20000 in
theorem parse_none (l : List Nat) (w : World) (hm : ML w) (hl : B8 l) (hs : l.length ≤ 20000) (h : readM (signM l).2 = none) :
    Calls Try.prog 7 #[.string (bs l)] w fun e w' => e = .returned (.tuple #[.agg #[.bool false, .int .u64 0, .int .u64 0, .pointer none], .int .i64 3]) ∧ Below w.heap.size w w' := by
  obtain ⟨W0, eW0, hb0, k0⟩ := one_new w (.cells #[.bool false, .int .u64 0, .int .u64 0, .pointer none] 25)
  have EW : Hid (_ = W0) := eW0
  have hm0 := hm.below hb0
  clear eW0
  obtain ⟨s1, s2⟩ := b8_sign hl
  have cP := prefix_any l W0 hl (by omega)
  have cR := fun (W : World) (h2 : ML W) => read_any (signM l).2 W h2 s1 (by omega)
  rw [h] at cR
  generalize (signM l).2 = t at *
  generalize (signM l).1 = neg at *
  have q1 : ((bs l).size : Int) ≤ 20000 := by rw [bs_size]; omega
  go_enter Try.func7, Try.ntmps7
  go_upto_region 1 with fail
  rw [EW.out]
  clear EW
  go_upto_region 4 with (go_at_call 22; refine cP.mono ?_; rintro e w1 ⟨rfl, hb1⟩)
  go_upto_region 5 with (go_at_call 23; refine (cR _ (hm0.below hb1)).mono ?_; rintro e w2 ⟨⟨x1, x2, rfl⟩, hb2⟩)
  have H2 := bt hb1 hb2
  have K2 := box_kept k0 H2 (in_heap k0)
  have B2 := bt hb0 H2
  have e0 := cell_at K2
  have a0 : w2.cell? ⟨w.heap.size, 0, none⟩ = some (.bool false) := e0 0 _ rfl
  have a1 : w2.cell? ⟨w.heap.size, 1, none⟩ = some (.int .u64 0) := e0 1 _ rfl
  have a2 : w2.cell? ⟨w.heap.size, 2, none⟩ = some (.int .u64 0) := e0 2 _ rfl
  have a3 : w2.cell? ⟨w.heap.size, 3, none⟩ = some (.pointer none) := e0 3 _ rfl
  have ff := nofreeze K2
  clear e0 hb1 hb2 cP cR hm0 hm H2 k0 hb0
  go_wp2
  have k2 := sto4_box K2 (.bool false) (.int .u64 0) (.int .u64 0) (.pointer none)
  have hB := sto4_below B2 (Nat.le_refl _) (.bool false) (.int .u64 0) (.int .u64 0) (.pointer none)
  clear a0 a1 a2 a3 ff
  generalize World.setCell _ _ _ = W' at *
  have gg := cell_at k2
  have z0 : W'.cell? ⟨w.heap.size, 0, none⟩ = some (.bool false) := gg 0 _ rfl
  have z1 : W'.cell? ⟨w.heap.size, 1, none⟩ = some (.int .u64 0) := gg 1 _ rfl
  have z2 : W'.cell? ⟨w.heap.size, 2, none⟩ = some (.int .u64 0) := gg 2 _ rfl
  have z3 : W'.cell? ⟨w.heap.size, 3, none⟩ = some (.pointer none) := gg 3 _ rfl
  refine bodyPost_ret (v := .tuple #[.agg #[.bool false, .int .u64 0, .int .u64 0, .pointer none], .int .i64 3]) ?_ rfl ?_
  · simp [results, go_sem, z0, z1, z2, z3]
  · exact ⟨rfl, hB⟩
set_option maxRecDepth 20000 in
theorem parse_zero (l : List Nat) (n : Nat) (w : World) (hm : ML w) (hl : B8 l) (hs : l.length ≤ 20000) (h : readM (signM l).2 = some (n, 0)) :
    Calls Try.prog 7 #[.string (bs l)] w fun e w' => e = .returned (.tuple #[.agg #[.bool false, .int .u64 0, .int .u64 0, .pointer none], .int .i64 3]) ∧ Below w.heap.size w w' := by
  obtain ⟨W0, eW0, hb0, k0⟩ := one_new w (.cells #[.bool false, .int .u64 0, .int .u64 0, .pointer none] 25)
  have EW : Hid (_ = W0) := eW0
  have hm0 := hm.below hb0
  clear eW0
  obtain ⟨s1, s2⟩ := b8_sign hl
  have cP := prefix_any l W0 hl (by omega)
  have cR := fun (W : World) (h2 : ML W) => read_any (signM l).2 W h2 s1 (by omega)
  rw [h] at cR
  generalize (signM l).2 = t at *
  generalize (signM l).1 = neg at *
  have q1 : ((bs l).size : Int) ≤ 20000 := by rw [bs_size]; omega
  go_enter Try.func7, Try.ntmps7
  go_upto_region 1 with fail
  rw [EW.out]
  clear EW
  go_upto_region 4 with (go_at_call 22; refine cP.mono ?_; rintro e w1 ⟨rfl, hb1⟩)
  go_upto_region 5 with (go_at_call 23; refine (cR _ (hm0.below hb1)).mono ?_; rintro e w2 ⟨⟨o1, c1, o2, c2, rfl, r1, r2⟩, hb2⟩)
  have H2 := bt hb1 hb2
  have cM := make_no neg (nl n) (nl 0) o1 o2 c1 c2 w2 r2 (small_nl _) (by decide +kernel) (val_nl 0)
  go_upto_region 8 with (go_at_call 24; refine cM.mono ?_; rintro e w3 ⟨rfl, hb3⟩)
  obtain ⟨W3, eW3, B3, k3⟩ := one_new w3 (.cells #[.bool false, .int .u64 0, .int .u64 0, .pointer none] 25)
  rw [eW3]
  have H3 := bt H2 (bt hb3 B3)
  have K2 := box_kept k0 H3 (in_heap k0)
  have B2 := bt hb0 H3
  have e0 := cell_at K2
  have a0 : W3.cell? ⟨w.heap.size, 0, none⟩ = some (.bool false) := e0 0 _ rfl
  have a1 : W3.cell? ⟨w.heap.size, 1, none⟩ = some (.int .u64 0) := e0 1 _ rfl
  have a2 : W3.cell? ⟨w.heap.size, 2, none⟩ = some (.int .u64 0) := e0 2 _ rfl
  have a3 : W3.cell? ⟨w.heap.size, 3, none⟩ = some (.pointer none) := e0 3 _ rfl
  have ff := nofreeze K2
  clear e0 hb1 hb2 cP cR hm0 hm H2 k0 hb0 cM eW3 k3 B3 H3 hb3
  go_wp2
  have k2 := sto4_box K2 (.bool false) (.int .u64 0) (.int .u64 0) (.pointer none)
  have hB := sto4_below B2 (Nat.le_refl _) (.bool false) (.int .u64 0) (.int .u64 0) (.pointer none)
  clear a0 a1 a2 a3 ff
  generalize World.setCell _ _ _ = W' at *
  have gg := cell_at k2
  have z0 : W'.cell? ⟨w.heap.size, 0, none⟩ = some (.bool false) := gg 0 _ rfl
  have z1 : W'.cell? ⟨w.heap.size, 1, none⟩ = some (.int .u64 0) := gg 1 _ rfl
  have z2 : W'.cell? ⟨w.heap.size, 2, none⟩ = some (.int .u64 0) := gg 2 _ rfl
  have z3 : W'.cell? ⟨w.heap.size, 3, none⟩ = some (.pointer none) := gg 3 _ rfl
  refine bodyPost_ret (v := .tuple #[.agg #[.bool false, .int .u64 0, .int .u64 0, .pointer none], .int .i64 3]) ?_ rfl ?_
  · simp [results, go_sem, z0, z1, z2, z3]
  · exact ⟨rfl, hB⟩
set_option maxRecDepth 20000 in
theorem parse_some (l : List Nat) (n d : Nat) (w : World) (hm : ML w) (hl : B8 l) (hs : l.length ≤ 20000) (h : readM (signM l).2 = some (n, d)) (hd : d ≠ 0) :
    Calls Try.prog 7 #[.string (bs l)] w fun e w' => ∃ v, e = .returned (.tuple #[v, .int .i64 0]) ∧ IsR w' v (lowM (signM l).1 n d) ∧ Below w.heap.size w w' := by
  obtain ⟨W0, eW0, hb0, k0⟩ := one_new w (.cells #[.bool false, .int .u64 0, .int .u64 0, .pointer none] 25)
  have EW : Hid (_ = W0) := eW0
  have hm0 := hm.below hb0
  clear eW0
  obtain ⟨s1, s2⟩ := b8_sign hl
  obtain ⟨z1, z2⟩ := read_len s1 h (by omega)
  have cP := prefix_any l W0 hl (by omega)
  have cR := fun (W : World) (h2 : ML W) => read_any (signM l).2 W h2 s1 (by omega)
  rw [h] at cR
  generalize (signM l).2 = t at *
  generalize (signM l).1 = neg at *
  have q1 : ((bs l).size : Int) ≤ 20000 := by rw [bs_size]; omega
  have cM := fun (W : World) (o1 : Option Addr) (c1 : Nat) (o2 : Option Addr) (c2 : Nat) (l1 : Lies W o1 c1 (ints .u32 (nl n))) (l2 : Lies W o2 c2 (ints .u32 (nl d))) => make_any neg (nl n) (nl d) o1 o2 c1 c2 W l1 l2 (small_nl _) (small_nl _) (by omega) (by omega) (by rw [val_nl]; exact hd)
  rw [val_nl, val_nl] at cM
  go_enter Try.func7, Try.ntmps7
  go_upto_region 1 with fail
  rw [EW.out]
  clear EW
  go_upto_region 4 with (go_at_call 22; refine cP.mono ?_; rintro e w1 ⟨rfl, hb1⟩)
  go_upto_region 5 with (go_at_call 23; refine (cR _ (hm0.below hb1)).mono ?_; rintro e w2 ⟨⟨o1, c1, o2, c2, rfl, r1, r2⟩, hb2⟩)
  have H2 := bt hb1 hb2
  go_upto_region 8 with (go_at_call 24; refine (cM _ o1 c1 o2 c2 r1 r2).mono ?_; rintro e w3 ⟨v3, rfl, R3, hb3⟩; obtain ⟨vb, vA, vL, vp, rfl⟩ := IsR.shape4 (p := lowM neg n d) R3)
  obtain ⟨W3, eW3, B3, k3⟩ := one_new w3 (.cells #[.bool vb, .int .u64 vA, .int .u64 vL, .pointer vp] 25)
  rw [eW3]
  have R4 : IsR W3 (.agg #[.bool vb, .int .u64 vA, .int .u64 vL, .pointer vp]) (lowM neg n d) := IsR.below (p := lowM neg n d) R3 B3
  have H3 := bt H2 (bt hb3 B3)
  have K2 := box_kept k0 H3 (in_heap k0)
  have B2 := bt hb0 H3
  have hne : w3.heap.size ≠ w.heap.size := by
    have h1 := in_heap k0
    have h2 := (bt H2 hb3).size
    omega
  have e0 := cell_at K2
  have a0 : W3.cell? ⟨w.heap.size, 0, none⟩ = some (.bool false) := e0 0 _ rfl
  have a1 : W3.cell? ⟨w.heap.size, 1, none⟩ = some (.int .u64 0) := e0 1 _ rfl
  have a2 : W3.cell? ⟨w.heap.size, 2, none⟩ = some (.int .u64 0) := e0 2 _ rfl
  have a3 : W3.cell? ⟨w.heap.size, 3, none⟩ = some (.pointer none) := e0 3 _ rfl
  have ff := nofreeze K2
  have f0 := cell_at k3
  have b0 : W3.cell? ⟨w3.heap.size, 0, none⟩ = some (.bool vb) := f0 0 _ rfl
  have b1 : W3.cell? ⟨w3.heap.size, 1, none⟩ = some (.int .u64 vA) := f0 1 _ rfl
  have b2 : W3.cell? ⟨w3.heap.size, 2, none⟩ = some (.int .u64 vL) := f0 2 _ rfl
  have b3 : W3.cell? ⟨w3.heap.size, 3, none⟩ = some (.pointer vp) := f0 3 _ rfl
  clear e0 f0 hb1 hb2 cP cR hm0 hm H2 k0 hb0 cM eW3 k3 B3 H3 hb3 R3 r1 r2 z1 z2
  go_wp2
  have k2 := sto4_box K2 (.bool vb) (.int .u64 vA) (.int .u64 vL) (.pointer vp)
  have hB := sto4_below B2 (Nat.le_refl _) (.bool vb) (.int .u64 vA) (.int .u64 vL) (.pointer vp)
  have hR := R4.offP (plain4 K2) (sto4_off W3 w.heap.size (.bool vb) (.int .u64 vA) (.int .u64 vL) (.pointer vp)).1 (sto4_off W3 w.heap.size (.bool vb) (.int .u64 vA) (.int .u64 vL) (.pointer vp)).2
  clear a0 a1 a2 a3 ff b0 b1 b2 b3
  generalize World.setCell _ _ _ = W' at *
  have gg := cell_at k2
  have z0 : W'.cell? ⟨w.heap.size, 0, none⟩ = some (.bool vb) := gg 0 _ rfl
  have z1 : W'.cell? ⟨w.heap.size, 1, none⟩ = some (.int .u64 vA) := gg 1 _ rfl
  have z2 : W'.cell? ⟨w.heap.size, 2, none⟩ = some (.int .u64 vL) := gg 2 _ rfl
  have z3 : W'.cell? ⟨w.heap.size, 3, none⟩ = some (.pointer vp) := gg 3 _ rfl
  refine bodyPost_ret (v := .tuple #[.agg #[.bool vb, .int .u64 vA, .int .u64 vL, .pointer vp], .int .i64 0]) ?_ rfl ?_
  · simp [results, go_sem, z0, z1, z2, z3]
  · exact ⟨_, rfl, hR, hB⟩
theorem tx1 : tx 1 = [49] := by unfold tx; rw [if_neg (by omega), dl_pos (by omega), show 1 / 10 = 0 from rfl, dl_zero]; rfl
theorem tx2 : tx 2 = [50] := by unfold tx; rw [if_neg (by omega), dl_pos (by omega), show 2 / 10 = 0 from rfl, dl_zero]; rfl
theorem aw_read : readM (signM [45, 48, 46, 53, 48]).2 = some (50, 100) := by decide +kernel
theorem aw_low : lowM (signM [45, 48, 46, 53, 48]).1 50 100 = ⟨true, 1, 2⟩ := by
  have e : Nat.gcd 50 100 = 50 := by decide +kernel
  unfold lowM
  rw [e]
  rfl
theorem aw_prn : bs (prn true 1 2) = ByteArray.mk #[45, 49, 47, 50] := by unfold prn; rw [tx1, tx2]; rfl
theorem aw_smt : bs (smtN true 1 2) = ByteArray.mk #[40, 45, 32, 40, 47, 32, 49, 32, 50, 41, 41] := by unfold smtN; rw [tx1, tx2]; rfl
set_option maxRecDepth 20000 in
theorem awake6 (w : World) (hm : ML w) : Calls Try.prog 8 #[] w fun e w' => e = .returned (.bool true) ∧ Below w.heap.size w w' := by
  have cA := parse_some [45, 48, 46, 53, 48] 50 100 w hm (by intro x hx; simp at hx; omega) (by decide) aw_read (by omega)
  rw [aw_low, show bs [45, 48, 46, 53, 48] = ByteArray.mk #[45, 48, 46, 53, 48] from rfl] at cA
  have cP := fun (W : World) (v : Value) (h : IsR W v ⟨true, 1, 2⟩) => print_any v ⟨true, 1, 2⟩ W h (by decide +kernel) (by decide +kernel)
  have cS := fun (W : World) (v : Value) (h : IsR W v ⟨true, 1, 2⟩) => smt_any v ⟨true, 1, 2⟩ W h (by decide +kernel) (by decide +kernel)
  rw [aw_prn] at cP
  rw [aw_smt] at cS
  go_enter Try.func8, Try.ntmps8
  go_upto_region 2 with (go_at_call 7; refine cA.mono ?_; rintro e w1 ⟨v1, rfl, R1, hb1⟩; obtain ⟨vb, vA, vL, vp, rfl⟩ := R1.shape4)
  obtain ⟨W1, eW1, B1, k1⟩ := one_new w1 (.cells #[.bool vb, .int .u64 vA, .int .u64 vL, .pointer vp] 25)
  rw [eW1]
  have R2 := R1.below B1
  have H1 := bt hb1 B1
  have e0 := cell_at k1
  have a0 : W1.cell? ⟨w1.heap.size, 0, none⟩ = some (.bool vb) := e0 0 _ rfl
  have a1 : W1.cell? ⟨w1.heap.size, 1, none⟩ = some (.int .u64 vA) := e0 1 _ rfl
  have a2 : W1.cell? ⟨w1.heap.size, 2, none⟩ = some (.int .u64 vL) := e0 2 _ rfl
  have a3 : W1.cell? ⟨w1.heap.size, 3, none⟩ = some (.pointer vp) := e0 3 _ rfl
  clear eW1 e0
  go_wp2_with (first
    | (go_at_call 13; refine (cP _ _ R2).mono ?_; rintro e w2 ⟨rfl, hb2⟩; have e0 := cell_at (box_kept k1 hb2 (in_heap k1)); have d0 : w2.cell? ⟨w1.heap.size, 0, none⟩ = some (.bool vb) := e0 0 _ rfl; have d1 : w2.cell? ⟨w1.heap.size, 1, none⟩ = some (.int .u64 vA) := e0 1 _ rfl; have d2 : w2.cell? ⟨w1.heap.size, 2, none⟩ = some (.int .u64 vL) := e0 2 _ rfl; have d3 : w2.cell? ⟨w1.heap.size, 3, none⟩ = some (.pointer vp) := e0 3 _ rfl; clear e0)
    | (go_at_call 15; refine (cS _ _ (R2.below hb2)).mono ?_; rintro e w3 ⟨rfl, hb3⟩))
  go_ret
  exact ⟨rfl, bt H1 (bt hb2 hb3)⟩
end Go.Proofs.Ytefckmkcbgckfaa.PbL

/- The reference's reading of a text: its pieces. -/
namespace Go.Proofs.Ytefckmkcbgckfaa.RqL
open Go.RowKit Mem LimbNum Limb1 RefL RefA BitMul Words DigNum DigL StrL TxN RParse RatL RefR RefI NmL QNum MulW MulL PaL PbL

theorem tlen3 (k : Nat) (h : k ≤ 300) : (nb (10 ^ k)).length ≤ 1201 := by
  apply nb_lt
  have h2 : 10 ^ k ≤ (2 ^ 4) ^ k := Nat.pow_le_pow_left (by omega) k
  rw [← Nat.pow_mul] at h2
  obtain ⟨K, hK⟩ : ∃ K, 1201 = K := ⟨_, rfl⟩
  rw [hK]
  have h3 : (2 : Nat) ^ (4 * k) < 2 ^ K := Nat.pow_lt_pow_right (by omega) (by omega)
  omega
set_option maxRecDepth 20000 in
set_option maxHeartbeats 1000000 in
theorem rtens3_any (n : Nat) (w : World) (hn : n ≤ 300) :
    Calls Try.prog 29 #[.int .i64 (n : Int)] w fun e w' => ∃ o c, e = .returned (.slice o (nb (10 ^ n)).length c) ∧ w'.ownsRow w.heap.size 4 1 (.slice o (nb (10 ^ n)).length c) (nb (10 ^ n)).length (bools (nb (10 ^ n))) ∧ Below w.heap.size w w' := by
  have cW := rword_any 1 w (by omega)
  have hl10 : (nb 10).length ≤ 4 := nb_lt _ _ (by omega)
  go_enter Try.func29, Try.ntmps29
  go_wp2_with (go_at_call 32; refine cW.mono ?_; rintro e w1 ⟨o1, c1, rfl, hown1, hb1⟩)
  clear cW
  generalize hbase : w.heap.size = base at *
  go_loopw [3, 4] (fun v i wr => ∃ (k : Nat) (o : Option Addr) (c : Nat), k ≤ n ∧ i = .int .i64 (k : Int) ∧ v = .slice o (nb (10 ^ k)).length c ∧ wr.ownsRow base 4 1 v (nb (10 ^ k)).length (bools (nb (10 ^ k))) ∧ Below base w wr)
    (fun _ i _ => n - (intOf i).toNat)
  case atStart => exact ⟨0, o1, c1, Nat.zero_le _, rfl, rfl, hown1, hb1⟩
  case round =>
    clear hown1 hb1
    obtain ⟨k, o, c, hk, rfl, rfl, hown, hbw⟩ := hrel
    have hs := hbw.size
    by_cases hlt : k < n
    · have hML := tlen3 k (by omega)
      have cT := rword_any 10 wr (by omega)
      have cM := fun (W : World) (hW : Below wr.heap.size wr W) (oT : Option Addr) (cT : Nat) (hT : Lies W oT cT (bools (nb 10))) => rmul_core (nb (10 ^ k)) (nb 10) (10 ^ (k + 1)) (by unfold Hid; rw [fromL_nb, fromL_nb, Nat.pow_succ]) o oT c cT W (lies_of_owns (keep hown hW)) hT (by omega) (by omega)
      clear hML
      go_wp2_with (first
        | (go_at_call 32; refine cT.mono ?_; rintro e w2 ⟨o2, c2, rfl, hown2, hb2⟩)
        | (go_at_call 31; refine (cM _ hb2 _ _ (lies_of_owns hown2)).mono ?_; rintro e w3 ⟨o3, c3, rfl, hown3, hb3⟩))
      have hs2 := hb2.size
      have hs3 := hb3.size
      go_roundw
      case rel => exact ⟨k + 1, o3, c3, by omega, by go_num, rfl, owns_base hown3 (by omega), (hbw.trans (hb2.mono (by omega))).trans (hb3.mono (by omega))⟩
      case measure => simp [intOf]; omega
    · have ek : k = n := by omega
      subst ek
      go_wp2
      go_ret
      exact ⟨_, _, rfl, by first | exact hown | (rw [hbase]; exact hown), by first | exact hbw | (rw [hbase]; exact hbw)⟩
set_option maxRecDepth 20000 in
theorem at_any (l : List Nat) (c : Nat) (w : World) (hl : B8 l) (hs : l.length ≤ 20000) :
    Calls Try.prog 25 #[.string (bs l), .int .u8 (c : Int)] w fun e w' => e = .returned (.int .i64 (if (cutN c l).2.2 then ((cutN c l).1.length : Int) else -1)) ∧ w' = w := by
  have hz := bs_size l
  have hsi : ((bs l).size : Int) ≤ 20000 := by omega
  have hb := byte_bs l hl
  obtain ⟨R, hR⟩ : ∃ R : Int, (if (cutN c l).2.2 then ((cutN c l).1.length : Int) else -1) = R := ⟨_, rfl⟩
  have HR : Hid ((∀ k, k < l.length → c ∉ l.take k → l.getD k 0 = c → R = k) ∧ (c ∉ l → R = -1)) := by
    refine ⟨fun k hk hn he => ?_, fun hn => ?_⟩
    · have e : l = l.take k ++ c :: l.drop (k + 1) := by
        have h1 := (List.take_append_drop k l).symm
        have h2 : l.drop k = c :: l.drop (k + 1) := by
          rw [List.drop_eq_getElem_cons hk]
          congr 1
          rw [← he, List.getD_eq_getElem?_getD, List.getElem?_eq_getElem hk]; rfl
        rw [← h2]; exact h1
      rw [← hR]
      rw [e, cut_at _ hn]
      simp; omega
    · rw [← hR, cut_none hn]; rfl
  rw [hR]
  generalize bs l = s at *
  clear hR
  go_enter Try.func25, Try.ntmps25
  go_wp2
  go_loop [5] (fun i => ∃ k : Nat, k ≤ l.length ∧ i = .int .i64 (k : Int) ∧ Hid (c ∉ l.take k)) (fun i => l.length - (intOf i).toNat)
  case atStart => exact ⟨0, Nat.zero_le _, rfl, by unfold Hid; simp⟩
  case round =>
    obtain ⟨k, hk, rfl, hpre⟩ := hrel
    by_cases hlt : k < l.length
    · have hlt2 : k < s.size := by omega
      have he := byte_is s k hlt2
      have q1 : (k : Int) < (s.size : Int) := by omega
      rw [hb k] at he
      by_cases h1 : l.getD k 0 = c
      · have hRk := HR.out.1 k hlt hpre.out h1
        rw [h1] at he
        clear HR hb
        go_wp2
        go_ret
        exact ⟨by first | rfl | rw [hRk], rfl⟩
      · have hn : Hid (c ∉ l.take (k + 1)) := by
          unfold Hid
          rw [List.take_add_one]
          intro hm
          rcases List.mem_append.1 hm with h | h
          · exact hpre.out h
          · rw [List.getElem?_eq_getElem hlt] at h
            simp only [Option.toList, List.mem_singleton] at h
            apply h1
            rw [List.getD_eq_getElem?_getD, List.getElem?_eq_getElem hlt]
            exact h.symm
        have h2 : ¬ ((l.getD k 0 : Nat) : Int) = (c : Int) := by omega
        generalize l.getD k 0 = y at *
        clear HR hb
        go_wp2
        go_round
        case rel => exact ⟨k + 1, by omega, by go_num, hn⟩
        case measure => simp [intOf]; omega
    · have hRn := HR.out.2 (by have := hpre.out; rw [List.take_of_length_le (by omega)] at this; exact this)
      have q1 : ¬ (k : Int) < (s.size : Int) := by omega
      clear HR hb
      go_wp2
      go_ret
      exact ⟨by first | rfl | rw [hRn], rfl⟩
theorem first_bad (s : ByteArray) (n : Nat) : Digits s n ∨ ∃ p, p < n ∧ Digits s p ∧ (byteAt s p < 48 ∨ 57 < byteAt s p) := by
  induction n with
  | zero => exact .inl (fun i hi => absurd hi (Nat.not_lt_zero _))
  | succ n ih =>
    rcases ih with h | ⟨p, hp, h1, h2⟩
    · by_cases hb : 48 ≤ byteAt s n ∧ byteAt s n ≤ 57
      · refine .inl (fun i hi => ?_)
        by_cases e : i = n
        · rw [e]; exact hb
        · exact h i (by omega)
      · exact .inr ⟨n, by omega, h, by omega⟩
    · exact .inr ⟨p, by omega, h1, h2⟩
theorem rd_ok (l : List Nat) (w : World) (h : okN l = true) (hs : l.length ≤ 300) :
    Calls Try.prog 26 #[.string (bs l)] w fun e w' => ∃ o c, e = .returned (.tuple #[.slice o (nb (dv l)).length c, .bool true]) ∧ w'.ownsRow 0 4 1 (.slice o (nb (dv l)).length c) (nb (dv l)).length (bools (nb (dv l))) ∧ Below w.heap.size w w' := by
  obtain ⟨h0, hd⟩ := ok_iff.1 h
  refine (rparse_yes (bs l) w (digits_bs l hd) (by rw [bs_size]; exact List.length_pos_iff.2 h0) (by rw [bs_size]; exact hs)).mono ?_
  rw [num_all l hd]
  rintro e w' ⟨o, c, rfl, r, hb⟩
  exact ⟨o, c, rfl, owns_base r (Nat.zero_le _), hb⟩
theorem rd_bad (l : List Nat) (w : World) (hl : B8 l) (h : okN l = false) (hs : l.length ≤ 300) :
    Calls Try.prog 26 #[.string (bs l)] w fun e w' => e = .returned (.tuple #[.slice none 0 0, .bool false]) ∧ Below w.heap.size w w' := by
  by_cases h0 : l = []
  · subst h0
    refine (rparse_none (bs []) w rfl).mono ?_
    rintro e w' ⟨rfl, rfl⟩
    exact ⟨rfl, Below.refl _ _⟩
  · rcases first_bad (bs l) (bs l).size with hd | ⟨p, hp, h1, h2⟩
    · rw [ok_iff.2 ⟨h0, dg_of_digits hl hd⟩] at h
      cases h
    · exact rparse_bad (bs l) p w h1 hp h2 (by rw [bs_size]; exact hs)
end Go.Proofs.Ytefckmkcbgckfaa.RqL

/- The reference's Parse. -/
namespace Go.Proofs.Ytefckmkcbgckfaa.RrL
open Go.RowKit Mem LimbNum Limb1 RefL RefA BitMul Words DigNum DigL StrL TxN RParse RatL RefR RefI NmL QNum MulW MulL PaL PbL RqL

theorem sto3_below {w W : World} {B g : Nat} (h : Below B w W) (hg : B ≤ g) (a0 a1 a2 : Value) : Below B w (((W.setCell ⟨g, 0, none⟩ a0).setCell ⟨g, 1, none⟩ a1).setCell ⟨g, 2, none⟩ a2) :=
  ((h.setCell (p := ⟨g, 0, none⟩) hg a0).setCell (p := ⟨g, 1, none⟩) hg a1).setCell (p := ⟨g, 2, none⟩) hg a2
theorem dv_nb (l : List Nat) (h : okN l = true) (hs : l.length ≤ 300) : (nb (dv l)).length ≤ 1201 := by
  have h1 := dv_lt l (ok_iff.1 h).2
  refine nb_lt _ _ ?_
  have h2 : 10 ^ l.length ≤ (2 ^ 4) ^ l.length := Nat.pow_le_pow_left (by omega) _
  rw [← Nat.pow_mul] at h2
  obtain ⟨K, hK⟩ : ∃ K, 1201 = K := ⟨_, rfl⟩
  rw [hK]
  have h3 : (2 : Nat) ^ (4 * l.length) < 2 ^ K := Nat.pow_lt_pow_right (by omega) (by omega)
  omega
theorem prod_nb (x y a b : Nat) (hx : (nb x).length ≤ a) (hy : (nb y).length ≤ b) : (nb (x * y)).length ≤ a + b := by
  have h1 := fromL_lt (nb x)
  have h2 := fromL_lt (nb y)
  rw [fromL_nb] at h1 h2
  refine nb_lt _ _ ?_
  rw [Nat.pow_add]
  exact Nat.mul_lt_mul'' (Nat.lt_of_lt_of_le h1 (Nat.pow_le_pow_right (by omega) hx)) (Nat.lt_of_lt_of_le h2 (Nat.pow_le_pow_right (by omega) hy))
theorem rd_weak (l : List Nat) (w : World) (hl : B8 l) (hs : l.length ≤ 300) :
    Calls Try.prog 26 #[.string (bs l)] w fun e w' => ∃ o n c, e = .returned (.tuple #[.slice o n c, .bool (okN l)]) ∧ (okN l = true → n = (nb (dv l)).length) ∧ Below w.heap.size w w' := by
  cases h : okN l
  · refine (rd_bad l w hl h hs).mono ?_
    rintro e w' ⟨rfl, hb⟩
    exact ⟨_, _, _, rfl, (fun e => by cases e), hb⟩
  · refine (rd_ok l w h hs).mono ?_
    rintro e w' ⟨o, c, rfl, _, hb⟩
    exact ⟨o, _, c, rfl, fun _ => rfl, hb⟩
theorem cut_parts {c : Nat} (a b : List Nat) : (bs (a ++ c :: b)).extract 0 a.length = bs a ∧ (bs (a ++ c :: b)).extract (a.length + 1) (bs (a ++ c :: b)).size = bs b := by
  refine ⟨?_, ?_⟩
  · rw [extract_bs]; congr 1; simp
  · rw [bs_size, extract_bs, List.take_length]
    congr 1
    simp
theorem ri0 (w : World) : Calls Try.prog 27 #[.int .i64 0] w fun e w' => ∃ v, e = .returned v ∧ IsQ w' v (intM 0) ∧ Below w.heap.size w w' := rint_any 0 w (by decide) (by decide)
theorem rof_q (b : Bool) (x y : Nat) (o1 o2 : Option Addr) (c1 c2 : Nat) (w : World) (h1 : w.ownsRow 0 4 1 (.slice o1 (nb x).length c1) (nb x).length (bools (nb x))) (h2 : w.ownsRow 0 4 1 (.slice o2 (nb y).length c2) (nb y).length (bools (nb y))) (hl1 : (nb x).length ≤ 1000000) (hl2 : (nb y).length ≤ 1000000) (hy : y ≠ 0) :
    Calls Try.prog 28 #[.bool b, .slice o1 (nb x).length c1, .slice o2 (nb y).length c2] w fun e w' => ∃ v, e = .returned v ∧ IsQ w' v (lowM b x y) ∧ Below w.heap.size w w' := rof_any b x y o1 o2 c1 c2 w h1 h2 hl1 hl2 hy
/-- A number's three cells. -/
def Shp (v : Value) : Prop := ∃ (vb : Bool) (v1 : Option Addr) (n1 c1 : Nat) (v2 : Option Addr) (n2 c2 : Nat), v = .agg #[.bool vb, .slice v1 n1 c1, .slice v2 n2 c2]
/-- What the reference's Parse answers of a text without its sign. -/
def Good (neg : Bool) (t : List Nat) (e : Ending) (w : World) : Prop := match readM t with
  | some (n, d) => if d = 0 then ∃ v, e = .returned (.tuple #[v, .bool false]) ∧ Shp v else ∃ v, e = .returned (.tuple #[v, .bool true]) ∧ IsQ w v (lowM neg n d)
  | none => ∃ v, e = .returned (.tuple #[v, .bool false]) ∧ Shp v
theorem ok_app (a b : List Nat) (h1 : a ≠ []) (h2 : b ≠ []) : okN (a ++ b) = (okN a && okN b) := by
  unfold okN
  rw [List.all_append]
  cases a with
  | nil => exact absurd rfl h1
  | cons x a =>
    cases b with
    | nil => exact absurd rfl h2
    | cons y b => simp
set_option maxRecDepth 20000 in
set_option maxHeartbeats 2000000 in
theorem rp_w0 (S T : ByteArray) (neg : Bool) (J1 J2 : Int) (hj : J1 = -1 ∧ J2 = -1) (l1 : Nat) (c1 : ∀ W, Calls Try.prog 26 #[.string T] W fun e w' => ∃ o c, e = .returned (.tuple #[.slice o l1 c, .bool false]) ∧ Below W.heap.size W w') (w : World) (hS : (neg = true ∧ ∃ q0 : 0 < S.size, 1 ≤ S.size ∧ ((S[0]'q0).toNat : Int) = 45 ∧ S.extract 1 S.size = T) ∨ (neg = false ∧ T = S ∧ ¬ (0 : Int) < (S.size : Int)) ∨ (neg = false ∧ T = S ∧ ∃ q0 : 0 < S.size, (((S[0]'q0).toNat : Int) == 45) = false)) (c47 : ∀ W, Calls Try.prog 25 #[.string T, .int .u8 47] W fun e w' => e = .returned (.int .i64 J1) ∧ w' = W) (c46 : ∀ W, Calls Try.prog 25 #[.string T, .int .u8 46] W fun e w' => e = .returned (.int .i64 J2) ∧ w' = W) :
    Calls Try.prog 10 #[.string S] w fun e w' => ∃ v, e = .returned (.tuple #[v, .bool false]) ∧ Shp v ∧ Below w.heap.size w w' := by
  obtain ⟨W0, eW0, hb0, k0⟩ := one_new w (.cells #[.bool false, .slice none 0 0, .slice none 0 0] 33)
  have EW : Hid (_ = W0) := eW0
  clear eW0
  go_enter Try.func10, Try.ntmps10
  go_upto_region 1 with fail
  rw [EW.out]
  clear EW
  rcases hS with ⟨rfl, q0, q2, he, e1⟩ | ⟨rfl, e1, q1⟩ | ⟨rfl, e1, q0, he⟩
  · have q3 : (0 : Int) < (S.size : Int) := by omega
    have q4 : (1 : Int) ≤ (S.size : Int) := by omega
    go_upto_region 4 with fail
    (try rw [e1])
    clear q2 q3 q4 e1
    have T0 : True := trivial
    have T1 : True := trivial
    have j1 : ¬ (0 : Int) ≤ J1 := by rw [hj.1]; decide
    have j2 : ¬ (0 : Int) ≤ J2 := by rw [hj.2]; decide
    go_wp2_with (first
      | (go_at_call 25; have _t := T0; clear _t T0; refine (c47 _).mono ?_; rintro e wa ⟨rfl, hw⟩; have hw2 := hw.symm; clear hw; subst hw2)
      | (go_at_call 25; refine (c46 _).mono ?_; rintro e wa ⟨rfl, hw⟩; have hw2 := hw.symm; clear hw; subst hw2)
      | (go_at_call 26; refine (c1 _).mono ?_; rintro e wq ⟨o1, k1, rfl, hbq⟩)
      | (go_at_call 27; refine (ri0 _).mono ?_; rintro e wz ⟨v, rfl, Q, hbz⟩; obtain ⟨vb, v1, n1, c1, v2, n2, c2, rfl⟩ := Q.shape3; have HZ := bt hbq hbz; have kk := box_kept k0 HZ (in_heap k0); have dd := cell_at kk; have dd_0 : wz.cell? ⟨w.heap.size, 0, none⟩ = some (.bool false) := dd 0 _ rfl; have dd_1 : wz.cell? ⟨w.heap.size, 1, none⟩ = some (.slice none 0 0) := dd 1 _ rfl; have dd_2 : wz.cell? ⟨w.heap.size, 2, none⟩ = some (.slice none 0 0) := dd 2 _ rfl; have ff := nofreeze kk; clear dd))
    have k2 := sto3_box kk (.bool vb) (.slice v1 n1 c1) (.slice v2 n2 c2)
    have hB := sto3_below (bt hb0 HZ) (Nat.le_refl _) (.bool vb) (.slice v1 n1 c1) (.slice v2 n2 c2)
    generalize World.setCell _ _ _ = W' at *
    have gg := cell_at k2
    have zz0 : W'.cell? ⟨w.heap.size, 0, none⟩ = some (.bool vb) := gg 0 _ rfl; have zz1 : W'.cell? ⟨w.heap.size, 1, none⟩ = some (.slice v1 n1 c1) := gg 1 _ rfl; have zz2 : W'.cell? ⟨w.heap.size, 2, none⟩ = some (.slice v2 n2 c2) := gg 2 _ rfl
    refine bodyPost_ret (v := .tuple #[.agg #[.bool vb, .slice v1 n1 c1, .slice v2 n2 c2], .bool false]) ?_ rfl ?_
    · simp [results, go_sem, zz0, zz1, zz2]
    · exact ⟨_, rfl, ⟨_, _, _, _, _, _, _, rfl⟩, hB⟩
  · subst e1
    go_upto_region 4 with fail
    clear q1
    have T0 : True := trivial
    have T1 : True := trivial
    have j1 : ¬ (0 : Int) ≤ J1 := by rw [hj.1]; decide
    have j2 : ¬ (0 : Int) ≤ J2 := by rw [hj.2]; decide
    go_wp2_with (first
      | (go_at_call 25; have _t := T0; clear _t T0; refine (c47 _).mono ?_; rintro e wa ⟨rfl, hw⟩; have hw2 := hw.symm; clear hw; subst hw2)
      | (go_at_call 25; refine (c46 _).mono ?_; rintro e wa ⟨rfl, hw⟩; have hw2 := hw.symm; clear hw; subst hw2)
      | (go_at_call 26; refine (c1 _).mono ?_; rintro e wq ⟨o1, k1, rfl, hbq⟩)
      | (go_at_call 27; refine (ri0 _).mono ?_; rintro e wz ⟨v, rfl, Q, hbz⟩; obtain ⟨vb, v1, n1, c1, v2, n2, c2, rfl⟩ := Q.shape3; have HZ := bt hbq hbz; have kk := box_kept k0 HZ (in_heap k0); have dd := cell_at kk; have dd_0 : wz.cell? ⟨w.heap.size, 0, none⟩ = some (.bool false) := dd 0 _ rfl; have dd_1 : wz.cell? ⟨w.heap.size, 1, none⟩ = some (.slice none 0 0) := dd 1 _ rfl; have dd_2 : wz.cell? ⟨w.heap.size, 2, none⟩ = some (.slice none 0 0) := dd 2 _ rfl; have ff := nofreeze kk; clear dd))
    have k2 := sto3_box kk (.bool vb) (.slice v1 n1 c1) (.slice v2 n2 c2)
    have hB := sto3_below (bt hb0 HZ) (Nat.le_refl _) (.bool vb) (.slice v1 n1 c1) (.slice v2 n2 c2)
    generalize World.setCell _ _ _ = W' at *
    have gg := cell_at k2
    have zz0 : W'.cell? ⟨w.heap.size, 0, none⟩ = some (.bool vb) := gg 0 _ rfl; have zz1 : W'.cell? ⟨w.heap.size, 1, none⟩ = some (.slice v1 n1 c1) := gg 1 _ rfl; have zz2 : W'.cell? ⟨w.heap.size, 2, none⟩ = some (.slice v2 n2 c2) := gg 2 _ rfl
    refine bodyPost_ret (v := .tuple #[.agg #[.bool vb, .slice v1 n1 c1, .slice v2 n2 c2], .bool false]) ?_ rfl ?_
    · simp [results, go_sem, zz0, zz1, zz2]
    · exact ⟨_, rfl, ⟨_, _, _, _, _, _, _, rfl⟩, hB⟩
  · subst e1
    have q3 : (0 : Int) < (T.size : Int) := by omega
    go_upto_region 4 with fail
    clear q3
    have T0 : True := trivial
    have T1 : True := trivial
    have j1 : ¬ (0 : Int) ≤ J1 := by rw [hj.1]; decide
    have j2 : ¬ (0 : Int) ≤ J2 := by rw [hj.2]; decide
    go_wp2_with (first
      | (go_at_call 25; have _t := T0; clear _t T0; refine (c47 _).mono ?_; rintro e wa ⟨rfl, hw⟩; have hw2 := hw.symm; clear hw; subst hw2)
      | (go_at_call 25; refine (c46 _).mono ?_; rintro e wa ⟨rfl, hw⟩; have hw2 := hw.symm; clear hw; subst hw2)
      | (go_at_call 26; refine (c1 _).mono ?_; rintro e wq ⟨o1, k1, rfl, hbq⟩)
      | (go_at_call 27; refine (ri0 _).mono ?_; rintro e wz ⟨v, rfl, Q, hbz⟩; obtain ⟨vb, v1, n1, c1, v2, n2, c2, rfl⟩ := Q.shape3; have HZ := bt hbq hbz; have kk := box_kept k0 HZ (in_heap k0); have dd := cell_at kk; have dd_0 : wz.cell? ⟨w.heap.size, 0, none⟩ = some (.bool false) := dd 0 _ rfl; have dd_1 : wz.cell? ⟨w.heap.size, 1, none⟩ = some (.slice none 0 0) := dd 1 _ rfl; have dd_2 : wz.cell? ⟨w.heap.size, 2, none⟩ = some (.slice none 0 0) := dd 2 _ rfl; have ff := nofreeze kk; clear dd))
    have k2 := sto3_box kk (.bool vb) (.slice v1 n1 c1) (.slice v2 n2 c2)
    have hB := sto3_below (bt hb0 HZ) (Nat.le_refl _) (.bool vb) (.slice v1 n1 c1) (.slice v2 n2 c2)
    generalize World.setCell _ _ _ = W' at *
    have gg := cell_at k2
    have zz0 : W'.cell? ⟨w.heap.size, 0, none⟩ = some (.bool vb) := gg 0 _ rfl; have zz1 : W'.cell? ⟨w.heap.size, 1, none⟩ = some (.slice v1 n1 c1) := gg 1 _ rfl; have zz2 : W'.cell? ⟨w.heap.size, 2, none⟩ = some (.slice v2 n2 c2) := gg 2 _ rfl
    refine bodyPost_ret (v := .tuple #[.agg #[.bool vb, .slice v1 n1 c1, .slice v2 n2 c2], .bool false]) ?_ rfl ?_
    · simp [results, go_sem, zz0, zz1, zz2]
    · exact ⟨_, rfl, ⟨_, _, _, _, _, _, _, rfl⟩, hB⟩
set_option maxRecDepth 20000 in
set_option maxHeartbeats 2000000 in
theorem rp_w1 (S T : ByteArray) (neg : Bool) (J1 J2 : Int) (hj : J1 = -1 ∧ J2 = -1) (QQ : Nm) (l1 l2 : Nat) (P1 P2 : World → Option Addr → Nat → Prop) (c1 : ∀ W, Calls Try.prog 26 #[.string T] W fun e w' => ∃ o c, e = .returned (.tuple #[.slice o l1 c, .bool true]) ∧ P1 w' o c ∧ Below W.heap.size W w') (cW : ∀ W, Calls Try.prog 32 #[.int .u64 1] W fun e w' => ∃ o c, e = .returned (.slice o l2 c) ∧ P2 w' o c ∧ Below W.heap.size W w') (cK : ∀ W V o c, P1 W o c → Below W.heap.size W V → P1 V o c) (cO : ∀ W o1 c1 o2 c2, P1 W o1 c1 → P2 W o2 c2 → Calls Try.prog 28 #[.bool neg, .slice o1 l1 c1, .slice o2 l2 c2] W fun e w' => ∃ v, e = .returned v ∧ IsQ w' v QQ ∧ Below W.heap.size W w') (w : World) (hS : (neg = true ∧ ∃ q0 : 0 < S.size, 1 ≤ S.size ∧ ((S[0]'q0).toNat : Int) = 45 ∧ S.extract 1 S.size = T) ∨ (neg = false ∧ T = S ∧ ¬ (0 : Int) < (S.size : Int)) ∨ (neg = false ∧ T = S ∧ ∃ q0 : 0 < S.size, (((S[0]'q0).toNat : Int) == 45) = false)) (c47 : ∀ W, Calls Try.prog 25 #[.string T, .int .u8 47] W fun e w' => e = .returned (.int .i64 J1) ∧ w' = W) (c46 : ∀ W, Calls Try.prog 25 #[.string T, .int .u8 46] W fun e w' => e = .returned (.int .i64 J2) ∧ w' = W) :
    Calls Try.prog 10 #[.string S] w fun e w' => ∃ v, e = .returned (.tuple #[v, .bool true]) ∧ IsQ w' v QQ ∧ Below w.heap.size w w' := by
  obtain ⟨W0, eW0, hb0, k0⟩ := one_new w (.cells #[.bool false, .slice none 0 0, .slice none 0 0] 33)
  have EW : Hid (_ = W0) := eW0
  clear eW0
  go_enter Try.func10, Try.ntmps10
  go_upto_region 1 with fail
  rw [EW.out]
  clear EW
  rcases hS with ⟨rfl, q0, q2, he, e1⟩ | ⟨rfl, e1, q1⟩ | ⟨rfl, e1, q0, he⟩
  · have q3 : (0 : Int) < (S.size : Int) := by omega
    have q4 : (1 : Int) ≤ (S.size : Int) := by omega
    go_upto_region 4 with fail
    (try rw [e1])
    clear q2 q3 q4 e1
    have T0 : True := trivial
    have T1 : True := trivial
    have j1 : ¬ (0 : Int) ≤ J1 := by rw [hj.1]; decide
    have j2 : ¬ (0 : Int) ≤ J2 := by rw [hj.2]; decide
    go_wp2_with (first
      | (go_at_call 25; have _t := T0; clear _t T0; refine (c47 _).mono ?_; rintro e wa ⟨rfl, hw⟩; have hw2 := hw.symm; clear hw; subst hw2)
      | (go_at_call 25; refine (c46 _).mono ?_; rintro e wa ⟨rfl, hw⟩; have hw2 := hw.symm; clear hw; subst hw2)
      | (go_at_call 26; refine (c1 _).mono ?_; rintro e wq ⟨o1, k1, rfl, r1, hbq⟩)
      | (go_at_call 32; refine (cW _).mono ?_; rintro e wr ⟨o2, k2, rfl, r2, hbr⟩)
      | (go_at_call 28; refine (cO _ o1 k1 o2 k2 (cK _ _ _ _ r1 hbr) r2).mono ?_; rintro e wz ⟨v, rfl, Q, hbz⟩; obtain ⟨vb, v1, n1, c1, v2, n2, c2, rfl⟩ := Q.shape3; have HZ := bt hbq (bt hbr hbz); have kk := box_kept k0 HZ (in_heap k0); have dd := cell_at kk; have dd_0 : wz.cell? ⟨w.heap.size, 0, none⟩ = some (.bool false) := dd 0 _ rfl; have dd_1 : wz.cell? ⟨w.heap.size, 1, none⟩ = some (.slice none 0 0) := dd 1 _ rfl; have dd_2 : wz.cell? ⟨w.heap.size, 2, none⟩ = some (.slice none 0 0) := dd 2 _ rfl; have ff := nofreeze kk; clear dd))
    have k2 := sto3_box kk (.bool vb) (.slice v1 n1 c1) (.slice v2 n2 c2)
    have hB := sto3_below (bt hb0 HZ) (Nat.le_refl _) (.bool vb) (.slice v1 n1 c1) (.slice v2 n2 c2)
    have hQ := Q.offT kk (by decide) (sto3_off wz w.heap.size (.bool vb) (.slice v1 n1 c1) (.slice v2 n2 c2)).1
    generalize World.setCell _ _ _ = W' at *
    have gg := cell_at k2
    have zz0 : W'.cell? ⟨w.heap.size, 0, none⟩ = some (.bool vb) := gg 0 _ rfl; have zz1 : W'.cell? ⟨w.heap.size, 1, none⟩ = some (.slice v1 n1 c1) := gg 1 _ rfl; have zz2 : W'.cell? ⟨w.heap.size, 2, none⟩ = some (.slice v2 n2 c2) := gg 2 _ rfl
    refine bodyPost_ret (v := .tuple #[.agg #[.bool vb, .slice v1 n1 c1, .slice v2 n2 c2], .bool true]) ?_ rfl ?_
    · simp [results, go_sem, zz0, zz1, zz2]
    · exact ⟨_, rfl, hQ, hB⟩
  · subst e1
    go_upto_region 4 with fail
    clear q1
    have T0 : True := trivial
    have T1 : True := trivial
    have j1 : ¬ (0 : Int) ≤ J1 := by rw [hj.1]; decide
    have j2 : ¬ (0 : Int) ≤ J2 := by rw [hj.2]; decide
    go_wp2_with (first
      | (go_at_call 25; have _t := T0; clear _t T0; refine (c47 _).mono ?_; rintro e wa ⟨rfl, hw⟩; have hw2 := hw.symm; clear hw; subst hw2)
      | (go_at_call 25; refine (c46 _).mono ?_; rintro e wa ⟨rfl, hw⟩; have hw2 := hw.symm; clear hw; subst hw2)
      | (go_at_call 26; refine (c1 _).mono ?_; rintro e wq ⟨o1, k1, rfl, r1, hbq⟩)
      | (go_at_call 32; refine (cW _).mono ?_; rintro e wr ⟨o2, k2, rfl, r2, hbr⟩)
      | (go_at_call 28; refine (cO _ o1 k1 o2 k2 (cK _ _ _ _ r1 hbr) r2).mono ?_; rintro e wz ⟨v, rfl, Q, hbz⟩; obtain ⟨vb, v1, n1, c1, v2, n2, c2, rfl⟩ := Q.shape3; have HZ := bt hbq (bt hbr hbz); have kk := box_kept k0 HZ (in_heap k0); have dd := cell_at kk; have dd_0 : wz.cell? ⟨w.heap.size, 0, none⟩ = some (.bool false) := dd 0 _ rfl; have dd_1 : wz.cell? ⟨w.heap.size, 1, none⟩ = some (.slice none 0 0) := dd 1 _ rfl; have dd_2 : wz.cell? ⟨w.heap.size, 2, none⟩ = some (.slice none 0 0) := dd 2 _ rfl; have ff := nofreeze kk; clear dd))
    have k2 := sto3_box kk (.bool vb) (.slice v1 n1 c1) (.slice v2 n2 c2)
    have hB := sto3_below (bt hb0 HZ) (Nat.le_refl _) (.bool vb) (.slice v1 n1 c1) (.slice v2 n2 c2)
    have hQ := Q.offT kk (by decide) (sto3_off wz w.heap.size (.bool vb) (.slice v1 n1 c1) (.slice v2 n2 c2)).1
    generalize World.setCell _ _ _ = W' at *
    have gg := cell_at k2
    have zz0 : W'.cell? ⟨w.heap.size, 0, none⟩ = some (.bool vb) := gg 0 _ rfl; have zz1 : W'.cell? ⟨w.heap.size, 1, none⟩ = some (.slice v1 n1 c1) := gg 1 _ rfl; have zz2 : W'.cell? ⟨w.heap.size, 2, none⟩ = some (.slice v2 n2 c2) := gg 2 _ rfl
    refine bodyPost_ret (v := .tuple #[.agg #[.bool vb, .slice v1 n1 c1, .slice v2 n2 c2], .bool true]) ?_ rfl ?_
    · simp [results, go_sem, zz0, zz1, zz2]
    · exact ⟨_, rfl, hQ, hB⟩
  · subst e1
    have q3 : (0 : Int) < (T.size : Int) := by omega
    go_upto_region 4 with fail
    clear q3
    have T0 : True := trivial
    have T1 : True := trivial
    have j1 : ¬ (0 : Int) ≤ J1 := by rw [hj.1]; decide
    have j2 : ¬ (0 : Int) ≤ J2 := by rw [hj.2]; decide
    go_wp2_with (first
      | (go_at_call 25; have _t := T0; clear _t T0; refine (c47 _).mono ?_; rintro e wa ⟨rfl, hw⟩; have hw2 := hw.symm; clear hw; subst hw2)
      | (go_at_call 25; refine (c46 _).mono ?_; rintro e wa ⟨rfl, hw⟩; have hw2 := hw.symm; clear hw; subst hw2)
      | (go_at_call 26; refine (c1 _).mono ?_; rintro e wq ⟨o1, k1, rfl, r1, hbq⟩)
      | (go_at_call 32; refine (cW _).mono ?_; rintro e wr ⟨o2, k2, rfl, r2, hbr⟩)
      | (go_at_call 28; refine (cO _ o1 k1 o2 k2 (cK _ _ _ _ r1 hbr) r2).mono ?_; rintro e wz ⟨v, rfl, Q, hbz⟩; obtain ⟨vb, v1, n1, c1, v2, n2, c2, rfl⟩ := Q.shape3; have HZ := bt hbq (bt hbr hbz); have kk := box_kept k0 HZ (in_heap k0); have dd := cell_at kk; have dd_0 : wz.cell? ⟨w.heap.size, 0, none⟩ = some (.bool false) := dd 0 _ rfl; have dd_1 : wz.cell? ⟨w.heap.size, 1, none⟩ = some (.slice none 0 0) := dd 1 _ rfl; have dd_2 : wz.cell? ⟨w.heap.size, 2, none⟩ = some (.slice none 0 0) := dd 2 _ rfl; have ff := nofreeze kk; clear dd))
    have k2 := sto3_box kk (.bool vb) (.slice v1 n1 c1) (.slice v2 n2 c2)
    have hB := sto3_below (bt hb0 HZ) (Nat.le_refl _) (.bool vb) (.slice v1 n1 c1) (.slice v2 n2 c2)
    have hQ := Q.offT kk (by decide) (sto3_off wz w.heap.size (.bool vb) (.slice v1 n1 c1) (.slice v2 n2 c2)).1
    generalize World.setCell _ _ _ = W' at *
    have gg := cell_at k2
    have zz0 : W'.cell? ⟨w.heap.size, 0, none⟩ = some (.bool vb) := gg 0 _ rfl; have zz1 : W'.cell? ⟨w.heap.size, 1, none⟩ = some (.slice v1 n1 c1) := gg 1 _ rfl; have zz2 : W'.cell? ⟨w.heap.size, 2, none⟩ = some (.slice v2 n2 c2) := gg 2 _ rfl
    refine bodyPost_ret (v := .tuple #[.agg #[.bool vb, .slice v1 n1 c1, .slice v2 n2 c2], .bool true]) ?_ rfl ?_
    · simp [results, go_sem, zz0, zz1, zz2]
    · exact ⟨_, rfl, hQ, hB⟩
set_option maxRecDepth 20000 in
set_option maxHeartbeats 2000000 in
theorem rp_bar_ff (S T : ByteArray) (neg : Bool) (J1 J2 : Int) (i : Nat) (A B : ByteArray) (hT : T.size ≤ 300) (qi : (i : Int) + 1 ≤ (T.size : Int)) (ea : T.extract 0 i = A) (eb : T.extract (i + 1) T.size = B) (hj : J1 = (i : Int)) (l1 l2 : Nat) (c1 : ∀ W, Calls Try.prog 26 #[.string A] W fun e w' => ∃ o c, e = .returned (.tuple #[.slice o l1 c, .bool false]) ∧ Below W.heap.size W w') (c2 : ∀ W, Calls Try.prog 26 #[.string B] W fun e w' => ∃ o c, e = .returned (.tuple #[.slice o l2 c, .bool false]) ∧ Below W.heap.size W w') (w : World) (hS : (neg = true ∧ ∃ q0 : 0 < S.size, 1 ≤ S.size ∧ ((S[0]'q0).toNat : Int) = 45 ∧ S.extract 1 S.size = T) ∨ (neg = false ∧ T = S ∧ ¬ (0 : Int) < (S.size : Int)) ∨ (neg = false ∧ T = S ∧ ∃ q0 : 0 < S.size, (((S[0]'q0).toNat : Int) == 45) = false)) (c47 : ∀ W, Calls Try.prog 25 #[.string T, .int .u8 47] W fun e w' => e = .returned (.int .i64 J1) ∧ w' = W) (c46 : ∀ W, Calls Try.prog 25 #[.string T, .int .u8 46] W fun e w' => e = .returned (.int .i64 J2) ∧ w' = W) :
    Calls Try.prog 10 #[.string S] w fun e w' => ∃ v, e = .returned (.tuple #[v, .bool false]) ∧ Shp v ∧ Below w.heap.size w w' := by
  obtain ⟨W0, eW0, hb0, k0⟩ := one_new w (.cells #[.bool false, .slice none 0 0, .slice none 0 0] 33)
  have EW : Hid (_ = W0) := eW0
  clear eW0
  go_enter Try.func10, Try.ntmps10
  go_upto_region 1 with fail
  rw [EW.out]
  clear EW
  rcases hS with ⟨rfl, q0, q2, he, e1⟩ | ⟨rfl, e1, q1⟩ | ⟨rfl, e1, q0, he⟩
  · have q3 : (0 : Int) < (S.size : Int) := by omega
    have q4 : (1 : Int) ≤ (S.size : Int) := by omega
    go_upto_region 4 with fail
    (try rw [e1])
    clear q2 q3 q4 e1
    have T0 : True := trivial
    have T1 : True := trivial
    obtain rfl := hj
    have q1 : (0 : Int) ≤ (i : Int) := by omega
    have q2 : (i : Int) ≤ (T.size : Int) := by omega
    have q4 : i ≤ T.size := by omega
    have q5 : i + 1 ≤ T.size := by omega
    have q6 : (0 : Int) ≤ (i : Int) + 1 := by omega
    have q9 : i ≤ i + 1 := by omega
    have q10 : (i : Int) ≤ 300 := by omega
    have eb2 : T.extract ((i : Int) + 1).toNat T.size = B := by rw [show ((i : Int) + 1).toNat = i + 1 by omega]; exact eb
    go_wp2_with (first
      | (go_at_call 25; have _t := T0; clear _t T0; refine (c47 _).mono ?_; rintro e wa ⟨rfl, hw⟩; have hw2 := hw.symm; clear hw; subst hw2)
      | (go_at_call 25; refine (c46 _).mono ?_; rintro e wa ⟨rfl, hw⟩; have hw2 := hw.symm; clear hw; subst hw2)
      | (go_at_call 26; have _t := T1; clear _t T1; (try rw [ea]); refine (c1 _).mono ?_; rintro e wp ⟨o1, k1, rfl, hbp⟩)
      | (go_at_call 26; (try rw [eb]); (try rw [eb2]); refine (c2 _).mono ?_; rintro e wq ⟨o2, k2, rfl, hbq⟩)
      | (go_at_call 27; refine (ri0 _).mono ?_; rintro e wz ⟨v, rfl, Q, hbz⟩; obtain ⟨vb, v1, n1, c1, v2, n2, c2, rfl⟩ := Q.shape3; have HZ := bt hbp (bt hbq hbz); have kk := box_kept k0 HZ (in_heap k0); have dd := cell_at kk; have dd_0 : wz.cell? ⟨w.heap.size, 0, none⟩ = some (.bool false) := dd 0 _ rfl; have dd_1 : wz.cell? ⟨w.heap.size, 1, none⟩ = some (.slice none 0 0) := dd 1 _ rfl; have dd_2 : wz.cell? ⟨w.heap.size, 2, none⟩ = some (.slice none 0 0) := dd 2 _ rfl; have ff := nofreeze kk; clear dd))
    have k2 := sto3_box kk (.bool vb) (.slice v1 n1 c1) (.slice v2 n2 c2)
    have hB := sto3_below (bt hb0 HZ) (Nat.le_refl _) (.bool vb) (.slice v1 n1 c1) (.slice v2 n2 c2)
    generalize World.setCell _ _ _ = W' at *
    have gg := cell_at k2
    have zz0 : W'.cell? ⟨w.heap.size, 0, none⟩ = some (.bool vb) := gg 0 _ rfl; have zz1 : W'.cell? ⟨w.heap.size, 1, none⟩ = some (.slice v1 n1 c1) := gg 1 _ rfl; have zz2 : W'.cell? ⟨w.heap.size, 2, none⟩ = some (.slice v2 n2 c2) := gg 2 _ rfl
    refine bodyPost_ret (v := .tuple #[.agg #[.bool vb, .slice v1 n1 c1, .slice v2 n2 c2], .bool false]) ?_ rfl ?_
    · simp [results, go_sem, zz0, zz1, zz2]
    · exact ⟨_, rfl, ⟨_, _, _, _, _, _, _, rfl⟩, hB⟩
  · subst e1
    exfalso; omega
  · subst e1
    have q3 : (0 : Int) < (T.size : Int) := by omega
    go_upto_region 4 with fail
    clear q3
    have T0 : True := trivial
    have T1 : True := trivial
    obtain rfl := hj
    have q1 : (0 : Int) ≤ (i : Int) := by omega
    have q2 : (i : Int) ≤ (T.size : Int) := by omega
    have q4 : i ≤ T.size := by omega
    have q5 : i + 1 ≤ T.size := by omega
    have q6 : (0 : Int) ≤ (i : Int) + 1 := by omega
    have q9 : i ≤ i + 1 := by omega
    have q10 : (i : Int) ≤ 300 := by omega
    have eb2 : T.extract ((i : Int) + 1).toNat T.size = B := by rw [show ((i : Int) + 1).toNat = i + 1 by omega]; exact eb
    go_wp2_with (first
      | (go_at_call 25; have _t := T0; clear _t T0; refine (c47 _).mono ?_; rintro e wa ⟨rfl, hw⟩; have hw2 := hw.symm; clear hw; subst hw2)
      | (go_at_call 25; refine (c46 _).mono ?_; rintro e wa ⟨rfl, hw⟩; have hw2 := hw.symm; clear hw; subst hw2)
      | (go_at_call 26; have _t := T1; clear _t T1; (try rw [ea]); refine (c1 _).mono ?_; rintro e wp ⟨o1, k1, rfl, hbp⟩)
      | (go_at_call 26; (try rw [eb]); (try rw [eb2]); refine (c2 _).mono ?_; rintro e wq ⟨o2, k2, rfl, hbq⟩)
      | (go_at_call 27; refine (ri0 _).mono ?_; rintro e wz ⟨v, rfl, Q, hbz⟩; obtain ⟨vb, v1, n1, c1, v2, n2, c2, rfl⟩ := Q.shape3; have HZ := bt hbp (bt hbq hbz); have kk := box_kept k0 HZ (in_heap k0); have dd := cell_at kk; have dd_0 : wz.cell? ⟨w.heap.size, 0, none⟩ = some (.bool false) := dd 0 _ rfl; have dd_1 : wz.cell? ⟨w.heap.size, 1, none⟩ = some (.slice none 0 0) := dd 1 _ rfl; have dd_2 : wz.cell? ⟨w.heap.size, 2, none⟩ = some (.slice none 0 0) := dd 2 _ rfl; have ff := nofreeze kk; clear dd))
    have k2 := sto3_box kk (.bool vb) (.slice v1 n1 c1) (.slice v2 n2 c2)
    have hB := sto3_below (bt hb0 HZ) (Nat.le_refl _) (.bool vb) (.slice v1 n1 c1) (.slice v2 n2 c2)
    generalize World.setCell _ _ _ = W' at *
    have gg := cell_at k2
    have zz0 : W'.cell? ⟨w.heap.size, 0, none⟩ = some (.bool vb) := gg 0 _ rfl; have zz1 : W'.cell? ⟨w.heap.size, 1, none⟩ = some (.slice v1 n1 c1) := gg 1 _ rfl; have zz2 : W'.cell? ⟨w.heap.size, 2, none⟩ = some (.slice v2 n2 c2) := gg 2 _ rfl
    refine bodyPost_ret (v := .tuple #[.agg #[.bool vb, .slice v1 n1 c1, .slice v2 n2 c2], .bool false]) ?_ rfl ?_
    · simp [results, go_sem, zz0, zz1, zz2]
    · exact ⟨_, rfl, ⟨_, _, _, _, _, _, _, rfl⟩, hB⟩
set_option maxRecDepth 20000 in
set_option maxHeartbeats 2000000 in
theorem rp_bar_ft (S T : ByteArray) (neg : Bool) (J1 J2 : Int) (i : Nat) (A B : ByteArray) (hT : T.size ≤ 300) (qi : (i : Int) + 1 ≤ (T.size : Int)) (ea : T.extract 0 i = A) (eb : T.extract (i + 1) T.size = B) (hj : J1 = (i : Int)) (l1 l2 : Nat) (c1 : ∀ W, Calls Try.prog 26 #[.string A] W fun e w' => ∃ o c, e = .returned (.tuple #[.slice o l1 c, .bool false]) ∧ Below W.heap.size W w') (c2 : ∀ W, Calls Try.prog 26 #[.string B] W fun e w' => ∃ o c, e = .returned (.tuple #[.slice o l2 c, .bool true]) ∧ Below W.heap.size W w') (w : World) (hS : (neg = true ∧ ∃ q0 : 0 < S.size, 1 ≤ S.size ∧ ((S[0]'q0).toNat : Int) = 45 ∧ S.extract 1 S.size = T) ∨ (neg = false ∧ T = S ∧ ¬ (0 : Int) < (S.size : Int)) ∨ (neg = false ∧ T = S ∧ ∃ q0 : 0 < S.size, (((S[0]'q0).toNat : Int) == 45) = false)) (c47 : ∀ W, Calls Try.prog 25 #[.string T, .int .u8 47] W fun e w' => e = .returned (.int .i64 J1) ∧ w' = W) (c46 : ∀ W, Calls Try.prog 25 #[.string T, .int .u8 46] W fun e w' => e = .returned (.int .i64 J2) ∧ w' = W) :
    Calls Try.prog 10 #[.string S] w fun e w' => ∃ v, e = .returned (.tuple #[v, .bool false]) ∧ Shp v ∧ Below w.heap.size w w' := by
  obtain ⟨W0, eW0, hb0, k0⟩ := one_new w (.cells #[.bool false, .slice none 0 0, .slice none 0 0] 33)
  have EW : Hid (_ = W0) := eW0
  clear eW0
  go_enter Try.func10, Try.ntmps10
  go_upto_region 1 with fail
  rw [EW.out]
  clear EW
  rcases hS with ⟨rfl, q0, q2, he, e1⟩ | ⟨rfl, e1, q1⟩ | ⟨rfl, e1, q0, he⟩
  · have q3 : (0 : Int) < (S.size : Int) := by omega
    have q4 : (1 : Int) ≤ (S.size : Int) := by omega
    go_upto_region 4 with fail
    (try rw [e1])
    clear q2 q3 q4 e1
    have T0 : True := trivial
    have T1 : True := trivial
    obtain rfl := hj
    have q1 : (0 : Int) ≤ (i : Int) := by omega
    have q2 : (i : Int) ≤ (T.size : Int) := by omega
    have q4 : i ≤ T.size := by omega
    have q5 : i + 1 ≤ T.size := by omega
    have q6 : (0 : Int) ≤ (i : Int) + 1 := by omega
    have q9 : i ≤ i + 1 := by omega
    have q10 : (i : Int) ≤ 300 := by omega
    have eb2 : T.extract ((i : Int) + 1).toNat T.size = B := by rw [show ((i : Int) + 1).toNat = i + 1 by omega]; exact eb
    go_wp2_with (first
      | (go_at_call 25; have _t := T0; clear _t T0; refine (c47 _).mono ?_; rintro e wa ⟨rfl, hw⟩; have hw2 := hw.symm; clear hw; subst hw2)
      | (go_at_call 25; refine (c46 _).mono ?_; rintro e wa ⟨rfl, hw⟩; have hw2 := hw.symm; clear hw; subst hw2)
      | (go_at_call 26; have _t := T1; clear _t T1; (try rw [ea]); refine (c1 _).mono ?_; rintro e wp ⟨o1, k1, rfl, hbp⟩)
      | (go_at_call 26; (try rw [eb]); (try rw [eb2]); refine (c2 _).mono ?_; rintro e wq ⟨o2, k2, rfl, hbq⟩)
      | (go_at_call 27; refine (ri0 _).mono ?_; rintro e wz ⟨v, rfl, Q, hbz⟩; obtain ⟨vb, v1, n1, c1, v2, n2, c2, rfl⟩ := Q.shape3; have HZ := bt hbp (bt hbq hbz); have kk := box_kept k0 HZ (in_heap k0); have dd := cell_at kk; have dd_0 : wz.cell? ⟨w.heap.size, 0, none⟩ = some (.bool false) := dd 0 _ rfl; have dd_1 : wz.cell? ⟨w.heap.size, 1, none⟩ = some (.slice none 0 0) := dd 1 _ rfl; have dd_2 : wz.cell? ⟨w.heap.size, 2, none⟩ = some (.slice none 0 0) := dd 2 _ rfl; have ff := nofreeze kk; clear dd))
    have k2 := sto3_box kk (.bool vb) (.slice v1 n1 c1) (.slice v2 n2 c2)
    have hB := sto3_below (bt hb0 HZ) (Nat.le_refl _) (.bool vb) (.slice v1 n1 c1) (.slice v2 n2 c2)
    generalize World.setCell _ _ _ = W' at *
    have gg := cell_at k2
    have zz0 : W'.cell? ⟨w.heap.size, 0, none⟩ = some (.bool vb) := gg 0 _ rfl; have zz1 : W'.cell? ⟨w.heap.size, 1, none⟩ = some (.slice v1 n1 c1) := gg 1 _ rfl; have zz2 : W'.cell? ⟨w.heap.size, 2, none⟩ = some (.slice v2 n2 c2) := gg 2 _ rfl
    refine bodyPost_ret (v := .tuple #[.agg #[.bool vb, .slice v1 n1 c1, .slice v2 n2 c2], .bool false]) ?_ rfl ?_
    · simp [results, go_sem, zz0, zz1, zz2]
    · exact ⟨_, rfl, ⟨_, _, _, _, _, _, _, rfl⟩, hB⟩
  · subst e1
    exfalso; omega
  · subst e1
    have q3 : (0 : Int) < (T.size : Int) := by omega
    go_upto_region 4 with fail
    clear q3
    have T0 : True := trivial
    have T1 : True := trivial
    obtain rfl := hj
    have q1 : (0 : Int) ≤ (i : Int) := by omega
    have q2 : (i : Int) ≤ (T.size : Int) := by omega
    have q4 : i ≤ T.size := by omega
    have q5 : i + 1 ≤ T.size := by omega
    have q6 : (0 : Int) ≤ (i : Int) + 1 := by omega
    have q9 : i ≤ i + 1 := by omega
    have q10 : (i : Int) ≤ 300 := by omega
    have eb2 : T.extract ((i : Int) + 1).toNat T.size = B := by rw [show ((i : Int) + 1).toNat = i + 1 by omega]; exact eb
    go_wp2_with (first
      | (go_at_call 25; have _t := T0; clear _t T0; refine (c47 _).mono ?_; rintro e wa ⟨rfl, hw⟩; have hw2 := hw.symm; clear hw; subst hw2)
      | (go_at_call 25; refine (c46 _).mono ?_; rintro e wa ⟨rfl, hw⟩; have hw2 := hw.symm; clear hw; subst hw2)
      | (go_at_call 26; have _t := T1; clear _t T1; (try rw [ea]); refine (c1 _).mono ?_; rintro e wp ⟨o1, k1, rfl, hbp⟩)
      | (go_at_call 26; (try rw [eb]); (try rw [eb2]); refine (c2 _).mono ?_; rintro e wq ⟨o2, k2, rfl, hbq⟩)
      | (go_at_call 27; refine (ri0 _).mono ?_; rintro e wz ⟨v, rfl, Q, hbz⟩; obtain ⟨vb, v1, n1, c1, v2, n2, c2, rfl⟩ := Q.shape3; have HZ := bt hbp (bt hbq hbz); have kk := box_kept k0 HZ (in_heap k0); have dd := cell_at kk; have dd_0 : wz.cell? ⟨w.heap.size, 0, none⟩ = some (.bool false) := dd 0 _ rfl; have dd_1 : wz.cell? ⟨w.heap.size, 1, none⟩ = some (.slice none 0 0) := dd 1 _ rfl; have dd_2 : wz.cell? ⟨w.heap.size, 2, none⟩ = some (.slice none 0 0) := dd 2 _ rfl; have ff := nofreeze kk; clear dd))
    have k2 := sto3_box kk (.bool vb) (.slice v1 n1 c1) (.slice v2 n2 c2)
    have hB := sto3_below (bt hb0 HZ) (Nat.le_refl _) (.bool vb) (.slice v1 n1 c1) (.slice v2 n2 c2)
    generalize World.setCell _ _ _ = W' at *
    have gg := cell_at k2
    have zz0 : W'.cell? ⟨w.heap.size, 0, none⟩ = some (.bool vb) := gg 0 _ rfl; have zz1 : W'.cell? ⟨w.heap.size, 1, none⟩ = some (.slice v1 n1 c1) := gg 1 _ rfl; have zz2 : W'.cell? ⟨w.heap.size, 2, none⟩ = some (.slice v2 n2 c2) := gg 2 _ rfl
    refine bodyPost_ret (v := .tuple #[.agg #[.bool vb, .slice v1 n1 c1, .slice v2 n2 c2], .bool false]) ?_ rfl ?_
    · simp [results, go_sem, zz0, zz1, zz2]
    · exact ⟨_, rfl, ⟨_, _, _, _, _, _, _, rfl⟩, hB⟩
set_option maxRecDepth 20000 in
set_option maxHeartbeats 2000000 in
theorem rp_bar_tf (S T : ByteArray) (neg : Bool) (J1 J2 : Int) (i : Nat) (A B : ByteArray) (hT : T.size ≤ 300) (qi : (i : Int) + 1 ≤ (T.size : Int)) (ea : T.extract 0 i = A) (eb : T.extract (i + 1) T.size = B) (hj : J1 = (i : Int)) (l1 l2 : Nat) (c1 : ∀ W, Calls Try.prog 26 #[.string A] W fun e w' => ∃ o c, e = .returned (.tuple #[.slice o l1 c, .bool true]) ∧ Below W.heap.size W w') (c2 : ∀ W, Calls Try.prog 26 #[.string B] W fun e w' => ∃ o c, e = .returned (.tuple #[.slice o l2 c, .bool false]) ∧ Below W.heap.size W w') (w : World) (hS : (neg = true ∧ ∃ q0 : 0 < S.size, 1 ≤ S.size ∧ ((S[0]'q0).toNat : Int) = 45 ∧ S.extract 1 S.size = T) ∨ (neg = false ∧ T = S ∧ ¬ (0 : Int) < (S.size : Int)) ∨ (neg = false ∧ T = S ∧ ∃ q0 : 0 < S.size, (((S[0]'q0).toNat : Int) == 45) = false)) (c47 : ∀ W, Calls Try.prog 25 #[.string T, .int .u8 47] W fun e w' => e = .returned (.int .i64 J1) ∧ w' = W) (c46 : ∀ W, Calls Try.prog 25 #[.string T, .int .u8 46] W fun e w' => e = .returned (.int .i64 J2) ∧ w' = W) :
    Calls Try.prog 10 #[.string S] w fun e w' => ∃ v, e = .returned (.tuple #[v, .bool false]) ∧ Shp v ∧ Below w.heap.size w w' := by
  obtain ⟨W0, eW0, hb0, k0⟩ := one_new w (.cells #[.bool false, .slice none 0 0, .slice none 0 0] 33)
  have EW : Hid (_ = W0) := eW0
  clear eW0
  go_enter Try.func10, Try.ntmps10
  go_upto_region 1 with fail
  rw [EW.out]
  clear EW
  rcases hS with ⟨rfl, q0, q2, he, e1⟩ | ⟨rfl, e1, q1⟩ | ⟨rfl, e1, q0, he⟩
  · have q3 : (0 : Int) < (S.size : Int) := by omega
    have q4 : (1 : Int) ≤ (S.size : Int) := by omega
    go_upto_region 4 with fail
    (try rw [e1])
    clear q2 q3 q4 e1
    have T0 : True := trivial
    have T1 : True := trivial
    obtain rfl := hj
    have q1 : (0 : Int) ≤ (i : Int) := by omega
    have q2 : (i : Int) ≤ (T.size : Int) := by omega
    have q4 : i ≤ T.size := by omega
    have q5 : i + 1 ≤ T.size := by omega
    have q6 : (0 : Int) ≤ (i : Int) + 1 := by omega
    have q9 : i ≤ i + 1 := by omega
    have q10 : (i : Int) ≤ 300 := by omega
    have eb2 : T.extract ((i : Int) + 1).toNat T.size = B := by rw [show ((i : Int) + 1).toNat = i + 1 by omega]; exact eb
    go_wp2_with (first
      | (go_at_call 25; have _t := T0; clear _t T0; refine (c47 _).mono ?_; rintro e wa ⟨rfl, hw⟩; have hw2 := hw.symm; clear hw; subst hw2)
      | (go_at_call 25; refine (c46 _).mono ?_; rintro e wa ⟨rfl, hw⟩; have hw2 := hw.symm; clear hw; subst hw2)
      | (go_at_call 26; have _t := T1; clear _t T1; (try rw [ea]); refine (c1 _).mono ?_; rintro e wp ⟨o1, k1, rfl, hbp⟩)
      | (go_at_call 26; (try rw [eb]); (try rw [eb2]); refine (c2 _).mono ?_; rintro e wq ⟨o2, k2, rfl, hbq⟩)
      | (go_at_call 27; refine (ri0 _).mono ?_; rintro e wz ⟨v, rfl, Q, hbz⟩; obtain ⟨vb, v1, n1, c1, v2, n2, c2, rfl⟩ := Q.shape3; have HZ := bt hbp (bt hbq hbz); have kk := box_kept k0 HZ (in_heap k0); have dd := cell_at kk; have dd_0 : wz.cell? ⟨w.heap.size, 0, none⟩ = some (.bool false) := dd 0 _ rfl; have dd_1 : wz.cell? ⟨w.heap.size, 1, none⟩ = some (.slice none 0 0) := dd 1 _ rfl; have dd_2 : wz.cell? ⟨w.heap.size, 2, none⟩ = some (.slice none 0 0) := dd 2 _ rfl; have ff := nofreeze kk; clear dd))
    have k2 := sto3_box kk (.bool vb) (.slice v1 n1 c1) (.slice v2 n2 c2)
    have hB := sto3_below (bt hb0 HZ) (Nat.le_refl _) (.bool vb) (.slice v1 n1 c1) (.slice v2 n2 c2)
    generalize World.setCell _ _ _ = W' at *
    have gg := cell_at k2
    have zz0 : W'.cell? ⟨w.heap.size, 0, none⟩ = some (.bool vb) := gg 0 _ rfl; have zz1 : W'.cell? ⟨w.heap.size, 1, none⟩ = some (.slice v1 n1 c1) := gg 1 _ rfl; have zz2 : W'.cell? ⟨w.heap.size, 2, none⟩ = some (.slice v2 n2 c2) := gg 2 _ rfl
    refine bodyPost_ret (v := .tuple #[.agg #[.bool vb, .slice v1 n1 c1, .slice v2 n2 c2], .bool false]) ?_ rfl ?_
    · simp [results, go_sem, zz0, zz1, zz2]
    · exact ⟨_, rfl, ⟨_, _, _, _, _, _, _, rfl⟩, hB⟩
  · subst e1
    exfalso; omega
  · subst e1
    have q3 : (0 : Int) < (T.size : Int) := by omega
    go_upto_region 4 with fail
    clear q3
    have T0 : True := trivial
    have T1 : True := trivial
    obtain rfl := hj
    have q1 : (0 : Int) ≤ (i : Int) := by omega
    have q2 : (i : Int) ≤ (T.size : Int) := by omega
    have q4 : i ≤ T.size := by omega
    have q5 : i + 1 ≤ T.size := by omega
    have q6 : (0 : Int) ≤ (i : Int) + 1 := by omega
    have q9 : i ≤ i + 1 := by omega
    have q10 : (i : Int) ≤ 300 := by omega
    have eb2 : T.extract ((i : Int) + 1).toNat T.size = B := by rw [show ((i : Int) + 1).toNat = i + 1 by omega]; exact eb
    go_wp2_with (first
      | (go_at_call 25; have _t := T0; clear _t T0; refine (c47 _).mono ?_; rintro e wa ⟨rfl, hw⟩; have hw2 := hw.symm; clear hw; subst hw2)
      | (go_at_call 25; refine (c46 _).mono ?_; rintro e wa ⟨rfl, hw⟩; have hw2 := hw.symm; clear hw; subst hw2)
      | (go_at_call 26; have _t := T1; clear _t T1; (try rw [ea]); refine (c1 _).mono ?_; rintro e wp ⟨o1, k1, rfl, hbp⟩)
      | (go_at_call 26; (try rw [eb]); (try rw [eb2]); refine (c2 _).mono ?_; rintro e wq ⟨o2, k2, rfl, hbq⟩)
      | (go_at_call 27; refine (ri0 _).mono ?_; rintro e wz ⟨v, rfl, Q, hbz⟩; obtain ⟨vb, v1, n1, c1, v2, n2, c2, rfl⟩ := Q.shape3; have HZ := bt hbp (bt hbq hbz); have kk := box_kept k0 HZ (in_heap k0); have dd := cell_at kk; have dd_0 : wz.cell? ⟨w.heap.size, 0, none⟩ = some (.bool false) := dd 0 _ rfl; have dd_1 : wz.cell? ⟨w.heap.size, 1, none⟩ = some (.slice none 0 0) := dd 1 _ rfl; have dd_2 : wz.cell? ⟨w.heap.size, 2, none⟩ = some (.slice none 0 0) := dd 2 _ rfl; have ff := nofreeze kk; clear dd))
    have k2 := sto3_box kk (.bool vb) (.slice v1 n1 c1) (.slice v2 n2 c2)
    have hB := sto3_below (bt hb0 HZ) (Nat.le_refl _) (.bool vb) (.slice v1 n1 c1) (.slice v2 n2 c2)
    generalize World.setCell _ _ _ = W' at *
    have gg := cell_at k2
    have zz0 : W'.cell? ⟨w.heap.size, 0, none⟩ = some (.bool vb) := gg 0 _ rfl; have zz1 : W'.cell? ⟨w.heap.size, 1, none⟩ = some (.slice v1 n1 c1) := gg 1 _ rfl; have zz2 : W'.cell? ⟨w.heap.size, 2, none⟩ = some (.slice v2 n2 c2) := gg 2 _ rfl
    refine bodyPost_ret (v := .tuple #[.agg #[.bool vb, .slice v1 n1 c1, .slice v2 n2 c2], .bool false]) ?_ rfl ?_
    · simp [results, go_sem, zz0, zz1, zz2]
    · exact ⟨_, rfl, ⟨_, _, _, _, _, _, _, rfl⟩, hB⟩
set_option maxRecDepth 20000 in
set_option maxHeartbeats 2000000 in
theorem rp_pt_ff (S T : ByteArray) (neg : Bool) (J1 J2 : Int) (i : Nat) (A B : ByteArray) (hT : T.size ≤ 300) (qi : (i : Int) + 1 ≤ (T.size : Int)) (ea : T.extract 0 i = A) (eb : T.extract (i + 1) T.size = B) (hj : J1 = -1 ∧ J2 = (i : Int)) (l1 l2 : Nat) (c1 : ∀ W, Calls Try.prog 26 #[.string A] W fun e w' => ∃ o c, e = .returned (.tuple #[.slice o l1 c, .bool false]) ∧ Below W.heap.size W w') (c2 : ∀ W, Calls Try.prog 26 #[.string B] W fun e w' => ∃ o c, e = .returned (.tuple #[.slice o l2 c, .bool false]) ∧ Below W.heap.size W w') (w : World) (hS : (neg = true ∧ ∃ q0 : 0 < S.size, 1 ≤ S.size ∧ ((S[0]'q0).toNat : Int) = 45 ∧ S.extract 1 S.size = T) ∨ (neg = false ∧ T = S ∧ ¬ (0 : Int) < (S.size : Int)) ∨ (neg = false ∧ T = S ∧ ∃ q0 : 0 < S.size, (((S[0]'q0).toNat : Int) == 45) = false)) (c47 : ∀ W, Calls Try.prog 25 #[.string T, .int .u8 47] W fun e w' => e = .returned (.int .i64 J1) ∧ w' = W) (c46 : ∀ W, Calls Try.prog 25 #[.string T, .int .u8 46] W fun e w' => e = .returned (.int .i64 J2) ∧ w' = W) :
    Calls Try.prog 10 #[.string S] w fun e w' => ∃ v, e = .returned (.tuple #[v, .bool false]) ∧ Shp v ∧ Below w.heap.size w w' := by
  obtain ⟨W0, eW0, hb0, k0⟩ := one_new w (.cells #[.bool false, .slice none 0 0, .slice none 0 0] 33)
  have EW : Hid (_ = W0) := eW0
  clear eW0
  go_enter Try.func10, Try.ntmps10
  go_upto_region 1 with fail
  rw [EW.out]
  clear EW
  rcases hS with ⟨rfl, q0, q2, he, e1⟩ | ⟨rfl, e1, q1⟩ | ⟨rfl, e1, q0, he⟩
  · have q3 : (0 : Int) < (S.size : Int) := by omega
    have q4 : (1 : Int) ≤ (S.size : Int) := by omega
    go_upto_region 4 with fail
    (try rw [e1])
    clear q2 q3 q4 e1
    have T0 : True := trivial
    have T1 : True := trivial
    obtain ⟨rfl, rfl⟩ := hj
    have q1 : (0 : Int) ≤ (i : Int) := by omega
    have q2 : (i : Int) ≤ (T.size : Int) := by omega
    have q4 : i ≤ T.size := by omega
    have q5 : i + 1 ≤ T.size := by omega
    have q6 : (0 : Int) ≤ (i : Int) + 1 := by omega
    have q9 : i ≤ i + 1 := by omega
    have q10 : (i : Int) ≤ 300 := by omega
    have eb2 : T.extract ((i : Int) + 1).toNat T.size = B := by rw [show ((i : Int) + 1).toNat = i + 1 by omega]; exact eb
    go_wp2_with (first
      | (go_at_call 25; have _t := T0; clear _t T0; refine (c47 _).mono ?_; rintro e wa ⟨rfl, hw⟩; have hw2 := hw.symm; clear hw; subst hw2)
      | (go_at_call 25; refine (c46 _).mono ?_; rintro e wa ⟨rfl, hw⟩; have hw2 := hw.symm; clear hw; subst hw2)
      | (go_at_call 26; have _t := T1; clear _t T1; (try rw [ea]); refine (c1 _).mono ?_; rintro e wp ⟨o1, k1, rfl, hbp⟩)
      | (go_at_call 26; (try rw [eb]); (try rw [eb2]); refine (c2 _).mono ?_; rintro e wq ⟨o2, k2, rfl, hbq⟩)
      | (go_at_call 27; refine (ri0 _).mono ?_; rintro e wz ⟨v, rfl, Q, hbz⟩; obtain ⟨vb, v1, n1, c1, v2, n2, c2, rfl⟩ := Q.shape3; have HZ := bt hbp (bt hbq hbz); have kk := box_kept k0 HZ (in_heap k0); have dd := cell_at kk; have dd_0 : wz.cell? ⟨w.heap.size, 0, none⟩ = some (.bool false) := dd 0 _ rfl; have dd_1 : wz.cell? ⟨w.heap.size, 1, none⟩ = some (.slice none 0 0) := dd 1 _ rfl; have dd_2 : wz.cell? ⟨w.heap.size, 2, none⟩ = some (.slice none 0 0) := dd 2 _ rfl; have ff := nofreeze kk; clear dd))
    have k2 := sto3_box kk (.bool vb) (.slice v1 n1 c1) (.slice v2 n2 c2)
    have hB := sto3_below (bt hb0 HZ) (Nat.le_refl _) (.bool vb) (.slice v1 n1 c1) (.slice v2 n2 c2)
    generalize World.setCell _ _ _ = W' at *
    have gg := cell_at k2
    have zz0 : W'.cell? ⟨w.heap.size, 0, none⟩ = some (.bool vb) := gg 0 _ rfl; have zz1 : W'.cell? ⟨w.heap.size, 1, none⟩ = some (.slice v1 n1 c1) := gg 1 _ rfl; have zz2 : W'.cell? ⟨w.heap.size, 2, none⟩ = some (.slice v2 n2 c2) := gg 2 _ rfl
    refine bodyPost_ret (v := .tuple #[.agg #[.bool vb, .slice v1 n1 c1, .slice v2 n2 c2], .bool false]) ?_ rfl ?_
    · simp [results, go_sem, zz0, zz1, zz2]
    · exact ⟨_, rfl, ⟨_, _, _, _, _, _, _, rfl⟩, hB⟩
  · subst e1
    exfalso; omega
  · subst e1
    have q3 : (0 : Int) < (T.size : Int) := by omega
    go_upto_region 4 with fail
    clear q3
    have T0 : True := trivial
    have T1 : True := trivial
    obtain ⟨rfl, rfl⟩ := hj
    have q1 : (0 : Int) ≤ (i : Int) := by omega
    have q2 : (i : Int) ≤ (T.size : Int) := by omega
    have q4 : i ≤ T.size := by omega
    have q5 : i + 1 ≤ T.size := by omega
    have q6 : (0 : Int) ≤ (i : Int) + 1 := by omega
    have q9 : i ≤ i + 1 := by omega
    have q10 : (i : Int) ≤ 300 := by omega
    have eb2 : T.extract ((i : Int) + 1).toNat T.size = B := by rw [show ((i : Int) + 1).toNat = i + 1 by omega]; exact eb
    go_wp2_with (first
      | (go_at_call 25; have _t := T0; clear _t T0; refine (c47 _).mono ?_; rintro e wa ⟨rfl, hw⟩; have hw2 := hw.symm; clear hw; subst hw2)
      | (go_at_call 25; refine (c46 _).mono ?_; rintro e wa ⟨rfl, hw⟩; have hw2 := hw.symm; clear hw; subst hw2)
      | (go_at_call 26; have _t := T1; clear _t T1; (try rw [ea]); refine (c1 _).mono ?_; rintro e wp ⟨o1, k1, rfl, hbp⟩)
      | (go_at_call 26; (try rw [eb]); (try rw [eb2]); refine (c2 _).mono ?_; rintro e wq ⟨o2, k2, rfl, hbq⟩)
      | (go_at_call 27; refine (ri0 _).mono ?_; rintro e wz ⟨v, rfl, Q, hbz⟩; obtain ⟨vb, v1, n1, c1, v2, n2, c2, rfl⟩ := Q.shape3; have HZ := bt hbp (bt hbq hbz); have kk := box_kept k0 HZ (in_heap k0); have dd := cell_at kk; have dd_0 : wz.cell? ⟨w.heap.size, 0, none⟩ = some (.bool false) := dd 0 _ rfl; have dd_1 : wz.cell? ⟨w.heap.size, 1, none⟩ = some (.slice none 0 0) := dd 1 _ rfl; have dd_2 : wz.cell? ⟨w.heap.size, 2, none⟩ = some (.slice none 0 0) := dd 2 _ rfl; have ff := nofreeze kk; clear dd))
    have k2 := sto3_box kk (.bool vb) (.slice v1 n1 c1) (.slice v2 n2 c2)
    have hB := sto3_below (bt hb0 HZ) (Nat.le_refl _) (.bool vb) (.slice v1 n1 c1) (.slice v2 n2 c2)
    generalize World.setCell _ _ _ = W' at *
    have gg := cell_at k2
    have zz0 : W'.cell? ⟨w.heap.size, 0, none⟩ = some (.bool vb) := gg 0 _ rfl; have zz1 : W'.cell? ⟨w.heap.size, 1, none⟩ = some (.slice v1 n1 c1) := gg 1 _ rfl; have zz2 : W'.cell? ⟨w.heap.size, 2, none⟩ = some (.slice v2 n2 c2) := gg 2 _ rfl
    refine bodyPost_ret (v := .tuple #[.agg #[.bool vb, .slice v1 n1 c1, .slice v2 n2 c2], .bool false]) ?_ rfl ?_
    · simp [results, go_sem, zz0, zz1, zz2]
    · exact ⟨_, rfl, ⟨_, _, _, _, _, _, _, rfl⟩, hB⟩
set_option maxRecDepth 20000 in
set_option maxHeartbeats 2000000 in
theorem rp_pt_ft (S T : ByteArray) (neg : Bool) (J1 J2 : Int) (i : Nat) (A B : ByteArray) (hT : T.size ≤ 300) (qi : (i : Int) + 1 ≤ (T.size : Int)) (ea : T.extract 0 i = A) (eb : T.extract (i + 1) T.size = B) (hj : J1 = -1 ∧ J2 = (i : Int)) (l1 l2 : Nat) (c1 : ∀ W, Calls Try.prog 26 #[.string A] W fun e w' => ∃ o c, e = .returned (.tuple #[.slice o l1 c, .bool false]) ∧ Below W.heap.size W w') (c2 : ∀ W, Calls Try.prog 26 #[.string B] W fun e w' => ∃ o c, e = .returned (.tuple #[.slice o l2 c, .bool true]) ∧ Below W.heap.size W w') (w : World) (hS : (neg = true ∧ ∃ q0 : 0 < S.size, 1 ≤ S.size ∧ ((S[0]'q0).toNat : Int) = 45 ∧ S.extract 1 S.size = T) ∨ (neg = false ∧ T = S ∧ ¬ (0 : Int) < (S.size : Int)) ∨ (neg = false ∧ T = S ∧ ∃ q0 : 0 < S.size, (((S[0]'q0).toNat : Int) == 45) = false)) (c47 : ∀ W, Calls Try.prog 25 #[.string T, .int .u8 47] W fun e w' => e = .returned (.int .i64 J1) ∧ w' = W) (c46 : ∀ W, Calls Try.prog 25 #[.string T, .int .u8 46] W fun e w' => e = .returned (.int .i64 J2) ∧ w' = W) :
    Calls Try.prog 10 #[.string S] w fun e w' => ∃ v, e = .returned (.tuple #[v, .bool false]) ∧ Shp v ∧ Below w.heap.size w w' := by
  obtain ⟨W0, eW0, hb0, k0⟩ := one_new w (.cells #[.bool false, .slice none 0 0, .slice none 0 0] 33)
  have EW : Hid (_ = W0) := eW0
  clear eW0
  go_enter Try.func10, Try.ntmps10
  go_upto_region 1 with fail
  rw [EW.out]
  clear EW
  rcases hS with ⟨rfl, q0, q2, he, e1⟩ | ⟨rfl, e1, q1⟩ | ⟨rfl, e1, q0, he⟩
  · have q3 : (0 : Int) < (S.size : Int) := by omega
    have q4 : (1 : Int) ≤ (S.size : Int) := by omega
    go_upto_region 4 with fail
    (try rw [e1])
    clear q2 q3 q4 e1
    have T0 : True := trivial
    have T1 : True := trivial
    obtain ⟨rfl, rfl⟩ := hj
    have q1 : (0 : Int) ≤ (i : Int) := by omega
    have q2 : (i : Int) ≤ (T.size : Int) := by omega
    have q4 : i ≤ T.size := by omega
    have q5 : i + 1 ≤ T.size := by omega
    have q6 : (0 : Int) ≤ (i : Int) + 1 := by omega
    have q9 : i ≤ i + 1 := by omega
    have q10 : (i : Int) ≤ 300 := by omega
    have eb2 : T.extract ((i : Int) + 1).toNat T.size = B := by rw [show ((i : Int) + 1).toNat = i + 1 by omega]; exact eb
    go_wp2_with (first
      | (go_at_call 25; have _t := T0; clear _t T0; refine (c47 _).mono ?_; rintro e wa ⟨rfl, hw⟩; have hw2 := hw.symm; clear hw; subst hw2)
      | (go_at_call 25; refine (c46 _).mono ?_; rintro e wa ⟨rfl, hw⟩; have hw2 := hw.symm; clear hw; subst hw2)
      | (go_at_call 26; have _t := T1; clear _t T1; (try rw [ea]); refine (c1 _).mono ?_; rintro e wp ⟨o1, k1, rfl, hbp⟩)
      | (go_at_call 26; (try rw [eb]); (try rw [eb2]); refine (c2 _).mono ?_; rintro e wq ⟨o2, k2, rfl, hbq⟩)
      | (go_at_call 27; refine (ri0 _).mono ?_; rintro e wz ⟨v, rfl, Q, hbz⟩; obtain ⟨vb, v1, n1, c1, v2, n2, c2, rfl⟩ := Q.shape3; have HZ := bt hbp (bt hbq hbz); have kk := box_kept k0 HZ (in_heap k0); have dd := cell_at kk; have dd_0 : wz.cell? ⟨w.heap.size, 0, none⟩ = some (.bool false) := dd 0 _ rfl; have dd_1 : wz.cell? ⟨w.heap.size, 1, none⟩ = some (.slice none 0 0) := dd 1 _ rfl; have dd_2 : wz.cell? ⟨w.heap.size, 2, none⟩ = some (.slice none 0 0) := dd 2 _ rfl; have ff := nofreeze kk; clear dd))
    have k2 := sto3_box kk (.bool vb) (.slice v1 n1 c1) (.slice v2 n2 c2)
    have hB := sto3_below (bt hb0 HZ) (Nat.le_refl _) (.bool vb) (.slice v1 n1 c1) (.slice v2 n2 c2)
    generalize World.setCell _ _ _ = W' at *
    have gg := cell_at k2
    have zz0 : W'.cell? ⟨w.heap.size, 0, none⟩ = some (.bool vb) := gg 0 _ rfl; have zz1 : W'.cell? ⟨w.heap.size, 1, none⟩ = some (.slice v1 n1 c1) := gg 1 _ rfl; have zz2 : W'.cell? ⟨w.heap.size, 2, none⟩ = some (.slice v2 n2 c2) := gg 2 _ rfl
    refine bodyPost_ret (v := .tuple #[.agg #[.bool vb, .slice v1 n1 c1, .slice v2 n2 c2], .bool false]) ?_ rfl ?_
    · simp [results, go_sem, zz0, zz1, zz2]
    · exact ⟨_, rfl, ⟨_, _, _, _, _, _, _, rfl⟩, hB⟩
  · subst e1
    exfalso; omega
  · subst e1
    have q3 : (0 : Int) < (T.size : Int) := by omega
    go_upto_region 4 with fail
    clear q3
    have T0 : True := trivial
    have T1 : True := trivial
    obtain ⟨rfl, rfl⟩ := hj
    have q1 : (0 : Int) ≤ (i : Int) := by omega
    have q2 : (i : Int) ≤ (T.size : Int) := by omega
    have q4 : i ≤ T.size := by omega
    have q5 : i + 1 ≤ T.size := by omega
    have q6 : (0 : Int) ≤ (i : Int) + 1 := by omega
    have q9 : i ≤ i + 1 := by omega
    have q10 : (i : Int) ≤ 300 := by omega
    have eb2 : T.extract ((i : Int) + 1).toNat T.size = B := by rw [show ((i : Int) + 1).toNat = i + 1 by omega]; exact eb
    go_wp2_with (first
      | (go_at_call 25; have _t := T0; clear _t T0; refine (c47 _).mono ?_; rintro e wa ⟨rfl, hw⟩; have hw2 := hw.symm; clear hw; subst hw2)
      | (go_at_call 25; refine (c46 _).mono ?_; rintro e wa ⟨rfl, hw⟩; have hw2 := hw.symm; clear hw; subst hw2)
      | (go_at_call 26; have _t := T1; clear _t T1; (try rw [ea]); refine (c1 _).mono ?_; rintro e wp ⟨o1, k1, rfl, hbp⟩)
      | (go_at_call 26; (try rw [eb]); (try rw [eb2]); refine (c2 _).mono ?_; rintro e wq ⟨o2, k2, rfl, hbq⟩)
      | (go_at_call 27; refine (ri0 _).mono ?_; rintro e wz ⟨v, rfl, Q, hbz⟩; obtain ⟨vb, v1, n1, c1, v2, n2, c2, rfl⟩ := Q.shape3; have HZ := bt hbp (bt hbq hbz); have kk := box_kept k0 HZ (in_heap k0); have dd := cell_at kk; have dd_0 : wz.cell? ⟨w.heap.size, 0, none⟩ = some (.bool false) := dd 0 _ rfl; have dd_1 : wz.cell? ⟨w.heap.size, 1, none⟩ = some (.slice none 0 0) := dd 1 _ rfl; have dd_2 : wz.cell? ⟨w.heap.size, 2, none⟩ = some (.slice none 0 0) := dd 2 _ rfl; have ff := nofreeze kk; clear dd))
    have k2 := sto3_box kk (.bool vb) (.slice v1 n1 c1) (.slice v2 n2 c2)
    have hB := sto3_below (bt hb0 HZ) (Nat.le_refl _) (.bool vb) (.slice v1 n1 c1) (.slice v2 n2 c2)
    generalize World.setCell _ _ _ = W' at *
    have gg := cell_at k2
    have zz0 : W'.cell? ⟨w.heap.size, 0, none⟩ = some (.bool vb) := gg 0 _ rfl; have zz1 : W'.cell? ⟨w.heap.size, 1, none⟩ = some (.slice v1 n1 c1) := gg 1 _ rfl; have zz2 : W'.cell? ⟨w.heap.size, 2, none⟩ = some (.slice v2 n2 c2) := gg 2 _ rfl
    refine bodyPost_ret (v := .tuple #[.agg #[.bool vb, .slice v1 n1 c1, .slice v2 n2 c2], .bool false]) ?_ rfl ?_
    · simp [results, go_sem, zz0, zz1, zz2]
    · exact ⟨_, rfl, ⟨_, _, _, _, _, _, _, rfl⟩, hB⟩
set_option maxRecDepth 20000 in
set_option maxHeartbeats 2000000 in
theorem rp_pt_tf (S T : ByteArray) (neg : Bool) (J1 J2 : Int) (i : Nat) (A B : ByteArray) (hT : T.size ≤ 300) (qi : (i : Int) + 1 ≤ (T.size : Int)) (ea : T.extract 0 i = A) (eb : T.extract (i + 1) T.size = B) (hj : J1 = -1 ∧ J2 = (i : Int)) (l1 l2 : Nat) (c1 : ∀ W, Calls Try.prog 26 #[.string A] W fun e w' => ∃ o c, e = .returned (.tuple #[.slice o l1 c, .bool true]) ∧ Below W.heap.size W w') (c2 : ∀ W, Calls Try.prog 26 #[.string B] W fun e w' => ∃ o c, e = .returned (.tuple #[.slice o l2 c, .bool false]) ∧ Below W.heap.size W w') (w : World) (hS : (neg = true ∧ ∃ q0 : 0 < S.size, 1 ≤ S.size ∧ ((S[0]'q0).toNat : Int) = 45 ∧ S.extract 1 S.size = T) ∨ (neg = false ∧ T = S ∧ ¬ (0 : Int) < (S.size : Int)) ∨ (neg = false ∧ T = S ∧ ∃ q0 : 0 < S.size, (((S[0]'q0).toNat : Int) == 45) = false)) (c47 : ∀ W, Calls Try.prog 25 #[.string T, .int .u8 47] W fun e w' => e = .returned (.int .i64 J1) ∧ w' = W) (c46 : ∀ W, Calls Try.prog 25 #[.string T, .int .u8 46] W fun e w' => e = .returned (.int .i64 J2) ∧ w' = W) :
    Calls Try.prog 10 #[.string S] w fun e w' => ∃ v, e = .returned (.tuple #[v, .bool false]) ∧ Shp v ∧ Below w.heap.size w w' := by
  obtain ⟨W0, eW0, hb0, k0⟩ := one_new w (.cells #[.bool false, .slice none 0 0, .slice none 0 0] 33)
  have EW : Hid (_ = W0) := eW0
  clear eW0
  go_enter Try.func10, Try.ntmps10
  go_upto_region 1 with fail
  rw [EW.out]
  clear EW
  rcases hS with ⟨rfl, q0, q2, he, e1⟩ | ⟨rfl, e1, q1⟩ | ⟨rfl, e1, q0, he⟩
  · have q3 : (0 : Int) < (S.size : Int) := by omega
    have q4 : (1 : Int) ≤ (S.size : Int) := by omega
    go_upto_region 4 with fail
    (try rw [e1])
    clear q2 q3 q4 e1
    have T0 : True := trivial
    have T1 : True := trivial
    obtain ⟨rfl, rfl⟩ := hj
    have q1 : (0 : Int) ≤ (i : Int) := by omega
    have q2 : (i : Int) ≤ (T.size : Int) := by omega
    have q4 : i ≤ T.size := by omega
    have q5 : i + 1 ≤ T.size := by omega
    have q6 : (0 : Int) ≤ (i : Int) + 1 := by omega
    have q9 : i ≤ i + 1 := by omega
    have q10 : (i : Int) ≤ 300 := by omega
    have eb2 : T.extract ((i : Int) + 1).toNat T.size = B := by rw [show ((i : Int) + 1).toNat = i + 1 by omega]; exact eb
    go_wp2_with (first
      | (go_at_call 25; have _t := T0; clear _t T0; refine (c47 _).mono ?_; rintro e wa ⟨rfl, hw⟩; have hw2 := hw.symm; clear hw; subst hw2)
      | (go_at_call 25; refine (c46 _).mono ?_; rintro e wa ⟨rfl, hw⟩; have hw2 := hw.symm; clear hw; subst hw2)
      | (go_at_call 26; have _t := T1; clear _t T1; (try rw [ea]); refine (c1 _).mono ?_; rintro e wp ⟨o1, k1, rfl, hbp⟩)
      | (go_at_call 26; (try rw [eb]); (try rw [eb2]); refine (c2 _).mono ?_; rintro e wq ⟨o2, k2, rfl, hbq⟩)
      | (go_at_call 27; refine (ri0 _).mono ?_; rintro e wz ⟨v, rfl, Q, hbz⟩; obtain ⟨vb, v1, n1, c1, v2, n2, c2, rfl⟩ := Q.shape3; have HZ := bt hbp (bt hbq hbz); have kk := box_kept k0 HZ (in_heap k0); have dd := cell_at kk; have dd_0 : wz.cell? ⟨w.heap.size, 0, none⟩ = some (.bool false) := dd 0 _ rfl; have dd_1 : wz.cell? ⟨w.heap.size, 1, none⟩ = some (.slice none 0 0) := dd 1 _ rfl; have dd_2 : wz.cell? ⟨w.heap.size, 2, none⟩ = some (.slice none 0 0) := dd 2 _ rfl; have ff := nofreeze kk; clear dd))
    have k2 := sto3_box kk (.bool vb) (.slice v1 n1 c1) (.slice v2 n2 c2)
    have hB := sto3_below (bt hb0 HZ) (Nat.le_refl _) (.bool vb) (.slice v1 n1 c1) (.slice v2 n2 c2)
    generalize World.setCell _ _ _ = W' at *
    have gg := cell_at k2
    have zz0 : W'.cell? ⟨w.heap.size, 0, none⟩ = some (.bool vb) := gg 0 _ rfl; have zz1 : W'.cell? ⟨w.heap.size, 1, none⟩ = some (.slice v1 n1 c1) := gg 1 _ rfl; have zz2 : W'.cell? ⟨w.heap.size, 2, none⟩ = some (.slice v2 n2 c2) := gg 2 _ rfl
    refine bodyPost_ret (v := .tuple #[.agg #[.bool vb, .slice v1 n1 c1, .slice v2 n2 c2], .bool false]) ?_ rfl ?_
    · simp [results, go_sem, zz0, zz1, zz2]
    · exact ⟨_, rfl, ⟨_, _, _, _, _, _, _, rfl⟩, hB⟩
  · subst e1
    exfalso; omega
  · subst e1
    have q3 : (0 : Int) < (T.size : Int) := by omega
    go_upto_region 4 with fail
    clear q3
    have T0 : True := trivial
    have T1 : True := trivial
    obtain ⟨rfl, rfl⟩ := hj
    have q1 : (0 : Int) ≤ (i : Int) := by omega
    have q2 : (i : Int) ≤ (T.size : Int) := by omega
    have q4 : i ≤ T.size := by omega
    have q5 : i + 1 ≤ T.size := by omega
    have q6 : (0 : Int) ≤ (i : Int) + 1 := by omega
    have q9 : i ≤ i + 1 := by omega
    have q10 : (i : Int) ≤ 300 := by omega
    have eb2 : T.extract ((i : Int) + 1).toNat T.size = B := by rw [show ((i : Int) + 1).toNat = i + 1 by omega]; exact eb
    go_wp2_with (first
      | (go_at_call 25; have _t := T0; clear _t T0; refine (c47 _).mono ?_; rintro e wa ⟨rfl, hw⟩; have hw2 := hw.symm; clear hw; subst hw2)
      | (go_at_call 25; refine (c46 _).mono ?_; rintro e wa ⟨rfl, hw⟩; have hw2 := hw.symm; clear hw; subst hw2)
      | (go_at_call 26; have _t := T1; clear _t T1; (try rw [ea]); refine (c1 _).mono ?_; rintro e wp ⟨o1, k1, rfl, hbp⟩)
      | (go_at_call 26; (try rw [eb]); (try rw [eb2]); refine (c2 _).mono ?_; rintro e wq ⟨o2, k2, rfl, hbq⟩)
      | (go_at_call 27; refine (ri0 _).mono ?_; rintro e wz ⟨v, rfl, Q, hbz⟩; obtain ⟨vb, v1, n1, c1, v2, n2, c2, rfl⟩ := Q.shape3; have HZ := bt hbp (bt hbq hbz); have kk := box_kept k0 HZ (in_heap k0); have dd := cell_at kk; have dd_0 : wz.cell? ⟨w.heap.size, 0, none⟩ = some (.bool false) := dd 0 _ rfl; have dd_1 : wz.cell? ⟨w.heap.size, 1, none⟩ = some (.slice none 0 0) := dd 1 _ rfl; have dd_2 : wz.cell? ⟨w.heap.size, 2, none⟩ = some (.slice none 0 0) := dd 2 _ rfl; have ff := nofreeze kk; clear dd))
    have k2 := sto3_box kk (.bool vb) (.slice v1 n1 c1) (.slice v2 n2 c2)
    have hB := sto3_below (bt hb0 HZ) (Nat.le_refl _) (.bool vb) (.slice v1 n1 c1) (.slice v2 n2 c2)
    generalize World.setCell _ _ _ = W' at *
    have gg := cell_at k2
    have zz0 : W'.cell? ⟨w.heap.size, 0, none⟩ = some (.bool vb) := gg 0 _ rfl; have zz1 : W'.cell? ⟨w.heap.size, 1, none⟩ = some (.slice v1 n1 c1) := gg 1 _ rfl; have zz2 : W'.cell? ⟨w.heap.size, 2, none⟩ = some (.slice v2 n2 c2) := gg 2 _ rfl
    refine bodyPost_ret (v := .tuple #[.agg #[.bool vb, .slice v1 n1 c1, .slice v2 n2 c2], .bool false]) ?_ rfl ?_
    · simp [results, go_sem, zz0, zz1, zz2]
    · exact ⟨_, rfl, ⟨_, _, _, _, _, _, _, rfl⟩, hB⟩
set_option maxRecDepth 20000 in
set_option maxHeartbeats 2000000 in
theorem rp_bar_0 (S T : ByteArray) (neg : Bool) (J1 J2 : Int) (i : Nat) (A B : ByteArray) (hT : T.size ≤ 300) (qi : (i : Int) + 1 ≤ (T.size : Int)) (ea : T.extract 0 i = A) (eb : T.extract (i + 1) T.size = B) (hj : J1 = (i : Int)) (l1 l2 : Nat) (hl2 : l2 = 0) (c1 : ∀ W, Calls Try.prog 26 #[.string A] W fun e w' => ∃ o c, e = .returned (.tuple #[.slice o l1 c, .bool true]) ∧ Below W.heap.size W w') (c2 : ∀ W, Calls Try.prog 26 #[.string B] W fun e w' => ∃ o c, e = .returned (.tuple #[.slice o l2 c, .bool true]) ∧ Below W.heap.size W w') (w : World) (hS : (neg = true ∧ ∃ q0 : 0 < S.size, 1 ≤ S.size ∧ ((S[0]'q0).toNat : Int) = 45 ∧ S.extract 1 S.size = T) ∨ (neg = false ∧ T = S ∧ ¬ (0 : Int) < (S.size : Int)) ∨ (neg = false ∧ T = S ∧ ∃ q0 : 0 < S.size, (((S[0]'q0).toNat : Int) == 45) = false)) (c47 : ∀ W, Calls Try.prog 25 #[.string T, .int .u8 47] W fun e w' => e = .returned (.int .i64 J1) ∧ w' = W) (c46 : ∀ W, Calls Try.prog 25 #[.string T, .int .u8 46] W fun e w' => e = .returned (.int .i64 J2) ∧ w' = W) :
    Calls Try.prog 10 #[.string S] w fun e w' => ∃ v, e = .returned (.tuple #[v, .bool false]) ∧ Shp v ∧ Below w.heap.size w w' := by
  obtain ⟨W0, eW0, hb0, k0⟩ := one_new w (.cells #[.bool false, .slice none 0 0, .slice none 0 0] 33)
  have EW : Hid (_ = W0) := eW0
  clear eW0
  go_enter Try.func10, Try.ntmps10
  go_upto_region 1 with fail
  rw [EW.out]
  clear EW
  rcases hS with ⟨rfl, q0, q2, he, e1⟩ | ⟨rfl, e1, q1⟩ | ⟨rfl, e1, q0, he⟩
  · have q3 : (0 : Int) < (S.size : Int) := by omega
    have q4 : (1 : Int) ≤ (S.size : Int) := by omega
    go_upto_region 4 with fail
    (try rw [e1])
    clear q2 q3 q4 e1
    have T0 : True := trivial
    have T1 : True := trivial
    obtain rfl := hj
    subst hl2
    have q1 : (0 : Int) ≤ (i : Int) := by omega
    have q2 : (i : Int) ≤ (T.size : Int) := by omega
    have q4 : i ≤ T.size := by omega
    have q5 : i + 1 ≤ T.size := by omega
    have q6 : (0 : Int) ≤ (i : Int) + 1 := by omega
    have q9 : i ≤ i + 1 := by omega
    have q10 : (i : Int) ≤ 300 := by omega
    have eb2 : T.extract ((i : Int) + 1).toNat T.size = B := by rw [show ((i : Int) + 1).toNat = i + 1 by omega]; exact eb
    go_wp2_with (first
      | (go_at_call 25; have _t := T0; clear _t T0; refine (c47 _).mono ?_; rintro e wa ⟨rfl, hw⟩; have hw2 := hw.symm; clear hw; subst hw2)
      | (go_at_call 25; refine (c46 _).mono ?_; rintro e wa ⟨rfl, hw⟩; have hw2 := hw.symm; clear hw; subst hw2)
      | (go_at_call 26; have _t := T1; clear _t T1; (try rw [ea]); refine (c1 _).mono ?_; rintro e wp ⟨o1, k1, rfl, hbp⟩)
      | (go_at_call 26; (try rw [eb]); (try rw [eb2]); refine (c2 _).mono ?_; rintro e wq ⟨o2, k2, rfl, hbq⟩)
      | (go_at_call 27; refine (ri0 _).mono ?_; rintro e wz ⟨v, rfl, Q, hbz⟩; obtain ⟨vb, v1, n1, c1, v2, n2, c2, rfl⟩ := Q.shape3; have HZ := bt hbp (bt hbq hbz); have kk := box_kept k0 HZ (in_heap k0); have dd := cell_at kk; have dd_0 : wz.cell? ⟨w.heap.size, 0, none⟩ = some (.bool false) := dd 0 _ rfl; have dd_1 : wz.cell? ⟨w.heap.size, 1, none⟩ = some (.slice none 0 0) := dd 1 _ rfl; have dd_2 : wz.cell? ⟨w.heap.size, 2, none⟩ = some (.slice none 0 0) := dd 2 _ rfl; have ff := nofreeze kk; clear dd))
    have k2 := sto3_box kk (.bool vb) (.slice v1 n1 c1) (.slice v2 n2 c2)
    have hB := sto3_below (bt hb0 HZ) (Nat.le_refl _) (.bool vb) (.slice v1 n1 c1) (.slice v2 n2 c2)
    generalize World.setCell _ _ _ = W' at *
    have gg := cell_at k2
    have zz0 : W'.cell? ⟨w.heap.size, 0, none⟩ = some (.bool vb) := gg 0 _ rfl; have zz1 : W'.cell? ⟨w.heap.size, 1, none⟩ = some (.slice v1 n1 c1) := gg 1 _ rfl; have zz2 : W'.cell? ⟨w.heap.size, 2, none⟩ = some (.slice v2 n2 c2) := gg 2 _ rfl
    refine bodyPost_ret (v := .tuple #[.agg #[.bool vb, .slice v1 n1 c1, .slice v2 n2 c2], .bool false]) ?_ rfl ?_
    · simp [results, go_sem, zz0, zz1, zz2]
    · exact ⟨_, rfl, ⟨_, _, _, _, _, _, _, rfl⟩, hB⟩
  · subst e1
    exfalso; omega
  · subst e1
    have q3 : (0 : Int) < (T.size : Int) := by omega
    go_upto_region 4 with fail
    clear q3
    have T0 : True := trivial
    have T1 : True := trivial
    obtain rfl := hj
    subst hl2
    have q1 : (0 : Int) ≤ (i : Int) := by omega
    have q2 : (i : Int) ≤ (T.size : Int) := by omega
    have q4 : i ≤ T.size := by omega
    have q5 : i + 1 ≤ T.size := by omega
    have q6 : (0 : Int) ≤ (i : Int) + 1 := by omega
    have q9 : i ≤ i + 1 := by omega
    have q10 : (i : Int) ≤ 300 := by omega
    have eb2 : T.extract ((i : Int) + 1).toNat T.size = B := by rw [show ((i : Int) + 1).toNat = i + 1 by omega]; exact eb
    go_wp2_with (first
      | (go_at_call 25; have _t := T0; clear _t T0; refine (c47 _).mono ?_; rintro e wa ⟨rfl, hw⟩; have hw2 := hw.symm; clear hw; subst hw2)
      | (go_at_call 25; refine (c46 _).mono ?_; rintro e wa ⟨rfl, hw⟩; have hw2 := hw.symm; clear hw; subst hw2)
      | (go_at_call 26; have _t := T1; clear _t T1; (try rw [ea]); refine (c1 _).mono ?_; rintro e wp ⟨o1, k1, rfl, hbp⟩)
      | (go_at_call 26; (try rw [eb]); (try rw [eb2]); refine (c2 _).mono ?_; rintro e wq ⟨o2, k2, rfl, hbq⟩)
      | (go_at_call 27; refine (ri0 _).mono ?_; rintro e wz ⟨v, rfl, Q, hbz⟩; obtain ⟨vb, v1, n1, c1, v2, n2, c2, rfl⟩ := Q.shape3; have HZ := bt hbp (bt hbq hbz); have kk := box_kept k0 HZ (in_heap k0); have dd := cell_at kk; have dd_0 : wz.cell? ⟨w.heap.size, 0, none⟩ = some (.bool false) := dd 0 _ rfl; have dd_1 : wz.cell? ⟨w.heap.size, 1, none⟩ = some (.slice none 0 0) := dd 1 _ rfl; have dd_2 : wz.cell? ⟨w.heap.size, 2, none⟩ = some (.slice none 0 0) := dd 2 _ rfl; have ff := nofreeze kk; clear dd))
    have k2 := sto3_box kk (.bool vb) (.slice v1 n1 c1) (.slice v2 n2 c2)
    have hB := sto3_below (bt hb0 HZ) (Nat.le_refl _) (.bool vb) (.slice v1 n1 c1) (.slice v2 n2 c2)
    generalize World.setCell _ _ _ = W' at *
    have gg := cell_at k2
    have zz0 : W'.cell? ⟨w.heap.size, 0, none⟩ = some (.bool vb) := gg 0 _ rfl; have zz1 : W'.cell? ⟨w.heap.size, 1, none⟩ = some (.slice v1 n1 c1) := gg 1 _ rfl; have zz2 : W'.cell? ⟨w.heap.size, 2, none⟩ = some (.slice v2 n2 c2) := gg 2 _ rfl
    refine bodyPost_ret (v := .tuple #[.agg #[.bool vb, .slice v1 n1 c1, .slice v2 n2 c2], .bool false]) ?_ rfl ?_
    · simp [results, go_sem, zz0, zz1, zz2]
    · exact ⟨_, rfl, ⟨_, _, _, _, _, _, _, rfl⟩, hB⟩
set_option maxRecDepth 20000 in
set_option maxHeartbeats 2000000 in
theorem rp_bar_1 (S T : ByteArray) (neg : Bool) (J1 J2 : Int) (i : Nat) (A B : ByteArray) (hT : T.size ≤ 300) (qi : (i : Int) + 1 ≤ (T.size : Int)) (ea : T.extract 0 i = A) (eb : T.extract (i + 1) T.size = B) (hj : J1 = (i : Int)) (QQ : Nm) (l1 l2 : Nat) (hl2 : ¬ (l2 : Int) = 0) (P1 P2 : World → Option Addr → Nat → Prop) (c1 : ∀ W, Calls Try.prog 26 #[.string A] W fun e w' => ∃ o c, e = .returned (.tuple #[.slice o l1 c, .bool true]) ∧ P1 w' o c ∧ Below W.heap.size W w') (c2 : ∀ W, Calls Try.prog 26 #[.string B] W fun e w' => ∃ o c, e = .returned (.tuple #[.slice o l2 c, .bool true]) ∧ P2 w' o c ∧ Below W.heap.size W w') (cK1 : ∀ W V o c, P1 W o c → Below W.heap.size W V → P1 V o c) (cO : ∀ W o1 c1 o2 c2, P1 W o1 c1 → P2 W o2 c2 → Calls Try.prog 28 #[.bool neg, .slice o1 l1 c1, .slice o2 l2 c2] W fun e w' => ∃ v, e = .returned v ∧ IsQ w' v QQ ∧ Below W.heap.size W w') (w : World) (hS : (neg = true ∧ ∃ q0 : 0 < S.size, 1 ≤ S.size ∧ ((S[0]'q0).toNat : Int) = 45 ∧ S.extract 1 S.size = T) ∨ (neg = false ∧ T = S ∧ ¬ (0 : Int) < (S.size : Int)) ∨ (neg = false ∧ T = S ∧ ∃ q0 : 0 < S.size, (((S[0]'q0).toNat : Int) == 45) = false)) (c47 : ∀ W, Calls Try.prog 25 #[.string T, .int .u8 47] W fun e w' => e = .returned (.int .i64 J1) ∧ w' = W) (c46 : ∀ W, Calls Try.prog 25 #[.string T, .int .u8 46] W fun e w' => e = .returned (.int .i64 J2) ∧ w' = W) :
    Calls Try.prog 10 #[.string S] w fun e w' => ∃ v, e = .returned (.tuple #[v, .bool true]) ∧ IsQ w' v QQ ∧ Below w.heap.size w w' := by
  obtain ⟨W0, eW0, hb0, k0⟩ := one_new w (.cells #[.bool false, .slice none 0 0, .slice none 0 0] 33)
  have EW : Hid (_ = W0) := eW0
  clear eW0
  go_enter Try.func10, Try.ntmps10
  go_upto_region 1 with fail
  rw [EW.out]
  clear EW
  rcases hS with ⟨rfl, q0, q2, he, e1⟩ | ⟨rfl, e1, q1⟩ | ⟨rfl, e1, q0, he⟩
  · have q3 : (0 : Int) < (S.size : Int) := by omega
    have q4 : (1 : Int) ≤ (S.size : Int) := by omega
    go_upto_region 4 with fail
    (try rw [e1])
    clear q2 q3 q4 e1
    have T0 : True := trivial
    have T1 : True := trivial
    obtain rfl := hj
    have q1 : (0 : Int) ≤ (i : Int) := by omega
    have q2 : (i : Int) ≤ (T.size : Int) := by omega
    have q4 : i ≤ T.size := by omega
    have q5 : i + 1 ≤ T.size := by omega
    have q6 : (0 : Int) ≤ (i : Int) + 1 := by omega
    have q9 : i ≤ i + 1 := by omega
    have q10 : (i : Int) ≤ 300 := by omega
    have eb2 : T.extract ((i : Int) + 1).toNat T.size = B := by rw [show ((i : Int) + 1).toNat = i + 1 by omega]; exact eb
    go_wp2_with (first
      | (go_at_call 25; have _t := T0; clear _t T0; refine (c47 _).mono ?_; rintro e wa ⟨rfl, hw⟩; have hw2 := hw.symm; clear hw; subst hw2)
      | (go_at_call 25; refine (c46 _).mono ?_; rintro e wa ⟨rfl, hw⟩; have hw2 := hw.symm; clear hw; subst hw2)
      | (go_at_call 26; have _t := T1; clear _t T1; (try rw [ea]); refine (c1 _).mono ?_; rintro e wp ⟨o1, k1, rfl, r1, hbp⟩)
      | (go_at_call 26; (try rw [eb]); (try rw [eb2]); refine (c2 _).mono ?_; rintro e wq ⟨o2, k2, rfl, r2, hbq⟩)
      | (go_at_call 28; refine (cO _ o1 k1 o2 k2 (cK1 _ _ _ _ r1 hbq) r2).mono ?_; rintro e wz ⟨v, rfl, Q, hbz⟩; obtain ⟨vb, v1, n1, c1, v2, n2, c2, rfl⟩ := Q.shape3; have HZ := bt hbp (bt hbq hbz); have kk := box_kept k0 HZ (in_heap k0); have dd := cell_at kk; have dd_0 : wz.cell? ⟨w.heap.size, 0, none⟩ = some (.bool false) := dd 0 _ rfl; have dd_1 : wz.cell? ⟨w.heap.size, 1, none⟩ = some (.slice none 0 0) := dd 1 _ rfl; have dd_2 : wz.cell? ⟨w.heap.size, 2, none⟩ = some (.slice none 0 0) := dd 2 _ rfl; have ff := nofreeze kk; clear dd))
    have k2 := sto3_box kk (.bool vb) (.slice v1 n1 c1) (.slice v2 n2 c2)
    have hB := sto3_below (bt hb0 HZ) (Nat.le_refl _) (.bool vb) (.slice v1 n1 c1) (.slice v2 n2 c2)
    have hQ := Q.offT kk (by decide) (sto3_off wz w.heap.size (.bool vb) (.slice v1 n1 c1) (.slice v2 n2 c2)).1
    generalize World.setCell _ _ _ = W' at *
    have gg := cell_at k2
    have zz0 : W'.cell? ⟨w.heap.size, 0, none⟩ = some (.bool vb) := gg 0 _ rfl; have zz1 : W'.cell? ⟨w.heap.size, 1, none⟩ = some (.slice v1 n1 c1) := gg 1 _ rfl; have zz2 : W'.cell? ⟨w.heap.size, 2, none⟩ = some (.slice v2 n2 c2) := gg 2 _ rfl
    refine bodyPost_ret (v := .tuple #[.agg #[.bool vb, .slice v1 n1 c1, .slice v2 n2 c2], .bool true]) ?_ rfl ?_
    · simp [results, go_sem, zz0, zz1, zz2]
    · exact ⟨_, rfl, hQ, hB⟩
  · subst e1
    exfalso; omega
  · subst e1
    have q3 : (0 : Int) < (T.size : Int) := by omega
    go_upto_region 4 with fail
    clear q3
    have T0 : True := trivial
    have T1 : True := trivial
    obtain rfl := hj
    have q1 : (0 : Int) ≤ (i : Int) := by omega
    have q2 : (i : Int) ≤ (T.size : Int) := by omega
    have q4 : i ≤ T.size := by omega
    have q5 : i + 1 ≤ T.size := by omega
    have q6 : (0 : Int) ≤ (i : Int) + 1 := by omega
    have q9 : i ≤ i + 1 := by omega
    have q10 : (i : Int) ≤ 300 := by omega
    have eb2 : T.extract ((i : Int) + 1).toNat T.size = B := by rw [show ((i : Int) + 1).toNat = i + 1 by omega]; exact eb
    go_wp2_with (first
      | (go_at_call 25; have _t := T0; clear _t T0; refine (c47 _).mono ?_; rintro e wa ⟨rfl, hw⟩; have hw2 := hw.symm; clear hw; subst hw2)
      | (go_at_call 25; refine (c46 _).mono ?_; rintro e wa ⟨rfl, hw⟩; have hw2 := hw.symm; clear hw; subst hw2)
      | (go_at_call 26; have _t := T1; clear _t T1; (try rw [ea]); refine (c1 _).mono ?_; rintro e wp ⟨o1, k1, rfl, r1, hbp⟩)
      | (go_at_call 26; (try rw [eb]); (try rw [eb2]); refine (c2 _).mono ?_; rintro e wq ⟨o2, k2, rfl, r2, hbq⟩)
      | (go_at_call 28; refine (cO _ o1 k1 o2 k2 (cK1 _ _ _ _ r1 hbq) r2).mono ?_; rintro e wz ⟨v, rfl, Q, hbz⟩; obtain ⟨vb, v1, n1, c1, v2, n2, c2, rfl⟩ := Q.shape3; have HZ := bt hbp (bt hbq hbz); have kk := box_kept k0 HZ (in_heap k0); have dd := cell_at kk; have dd_0 : wz.cell? ⟨w.heap.size, 0, none⟩ = some (.bool false) := dd 0 _ rfl; have dd_1 : wz.cell? ⟨w.heap.size, 1, none⟩ = some (.slice none 0 0) := dd 1 _ rfl; have dd_2 : wz.cell? ⟨w.heap.size, 2, none⟩ = some (.slice none 0 0) := dd 2 _ rfl; have ff := nofreeze kk; clear dd))
    have k2 := sto3_box kk (.bool vb) (.slice v1 n1 c1) (.slice v2 n2 c2)
    have hB := sto3_below (bt hb0 HZ) (Nat.le_refl _) (.bool vb) (.slice v1 n1 c1) (.slice v2 n2 c2)
    have hQ := Q.offT kk (by decide) (sto3_off wz w.heap.size (.bool vb) (.slice v1 n1 c1) (.slice v2 n2 c2)).1
    generalize World.setCell _ _ _ = W' at *
    have gg := cell_at k2
    have zz0 : W'.cell? ⟨w.heap.size, 0, none⟩ = some (.bool vb) := gg 0 _ rfl; have zz1 : W'.cell? ⟨w.heap.size, 1, none⟩ = some (.slice v1 n1 c1) := gg 1 _ rfl; have zz2 : W'.cell? ⟨w.heap.size, 2, none⟩ = some (.slice v2 n2 c2) := gg 2 _ rfl
    refine bodyPost_ret (v := .tuple #[.agg #[.bool vb, .slice v1 n1 c1, .slice v2 n2 c2], .bool true]) ?_ rfl ?_
    · simp [results, go_sem, zz0, zz1, zz2]
    · exact ⟨_, rfl, hQ, hB⟩
set_option maxRecDepth 20000 in
set_option maxHeartbeats 2000000 in
theorem rp_pt_1 (S T : ByteArray) (neg : Bool) (J1 J2 : Int) (i : Nat) (A B : ByteArray) (hT : T.size ≤ 300) (qi : (i : Int) + 1 ≤ (T.size : Int)) (ea : T.extract 0 i = A) (eb : T.extract (i + 1) T.size = B) (hj : J1 = -1 ∧ J2 = (i : Int)) (m : Nat) (qm : (T.size : Int) - (i : Int) - 1 = (m : Int)) (QQ : Nm) (l1 l2 l3 l4 l5 : Nat) (P1 P2 P3 P4 P5 : World → Option Addr → Nat → Prop) (c1 : ∀ W, Calls Try.prog 26 #[.string A] W fun e w' => ∃ o c, e = .returned (.tuple #[.slice o l1 c, .bool true]) ∧ P1 w' o c ∧ Below W.heap.size W w') (c2 : ∀ W, Calls Try.prog 26 #[.string B] W fun e w' => ∃ o c, e = .returned (.tuple #[.slice o l2 c, .bool true]) ∧ P2 w' o c ∧ Below W.heap.size W w') (cK1 : ∀ W V o c, P1 W o c → Below W.heap.size W V → P1 V o c) (cK2 : ∀ W V o c, P2 W o c → Below W.heap.size W V → P2 V o c) (cK3 : ∀ W V o c, P3 W o c → Below W.heap.size W V → P3 V o c) (cT : ∀ W, Calls Try.prog 29 #[.int .i64 (m : Int)] W fun e w' => ∃ o c, e = .returned (.slice o l3 c) ∧ P3 w' o c ∧ Below W.heap.size W w') (cM : ∀ W o1 c1 o2 c2, P1 W o1 c1 → P3 W o2 c2 → Calls Try.prog 31 #[.slice o1 l1 c1, .slice o2 l3 c2] W fun e w' => ∃ o c, e = .returned (.slice o l4 c) ∧ P4 w' o c ∧ Below W.heap.size W w') (cA : ∀ W o1 c1 o2 c2, P4 W o1 c1 → P2 W o2 c2 → Calls Try.prog 30 #[.slice o1 l4 c1, .slice o2 l2 c2] W fun e w' => ∃ o c, e = .returned (.slice o l5 c) ∧ P5 w' o c ∧ Below W.heap.size W w') (cO : ∀ W o1 c1 o2 c2, P5 W o1 c1 → P3 W o2 c2 → Calls Try.prog 28 #[.bool neg, .slice o1 l5 c1, .slice o2 l3 c2] W fun e w' => ∃ v, e = .returned v ∧ IsQ w' v QQ ∧ Below W.heap.size W w') (w : World) (hS : (neg = true ∧ ∃ q0 : 0 < S.size, 1 ≤ S.size ∧ ((S[0]'q0).toNat : Int) = 45 ∧ S.extract 1 S.size = T) ∨ (neg = false ∧ T = S ∧ ¬ (0 : Int) < (S.size : Int)) ∨ (neg = false ∧ T = S ∧ ∃ q0 : 0 < S.size, (((S[0]'q0).toNat : Int) == 45) = false)) (c47 : ∀ W, Calls Try.prog 25 #[.string T, .int .u8 47] W fun e w' => e = .returned (.int .i64 J1) ∧ w' = W) (c46 : ∀ W, Calls Try.prog 25 #[.string T, .int .u8 46] W fun e w' => e = .returned (.int .i64 J2) ∧ w' = W) :
    Calls Try.prog 10 #[.string S] w fun e w' => ∃ v, e = .returned (.tuple #[v, .bool true]) ∧ IsQ w' v QQ ∧ Below w.heap.size w w' := by
  obtain ⟨W0, eW0, hb0, k0⟩ := one_new w (.cells #[.bool false, .slice none 0 0, .slice none 0 0] 33)
  have EW : Hid (_ = W0) := eW0
  clear eW0
  go_enter Try.func10, Try.ntmps10
  go_upto_region 1 with fail
  rw [EW.out]
  clear EW
  rcases hS with ⟨rfl, q0, q2, he, e1⟩ | ⟨rfl, e1, q1⟩ | ⟨rfl, e1, q0, he⟩
  · have q3 : (0 : Int) < (S.size : Int) := by omega
    have q4 : (1 : Int) ≤ (S.size : Int) := by omega
    go_upto_region 4 with fail
    (try rw [e1])
    clear q2 q3 q4 e1
    have T0 : True := trivial
    have T1 : True := trivial
    obtain ⟨rfl, rfl⟩ := hj
    have q1 : (0 : Int) ≤ (i : Int) := by omega
    have q2 : (i : Int) ≤ (T.size : Int) := by omega
    have q4 : i ≤ T.size := by omega
    have q5 : i + 1 ≤ T.size := by omega
    have q6 : (0 : Int) ≤ (i : Int) + 1 := by omega
    have q9 : i ≤ i + 1 := by omega
    have q10 : (i : Int) ≤ 300 := by omega
    have eb2 : T.extract ((i : Int) + 1).toNat T.size = B := by rw [show ((i : Int) + 1).toNat = i + 1 by omega]; exact eb
    go_wp2_with (first
      | (go_at_call 25; have _t := T0; clear _t T0; refine (c47 _).mono ?_; rintro e wa ⟨rfl, hw⟩; have hw2 := hw.symm; clear hw; subst hw2)
      | (go_at_call 25; refine (c46 _).mono ?_; rintro e wa ⟨rfl, hw⟩; have hw2 := hw.symm; clear hw; subst hw2)
      | (go_at_call 26; have _t := T1; clear _t T1; (try rw [ea]); refine (c1 _).mono ?_; rintro e wp ⟨o1, k1, rfl, r1, hbp⟩)
      | (go_at_call 26; (try rw [eb]); (try rw [eb2]); refine (c2 _).mono ?_; rintro e wq ⟨o2, k2, rfl, r2, hbq⟩)
      | (go_at_call 29; (try rw [qm]); refine (cT _).mono ?_; rintro e wr ⟨o3, k3, rfl, r3, hbr⟩)
      | (go_at_call 31; refine (cM _ o1 k1 o3 k3 (cK1 _ _ _ _ r1 (bt hbq hbr)) r3).mono ?_; rintro e ws ⟨o4, k4, rfl, r4, hbs⟩)
      | (go_at_call 30; refine (cA _ o4 k4 o2 k2 r4 (cK2 _ _ _ _ r2 (bt hbr hbs))).mono ?_; rintro e wt ⟨o5, k5, rfl, r5, hbt⟩)
      | (go_at_call 28; refine (cO _ o5 k5 o3 k3 r5 (cK3 _ _ _ _ r3 (bt hbs hbt))).mono ?_; rintro e wz ⟨v, rfl, Q, hbz⟩; obtain ⟨vb, v1, n1, c1, v2, n2, c2, rfl⟩ := Q.shape3; have HZ := bt hbp (bt hbq (bt hbr (bt hbs (bt hbt hbz)))); have kk := box_kept k0 HZ (in_heap k0); have dd := cell_at kk; have dd_0 : wz.cell? ⟨w.heap.size, 0, none⟩ = some (.bool false) := dd 0 _ rfl; have dd_1 : wz.cell? ⟨w.heap.size, 1, none⟩ = some (.slice none 0 0) := dd 1 _ rfl; have dd_2 : wz.cell? ⟨w.heap.size, 2, none⟩ = some (.slice none 0 0) := dd 2 _ rfl; have ff := nofreeze kk; clear dd))
    have k2 := sto3_box kk (.bool vb) (.slice v1 n1 c1) (.slice v2 n2 c2)
    have hB := sto3_below (bt hb0 HZ) (Nat.le_refl _) (.bool vb) (.slice v1 n1 c1) (.slice v2 n2 c2)
    have hQ := Q.offT kk (by decide) (sto3_off wz w.heap.size (.bool vb) (.slice v1 n1 c1) (.slice v2 n2 c2)).1
    generalize World.setCell _ _ _ = W' at *
    have gg := cell_at k2
    have zz0 : W'.cell? ⟨w.heap.size, 0, none⟩ = some (.bool vb) := gg 0 _ rfl; have zz1 : W'.cell? ⟨w.heap.size, 1, none⟩ = some (.slice v1 n1 c1) := gg 1 _ rfl; have zz2 : W'.cell? ⟨w.heap.size, 2, none⟩ = some (.slice v2 n2 c2) := gg 2 _ rfl
    refine bodyPost_ret (v := .tuple #[.agg #[.bool vb, .slice v1 n1 c1, .slice v2 n2 c2], .bool true]) ?_ rfl ?_
    · simp [results, go_sem, zz0, zz1, zz2]
    · exact ⟨_, rfl, hQ, hB⟩
  · subst e1
    exfalso; omega
  · subst e1
    have q3 : (0 : Int) < (T.size : Int) := by omega
    go_upto_region 4 with fail
    clear q3
    have T0 : True := trivial
    have T1 : True := trivial
    obtain ⟨rfl, rfl⟩ := hj
    have q1 : (0 : Int) ≤ (i : Int) := by omega
    have q2 : (i : Int) ≤ (T.size : Int) := by omega
    have q4 : i ≤ T.size := by omega
    have q5 : i + 1 ≤ T.size := by omega
    have q6 : (0 : Int) ≤ (i : Int) + 1 := by omega
    have q9 : i ≤ i + 1 := by omega
    have q10 : (i : Int) ≤ 300 := by omega
    have eb2 : T.extract ((i : Int) + 1).toNat T.size = B := by rw [show ((i : Int) + 1).toNat = i + 1 by omega]; exact eb
    go_wp2_with (first
      | (go_at_call 25; have _t := T0; clear _t T0; refine (c47 _).mono ?_; rintro e wa ⟨rfl, hw⟩; have hw2 := hw.symm; clear hw; subst hw2)
      | (go_at_call 25; refine (c46 _).mono ?_; rintro e wa ⟨rfl, hw⟩; have hw2 := hw.symm; clear hw; subst hw2)
      | (go_at_call 26; have _t := T1; clear _t T1; (try rw [ea]); refine (c1 _).mono ?_; rintro e wp ⟨o1, k1, rfl, r1, hbp⟩)
      | (go_at_call 26; (try rw [eb]); (try rw [eb2]); refine (c2 _).mono ?_; rintro e wq ⟨o2, k2, rfl, r2, hbq⟩)
      | (go_at_call 29; (try rw [qm]); refine (cT _).mono ?_; rintro e wr ⟨o3, k3, rfl, r3, hbr⟩)
      | (go_at_call 31; refine (cM _ o1 k1 o3 k3 (cK1 _ _ _ _ r1 (bt hbq hbr)) r3).mono ?_; rintro e ws ⟨o4, k4, rfl, r4, hbs⟩)
      | (go_at_call 30; refine (cA _ o4 k4 o2 k2 r4 (cK2 _ _ _ _ r2 (bt hbr hbs))).mono ?_; rintro e wt ⟨o5, k5, rfl, r5, hbt⟩)
      | (go_at_call 28; refine (cO _ o5 k5 o3 k3 r5 (cK3 _ _ _ _ r3 (bt hbs hbt))).mono ?_; rintro e wz ⟨v, rfl, Q, hbz⟩; obtain ⟨vb, v1, n1, c1, v2, n2, c2, rfl⟩ := Q.shape3; have HZ := bt hbp (bt hbq (bt hbr (bt hbs (bt hbt hbz)))); have kk := box_kept k0 HZ (in_heap k0); have dd := cell_at kk; have dd_0 : wz.cell? ⟨w.heap.size, 0, none⟩ = some (.bool false) := dd 0 _ rfl; have dd_1 : wz.cell? ⟨w.heap.size, 1, none⟩ = some (.slice none 0 0) := dd 1 _ rfl; have dd_2 : wz.cell? ⟨w.heap.size, 2, none⟩ = some (.slice none 0 0) := dd 2 _ rfl; have ff := nofreeze kk; clear dd))
    have k2 := sto3_box kk (.bool vb) (.slice v1 n1 c1) (.slice v2 n2 c2)
    have hB := sto3_below (bt hb0 HZ) (Nat.le_refl _) (.bool vb) (.slice v1 n1 c1) (.slice v2 n2 c2)
    have hQ := Q.offT kk (by decide) (sto3_off wz w.heap.size (.bool vb) (.slice v1 n1 c1) (.slice v2 n2 c2)).1
    generalize World.setCell _ _ _ = W' at *
    have gg := cell_at k2
    have zz0 : W'.cell? ⟨w.heap.size, 0, none⟩ = some (.bool vb) := gg 0 _ rfl; have zz1 : W'.cell? ⟨w.heap.size, 1, none⟩ = some (.slice v1 n1 c1) := gg 1 _ rfl; have zz2 : W'.cell? ⟨w.heap.size, 2, none⟩ = some (.slice v2 n2 c2) := gg 2 _ rfl
    refine bodyPost_ret (v := .tuple #[.agg #[.bool vb, .slice v1 n1 c1, .slice v2 n2 c2], .bool true]) ?_ rfl ?_
    · simp [results, go_sem, zz0, zz1, zz2]
    · exact ⟨_, rfl, hQ, hB⟩
end Go.Proofs.Ytefckmkcbgckfaa.RrL

/- The reference's Parse, of every text of up to 200 bytes. -/
namespace Go.Proofs.Ytefckmkcbgckfaa.RsL
open Go.RowKit Mem LimbNum Limb1 RefL RefA BitMul Words DigNum DigL StrL TxN RParse RatL RefR RefI NmL QNum MulW MulL PaL PbL RqL RrL

theorem sign_bs (l : List Nat) (hl : B8 l) : (((signM l).1 = true ∧ ∃ q0 : 0 < (bs l).size, 1 ≤ (bs l).size ∧ (((bs l)[0]'q0).toNat : Int) = 45 ∧ (bs l).extract 1 (bs l).size = bs (signM l).2) ∨ ((signM l).1 = false ∧ bs (signM l).2 = bs l ∧ ¬ (0 : Int) < ((bs l).size : Int)) ∨ ((signM l).1 = false ∧ bs (signM l).2 = bs l ∧ ∃ q0 : 0 < (bs l).size, ((((bs l)[0]'q0).toNat : Int) == 45) = false)) := by
  cases l with
  | nil => exact .inr (.inl ⟨rfl, rfl, by rw [bs_size]; simp⟩)
  | cons x t =>
    have q0 : 0 < (bs (x :: t)).size := by rw [bs_size]; simp
    have he := byte_is (bs (x :: t)) 0 q0
    rw [byte_bs (x :: t) hl 0] at he
    have he2 : (((bs (x :: t))[0]'q0).toNat : Int) = (x : Int) := he
    by_cases hx : x = 45
    · subst hx
      exact .inl ⟨rfl, q0, by omega, he2, by rw [bs_size, extract_bs, List.take_length]; rfl⟩
    · have e1 : (signM (x :: t)).2 = x :: t ∧ (signM (x :: t)).1 = false := by unfold signM; split; simp_all; exact ⟨rfl, rfl⟩
      exact .inr (.inr ⟨e1.2, by rw [e1.1], q0, by rw [he2, beq_eq_false_iff_ne]; omega⟩)
theorem good_no {neg : Bool} {t : List Nat} {e : Ending} {w : World} (h : readM t = none ∨ ∃ n, readM t = some (n, 0)) (he : ∃ v, e = .returned (.tuple #[v, .bool false]) ∧ Shp v) : RrL.Good neg t e w := by
  unfold RrL.Good
  rcases h with h | ⟨n, h⟩
  · rw [h]; exact he
  · rw [h]; exact he
theorem good_yes {neg : Bool} {t : List Nat} {e : Ending} {w : World} {n d : Nat} (h : readM t = some (n, d)) (hd : d ≠ 0) (he : ∃ v, e = .returned (.tuple #[v, .bool true]) ∧ IsQ w v (lowM neg n d)) : RrL.Good neg t e w := by
  unfold RrL.Good
  rw [h]
  dsimp only
  rw [if_neg hd]
  exact he
theorem no_of {neg : Bool} {t : List Nat} {s : ByteArray} {w : World} (h : readM t = none ∨ ∃ n, readM t = some (n, 0)) (hc : Calls Try.prog 10 #[.string s] w fun e w' => ∃ v, e = .returned (.tuple #[v, .bool false]) ∧ Shp v ∧ Below w.heap.size w w') :
    Calls Try.prog 10 #[.string s] w fun e w' => RrL.Good neg t e w' ∧ Below w.heap.size w w' := by
  refine hc.mono ?_
  rintro e w' ⟨v, rfl, hs, hb⟩
  exact ⟨good_no h ⟨v, rfl, hs⟩, hb⟩
theorem yes_of {neg : Bool} {t : List Nat} {s : ByteArray} {w : World} {n d : Nat} (h : readM t = some (n, d)) (hd : d ≠ 0) (hc : Calls Try.prog 10 #[.string s] w fun e w' => ∃ v, e = .returned (.tuple #[v, .bool true]) ∧ IsQ w' v (lowM neg n d) ∧ Below w.heap.size w w') :
    Calls Try.prog 10 #[.string s] w fun e w' => RrL.Good neg t e w' ∧ Below w.heap.size w w' := by
  refine hc.mono ?_
  rintro e w' ⟨v, rfl, hq, hb⟩
  exact ⟨good_yes h hd ⟨v, rfl, hq⟩, hb⟩
/-- A digit's text: its number's bits, or none. -/
def OwB (w : World) (o : Option Addr) (c n : Nat) : Prop := w.ownsRow 0 4 1 (.slice o (nb n).length c) (nb n).length (bools (nb n))
theorem dg_ok (l : List Nat) (w : World) (h : okN l = true) (hs : l.length ≤ 300) :
    Calls Try.prog 26 #[.string (bs l)] w fun e w' => ∃ o c, e = .returned (.tuple #[.slice o (nb (dv l)).length c, .bool true]) ∧ OwB w' o c (dv l) ∧ Below w.heap.size w w' := rd_ok l w h hs
theorem dg_bad (l : List Nat) (w : World) (hl : B8 l) (h : okN l = false) (hs : l.length ≤ 300) :
    Calls Try.prog 26 #[.string (bs l)] w fun e w' => ∃ o c, e = .returned (.tuple #[.slice o 0 c, .bool false]) ∧ Below w.heap.size w w' := by
  refine (rd_bad l w hl h hs).mono ?_
  rintro e w' ⟨rfl, hb⟩
  exact ⟨none, 0, rfl, hb⟩
theorem dg_weak (l : List Nat) (w : World) (h : okN l = true) (hs : l.length ≤ 300) :
    Calls Try.prog 26 #[.string (bs l)] w fun e w' => ∃ o c, e = .returned (.tuple #[.slice o (nb (dv l)).length c, .bool true]) ∧ Below w.heap.size w w' := by
  refine (rd_ok l w h hs).mono ?_
  rintro e w' ⟨o, c, rfl, _, hb⟩
  exact ⟨o, c, rfl, hb⟩
theorem of_q (b : Bool) (x y : Nat) (hx : (nb x).length ≤ 1000000) (hy : (nb y).length ≤ 1000000) (h0 : y ≠ 0) (w : World) (o1 : Option Addr) (c1 : Nat) (o2 : Option Addr) (c2 : Nat) (r1 : OwB w o1 c1 x) (r2 : OwB w o2 c2 y) :
    Calls Try.prog 28 #[.bool b, .slice o1 (nb x).length c1, .slice o2 (nb y).length c2] w fun e w' => ∃ v, e = .returned v ∧ IsQ w' v (lowM b x y) ∧ Below w.heap.size w w' := rof_q b x y o1 o2 c1 c2 w r1 r2 hx hy h0
theorem OwB.keep {n : Nat} (W V : World) (o : Option Addr) (c : Nat) (h : OwB W o c n) (hb : Below W.heap.size W V) : OwB V o c n := Mem.keep h hb
theorem word1 (w : World) : Calls Try.prog 32 #[.int .u64 1] w fun e w' => ∃ o c, e = .returned (.slice o (nb 1).length c) ∧ OwB w' o c 1 ∧ Below w.heap.size w w' := by
  refine (rword_any 1 w (by omega)).mono ?_
  rintro e w' ⟨o, c, rfl, r, hb⟩
  exact ⟨o, c, rfl, owns_base r (Nat.zero_le _), hb⟩
theorem tens_q (n : Nat) (hn : n ≤ 300) (w : World) : Calls Try.prog 29 #[.int .i64 (n : Int)] w fun e w' => ∃ o c, e = .returned (.slice o (nb (10 ^ n)).length c) ∧ OwB w' o c (10 ^ n) ∧ Below w.heap.size w w' := by
  refine (rtens3_any n w hn).mono ?_
  rintro e w' ⟨o, c, rfl, r, hb⟩
  exact ⟨o, c, rfl, owns_base r (Nat.zero_le _), hb⟩
theorem mul_q (x y : Nat) (hx : (nb x).length ≤ 100000) (hy : (nb y).length ≤ 100000) (w : World) (o1 : Option Addr) (c1 : Nat) (o2 : Option Addr) (c2 : Nat) (r1 : OwB w o1 c1 x) (r2 : OwB w o2 c2 y) :
    Calls Try.prog 31 #[.slice o1 (nb x).length c1, .slice o2 (nb y).length c2] w fun e w' => ∃ o c, e = .returned (.slice o (nb (x * y)).length c) ∧ OwB w' o c (x * y) ∧ Below w.heap.size w w' := by
  refine (rmul_core (nb x) (nb y) (x * y) (by unfold Hid; rw [fromL_nb, fromL_nb]) o1 o2 c1 c2 w (lies_of_owns r1) (lies_of_owns r2) (by omega) hy).mono ?_
  rintro e w' ⟨o, c, rfl, r, hb⟩
  exact ⟨o, c, rfl, owns_base r (Nat.zero_le _), hb⟩
theorem add_q (x y z : Nat) (hz : z = x + y) (hx : (nb x).length ≤ 100000) (hy : (nb y).length ≤ 100000) (w : World) (o1 : Option Addr) (c1 : Nat) (o2 : Option Addr) (c2 : Nat) (r1 : OwB w o1 c1 x) (r2 : OwB w o2 c2 y) :
    Calls Try.prog 30 #[.slice o1 (nb x).length c1, .slice o2 (nb y).length c2] w fun e w' => ∃ o c, e = .returned (.slice o (nb z).length c) ∧ OwB w' o c z ∧ Below w.heap.size w w' := by
  refine (radd_core (nb x) (nb y) z (by unfold Hid; rw [fromL_nb, fromL_nb]; exact hz) o1 o2 c1 c2 w (lies_of_owns r1) (lies_of_owns r2) (by omega) (by omega)).mono ?_
  rintro e w' ⟨o, c, rfl, r, hb⟩
  exact ⟨o, c, rfl, owns_base r (Nat.zero_le _), hb⟩
theorem ok_ne {l : List Nat} (h : okN l = true) : l ≠ [] := (ok_iff.1 h).1
theorem rparse_any (l : List Nat) (w : World) (hl : B8 l) (hs : l.length ≤ 200) :
    Calls Try.prog 10 #[.string (bs l)] w fun e w' => RrL.Good (signM l).1 (signM l).2 e w' ∧ Below w.heap.size w w' := by
  have hS := sign_bs l hl
  obtain ⟨s1, s2⟩ := b8_sign hl
  generalize (signM l).2 = t at *
  generalize (signM l).1 = neg at *
  have ht : t.length ≤ 200 := by omega
  have hz := bs_size t
  have c47 := fun (W : World) => at_any t 47 W s1 (by omega)
  have c46 := fun (W : World) => at_any t 46 W s1 (by omega)
  cases h47 : (cutN 47 t).2.2
  · cases h46 : (cutN 46 t).2.2
    · obtain ⟨g1, g2, _⟩ := cut_no h46
      have hr : readM t = if okN t then some (dv t, 1) else none := by
        unfold readM
        rw [h47, h46, g1, g2, List.append_nil]
        simp
      simp only [h47, h46, Bool.false_eq_true, if_false] at c47 c46
      cases eo : okN t
      · rw [eo] at hr
        exact no_of (.inl hr) (rp_w0 (bs l) (bs t) neg (-1) (-1) ⟨rfl, rfl⟩ 0 (fun W => dg_bad t W s1 eo (by omega)) w hS c47 c46)
      · rw [eo] at hr
        exact yes_of hr (by omega) (rp_w1 (bs l) (bs t) neg (-1) (-1) ⟨rfl, rfl⟩ (lowM neg (dv t) 1) (nb (dv t)).length (nb 1).length (fun W o c => OwB W o c (dv t)) (fun W o c => OwB W o c 1) (fun W => dg_ok t W eo (by omega)) word1 OwB.keep (of_q neg (dv t) 1 (Nat.le_trans (dv_nb t eo (by omega)) (by omega)) (by decide +kernel) (by omega)) w hS c47 c46)
    · obtain ⟨et, _⟩ := cut_yes h46
      have hr : readM t = if okN (cutN 46 t).1 && okN (cutN 46 t).2.1 then some (dv ((cutN 46 t).1 ++ (cutN 46 t).2.1), 10 ^ (cutN 46 t).2.1.length) else none := by
        unfold readM
        rw [h47, h46]
        have := ok_app (cutN 46 t).1 (cutN 46 t).2.1
        by_cases h1 : (cutN 46 t).1 = []
        · rw [h1]; simp [okN]
        · by_cases h2 : (cutN 46 t).2.1 = []
          · rw [h2]; simp [okN]
          · rw [this h1 h2]; simp [h1, h2]
      have h8 := b8_cut (c := 46) s1
      simp only [h47, h46, Bool.false_eq_true, if_false, if_true] at c47 c46
      generalize (cutN 46 t).1 = a at *
      generalize (cutN 46 t).2.1 = b at *
      obtain ⟨ha, hb, hab⟩ := h8
      obtain ⟨e1, e2⟩ := cut_parts (c := 46) a b
      rw [← et] at e1 e2
      have hl2 : t.length = a.length + 1 + b.length := by rw [et]; simp; omega
      have hT : (bs t).size ≤ 300 := by omega
      have qi : (a.length : Int) + 1 ≤ ((bs t).size : Int) := by omega
      cases oa : okN a <;> cases ob : okN b
      · rw [oa, ob] at hr
        exact no_of (.inl hr) (rp_pt_ff (bs l) (bs t) neg _ _ a.length (bs a) (bs b) hT qi e1 e2 ⟨rfl, rfl⟩ 0 0 (fun W => dg_bad a W ha oa (by omega)) (fun W => dg_bad b W hb ob (by omega)) w hS c47 c46)
      · rw [oa, ob] at hr
        exact no_of (.inl hr) (rp_pt_ft (bs l) (bs t) neg _ _ a.length (bs a) (bs b) hT qi e1 e2 ⟨rfl, rfl⟩ 0 _ (fun W => dg_bad a W ha oa (by omega)) (fun W => dg_weak b W ob (by omega)) w hS c47 c46)
      · rw [oa, ob] at hr
        exact no_of (.inl hr) (rp_pt_tf (bs l) (bs t) neg _ _ a.length (bs a) (bs b) hT qi e1 e2 ⟨rfl, rfl⟩ _ 0 (fun W => dg_weak a W oa (by omega)) (fun W => dg_bad b W hb ob (by omega)) w hS c47 c46)
      · rw [oa, ob] at hr
        have l1 := dv_nb a oa (by omega)
        have l2 := dv_nb b ob (by omega)
        have l3 := tlen3 b.length (by omega)
        have l4 := prod_nb _ _ _ _ l1 l3
        have l5 : (nb (dv (a ++ b))).length ≤ 1201 := dv_nb (a ++ b) (by rw [ok_app a b (ok_ne oa) (ok_ne ob), oa, ob]; rfl) (by simp; omega)
        have hd : (10 : Nat) ^ b.length ≠ 0 := Nat.ne_of_gt (Nat.pow_pos (by omega))
        exact yes_of hr hd (rp_pt_1 (bs l) (bs t) neg _ _ a.length (bs a) (bs b) hT qi e1 e2 ⟨rfl, rfl⟩ b.length (by omega) (lowM neg (dv (a ++ b)) (10 ^ b.length)) _ _ _ _ _ (fun W o c => OwB W o c (dv a)) (fun W o c => OwB W o c (dv b)) (fun W o c => OwB W o c (10 ^ b.length)) (fun W o c => OwB W o c (dv a * 10 ^ b.length)) (fun W o c => OwB W o c (dv (a ++ b)))
          (fun W => dg_ok a W oa (by omega)) (fun W => dg_ok b W ob (by omega)) OwB.keep OwB.keep OwB.keep (tens_q b.length (by omega)) (mul_q (dv a) (10 ^ b.length) (by omega) (by omega)) (add_q (dv a * 10 ^ b.length) (dv b) (dv (a ++ b)) (dv_append a b) (by omega) (by omega)) (of_q neg (dv (a ++ b)) (10 ^ b.length) (by omega) (by omega) hd) w hS c47 c46)
  · obtain ⟨et, _⟩ := cut_yes h47
    have hr : readM t = if okN (cutN 47 t).1 && okN (cutN 47 t).2.1 then some (dv (cutN 47 t).1, dv (cutN 47 t).2.1) else none := by
      unfold readM
      rw [if_pos h47]
    have h8 := b8_cut (c := 47) s1
    simp only [h47, if_true] at c47
    generalize (if (cutN 46 t).2.2 = true then ((cutN 46 t).1.length : Int) else -1) = J at c46
    generalize (cutN 47 t).1 = a at *
    generalize (cutN 47 t).2.1 = b at *
    obtain ⟨ha, hb, hab⟩ := h8
    obtain ⟨e1, e2⟩ := cut_parts (c := 47) a b
    rw [← et] at e1 e2
    have hl2 : t.length = a.length + 1 + b.length := by rw [et]; simp; omega
    have hT : (bs t).size ≤ 300 := by omega
    have qi : (a.length : Int) + 1 ≤ ((bs t).size : Int) := by omega
    cases oa : okN a <;> cases ob : okN b
    · rw [oa, ob] at hr
      exact no_of (.inl hr) (rp_bar_ff (bs l) (bs t) neg _ J a.length (bs a) (bs b) hT qi e1 e2 rfl 0 0 (fun W => dg_bad a W ha oa (by omega)) (fun W => dg_bad b W hb ob (by omega)) w hS c47 c46)
    · rw [oa, ob] at hr
      exact no_of (.inl hr) (rp_bar_ft (bs l) (bs t) neg _ J a.length (bs a) (bs b) hT qi e1 e2 rfl 0 _ (fun W => dg_bad a W ha oa (by omega)) (fun W => dg_weak b W ob (by omega)) w hS c47 c46)
    · rw [oa, ob] at hr
      exact no_of (.inl hr) (rp_bar_tf (bs l) (bs t) neg _ J a.length (bs a) (bs b) hT qi e1 e2 rfl _ 0 (fun W => dg_weak a W oa (by omega)) (fun W => dg_bad b W hb ob (by omega)) w hS c47 c46)
    · rw [oa, ob] at hr
      have l1 := dv_nb a oa (by omega)
      have l2 := dv_nb b ob (by omega)
      by_cases h0 : dv b = 0
      · have h00 : (nb (dv b)).length = 0 := by rw [h0]; decide +kernel
        exact no_of (.inr ⟨dv a, by rw [hr, h0]; rfl⟩) (rp_bar_0 (bs l) (bs t) neg _ J a.length (bs a) (bs b) hT qi e1 e2 rfl _ _ h00 (fun W => dg_weak a W oa (by omega)) (fun W => dg_weak b W ob (by omega)) w hS c47 c46)
      · have l3 : 0 < (nb (dv b)).length := by
          apply List.length_pos_iff.2
          intro h
          apply h0
          rw [← fromL_nb (dv b), h]; rfl
        exact yes_of hr h0 (rp_bar_1 (bs l) (bs t) neg _ J a.length (bs a) (bs b) hT qi e1 e2 rfl (lowM neg (dv a) (dv b)) _ _ (by omega) (fun W o c => OwB W o c (dv a)) (fun W o c => OwB W o c (dv b)) (fun W => dg_ok a W oa (by omega)) (fun W => dg_ok b W ob (by omega)) OwB.keep (of_q neg (dv a) (dv b) (by omega) (by omega) h0) w hS c47 c46)
end Go.Proofs.Ytefckmkcbgckfaa.RsL

/- RtextParses: the walk. -/
namespace Go.Proofs.Ytefckmkcbgckfaa.PsW
open Go.RowKit Mem LimbNum Limb1 RefL DigNum DigL StrL TxN ShelfC RatL RatM RatN RefR NmL QNum MulW MulL PaL PbL RqL RrL RsL Law5

theorem nb_le (x y : Nat) (h : x ≤ y) (a : Nat) (hy : (nb y).length ≤ a) : (nb x).length ≤ a := by
  have h2 := fromL_lt (nb y)
  rw [fromL_nb] at h2
  exact nb_lt _ _ (Nat.lt_of_le_of_lt h (Nat.lt_of_lt_of_le h2 (Nat.pow_le_pow_right (by omega) hy)))
theorem read_nb {l : List Nat} {n d : Nat} (hl : B8 l) (h : readM l = some (n, d)) (hs : l.length ≤ 200) : (nb n).length ≤ 1201 ∧ (nb d).length ≤ 1201 := by
  have c1 := b8_cut (c := 47) hl
  have c2 := b8_cut (c := 46) hl
  unfold readM at h
  split at h
  · split at h
    · rename_i ho
      simp only [Bool.and_eq_true] at ho
      simp only [Option.some.injEq, Prod.mk.injEq] at h
      obtain ⟨rfl, rfl⟩ := h
      exact ⟨dv_nb _ ho.1 (by omega), dv_nb _ ho.2 (by omega)⟩
    · cases h
  · split at h
    · cases h
    · split at h
      · rename_i ho
        simp only [Option.some.injEq, Prod.mk.injEq] at h
        obtain ⟨rfl, rfl⟩ := h
        exact ⟨dv_nb _ ho (by rw [List.length_append]; omega), tlen3 _ (by omega)⟩
      · cases h
theorem fits_low (b : Bool) (n d : Nat) (hn : (nb n).length ≤ 1201) (hd : (nb d).length ≤ 1201) (h0 : d ≠ 0) : Fits (lowM b n d) 1201 :=
  ⟨Nat.div_pos (Nat.le_of_dvd (by omega) (Nat.gcd_dvd_right _ _)) (Nat.gcd_pos_of_pos_right _ (by omega)), nb_le _ _ (Nat.div_le_self _ _) _ hn, nb_le _ _ (Nat.div_le_self _ _) _ hd⟩
theorem sign_z (w : World) : Calls Try.prog 9 #[.agg #[.bool false, .int .u64 0, .int .u64 0, .pointer none]] w fun e w' => e = .returned (.int .i64 0) ∧ Below w.heap.size w w' := sign_any _ _ _ _ w (isR_z w)
/-- What the program's Parse answers. -/
theorem parse_all (l : List Nat) (w : World) (hm : ML w) (hl : B8 l) (hs : l.length ≤ 20000) :
    ((readM (signM l).2 = none ∨ ∃ n, readM (signM l).2 = some (n, 0)) ∧ Calls Try.prog 7 #[.string (bs l)] w fun e w' => e = .returned (.tuple #[.agg #[.bool false, .int .u64 0, .int .u64 0, .pointer none], .int .i64 3]) ∧ Below w.heap.size w w') ∨
    (∃ n d, d ≠ 0 ∧ readM (signM l).2 = some (n, d) ∧ Calls Try.prog 7 #[.string (bs l)] w fun e w' => ∃ v, e = .returned (.tuple #[v, .int .i64 0]) ∧ IsR w' v (lowM (signM l).1 n d) ∧ Below w.heap.size w w') := by
  cases h : readM (signM l).2 with
  | none => exact .inl ⟨.inl rfl, parse_none l w hm hl hs h⟩
  | some p =>
    obtain ⟨n, d⟩ := p
    by_cases hd : d = 0
    · subst hd; exact .inl ⟨.inr ⟨n, rfl⟩, parse_zero l n w hm hl hs h⟩
    · exact .inr ⟨n, d, hd, rfl, parse_some l n d w hm hl hs h hd⟩
set_option maxRecDepth 20000 in
theorem law_big (l : List Nat) (w : World) (hm : ML w) (hs : 20000 < l.length) : Calls Try.prog 3 #[.string (bs l)] w fun e w' => e = .returned (.bool true) ∧ Below w.heap.size w w' := by
  have cP := parse_big l w hs
  have q1 : (20000 : Int) < ((bs l).size : Int) := by rw [bs_size]; omega
  generalize bs l = S at *
  go_enter Try.func3, Try.ntmps3
  go_upto_region 2 with (go_at_call 7; refine (cP).mono ?_; rintro e w1 ⟨rfl, hb1⟩)
  obtain ⟨W1, eW1, B1, k1⟩ := one_new w1 (.cells #[.bool false, .int .u64 0, .int .u64 0, .pointer none] 25)
  rw [eW1]
  have H1 := bt hb1 B1
  have HM := hm.below H1
  clear eW1
  go_wp2_with (first
    | (go_at_call 8; refine (awake6 _ HM).mono ?_; rintro e w2 ⟨rfl, hb2⟩; have dd := cell_at (box_kept k1 hb2 (in_heap k1)); have yy0 : w2.cell? ⟨w1.heap.size, 0, none⟩ = some (.bool false) := dd 0 _ rfl; have yy1 : w2.cell? ⟨w1.heap.size, 1, none⟩ = some (.int .u64 0) := dd 1 _ rfl; have yy2 : w2.cell? ⟨w1.heap.size, 2, none⟩ = some (.int .u64 0) := dd 2 _ rfl; have yy3 : w2.cell? ⟨w1.heap.size, 3, none⟩ = some (.pointer none) := dd 3 _ rfl; clear dd)
    | (go_at_call 9; refine (sign_z _).mono ?_; rintro e w3 ⟨rfl, hb3⟩))
  all_goals go_ret
  all_goals exact ⟨rfl, bt H1 (bt hb2 hb3)⟩
set_option maxRecDepth 20000 in
theorem law_mid (l : List Nat) (w : World) (hm : ML w) (hl : B8 l) (hs : l.length ≤ 20000) (h2 : 200 < l.length) : Calls Try.prog 3 #[.string (bs l)] w fun e w' => e = .returned (.bool true) ∧ Below w.heap.size w w' := by
  have hA := parse_all l w hm hl hs
  have q1 : ¬ (20000 : Int) < ((bs l).size : Int) := by rw [bs_size]; omega
  have q2 : (200 : Int) < ((bs l).size : Int) := by rw [bs_size]; omega
  generalize bs l = S at *
  rcases hA with ⟨_, cP⟩ | ⟨n, d, _, _, cP⟩
  · go_enter Try.func3, Try.ntmps3
    go_upto_region 2 with (go_at_call 7; refine (cP).mono ?_; rintro e w1 ⟨rfl, hb1⟩)
    obtain ⟨W1, eW1, B1, k1⟩ := one_new w1 (.cells #[.bool false, .int .u64 0, .int .u64 0, .pointer none] 25)
    rw [eW1]
    have H1 := bt hb1 B1
    have HM := hm.below H1
    clear eW1
    go_wp2_with (first
      | (go_at_call 8; refine (awake6 _ HM).mono ?_; rintro e w2 ⟨rfl, hb2⟩; have dd := cell_at (box_kept k1 hb2 (in_heap k1)); have yy0 : w2.cell? ⟨w1.heap.size, 0, none⟩ = some (.bool false) := dd 0 _ rfl; have yy1 : w2.cell? ⟨w1.heap.size, 1, none⟩ = some (.int .u64 0) := dd 1 _ rfl; have yy2 : w2.cell? ⟨w1.heap.size, 2, none⟩ = some (.int .u64 0) := dd 2 _ rfl; have yy3 : w2.cell? ⟨w1.heap.size, 3, none⟩ = some (.pointer none) := dd 3 _ rfl; clear dd)
      | (go_at_call 9; refine (sign_z _).mono ?_; rintro e w3 ⟨rfl, hb3⟩))
    all_goals go_ret
    all_goals exact ⟨rfl, bt H1 (bt hb2 hb3)⟩
  · go_enter Try.func3, Try.ntmps3
    go_upto_region 2 with (go_at_call 7; refine (cP).mono ?_; rintro e w1 ⟨v, rfl, R, hb1⟩; obtain ⟨vb, vA, vL, vp, rfl⟩ := R.shape4)
    obtain ⟨W1, eW1, B1, k1⟩ := one_new w1 (.cells #[.bool vb, .int .u64 vA, .int .u64 vL, .pointer vp] 25)
    rw [eW1]
    have H1 := bt hb1 B1
    have HM := hm.below H1
    clear eW1
    go_wp2_with (go_at_call 8; refine (awake6 _ HM).mono ?_; rintro e w2 ⟨rfl, hb2⟩)
    all_goals go_ret
    all_goals exact ⟨rfl, bt H1 hb2⟩
set_option maxRecDepth 20000 in
theorem law_low (l : List Nat) (w : World) (hm : ML w) (hl : B8 l) (hs : l.length ≤ 200) : Calls Try.prog 3 #[.string (bs l)] w fun e w' => e = .returned (.bool true) ∧ Below w.heap.size w w' := by
  have hA := parse_all l w hm hl (by omega)
  have cR := fun (W : World) => rparse_any l W hl hs
  have q1 : ¬ (20000 : Int) < ((bs l).size : Int) := by rw [bs_size]; omega
  have q2 : ¬ (200 : Int) < ((bs l).size : Int) := by rw [bs_size]; omega
  obtain ⟨s1, s2⟩ := b8_sign hl
  have hnb := fun n d (h : readM (signM l).2 = some (n, d)) => read_nb s1 h (by omega)
  clear s1 s2
  generalize bs l = S at *
  generalize (signM l).2 = t at *
  generalize (signM l).1 = neg at *
  rcases hA with ⟨hr, cP⟩ | ⟨n, d, hd, hr, cP⟩
  · have cR2 : ∀ W : World, Calls Try.prog 10 #[.string S] W fun e w' => ∃ v, e = .returned (.tuple #[v, .bool false]) ∧ Shp v ∧ Below W.heap.size W w' := fun W => by
      refine (cR W).mono ?_
      rintro e w' ⟨hg, hb⟩
      unfold RrL.Good at hg
      rcases hr with hr | ⟨n, hr⟩
      · rw [hr] at hg
        obtain ⟨v, rfl, hv⟩ := hg
        exact ⟨v, rfl, hv, hb⟩
      · rw [hr] at hg
        obtain ⟨v, rfl, hv⟩ := hg
        exact ⟨v, rfl, hv, hb⟩
    clear cR hr hnb
    go_enter Try.func3, Try.ntmps3
    go_upto_region 2 with (go_at_call 7; refine (cP).mono ?_; rintro e w1 ⟨rfl, hb1⟩)
    obtain ⟨W1, eW1, B1, k1⟩ := one_new w1 (.cells #[.bool false, .int .u64 0, .int .u64 0, .pointer none] 25)
    rw [eW1]
    have H1 := bt hb1 B1
    have HM := hm.below H1
    clear eW1
    go_upto_region 7 with (go_at_call 10; refine (cR2 _).mono ?_; rintro e w4 ⟨v4, rfl, hv4, hb4⟩; obtain ⟨qb, q1, m1, kk1, q2, m2, kk2, rfl⟩ := hv4)
    obtain ⟨W2, eW2, B2, k2⟩ := one_new w4 (.cells #[.bool qb, .slice q1 m1 kk1, .slice q2 m2 kk2] 33)
    rw [eW2]
    have H2 := bt hb4 B2
    have HM2 := HM.below H2
    have k3 := box_kept k1 H2 (in_heap k1)
    clear eW2
    go_wp2_with (first
      | (go_at_call 8; refine (awake6 _ HM2).mono ?_; rintro e w5 ⟨rfl, hb5⟩; have dd := cell_at (box_kept k3 hb5 (in_heap k3)); have yy0 : w5.cell? ⟨w1.heap.size, 0, none⟩ = some (.bool false) := dd 0 _ rfl; have yy1 : w5.cell? ⟨w1.heap.size, 1, none⟩ = some (.int .u64 0) := dd 1 _ rfl; have yy2 : w5.cell? ⟨w1.heap.size, 2, none⟩ = some (.int .u64 0) := dd 2 _ rfl; have yy3 : w5.cell? ⟨w1.heap.size, 3, none⟩ = some (.pointer none) := dd 3 _ rfl; have d2 := cell_at (box_kept k2 hb5 (in_heap k2)); have xx0 : w5.cell? ⟨w4.heap.size, 0, none⟩ = some (.bool qb) := d2 0 _ rfl; have xx1 : w5.cell? ⟨w4.heap.size, 1, none⟩ = some (.slice q1 m1 kk1) := d2 1 _ rfl; have xx2 : w5.cell? ⟨w4.heap.size, 2, none⟩ = some (.slice q2 m2 kk2) := d2 2 _ rfl; clear dd d2)
      | (go_at_call 9; refine (sign_z _).mono ?_; rintro e w6 ⟨rfl, hb6⟩))
    all_goals go_ret
    all_goals exact ⟨rfl, bt H1 (bt H2 (bt hb5 hb6))⟩
  · have cR2 : ∀ W : World, Calls Try.prog 10 #[.string S] W fun e w' => ∃ v, e = .returned (.tuple #[v, .bool true]) ∧ IsQ w' v (lowM neg n d) ∧ Below W.heap.size W w' := fun W => by
      refine (cR W).mono ?_
      rintro e w' ⟨hg, hb⟩
      unfold RrL.Good at hg
      rw [hr] at hg
      dsimp only at hg
      rw [if_neg hd] at hg
      obtain ⟨v, rfl, hv⟩ := hg
      exact ⟨v, rfl, hv, hb⟩
    have fl := fits_low neg n d (hnb n d hr).1 (hnb n d hr).2 hd
    have cI := fun (W : World) (v q : Value) (h1 : IsR W v (lowM neg n d)) (h2 : IsQ W q (lowM neg n d)) => a_is (k := 1201) (by omega) h1 h2 fl
    generalize lowM neg n d = p at *
    clear cR hr hnb fl hd
    go_enter Try.func3, Try.ntmps3
    go_upto_region 2 with (go_at_call 7; refine (cP).mono ?_; rintro e w1 ⟨v, rfl, R, hb1⟩; obtain ⟨vb, vA, vL, vp, rfl⟩ := R.shape4)
    obtain ⟨W1, eW1, B1, k1⟩ := one_new w1 (.cells #[.bool vb, .int .u64 vA, .int .u64 vL, .pointer vp] 25)
    rw [eW1]
    have H1 := bt hb1 B1
    have HM := hm.below H1
    clear eW1
    go_upto_region 7 with (go_at_call 10; refine (cR2 _).mono ?_; rintro e w4 ⟨v4, rfl, RQ, hb4⟩; obtain ⟨qb, q1, m1, kk1, q2, m2, kk2, rfl⟩ := RQ.shape3)
    obtain ⟨W2, eW2, B2, k2⟩ := one_new w4 (.cells #[.bool qb, .slice q1 m1 kk1, .slice q2 m2 kk2] 33)
    rw [eW2]
    have H2 := bt hb4 B2
    have HM2 := HM.below H2
    have k3 := box_kept k1 H2 (in_heap k1)
    clear eW2
    go_wp2_with (first
      | (go_at_call 8; refine (awake6 _ HM2).mono ?_; rintro e w5 ⟨rfl, hb5⟩; have dd := cell_at (box_kept k3 hb5 (in_heap k3)); have yy0 : w5.cell? ⟨w1.heap.size, 0, none⟩ = some (.bool vb) := dd 0 _ rfl; have yy1 : w5.cell? ⟨w1.heap.size, 1, none⟩ = some (.int .u64 vA) := dd 1 _ rfl; have yy2 : w5.cell? ⟨w1.heap.size, 2, none⟩ = some (.int .u64 vL) := dd 2 _ rfl; have yy3 : w5.cell? ⟨w1.heap.size, 3, none⟩ = some (.pointer vp) := dd 3 _ rfl; have d2 := cell_at (box_kept k2 hb5 (in_heap k2)); have xx0 : w5.cell? ⟨w4.heap.size, 0, none⟩ = some (.bool qb) := d2 0 _ rfl; have xx1 : w5.cell? ⟨w4.heap.size, 1, none⟩ = some (.slice q1 m1 kk1) := d2 1 _ rfl; have xx2 : w5.cell? ⟨w4.heap.size, 2, none⟩ = some (.slice q2 m2 kk2) := d2 2 _ rfl; clear dd d2)
      | (go_at_call 11; refine (cI _ _ _ (((R.below B1).below H2).below hb5) ((RQ.below B2).below hb5)).mono ?_; rintro e w6 ⟨rfl, hb6⟩))
    all_goals go_ret
    all_goals exact ⟨rfl, bt H1 (bt H2 (bt hb5 hb6))⟩
theorem law (l : List Nat) (w : World) (hm : ML w) (hl : B8 l) : Calls Try.prog 3 #[.string (bs l)] w fun e w' => e = .returned (.bool true) ∧ Below w.heap.size w w' := by
  by_cases h1 : l.length ≤ 200
  · exact law_low l w hm hl h1
  · by_cases h2 : l.length ≤ 20000
    · exact law_mid l w hm hl h2 (by omega)
    · exact law_big l w hm (by omega)
end Go.Proofs.Ytefckmkcbgckfaa.PsW
