/- rtext.Parse: the number of a text; awake of layer 6; rtext: what is printed is read back. -/
import Derived.Test.YtefckmkcbgckfabSetAY
import Derived.Test.YtefckmkcbgckfabSetBB
import Derived.Test.YtefckmkcbgckfabSetAX
/- rtext.Parse: the number of a text; awake of layer 6. -/
namespace Go.Proofs.Ytefckmkcbgckfab.PbL
open Go.RowKit Mem LimbNum Limb1 DigNum DigL StrL TxN ShelfC RatL RatM RatN NmL QNum ParseL TensAll MulW MulL PaL PtL

theorem nofreeze {w : World} {g : Nat} {cs : Array Value} {T : TypeId} (h : w.heap[g]? = some (.cells cs T)) (i : Nat) : w.frozen? ⟨g, i, none⟩ = false := by simp [World.frozen?, h]
/-- A fraction in lowest terms. -/
def lowM (b : Bool) (n d : Nat) : Nm := ⟨b && decide (n / Nat.gcd n d ≠ 0), n / Nat.gcd n d, d / Nat.gcd n d⟩
theorem b8_sign {l : List Nat} (h : B8 l) : B8 (signM l).2 ∧ (signM l).2.length ≤ l.length := by
  unfold signM
  split
  · exact ⟨fun x hx => h x (List.mem_cons_of_mem _ hx), by simp⟩
  · exact ⟨h, Nat.le_refl _⟩
theorem dv_bits (l : List Nat) (h : okN l = true) (hs : l.length ≤ 20000) : (nl (dv l)).length ≤ 100000 := by
  have h1 := dv_lt l (ok_iff.1 h).2
  have h2 : (10 : Nat) ^ l.length ≤ 4294967296 ^ l.length := Nat.pow_le_pow_left (by omega) _
  have := nl_lt l.length (dv l) (by omega)
  omega
theorem read_len {l : List Nat} {n d : Nat} (hl : B8 l) (h : readM l = some (n, d)) (hs : l.length ≤ 20000) : (nl n).length ≤ 100000 ∧ (nl d).length ≤ 100000 := by
  have c1 := b8_cut (c := 47) hl
  have c2 := b8_cut (c := 46) hl
  unfold readM at h
  split at h
  · split at h
    · rename_i ho
      simp only [Bool.and_eq_true] at ho
      simp only [Option.some.injEq, Prod.mk.injEq] at h
      obtain ⟨rfl, rfl⟩ := h
      exact ⟨dv_bits _ ho.1 (by omega), dv_bits _ ho.2 (by omega)⟩
    · cases h
  · split at h
    · cases h
    · split at h
      · rename_i ho
        simp only [Option.some.injEq, Prod.mk.injEq] at h
        obtain ⟨rfl, rfl⟩ := h
        refine ⟨dv_bits _ ho (by rw [List.length_append]; omega), ?_⟩
        have h2 : (10 : Nat) ^ (cutN 46 l).2.1.length < 4294967296 ^ ((cutN 46 l).2.1.length + 1) :=
          Nat.lt_of_le_of_lt (Nat.pow_le_pow_left (show 10 ≤ 4294967296 by omega) _) (Nat.pow_lt_pow_right (by omega) (by omega))
        have := nl_lt _ _ h2
        omega
      · cases h
theorem isR_z (w : World) : IsR w (.agg #[.bool false, .int .u64 0, .int .u64 0, .pointer none]) (⟨false, 0, 1⟩) := Mk5.is_zero w
set_option maxRecDepth 20000 in
theorem parse_big (l : List Nat) (w : World) (hs : 20000 < l.length) :
    Calls Try.prog 4 #[.string (bs l)] w fun e w' => e = .returned (.tuple #[.agg #[.bool false, .int .u64 0, .int .u64 0, .pointer none], .int .i64 2]) ∧ Below w.heap.size w w' := by
  obtain ⟨W0, eW0, hb0, k0⟩ := one_new w (.cells #[.bool false, .int .u64 0, .int .u64 0, .pointer none] 28)
  have EW : Hid (_ = W0) := eW0
  clear eW0
  have q1 : (20000 : Int) < ((bs l).size : Int) := by rw [bs_size]; omega
  have e0 := cell_at k0
  have a0 : W0.cell? ⟨w.heap.size, 0, none⟩ = some (.bool false) := e0 0 _ rfl
  have a1 : W0.cell? ⟨w.heap.size, 1, none⟩ = some (.int .u64 0) := e0 1 _ rfl
  have a2 : W0.cell? ⟨w.heap.size, 2, none⟩ = some (.int .u64 0) := e0 2 _ rfl
  have a3 : W0.cell? ⟨w.heap.size, 3, none⟩ = some (.pointer none) := e0 3 _ rfl
  have ff := nofreeze k0
  clear e0
  go_enter Try.func4, Try.ntmps4
  go_upto_region 1 with fail
  rw [EW.out]
  clear EW
  go_wp2
  have k2 := sto4_box k0 (.bool false) (.int .u64 0) (.int .u64 0) (.pointer none)
  have hB := sto4_below hb0 (Nat.le_refl _) (.bool false) (.int .u64 0) (.int .u64 0) (.pointer none)
  clear a0 a1 a2 a3 ff
  generalize World.setCell _ _ _ = W' at *
  have gg := cell_at k2
  have z0 : W'.cell? ⟨w.heap.size, 0, none⟩ = some (.bool false) := gg 0 _ rfl
  have z1 : W'.cell? ⟨w.heap.size, 1, none⟩ = some (.int .u64 0) := gg 1 _ rfl
  have z2 : W'.cell? ⟨w.heap.size, 2, none⟩ = some (.int .u64 0) := gg 2 _ rfl
  have z3 : W'.cell? ⟨w.heap.size, 3, none⟩ = some (.pointer none) := gg 3 _ rfl
  refine bodyPost_ret (v := .tuple #[.agg #[.bool false, .int .u64 0, .int .u64 0, .pointer none], .int .i64 2]) ?_ rfl ?_
  · simp [results, go_sem, z0, z1, z2, z3]
  · exact ⟨rfl, hB⟩
set_option maxRecDepth 20000 in
theorem parse_none (l : List Nat) (w : World) (hm : ML w) (hl : B8 l) (hs : l.length ≤ 20000) (h : readM (signM l).2 = none) :
    Calls Try.prog 4 #[.string (bs l)] w fun e w' => e = .returned (.tuple #[.agg #[.bool false, .int .u64 0, .int .u64 0, .pointer none], .int .i64 3]) ∧ Below w.heap.size w w' := by
  obtain ⟨W0, eW0, hb0, k0⟩ := one_new w (.cells #[.bool false, .int .u64 0, .int .u64 0, .pointer none] 28)
  have EW : Hid (_ = W0) := eW0
  have hm0 := hm.below hb0
  clear eW0
  obtain ⟨s1, s2⟩ := b8_sign hl
  have cP := prefix_any l W0 hl (by omega)
  have cR := fun (W : World) (h2 : ML W) => read_any (signM l).2 W h2 s1 (by omega)
  rw [h] at cR
  generalize (signM l).2 = t at *
  generalize (signM l).1 = neg at *
  have q1 : ((bs l).size : Int) ≤ 20000 := by rw [bs_size]; omega
  go_enter Try.func4, Try.ntmps4
  go_upto_region 1 with fail
  rw [EW.out]
  clear EW
  go_upto_region 4 with (go_at_call 20; refine cP.mono ?_; rintro e w1 ⟨rfl, hb1⟩)
  go_upto_region 5 with (go_at_call 21; refine (cR _ (hm0.below hb1)).mono ?_; rintro e w2 ⟨⟨x1, x2, rfl⟩, hb2⟩)
  have H2 := bt hb1 hb2
  have K2 := box_kept k0 H2 (in_heap k0)
  have B2 := bt hb0 H2
  have e0 := cell_at K2
  have a0 : w2.cell? ⟨w.heap.size, 0, none⟩ = some (.bool false) := e0 0 _ rfl
  have a1 : w2.cell? ⟨w.heap.size, 1, none⟩ = some (.int .u64 0) := e0 1 _ rfl
  have a2 : w2.cell? ⟨w.heap.size, 2, none⟩ = some (.int .u64 0) := e0 2 _ rfl
  have a3 : w2.cell? ⟨w.heap.size, 3, none⟩ = some (.pointer none) := e0 3 _ rfl
  have ff := nofreeze K2
  clear e0 hb1 hb2 cP cR hm0 hm H2 k0 hb0
  go_wp2
  have k2 := sto4_box K2 (.bool false) (.int .u64 0) (.int .u64 0) (.pointer none)
  have hB := sto4_below B2 (Nat.le_refl _) (.bool false) (.int .u64 0) (.int .u64 0) (.pointer none)
  clear a0 a1 a2 a3 ff
  generalize World.setCell _ _ _ = W' at *
  have gg := cell_at k2
  have z0 : W'.cell? ⟨w.heap.size, 0, none⟩ = some (.bool false) := gg 0 _ rfl
  have z1 : W'.cell? ⟨w.heap.size, 1, none⟩ = some (.int .u64 0) := gg 1 _ rfl
  have z2 : W'.cell? ⟨w.heap.size, 2, none⟩ = some (.int .u64 0) := gg 2 _ rfl
  have z3 : W'.cell? ⟨w.heap.size, 3, none⟩ = some (.pointer none) := gg 3 _ rfl
  refine bodyPost_ret (v := .tuple #[.agg #[.bool false, .int .u64 0, .int .u64 0, .pointer none], .int .i64 3]) ?_ rfl ?_
  · simp [results, go_sem, z0, z1, z2, z3]
  · exact ⟨rfl, hB⟩
set_option maxRecDepth 20000 in
theorem parse_zero (l : List Nat) (n : Nat) (w : World) (hm : ML w) (hl : B8 l) (hs : l.length ≤ 20000) (h : readM (signM l).2 = some (n, 0)) :
    Calls Try.prog 4 #[.string (bs l)] w fun e w' => e = .returned (.tuple #[.agg #[.bool false, .int .u64 0, .int .u64 0, .pointer none], .int .i64 3]) ∧ Below w.heap.size w w' := by
  obtain ⟨W0, eW0, hb0, k0⟩ := one_new w (.cells #[.bool false, .int .u64 0, .int .u64 0, .pointer none] 28)
  have EW : Hid (_ = W0) := eW0
  have hm0 := hm.below hb0
  clear eW0
  obtain ⟨s1, s2⟩ := b8_sign hl
  have cP := prefix_any l W0 hl (by omega)
  have cR := fun (W : World) (h2 : ML W) => read_any (signM l).2 W h2 s1 (by omega)
  rw [h] at cR
  generalize (signM l).2 = t at *
  generalize (signM l).1 = neg at *
  have q1 : ((bs l).size : Int) ≤ 20000 := by rw [bs_size]; omega
  go_enter Try.func4, Try.ntmps4
  go_upto_region 1 with fail
  rw [EW.out]
  clear EW
  go_upto_region 4 with (go_at_call 20; refine cP.mono ?_; rintro e w1 ⟨rfl, hb1⟩)
  go_upto_region 5 with (go_at_call 21; refine (cR _ (hm0.below hb1)).mono ?_; rintro e w2 ⟨⟨o1, c1, o2, c2, rfl, r1, r2⟩, hb2⟩)
  have H2 := bt hb1 hb2
  have cM := make_no neg (nl n) (nl 0) o1 o2 c1 c2 w2 r2 (small_nl _) (by decide +kernel) (val_nl 0)
  go_upto_region 8 with (go_at_call 15; refine cM.mono ?_; rintro e w3 ⟨rfl, hb3⟩)
  obtain ⟨W3, eW3, B3, k3⟩ := one_new w3 (.cells #[.bool false, .int .u64 0, .int .u64 0, .pointer none] 28)
  rw [eW3]
  have H3 := bt H2 (bt hb3 B3)
  have K2 := box_kept k0 H3 (in_heap k0)
  have B2 := bt hb0 H3
  have e0 := cell_at K2
  have a0 : W3.cell? ⟨w.heap.size, 0, none⟩ = some (.bool false) := e0 0 _ rfl
  have a1 : W3.cell? ⟨w.heap.size, 1, none⟩ = some (.int .u64 0) := e0 1 _ rfl
  have a2 : W3.cell? ⟨w.heap.size, 2, none⟩ = some (.int .u64 0) := e0 2 _ rfl
  have a3 : W3.cell? ⟨w.heap.size, 3, none⟩ = some (.pointer none) := e0 3 _ rfl
  have ff := nofreeze K2
  clear e0 hb1 hb2 cP cR hm0 hm H2 k0 hb0 cM eW3 k3 B3 H3 hb3
  go_wp2
  have k2 := sto4_box K2 (.bool false) (.int .u64 0) (.int .u64 0) (.pointer none)
  have hB := sto4_below B2 (Nat.le_refl _) (.bool false) (.int .u64 0) (.int .u64 0) (.pointer none)
  clear a0 a1 a2 a3 ff
  generalize World.setCell _ _ _ = W' at *
  have gg := cell_at k2
  have z0 : W'.cell? ⟨w.heap.size, 0, none⟩ = some (.bool false) := gg 0 _ rfl
  have z1 : W'.cell? ⟨w.heap.size, 1, none⟩ = some (.int .u64 0) := gg 1 _ rfl
  have z2 : W'.cell? ⟨w.heap.size, 2, none⟩ = some (.int .u64 0) := gg 2 _ rfl
  have z3 : W'.cell? ⟨w.heap.size, 3, none⟩ = some (.pointer none) := gg 3 _ rfl
  refine bodyPost_ret (v := .tuple #[.agg #[.bool false, .int .u64 0, .int .u64 0, .pointer none], .int .i64 3]) ?_ rfl ?_
  · simp [results, go_sem, z0, z1, z2, z3]
  · exact ⟨rfl, hB⟩
set_option maxRecDepth 20000 in
theorem parse_some (l : List Nat) (n d : Nat) (w : World) (hm : ML w) (hl : B8 l) (hs : l.length ≤ 20000) (h : readM (signM l).2 = some (n, d)) (hd : d ≠ 0) :
    Calls Try.prog 4 #[.string (bs l)] w fun e w' => ∃ v, e = .returned (.tuple #[v, .int .i64 0]) ∧ IsR w' v (lowM (signM l).1 n d) ∧ Below w.heap.size w w' := by
  obtain ⟨W0, eW0, hb0, k0⟩ := one_new w (.cells #[.bool false, .int .u64 0, .int .u64 0, .pointer none] 28)
  have EW : Hid (_ = W0) := eW0
  have hm0 := hm.below hb0
  clear eW0
  obtain ⟨s1, s2⟩ := b8_sign hl
  obtain ⟨z1, z2⟩ := read_len s1 h (by omega)
  have cP := prefix_any l W0 hl (by omega)
  have cR := fun (W : World) (h2 : ML W) => read_any (signM l).2 W h2 s1 (by omega)
  rw [h] at cR
  generalize (signM l).2 = t at *
  generalize (signM l).1 = neg at *
  have q1 : ((bs l).size : Int) ≤ 20000 := by rw [bs_size]; omega
  have cM := fun (W : World) (o1 : Option Addr) (c1 : Nat) (o2 : Option Addr) (c2 : Nat) (l1 : Lies W o1 c1 (ints .u32 (nl n))) (l2 : Lies W o2 c2 (ints .u32 (nl d))) => make_any neg (nl n) (nl d) o1 o2 c1 c2 W l1 l2 (small_nl _) (small_nl _) (by omega) (by omega) (by rw [val_nl]; exact hd)
  rw [val_nl, val_nl] at cM
  go_enter Try.func4, Try.ntmps4
  go_upto_region 1 with fail
  rw [EW.out]
  clear EW
  go_upto_region 4 with (go_at_call 20; refine cP.mono ?_; rintro e w1 ⟨rfl, hb1⟩)
  go_upto_region 5 with (go_at_call 21; refine (cR _ (hm0.below hb1)).mono ?_; rintro e w2 ⟨⟨o1, c1, o2, c2, rfl, r1, r2⟩, hb2⟩)
  have H2 := bt hb1 hb2
  go_upto_region 8 with (go_at_call 15; refine (cM _ o1 c1 o2 c2 r1 r2).mono ?_; rintro e w3 ⟨v3, rfl, R3, hb3⟩; obtain ⟨vb, vA, vL, vp, rfl⟩ := IsR.shape4 (p := lowM neg n d) R3)
  obtain ⟨W3, eW3, B3, k3⟩ := one_new w3 (.cells #[.bool vb, .int .u64 vA, .int .u64 vL, .pointer vp] 28)
  rw [eW3]
  have R4 : IsR W3 (.agg #[.bool vb, .int .u64 vA, .int .u64 vL, .pointer vp]) (lowM neg n d) := IsR.below (p := lowM neg n d) R3 B3
  have H3 := bt H2 (bt hb3 B3)
  have K2 := box_kept k0 H3 (in_heap k0)
  have B2 := bt hb0 H3
  have hne : w3.heap.size ≠ w.heap.size := by
    have h1 := in_heap k0
    have h2 := (bt H2 hb3).size
    omega
  have e0 := cell_at K2
  have a0 : W3.cell? ⟨w.heap.size, 0, none⟩ = some (.bool false) := e0 0 _ rfl
  have a1 : W3.cell? ⟨w.heap.size, 1, none⟩ = some (.int .u64 0) := e0 1 _ rfl
  have a2 : W3.cell? ⟨w.heap.size, 2, none⟩ = some (.int .u64 0) := e0 2 _ rfl
  have a3 : W3.cell? ⟨w.heap.size, 3, none⟩ = some (.pointer none) := e0 3 _ rfl
  have ff := nofreeze K2
  have f0 := cell_at k3
  have b0 : W3.cell? ⟨w3.heap.size, 0, none⟩ = some (.bool vb) := f0 0 _ rfl
  have b1 : W3.cell? ⟨w3.heap.size, 1, none⟩ = some (.int .u64 vA) := f0 1 _ rfl
  have b2 : W3.cell? ⟨w3.heap.size, 2, none⟩ = some (.int .u64 vL) := f0 2 _ rfl
  have b3 : W3.cell? ⟨w3.heap.size, 3, none⟩ = some (.pointer vp) := f0 3 _ rfl
  clear e0 f0 hb1 hb2 cP cR hm0 hm H2 k0 hb0 cM eW3 k3 B3 H3 hb3 R3 r1 r2 z1 z2
  go_wp2
  have k2 := sto4_box K2 (.bool vb) (.int .u64 vA) (.int .u64 vL) (.pointer vp)
  have hB := sto4_below B2 (Nat.le_refl _) (.bool vb) (.int .u64 vA) (.int .u64 vL) (.pointer vp)
  have hR := R4.offP (plain4 K2) (sto4_off W3 w.heap.size (.bool vb) (.int .u64 vA) (.int .u64 vL) (.pointer vp)).1 (sto4_off W3 w.heap.size (.bool vb) (.int .u64 vA) (.int .u64 vL) (.pointer vp)).2
  clear a0 a1 a2 a3 ff b0 b1 b2 b3
  generalize World.setCell _ _ _ = W' at *
  have gg := cell_at k2
  have z0 : W'.cell? ⟨w.heap.size, 0, none⟩ = some (.bool vb) := gg 0 _ rfl
  have z1 : W'.cell? ⟨w.heap.size, 1, none⟩ = some (.int .u64 vA) := gg 1 _ rfl
  have z2 : W'.cell? ⟨w.heap.size, 2, none⟩ = some (.int .u64 vL) := gg 2 _ rfl
  have z3 : W'.cell? ⟨w.heap.size, 3, none⟩ = some (.pointer vp) := gg 3 _ rfl
  refine bodyPost_ret (v := .tuple #[.agg #[.bool vb, .int .u64 vA, .int .u64 vL, .pointer vp], .int .i64 0]) ?_ rfl ?_
  · simp [results, go_sem, z0, z1, z2, z3]
  · exact ⟨_, rfl, hR, hB⟩
theorem tx1 : tx 1 = [49] := by unfold tx; rw [if_neg (by omega), dl_pos (by omega), show 1 / 10 = 0 from rfl, dl_zero]; rfl
theorem tx2 : tx 2 = [50] := by unfold tx; rw [if_neg (by omega), dl_pos (by omega), show 2 / 10 = 0 from rfl, dl_zero]; rfl
theorem aw_read : readM (signM [45, 48, 46, 53, 48]).2 = some (50, 100) := by decide +kernel
theorem aw_low : lowM (signM [45, 48, 46, 53, 48]).1 50 100 = ⟨true, 1, 2⟩ := by
  have e : Nat.gcd 50 100 = 50 := by decide +kernel
  unfold lowM
  rw [e]
  rfl
theorem aw_prn : bs (prn true 1 2) = ByteArray.mk #[45, 49, 47, 50] := by unfold prn; rw [tx1, tx2]; rfl
theorem aw_smt : bs (smtN true 1 2) = ByteArray.mk #[40, 45, 32, 40, 47, 32, 49, 32, 50, 41, 41] := by unfold smtN; rw [tx1, tx2]; rfl
end Go.Proofs.Ytefckmkcbgckfab.PbL

/- rtext: what is printed is read back. -/
namespace Go.Proofs.Ytefckmkcbgckfab.BkL
open Go.RowKit Mem LimbNum Limb1 DigNum DigL StrL TxN ShelfC RatL RatM RatN NmL QNum PaL PtL PbL VqN RText

theorem tx_nb (n k : Nat) (h : (nb n).length ≤ k) (hk : 1 ≤ k) : (tx n).length ≤ k := by
  have := dl_nb n
  unfold tx
  split
  · exact hk
  · omega
theorem prn_len (p : Nm) (k : Nat) (h : Fits p k) (hk : 1 ≤ k) : (prn p.b p.n p.d).length ≤ 2 * k + 2 := by
  have h1 := tx_nb p.n k h.2.1 hk
  have h2 := tx_nb p.d k h.2.2 hk
  unfold prn
  rw [List.length_append, List.length_append]
  split <;> split <;> simp <;> omega
theorem back_any (p : Nm) (k : Nat) (hk : k ≤ 5000) (h1 : 1 ≤ k) (w : World) (hm : ML w) (f : Fits p k) (lo : Low p.b p.n p.d) :
    Calls Try.prog 4 #[.string (bs (prn p.b p.n p.d))] w fun e w' => ∃ v, e = .returned (.tuple #[v, .int .i64 0]) ∧ IsR w' v p ∧ Below w.heap.size w w' := by
  have hl := prn_len p k f h1
  have h := parse_some (prn p.b p.n p.d) p.n p.d w hm (b8_prn _ _ _) (by omega) (by rw [sign_prn]; exact read_prn p.n p.d) f.pos
  rw [sign_prn] at h
  have e : lowM p.b p.n p.d = p := low_same lo
  dsimp only at h
  rw [e] at h
  exact h
theorem bs_ne {a b : List Nat} (ha : B8 a) (hb : B8 b) (h : a ≠ b) : ¬ bs a = bs b ∧ ¬ (bs a).toList = (bs b).toList ∧ ((bs a).toList == (bs b).toList) = false := by
  have n1 : ¬ bs a = bs b := fun e => h (bs_inj ha hb e)
  have n2 : ¬ (bs a).toList = (bs b).toList := by
    rw [ByteArray.toList_eq, ByteArray.toList_eq]
    intro e
    apply n1
    apply ByteArray.ext
    exact Array.toList_inj.1 e
  exact ⟨n1, n2, beq_eq_false_iff_ne.2 n2⟩
end Go.Proofs.Ytefckmkcbgckfab.BkL
