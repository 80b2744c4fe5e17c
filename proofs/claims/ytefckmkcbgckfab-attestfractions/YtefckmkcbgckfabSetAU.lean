/- The inverse of a rational number, quotients; the sign that the document tells; Quotients of rational numbers; the sign that the document tells; Numbers with a sign: sums, order; The document's rational numbers: sums of sizes with signs, the opposite; The document's rational numbers: the opposite. -/
import Derived.Test.YtefckmkcbgckfabSetAR
import Derived.Test.YtefckmkcbgckfabSetAT
import Derived.Test.YtefckmkcbgckfabSetAG
/- The inverse of a rational number, quotients; the sign that the document tells. -/
namespace Go.Proofs.Ytefckmkcbgckfab.InvL
open Go.RowKit Mem LimbNum RatL RatM RatN RatF MulN MulW MulL RefR RefT RefU

theorem five_same {W w5 : World} {g : Nat} {a b c d : Value} (hb : Below W.heap.size W w5) (H : W.cell? ⟨g, 0, none⟩ = some a ∧ W.cell? ⟨g, 1, none⟩ = some b ∧ W.cell? ⟨g, 2, none⟩ = some c ∧ W.cell? ⟨g, 3, none⟩ = some d) :
    w5.cell? ⟨g, 0, none⟩ = some a ∧ w5.cell? ⟨g, 1, none⟩ = some b ∧ w5.cell? ⟨g, 2, none⟩ = some c ∧ w5.cell? ⟨g, 3, none⟩ = some d := by
  have kc : ∀ {p : Addr} {v : Value}, W.cell? p = some v → w5.cell? p = some v := fun {p v} h => by rw [hb.cell (World.block_lt_of_cell? W p h)]; exact h
  exact ⟨kc H.1, kc H.2.1, kc H.2.2.1, kc H.2.2.2⟩
theorem four_off {W W' : World} {g : Nat} {a b c d : Value} (hg : W'.heap[g]? = W.heap[g]?) (H : W.cell? ⟨g, 0, none⟩ = some a ∧ W.cell? ⟨g, 1, none⟩ = some b ∧ W.cell? ⟨g, 2, none⟩ = some c ∧ W.cell? ⟨g, 3, none⟩ = some d) :
    W'.cell? ⟨g, 0, none⟩ = some a ∧ W'.cell? ⟨g, 1, none⟩ = some b ∧ W'.cell? ⟨g, 2, none⟩ = some c ∧ W'.cell? ⟨g, 3, none⟩ = some d := by
  simp only [World.cell?, hg] at H ⊢
  exact H
theorem mix_kept {W w5 : World} {k g : Nat} {a b c d : Value} (hb : Below W.heap.size W w5) (H : W.cell? ⟨k, 0, none⟩ = some a ∧ W.cell? ⟨k, 3, none⟩ = some b ∧ W.cell? ⟨g, 0, none⟩ = some c ∧ W.cell? ⟨g, 1, none⟩ = some d) : w5.cell? ⟨k, 0, none⟩ = some a ∧ w5.cell? ⟨k, 3, none⟩ = some b ∧ w5.cell? ⟨g, 0, none⟩ = some c ∧ w5.cell? ⟨g, 1, none⟩ = some d := by
  have kc : ∀ {p : Addr} {v : Value}, W.cell? p = some v → w5.cell? p = some v := fun {p v} h => by rw [hb.cell (World.block_lt_of_cell? W p h)]; exact h
  exact ⟨kc H.1, kc H.2.1, kc H.2.2.1, kc H.2.2.2⟩
theorem mix_off {W w5 : World} {k g : Nat} {a b c d : Value} (hk : w5.heap[k]? = W.heap[k]?) (hg : w5.heap[g]? = W.heap[g]?) (H : W.cell? ⟨k, 0, none⟩ = some a ∧ W.cell? ⟨k, 3, none⟩ = some b ∧ W.cell? ⟨g, 0, none⟩ = some c ∧ W.cell? ⟨g, 1, none⟩ = some d) : w5.cell? ⟨k, 0, none⟩ = some a ∧ w5.cell? ⟨k, 3, none⟩ = some b ∧ w5.cell? ⟨g, 0, none⟩ = some c ∧ w5.cell? ⟨g, 1, none⟩ = some d := by
  simp only [World.cell?, hk, hg] at H ⊢
  exact H
/-- The opposite of being in lowest terms. -/
theorem low_turn {b : Bool} {n d : Nat} (h : Low b n d) (hn : n ≠ 0) : Low b d n := ⟨by omega, by rw [Nat.gcd_comm]; exact h.one, fun e => by have := h.pos; omega⟩
theorem zero_rat (w : World) : IsRat w (.agg #[.bool false, .int .u64 0, .int .u64 0, .pointer none]) false 0 1 := ⟨⟨by omega, by decide, fun _ => rfl⟩, .inl ⟨by omega, by omega, rfl⟩⟩
theorem sgn_ne {b : Bool} {n : Nat} (h : n ≠ 0) : (sgn b n == 0) = false := by unfold sgn; cases b <;> simp [h]
theorem sgn_zero {b : Bool} (h : b = false) : sgn b 0 = 0 := by subst h; simp [sgn]
set_option maxRecDepth 20000 in
set_option maxHeartbeats 1000000 in
theorem inv_no (v : Value) (b : Bool) (d : Nat) (w : World) (h : IsRat w v b 0 d) :
    Calls Try.prog 37 #[v] w fun e w' => e = .returned (.tuple #[.agg #[.bool false, .int .u64 0, .int .u64 0, .pointer none], .bool false]) ∧ Below w.heap.size w w' := by
  obtain ⟨A, L, p, rfl⟩ := h.shape
  have hs := sgn_zero (h.1.sg rfl)
  obtain ⟨W0, eW0⟩ : ∃ W0 : World, (w.alloc (.cells #[.bool b, .int .u64 A, .int .u64 L, .pointer p] 28)).alloc (.cells #[.bool false, .int .u64 0, .int .u64 0, .pointer none] 28) = W0 := ⟨_, rfl⟩
  have hb0 : Below w.heap.size w W0 := by rw [← eW0]; exact ((Below.refl _ _).alloc (Nat.le_refl _) _).alloc (by simp) _
  have z1 : (w.alloc (.cells #[.bool b, .int .u64 A, .int .u64 L, .pointer p] 28)).heap.size = w.heap.size + 1 := by simp
  have k0 : W0.heap[w.heap.size]? = some (box4 (.bool b) (.int .u64 A) (.int .u64 L) (.pointer p)) := by rw [← eW0, heap_alloc_old _ _ (by omega)]; exact box_new _ _ _ _ _
  have k1 : W0.heap[w.heap.size + 1]? = some (box4 (.bool false) (.int .u64 0) (.int .u64 0) (.pointer none)) := by rw [← eW0, ← z1]; exact box_new _ _ _ _ _
  have cS := sign_any _ b 0 d W0 (h.below hb0)
  rw [hs] at cS
  have HK1 : Hid (W0.heap[w.heap.size + 1]? = some (box4 (.bool false) (.int .u64 0) (.int .u64 0) (.pointer none))) := k1
  obtain ⟨a0, a1, a2, a3⟩ := box0 k0
  have EW : Hid ((w.alloc (.cells #[.bool b, .int .u64 A, .int .u64 L, .pointer p] 28)).alloc (.cells #[.bool false, .int .u64 0, .int .u64 0, .pointer none] 28) = W0) := eW0
  clear h eW0 z1 k0 k1 hs
  go_enter Try.func37, Try.ntmps37
  go_upto_region 1 with fail
  rw [EW.out]
  go_wp2_with (go_at_call 33; refine cS.mono ?_; rintro e w1 ⟨rfl, hb1⟩; have q1 := box_kept HK1.out hb1 (in_heap HK1.out); obtain ⟨c0, c1, c2, c3⟩ := box0 q1; have ff := boxF q1; have HQ : Hid (w1.heap[w.heap.size + 1]? = some (box4 (.bool false) (.int .u64 0) (.int .u64 0) (.pointer none))) := q1; clear q1)
  have k2 := box_set HQ.out (.bool false) (.int .u64 0) (.int .u64 0) (.pointer none)
  have hB := box_below (bt hb0 hb1) (Nat.le_succ _) (.bool false) (.int .u64 0) (.int .u64 0) (.pointer none)
  generalize World.setCell _ _ _ = W' at *
  obtain ⟨g0, g1, g2, g3⟩ := box0 k2
  refine bodyPost_ret (v := .tuple #[.agg #[.bool false, .int .u64 0, .int .u64 0, .pointer none], .bool false]) ?_ rfl ?_
  · simp [results, go_sem, g0, g1, g2, g3]
  · exact ⟨rfl, hB⟩
set_option maxRecDepth 20000 in
set_option maxHeartbeats 1000000 in
theorem inv_yes (v : Value) (b : Bool) (n d : Nat) (w : World) (h : IsRat w v b n d) (hn : n ≠ 0) :
    Calls Try.prog 37 #[v] w fun e w' => ∃ v', e = .returned (.tuple #[v', .bool true]) ∧ IsRat w' v' b d n ∧ Below w.heap.size w w' := by
  have HL : Hid (Low b d n) := low_turn h.1 hn
  have hd := h.1.pos
  obtain ⟨A, L, p, rfl⟩ := h.shape
  obtain ⟨W0, eW0⟩ : ∃ W0 : World, (w.alloc (.cells #[.bool b, .int .u64 A, .int .u64 L, .pointer p] 28)).alloc (.cells #[.bool false, .int .u64 0, .int .u64 0, .pointer none] 28) = W0 := ⟨_, rfl⟩
  have hb0 : Below w.heap.size w W0 := by rw [← eW0]; exact ((Below.refl _ _).alloc (Nat.le_refl _) _).alloc (by simp) _
  have z1 : (w.alloc (.cells #[.bool b, .int .u64 A, .int .u64 L, .pointer p] 28)).heap.size = w.heap.size + 1 := by simp
  have k0 : W0.heap[w.heap.size]? = some (box4 (.bool b) (.int .u64 A) (.int .u64 L) (.pointer p)) := by rw [← eW0, heap_alloc_old _ _ (by omega)]; exact box_new _ _ _ _ _
  have k1 : W0.heap[w.heap.size + 1]? = some (box4 (.bool false) (.int .u64 0) (.int .u64 0) (.pointer none)) := by rw [← eW0, ← z1]; exact box_new _ _ _ _ _
  have h0 := h.below hb0
  have cS := sign_any _ b n d W0 h0
  have hs := sgn_ne (b := b) hn
  generalize sgn b n = S at *
  have HK1 : Hid (W0.heap[w.heap.size + 1]? = some (box4 (.bool false) (.int .u64 0) (.int .u64 0) (.pointer none))) := k1
  have HK0 : Hid (W0.heap[w.heap.size]? = some (box4 (.bool b) (.int .u64 A) (.int .u64 L) (.pointer p))) := k0
  obtain ⟨a0, a1, a2, a3⟩ := box0 k0
  have EW : Hid ((w.alloc (.cells #[.bool b, .int .u64 A, .int .u64 L, .pointer p] 28)).alloc (.cells #[.bool false, .int .u64 0, .int .u64 0, .pointer none] 28) = W0) := eW0
  have ne1 : w.heap.size ≠ w.heap.size + 1 := by omega
  clear eW0 z1 k0 k1
  obtain ⟨_, ⟨hn1, hd1, e⟩ | ⟨hnf, g, o1, c1, o2, c2, e, hg, q1, q2, l1, l2⟩⟩ := h0
  · simp only [Value.agg.injEq, Array.mk.injEq, List.cons.injEq, Value.int.injEq, Value.pointer.injEq, and_true, true_and] at e
    obtain ⟨rfl, rfl, rfl⟩ := e
    have cD := fun (W : World) => den_any b (n : Int) (d : Int) none W (by omega) (by omega)
    have cSh := fun (W : World) => short_any b d n W (by omega) hn1
    rw [show decide (d ≠ 0) = true from decide_eq_true (by omega), Bool.and_true] at cSh
    clear h
    have HWd : Hid (n < 18446744073709551616 ∧ d < 18446744073709551616) := ⟨hn1, hd1⟩
    clear hn1 hd1 hd hn
    go_enter Try.func37, Try.ntmps37
    go_upto_region 1 with fail
    rw [EW.out]
    go_upto_region 5 with (go_at_call 33; refine cS.mono ?_; rintro e w1 ⟨rfl, hb1⟩; have q0 := box_kept HK0.out hb1 (in_heap HK0.out); obtain ⟨c0, c1, c2, c3⟩ := box0 q0)
    have s0 : w1.drew.cell? ⟨w.heap.size, 0, none⟩ = some (.bool b) ∧ w1.drew.cell? ⟨w.heap.size, 1, none⟩ = some (.int .u64 (n : Int)) ∧ w1.drew.cell? ⟨w.heap.size, 2, none⟩ = some (.int .u64 ((d : Int) - 1)) ∧ w1.drew.cell? ⟨w.heap.size, 3, none⟩ = some (.pointer none) := ⟨c0, c1, c2, c3⟩
    have d1 : Below w1.heap.size w1 w1.drew := (Below.refl _ _).drew
    clear c0 c1 c2 c3 q0 a0 a1 a2 a3
    go_region_held3 (fun w' => w'.cell? ⟨w.heap.size, 0, none⟩ = some (.bool b) ∧ w'.cell? ⟨w.heap.size, 1, none⟩ = some (.int .u64 (n : Int)) ∧ w'.cell? ⟨w.heap.size, 2, none⟩ = some (.int .u64 ((d : Int) - 1)) ∧ w'.cell? ⟨w.heap.size, 3, none⟩ = some (.pointer none))
      (first | with_reducible exact s0 | with_reducible exact s1 | with_reducible exact s2 | with_reducible exact s3) (first
      | (go_at_call 59; refine (cD _).mono ?_; rintro e w2 ⟨rfl, hb2⟩; have s1 := five_same hb2 s0)
      | (go_at_call 62; refine (cSh _).mono ?_; rintro e w3 ⟨rfl, hb3⟩; have s2 := five_same hb3 s1; have C3 := bt hb1 (bt d1 (bt hb2 hb3)); have kk := box_kept HK1.out C3 (in_heap HK1.out); obtain ⟨c0, c1, c2, c3⟩ := box0 kk; have ff := boxF kk; have s3 := four_off ((set4_off w3 (w.heap.size + 1) (.bool b) (.int .u64 (d : Int)) (.int .u64 ((n : Int) - 1)) (.pointer none)).1 _ ne1) s2; have HKK : Hid (w3.heap[w.heap.size + 1]? = some (box4 (.bool false) (.int .u64 0) (.int .u64 0) (.pointer none))) := kk; have HC3 : Hid (Below W0.heap.size W0 w3) := C3; clear kk C3))
    all_goals go_wp2
    have k2 := box_set HKK.out (.bool b) (.int .u64 (d : Int)) (.int .u64 ((n : Int) - 1)) (.pointer none)
    have hB := box_below (bt hb0 HC3.out) (Nat.le_succ _) (.bool b) (.int .u64 (d : Int)) (.int .u64 ((n : Int) - 1)) (.pointer none)
    generalize World.setCell _ _ _ = W' at *
    obtain ⟨g0, g1, g2, g3⟩ := box0 k2
    refine bodyPost_ret (v := .tuple #[.agg #[.bool b, .int .u64 (d : Int), .int .u64 ((n : Int) - 1), .pointer none], .bool true]) ?_ rfl ?_
    · simp [results, go_sem, g0, g1, g2, g3]
    · exact ⟨_, rfl, ⟨HL.out, .inl ⟨HWd.out.2, HWd.out.1, rfl⟩⟩, hB⟩
  · simp only [Value.agg.injEq, Array.mk.injEq, List.cons.injEq, Value.int.injEq, Value.pointer.injEq, and_true, true_and] at e
    obtain ⟨rfl, rfl, rfl⟩ := e
    clear h
    have HLs : Hid (Lies W0 o1 c1 (ints .u32 (nl n)) ∧ Lies W0 o2 c2 (ints .u32 (nl d)) ∧ ¬ (n < 18446744073709551616 ∧ d < 18446744073709551616)) := ⟨l1, l2, hnf⟩
    have HQ : Hid (W0.cell? ⟨g, 0, none⟩ = some (.slice o1 (nl n).length c1) ∧ W0.cell? ⟨g, 1, none⟩ = some (.slice o2 (nl d).length c2)) := ⟨q1, q2⟩
    have hgne : g ≠ w.heap.size + 1 := by
      rintro rfl
      exact (box_cells HK1.out q1).2 _ _ _ rfl
    clear l1 l2 hnf q1 q2 hd hn
    obtain ⟨ln, eln⟩ : ∃ x, (nl n).length = x := ⟨_, rfl⟩
    obtain ⟨ld, eld⟩ : ∃ x, (nl d).length = x := ⟨_, rfl⟩
    rw [eln, eld] at HQ
    have HLn : Hid ((nl n).length = ln ∧ (nl d).length = ld) := ⟨eln, eld⟩
    clear eln eld
    go_enter Try.func37, Try.ntmps37
    go_upto_region 1 with fail
    rw [EW.out]
    go_upto_region 4 with (go_at_call 33; refine cS.mono ?_; rintro e w1 ⟨rfl, hb1⟩; have q0 := box_kept HK0.out hb1 (in_heap HK0.out); obtain ⟨y0, y1, y2, y3⟩ := box0 q0)
    have kc : ∀ {p : Addr} {v : Value}, W0.cell? p = some v → w1.cell? p = some v := fun {p v} h => by rw [hb1.cell (World.block_lt_of_cell? W0 p h)]; exact h
    have s0 : w1.drew.cell? ⟨w.heap.size, 0, none⟩ = some (.bool b) ∧ w1.drew.cell? ⟨w.heap.size, 3, none⟩ = some (.pointer (some ⟨g, 0, none⟩)) ∧ w1.drew.cell? ⟨g, 0, none⟩ = some (.slice o1 ln c1) ∧ w1.drew.cell? ⟨g, 1, none⟩ = some (.slice o2 ld c2) := ⟨y0, y3, kc HQ.out.1, kc HQ.out.2⟩
    have bA : Below w1.heap.size w1 ((w1.alloc (.cells #[.slice o2 ld c2, .slice o1 ln c1] 88)).drew) := ((Below.refl _ _).alloc (Nat.le_refl _) _).drew
    have s1 : (w1.alloc (.cells #[.slice o2 ld c2, .slice o1 ln c1] 88)).drew.cell? ⟨w.heap.size, 0, none⟩ = some (.bool b) ∧ (w1.alloc (.cells #[.slice o2 ld c2, .slice o1 ln c1] 88)).drew.cell? ⟨w.heap.size, 3, none⟩ = some (.pointer (some ⟨g, 0, none⟩)) ∧ (w1.alloc (.cells #[.slice o2 ld c2, .slice o1 ln c1] 88)).drew.cell? ⟨g, 0, none⟩ = some (.slice o1 ln c1) ∧ (w1.alloc (.cells #[.slice o2 ld c2, .slice o1 ln c1] 88)).drew.cell? ⟨g, 1, none⟩ = some (.slice o2 ld c2) := mix_kept bA (W := w1) s0
    have kk : (w1.alloc (.cells #[.slice o2 ld c2, .slice o1 ln c1] 88)).drew.heap[w.heap.size + 1]? = some (box4 (.bool false) (.int .u64 0) (.int .u64 0) (.pointer none)) := box_kept (box_kept HK1.out hb1 (in_heap HK1.out)) bA (in_heap (box_kept HK1.out hb1 (in_heap HK1.out)))
    have kn : (w1.alloc (.cells #[.slice o2 ld c2, .slice o1 ln c1] 88)).drew.heap[w1.heap.size]? = some (.cells #[.slice o2 ld c2, .slice o1 ln c1] 88) := heap_alloc_new w1 _
    have f4 := set4_off ((w1.alloc (.cells #[.slice o2 ld c2, .slice o1 ln c1] 88)).drew) (w.heap.size + 1) (.bool b) (.int .u64 0) (.int .u64 0) (.pointer (some ⟨w1.heap.size, 0, none⟩))
    have s2 := mix_off (f4.1 _ ne1) (f4.1 _ hgne) s1
    have k2 := box_set kk (.bool b) (.int .u64 0) (.int .u64 0) (.pointer (some ⟨w1.heap.size, 0, none⟩))
    have hB := box_below (bt (bt hb0 hb1) bA) (Nat.le_succ _) (.bool b) (.int .u64 0) (.int .u64 0) (.pointer (some ⟨w1.heap.size, 0, none⟩))
    have wlt : w.heap.size + 1 < w1.heap.size := in_heap (box_kept HK1.out hb1 (in_heap HK1.out))
    have hIs : IsRat ((w1.alloc (.cells #[.slice o2 ld c2, .slice o1 ln c1] 88)).drew) (.agg #[.bool b, .int .u64 0, .int .u64 0, .pointer (some ⟨w1.heap.size, 0, none⟩)]) b d n := by
      have hc : (w1.alloc (.cells #[.slice o2 ld c2, .slice o1 ln c1] 88)).drew.cell? ⟨w1.heap.size, 0, none⟩ = some (.slice o2 ld c2) ∧ (w1.alloc (.cells #[.slice o2 ld c2, .slice o1 ln c1] 88)).drew.cell? ⟨w1.heap.size, 1, none⟩ = some (.slice o1 ln c1) := by
        constructor <;> simp only [World.cell?, kn] <;> rfl
      have b1 := bt hb1 bA
      exact ⟨HL.out, .inr ⟨fun h => HLs.out.2.2 ⟨h.2, h.1⟩, w1.heap.size, o2, c2, o1, c1, rfl, in_heap kn, by rw [HLn.out.2]; exact hc.1, by rw [HLn.out.1]; exact hc.2, HLs.out.2.1.below b1 (Nat.le_refl _), HLs.out.1.below b1 (Nat.le_refl _)⟩⟩
    have hR2 := hIs.set4 kk (.bool b) (.int .u64 0) (.int .u64 0) (.pointer (some ⟨w1.heap.size, 0, none⟩))
    have eqW : (((((w1.alloc (.cells #[.slice o2 ld c2, .slice o1 ln c1] 88)).drew.setCell ⟨w.heap.size + 1, 0, none⟩ (.bool b)).setCell ⟨w.heap.size + 1, 1, none⟩ (.int .u64 0)).setCell ⟨w.heap.size + 1, 2, none⟩ (.int .u64 0)).setCell ⟨w.heap.size + 1, 3, none⟩ (.pointer (some ⟨w1.heap.size, 0, none⟩))) = (((((w1.setCell ⟨w.heap.size + 1, 0, none⟩ (.bool b)).setCell ⟨w.heap.size + 1, 1, none⟩ (.int .u64 0)).setCell ⟨w.heap.size + 1, 2, none⟩ (.int .u64 0)).setCell ⟨w.heap.size + 1, 3, none⟩ (.pointer (some ⟨w1.heap.size, 0, none⟩))).alloc (.cells #[.slice o2 ld c2, .slice o1 ln c1] 88)).drew := by
      simp [go_sem, wlt]
    rw [eqW] at s2 k2 hB hR2
    have HF : Hid (_ ∧ _ ∧ _) := ⟨k2, hB, hR2⟩
    clear eqW
    obtain ⟨x0, x1, x2, x3⟩ := box0 kk
    have ff := boxF kk
    have kw := box_kept HK1.out hb1 (in_heap HK1.out)
    obtain ⟨v0, v1, v2, v3⟩ := box0 kw
    have gf := boxF kw
    clear k2 hB hR2 hIs kk kn f4 kw y0 y1 y2 y3 q0 a0 a1 a2 a3 bA kc
    go_region_held3 (fun w' => w'.cell? ⟨w.heap.size, 0, none⟩ = some (.bool b) ∧ w'.cell? ⟨w.heap.size, 3, none⟩ = some (.pointer (some ⟨g, 0, none⟩)) ∧ w'.cell? ⟨g, 0, none⟩ = some (.slice o1 ln c1) ∧ w'.cell? ⟨g, 1, none⟩ = some (.slice o2 ld c2)) (first | with_reducible exact s0 | with_reducible exact s1 | with_reducible exact s2) (fail)
    all_goals go_wp2
    obtain ⟨k2, hB, hR2⟩ := HF.out
    generalize World.setCell _ _ _ = W' at *
    obtain ⟨g0, g1, g2, g3⟩ := box0 k2
    refine bodyPost_ret (v := .tuple #[.agg #[.bool b, .int .u64 0, .int .u64 0, .pointer (some ⟨w1.heap.size, 0, none⟩)], .bool true]) ?_ rfl ?_
    · simp [results, go_sem, g0, g1, g2, g3]
    · exact ⟨_, rfl, hR2, hB⟩
end Go.Proofs.Ytefckmkcbgckfab.InvL

/- Quotients of rational numbers; the sign that the document tells. -/
namespace Go.Proofs.Ytefckmkcbgckfab.DivL
open Go.RowKit Mem LimbNum RatL RatM RatN RatF MulN MulW MulL RefR RefT RefU InvL

set_option maxRecDepth 20000 in
set_option maxHeartbeats 1000000 in
theorem div_no (v1 v2 : Value) (b1 b2 : Bool) (n1 d1 d2 : Nat) (w : World) (h1 : IsRat w v1 b1 n1 d1) (h2 : IsRat w v2 b2 0 d2) :
    Calls Try.prog 13 #[v1, v2] w fun e w' => e = .returned (.tuple #[.agg #[.bool false, .int .u64 0, .int .u64 0, .pointer none], .bool false]) ∧ Below w.heap.size w w' := by
  obtain ⟨A1, L1, p1, rfl⟩ := h1.shape
  obtain ⟨A2, L2, p2, rfl⟩ := h2.shape
  obtain ⟨W0, eW0⟩ : ∃ W0 : World, ((w.alloc (.cells #[.bool b1, .int .u64 A1, .int .u64 L1, .pointer p1] 28)).alloc (.cells #[.bool b2, .int .u64 A2, .int .u64 L2, .pointer p2] 28)).alloc (.cells #[.bool false, .int .u64 0, .int .u64 0, .pointer none] 28) = W0 := ⟨_, rfl⟩
  have hb0 : Below w.heap.size w W0 := by rw [← eW0]; exact (((Below.refl _ _).alloc (Nat.le_refl _) _).alloc (by simp) _).alloc (by simp; omega) _
  have z1 : (w.alloc (.cells #[.bool b1, .int .u64 A1, .int .u64 L1, .pointer p1] 28)).heap.size = w.heap.size + 1 := by simp
  have z2 : ((w.alloc (.cells #[.bool b1, .int .u64 A1, .int .u64 L1, .pointer p1] 28)).alloc (.cells #[.bool b2, .int .u64 A2, .int .u64 L2, .pointer p2] 28)).heap.size = w.heap.size + 1 + 1 := by simp
  have k0 : W0.heap[w.heap.size]? = some (box4 (.bool b1) (.int .u64 A1) (.int .u64 L1) (.pointer p1)) := by rw [← eW0, heap_alloc_old _ _ (by omega), heap_alloc_old _ _ (by omega)]; exact box_new _ _ _ _ _
  have k1 : W0.heap[w.heap.size + 1]? = some (box4 (.bool b2) (.int .u64 A2) (.int .u64 L2) (.pointer p2)) := by rw [← eW0, heap_alloc_old _ _ (by omega), ← z1]; exact box_new _ _ _ _ _
  have k2 : W0.heap[w.heap.size + 1 + 1]? = some (box4 (.bool false) (.int .u64 0) (.int .u64 0) (.pointer none)) := by rw [← eW0, ← z2]; exact box_new _ _ _ _ _
  have HK0 : Hid (W0.heap[w.heap.size]? = some (box4 (.bool b1) (.int .u64 A1) (.int .u64 L1) (.pointer p1))) := k0
  have HK2 : Hid (W0.heap[w.heap.size + 1 + 1]? = some (box4 (.bool false) (.int .u64 0) (.int .u64 0) (.pointer none))) := k2
  have EW : Hid (((w.alloc (.cells #[.bool b1, .int .u64 A1, .int .u64 L1, .pointer p1] 28)).alloc (.cells #[.bool b2, .int .u64 A2, .int .u64 L2, .pointer p2] 28)).alloc (.cells #[.bool false, .int .u64 0, .int .u64 0, .pointer none] 28) = W0) := eW0
  obtain ⟨e0, e1, e2, e3⟩ := box0 k1
  have cI := inv_no _ b2 d2 W0 (h2.below hb0)
  clear eW0 z1 z2 k0 k1 k2 h1 h2
  go_enter Try.func13, Try.ntmps13
  go_upto_region 1 with fail
  rw [EW.out]
  go_wp2_with (go_at_call 37; refine cI.mono ?_; rintro e w1 ⟨rfl, hb1⟩; have bA : Below w1.heap.size w1 (w1.alloc (.cells #[.bool false, .int .u64 0, .int .u64 0, .pointer none] 28)) := (Below.refl _ _).alloc (Nat.le_refl _) _; have kw := box_kept HK2.out hb1 (in_heap HK2.out); have kk := box_kept kw bA (in_heap kw); obtain ⟨c0, c1, c2, c3⟩ := box0 kk; have ff := boxF kk; have HKK : Hid ((w1.alloc (.cells #[.bool false, .int .u64 0, .int .u64 0, .pointer none] 28)).heap[w.heap.size + 1 + 1]? = some (box4 (.bool false) (.int .u64 0) (.int .u64 0) (.pointer none))) := kk; have HBA : Hid (Below w.heap.size w (w1.alloc (.cells #[.bool false, .int .u64 0, .int .u64 0, .pointer none] 28))) := bt (bt hb0 hb1) bA; clear kk kw bA)
  have q2 := box_set HKK.out (.bool false) (.int .u64 0) (.int .u64 0) (.pointer none)
  have hB := box_below HBA.out (show w.heap.size ≤ w.heap.size + 1 + 1 by omega) (.bool false) (.int .u64 0) (.int .u64 0) (.pointer none)
  generalize World.setCell _ _ _ = W' at *
  obtain ⟨g0, g1, g2, g3⟩ := box0 q2
  refine bodyPost_ret (v := .tuple #[.agg #[.bool false, .int .u64 0, .int .u64 0, .pointer none], .bool false]) ?_ rfl ?_
  · simp [results, go_sem, g0, g1, g2, g3]
  · exact ⟨rfl, hB⟩
set_option maxRecDepth 20000 in
set_option maxHeartbeats 1000000 in
theorem div_yes (v1 v2 : Value) (b1 b2 : Bool) (n1 d1 n2 d2 : Nat) (w : World) (h1 : IsRat w v1 b1 n1 d1) (h2 : IsRat w v2 b2 n2 d2) (hn : n2 ≠ 0) (l1 : (nl n1).length ≤ 35184372088832) (l2 : (nl d1).length ≤ 35184372088832) (l3 : (nl n2).length ≤ 35184372088832) (l4 : (nl d2).length ≤ 35184372088832) :
    Calls Try.prog 13 #[v1, v2] w fun e w' => ∃ v', e = .returned (.tuple #[v', .bool true]) ∧ IsRat w' v' ((b1 != b2) && decide (n1 * d2 / Nat.gcd (n1 * d2) (d1 * n2) ≠ 0)) (n1 * d2 / Nat.gcd (n1 * d2) (d1 * n2)) (d1 * n2 / Nat.gcd (n1 * d2) (d1 * n2)) ∧ Below w.heap.size w w' := by
  have cM := fun (W : World) (v : Value) (h : IsRat W v b2 d2 n2) (hb : Below w.heap.size w W) => rmul v1 v b1 b2 n1 d1 d2 n2 W (h1.below hb) h l1 l2 l4 l3
  generalize ((b1 != b2) && decide (n1 * d2 / Nat.gcd (n1 * d2) (d1 * n2) ≠ 0)) = b3 at *
  generalize n1 * d2 / Nat.gcd (n1 * d2) (d1 * n2) = N at *
  generalize d1 * n2 / Nat.gcd (n1 * d2) (d1 * n2) = D at *
  obtain ⟨A1, L1, p1, rfl⟩ := h1.shape
  obtain ⟨A2, L2, p2, rfl⟩ := h2.shape
  obtain ⟨W0, eW0⟩ : ∃ W0 : World, ((w.alloc (.cells #[.bool b1, .int .u64 A1, .int .u64 L1, .pointer p1] 28)).alloc (.cells #[.bool b2, .int .u64 A2, .int .u64 L2, .pointer p2] 28)).alloc (.cells #[.bool false, .int .u64 0, .int .u64 0, .pointer none] 28) = W0 := ⟨_, rfl⟩
  have hb0 : Below w.heap.size w W0 := by rw [← eW0]; exact (((Below.refl _ _).alloc (Nat.le_refl _) _).alloc (by simp) _).alloc (by simp; omega) _
  have z1 : (w.alloc (.cells #[.bool b1, .int .u64 A1, .int .u64 L1, .pointer p1] 28)).heap.size = w.heap.size + 1 := by simp
  have z2 : ((w.alloc (.cells #[.bool b1, .int .u64 A1, .int .u64 L1, .pointer p1] 28)).alloc (.cells #[.bool b2, .int .u64 A2, .int .u64 L2, .pointer p2] 28)).heap.size = w.heap.size + 1 + 1 := by simp
  have k0 : W0.heap[w.heap.size]? = some (box4 (.bool b1) (.int .u64 A1) (.int .u64 L1) (.pointer p1)) := by rw [← eW0, heap_alloc_old _ _ (by omega), heap_alloc_old _ _ (by omega)]; exact box_new _ _ _ _ _
  have k1 : W0.heap[w.heap.size + 1]? = some (box4 (.bool b2) (.int .u64 A2) (.int .u64 L2) (.pointer p2)) := by rw [← eW0, heap_alloc_old _ _ (by omega), ← z1]; exact box_new _ _ _ _ _
  have k2 : W0.heap[w.heap.size + 1 + 1]? = some (box4 (.bool false) (.int .u64 0) (.int .u64 0) (.pointer none)) := by rw [← eW0, ← z2]; exact box_new _ _ _ _ _
  have HK0 : Hid (W0.heap[w.heap.size]? = some (box4 (.bool b1) (.int .u64 A1) (.int .u64 L1) (.pointer p1))) := k0
  have HK2 : Hid (W0.heap[w.heap.size + 1 + 1]? = some (box4 (.bool false) (.int .u64 0) (.int .u64 0) (.pointer none))) := k2
  have EW : Hid (((w.alloc (.cells #[.bool b1, .int .u64 A1, .int .u64 L1, .pointer p1] 28)).alloc (.cells #[.bool b2, .int .u64 A2, .int .u64 L2, .pointer p2] 28)).alloc (.cells #[.bool false, .int .u64 0, .int .u64 0, .pointer none] 28) = W0) := eW0
  obtain ⟨e0, e1, e2, e3⟩ := box0 k1
  have cI := inv_yes _ b2 n2 d2 W0 (h2.below hb0) hn
  clear eW0 z1 z2 k0 k1 k2 h1 h2 l1 l2 l3 l4 hn
  go_enter Try.func13, Try.ntmps13
  go_upto_region 1 with fail
  rw [EW.out]
  go_wp2_with (first
    | (go_at_call 37; refine cI.mono ?_; rintro e w1 ⟨v', rfl, R1, hb1⟩; obtain ⟨A3, L3, p3, rfl⟩ := R1.shape; have bA : Below w1.heap.size w1 (w1.alloc (.cells #[.bool b2, .int .u64 A3, .int .u64 L3, .pointer p3] 28)) := (Below.refl _ _).alloc (Nat.le_refl _) _; have kw := box_kept HK2.out hb1 (in_heap HK2.out); have kk := box_kept kw bA (in_heap kw); have ka := box_kept HK0.out hb1 (in_heap HK0.out); have kb := box_kept ka bA (in_heap ka); obtain ⟨x0, x1, x2, x3⟩ := box0 kb; have HKK : Hid ((w1.alloc (.cells #[.bool b2, .int .u64 A3, .int .u64 L3, .pointer p3] 28)).heap[w.heap.size + 1 + 1]? = some (box4 (.bool false) (.int .u64 0) (.int .u64 0) (.pointer none))) := kk; have BA := bt (bt hb0 hb1) bA; have cM' := cM _ _ (R1.below bA) BA; clear kk kw bA ka kb)
    | (go_at_call 9; refine cM'.mono ?_; rintro e w2 ⟨v2, rfl, R2, hb2⟩; obtain ⟨A4, L4, p4, rfl⟩ := R2.shape; have k5 := box_kept HKK.out hb2 (in_heap HKK.out); obtain ⟨c0, c1, c2, c3⟩ := box0 k5; have ff := boxF k5; have HK5 : Hid (w2.heap[w.heap.size + 1 + 1]? = some (box4 (.bool false) (.int .u64 0) (.int .u64 0) (.pointer none))) := k5; have HR2 : Hid (IsRat w2 (.agg #[.bool b3, .int .u64 A4, .int .u64 L4, .pointer p4]) b3 N D) := R2; clear k5 R2))
  have q2 := box_set HK5.out (.bool b3) (.int .u64 A4) (.int .u64 L4) (.pointer p4)
  have hB := box_below (bt BA hb2) (show w.heap.size ≤ w.heap.size + 1 + 1 by omega) (.bool b3) (.int .u64 A4) (.int .u64 L4) (.pointer p4)
  have hR := HR2.out.set4 HK5.out (.bool b3) (.int .u64 A4) (.int .u64 L4) (.pointer p4)
  generalize World.setCell _ _ _ = W' at *
  obtain ⟨g0, g1, g2, g3⟩ := box0 q2
  refine bodyPost_ret (v := .tuple #[.agg #[.bool b3, .int .u64 A4, .int .u64 L4, .pointer p4], .bool true]) ?_ rfl ?_
  · simp [results, go_sem, g0, g1, g2, g3]
  · exact ⟨_, rfl, hR, hB⟩
end Go.Proofs.Ytefckmkcbgckfab.DivL

/- Numbers with a sign: sums, order. -/
namespace Go.Proofs.Ytefckmkcbgckfab.QNum
open Go.RowKit Mem LimbNum Limb1 RatL RatM RatN RatF MulN MulW MulL RefL RefR RefT RefU InvL DivL

/-- A size with its sign. -/
def sv (b : Bool) (n : Nat) : Int := if b then -(n : Int) else (n : Int)
/-- The sum of two sizes with their signs: its sign. -/
def sumB (a b : Bool) (x y : Nat) : Bool := if a = b then a else if y ≤ x then a else b
/-- Its size. -/
def sumV (a b : Bool) (x y : Nat) : Nat := if a = b then x + y else if y ≤ x then x - y else y - x
theorem sum_sv (a b : Bool) (x y : Nat) : sv (sumB a b x y) (sumV a b x y) = sv a x + sv b y := by
  unfold sv sumB sumV
  by_cases h : y ≤ x <;> cases a <;> cases b <;> simp [h] <;> omega
def cmpI (x y : Int) : Int := if x < y then -1 else if x = y then 0 else 1
theorem sgn_sv (b : Bool) (n : Nat) : sgn b n = cmpI (sv b n) 0 := by
  unfold sgn cmpI sv
  by_cases h : n = 0
  · subst h; cases b <;> simp
  · have hp : 0 < n := by omega
    cases b
    · simp [h]
    · simp [h]; try omega
theorem sgn_flag (b : Bool) (n : Nat) : sgn (b && decide (n ≠ 0)) n = sgn b n := by
  unfold sgn
  by_cases h : n = 0
  · simp [h]
  · simp [h]
theorem sgn_quot (b : Bool) (n g : Nat) (hg : g ≠ 0) (hd : g ∣ n) : sgn b (n / g) = sgn b n := by
  obtain ⟨k, rfl⟩ := hd
  rw [Nat.mul_div_cancel_left _ (by omega)]
  unfold sgn
  have : (g * k = 0) ↔ (k = 0) := by rw [Nat.mul_eq_zero]; omega
  by_cases h : k = 0
  · simp [h]
  · have h2 : ¬ g * k = 0 := fun e => h (this.1 e)
    simp [h, h2]
theorem sv_not (b : Bool) (n : Nat) : sv (!b && decide (n ≠ 0)) n = - sv b n := by
  unfold sv
  by_cases h : n = 0
  · subst h; cases b <;> simp
  · cases b <;> simp [h]
theorem cmpI_sub (x y : Int) : cmpI (x - y) 0 = cmpI x y := by unfold cmpI; by_cases h1 : x < y <;> by_cases h2 : x = y <;> simp [h1, h2] <;> omega
theorem sv_mul (b : Bool) (n k : Nat) : sv b (n * k) = sv b n * k := by
  unfold sv; cases b <;> simp [Int.neg_mul]
/-- The order of n1 / d1 and n2 / d2 with their signs. -/
def cmpQ (b1 : Bool) (n1 d1 : Nat) (b2 : Bool) (n2 d2 : Nat) : Int := cmpI (sv b1 (n1 * d2)) (sv b2 (n2 * d1))
theorem cmp_cases (b1 b2 : Bool) (n1 d1 n2 d2 : Nat) (h1 : n1 = 0 → b1 = false) (h2 : n2 = 0 → b2 = false) (p1 : 1 ≤ d1) (p2 : 1 ≤ d2) :
    cmpQ b1 n1 d1 b2 n2 d2 = if sgn b1 n1 < sgn b2 n2 then -1 else if sgn b2 n2 < sgn b1 n1 then 1 else if sgn b1 n1 < 0 then cmpV (n2 * d1) (n1 * d2) else cmpV (n1 * d2) (n2 * d1) := by
  have z1 : n1 * d2 = 0 ↔ n1 = 0 := by rw [Nat.mul_eq_zero]; omega
  have z2 : n2 * d1 = 0 ↔ n2 = 0 := by rw [Nat.mul_eq_zero]; omega
  unfold cmpQ
  generalize n1 * d2 = X at *
  generalize n2 * d1 = Y at *
  unfold cmpI sv sgn cmpV
  by_cases e1 : n1 = 0
  · have := z1.2 e1; have := h1 e1; subst_vars
    by_cases e2 : n2 = 0
    · have := z2.2 e2; have := h2 e2; subst_vars; simp
    · have hY : Y ≠ 0 := fun h => e2 (z2.1 h)
      have hY2 : 0 < Y := by omega
      cases b2
      · simp [e2, hY2]
      · simp [e2]; omega
  · have hX : X ≠ 0 := fun h => e1 (z1.1 h)
    have hX2 : 0 < X := by omega
    by_cases e2 : n2 = 0
    · have := z2.2 e2; have := h2 e2; subst_vars
      cases b1
      · simp [e1]; omega
      · simp [e1]; omega
    · have hY : Y ≠ 0 := fun h => e2 (z2.1 h)
      have hY2 : 0 < Y := by omega
      cases b1 <;> cases b2 <;> simp [e1, e2] <;> (try omega)
      all_goals (repeat' split) <;> omega
/-- Two fractions in lowest terms that are alike. -/
theorem uniq (n1 d1 n2 d2 : Nat) (h1 : Nat.gcd n1 d1 = 1) (h2 : Nat.gcd n2 d2 = 1) (p1 : 1 ≤ d1) (h : n1 * d2 = n2 * d1) : n1 = n2 ∧ d1 = d2 := by
  have c1 : d1 ∣ d2 := by
    have : d1 ∣ n1 * d2 := ⟨n2, by rw [h, Nat.mul_comm]⟩
    exact Nat.Coprime.dvd_of_dvd_mul_left (Nat.Coprime.symm h1) this
  have c2 : d2 ∣ d1 := by
    have : d2 ∣ n2 * d1 := ⟨n1, by rw [← h, Nat.mul_comm]⟩
    exact Nat.Coprime.dvd_of_dvd_mul_left (Nat.Coprime.symm h2) this
  have e := Nat.dvd_antisymm c1 c2
  subst e
  exact ⟨Nat.eq_of_mul_eq_mul_right (by omega) h, rfl⟩
/-- Three blocks more. -/
theorem three_new (w : World) (o o' o'' : Obj) : ∃ W, ((w.alloc o).alloc o').alloc o'' = W ∧ Below w.heap.size w W ∧ W.heap[w.heap.size]? = some o ∧ W.heap[w.heap.size + 1]? = some o' ∧ W.heap[w.heap.size + 1 + 1]? = some o'' := by
  have z1 : (w.alloc o).heap.size = w.heap.size + 1 := by simp
  have z2 : ((w.alloc o).alloc o').heap.size = w.heap.size + 1 + 1 := by simp
  refine ⟨_, rfl, (((Below.refl _ _).alloc (Nat.le_refl _) _).alloc (by simp) _).alloc (by simp; omega) _, ?_, ?_, ?_⟩
  · rw [heap_alloc_old _ _ (by omega), heap_alloc_old _ _ (by omega)]; exact heap_alloc_new _ _
  · rw [heap_alloc_old _ _ (by omega), ← z1]; exact heap_alloc_new _ _
  · rw [← z2]; exact heap_alloc_new _ _
/-- One block more. -/
theorem one_new (w : World) (o : Obj) : ∃ W, w.alloc o = W ∧ Below w.heap.size w W ∧ W.heap[w.heap.size]? = some o := ⟨_, rfl, (Below.refl _ _).alloc (Nat.le_refl _) _, heap_alloc_new _ _⟩
/-- Two blocks more. -/
theorem two_new (w : World) (o o' : Obj) : ∃ W, (w.alloc o).alloc o' = W ∧ Below w.heap.size w W ∧ W.heap[w.heap.size]? = some o ∧ W.heap[w.heap.size + 1]? = some o' := by
  refine ⟨_, rfl, ((Below.refl _ _).alloc (Nat.le_refl _) _).alloc (by simp) _, ?_, ?_⟩
  · rw [heap_alloc_old _ _ (by simp)]; exact heap_alloc_new _ _
  · have z1 : (w.alloc o).heap.size = w.heap.size + 1 := by simp
    rw [← z1]; exact heap_alloc_new _ _
/-- A number of the program's that lies in the block g. -/
structure RL (W : World) (g : Nat) (b : Bool) (n d : Nat) (A L : Int) (p : Option Addr) : Prop where
  box : W.heap[g]? = some (.cells #[.bool b, .int .u64 A, .int .u64 L, .pointer p] 28)
  is : IsRat W (.agg #[.bool b, .int .u64 A, .int .u64 L, .pointer p]) b n d
theorem RL.kept {W W' : World} {g : Nat} {b : Bool} {n d : Nat} {A L : Int} {p : Option Addr} (h : RL W g b n d A L p) (hb : Below W.heap.size W W') : RL W' g b n d A L p :=
  ⟨box_kept h.box hb (in_heap h.box), h.is.below hb⟩
theorem RL.cells {W : World} {g : Nat} {b : Bool} {n d : Nat} {A L : Int} {p : Option Addr} (h : RL W g b n d A L p) : W.cell? ⟨g, 0, none⟩ = some (.bool b) ∧ W.cell? ⟨g, 1, none⟩ = some (.int .u64 A) ∧ W.cell? ⟨g, 2, none⟩ = some (.int .u64 L) ∧ W.cell? ⟨g, 3, none⟩ = some (.pointer p) := box0 h.box
/-- A number of the reference's that lies in the block g. -/
structure QL (W : World) (g : Nat) (b : Bool) (n d : Nat) (o1 : Option Addr) (c1 : Nat) (o2 : Option Addr) (c2 : Nat) : Prop where
  box : W.heap[g]? = some (.cells #[.bool b, .slice o1 (nb n).length c1, .slice o2 (nb d).length c2] 59)
  is : IsRef W (.agg #[.bool b, .slice o1 (nb n).length c1, .slice o2 (nb d).length c2]) b n d
theorem QL.kept {W W' : World} {g : Nat} {b : Bool} {n d : Nat} {o1 : Option Addr} {c1 : Nat} {o2 : Option Addr} {c2 : Nat} (h : QL W g b n d o1 c1 o2 c2) (hb : Below W.heap.size W W') : QL W' g b n d o1 c1 o2 c2 :=
  ⟨box_kept h.box hb (in_heap h.box), h.is.below hb⟩
theorem QL.cells {W : World} {g : Nat} {b : Bool} {n d : Nat} {o1 : Option Addr} {c1 : Nat} {o2 : Option Addr} {c2 : Nat} (h : QL W g b n d o1 c1 o2 c2) : W.cell? ⟨g, 0, none⟩ = some (.bool b) ∧ W.cell? ⟨g, 1, none⟩ = some (.slice o1 (nb n).length c1) ∧ W.cell? ⟨g, 2, none⟩ = some (.slice o2 (nb d).length c2) := box3_cells h.box
end Go.Proofs.Ytefckmkcbgckfab.QNum

/- The document's rational numbers: sums of sizes with signs, the opposite. -/
namespace Go.Proofs.Ytefckmkcbgckfab.RefX
open Go.RowKit Mem LimbNum Limb1 Limb2 RefL RefA RefC RefS BitMul BitDiv RGcd Words RatL RatN RefR RefT RefU RefI InvL MulL QNum

theorem nb_less {x y : Nat} (h : (nb x).length < (nb y).length) : x < y := by
  rcases Nat.lt_or_ge x y with h1 | h1
  · exact h1
  · have := nb_mono _ _ h1; omega
theorem rcmp_nb (x y : Nat) (o1 o2 : Option Addr) (c1 c2 : Nat) (w : World) (h1 : Lies w o1 c1 (bools (nb x))) (h2 : Lies w o2 c2 (bools (nb y))) :
    Calls Try.prog 92 #[.slice o1 (nb x).length c1, .slice o2 (nb y).length c2] w fun e w' => e = .returned (.int .i64 (cmpV x y)) ∧ Below w.heap.size w w' := by
  have := rcmp_any (nb x) (nb y) o1 o2 c1 c2 w h1 h2 (by rw [fromL_nb, fromL_nb]; exact nb_less) (by rw [fromL_nb, fromL_nb]; exact nb_less)
  rw [fromL_nb, fromL_nb] at this
  exact this
theorem rsub_nb (x y : Nat) (h : y ≤ x) (o1 o2 : Option Addr) (c1 c2 : Nat) (w : World) (h1 : Lies w o1 c1 (bools (nb x))) (h2 : Lies w o2 c2 (bools (nb y))) (hl1 : (nb x).length ≤ 1073741824) :
    Calls Try.prog 93 #[.slice o1 (nb x).length c1, .slice o2 (nb y).length c2] w fun e w' => ∃ ao cap, e = .returned (.slice ao (nb (x - y)).length cap) ∧ w'.ownsRow w.heap.size 4 1 (.slice ao (nb (x - y)).length cap) (nb (x - y)).length (bools (nb (x - y))) ∧ Below w.heap.size w w' :=
  rsub_core (nb x) (nb y) (x - y) (by unfold Hid; rw [fromL_nb, fromL_nb]) (by rw [fromL_nb, fromL_nb]; exact h) (nb_mono _ _ h) o1 o2 c1 c2 w h1 h2 hl1
end Go.Proofs.Ytefckmkcbgckfab.RefX

/- The document's rational numbers: the opposite. -/
namespace Go.Proofs.Ytefckmkcbgckfab.RefY
open Go.RowKit Mem LimbNum Limb1 Limb2 RefL RefA RefC RefS BitMul BitDiv RGcd Words RatL RatN RefR RefT RefU RefI InvL MulL MulW QNum RefX

end Go.Proofs.Ytefckmkcbgckfab.RefY
