/- What the sum of lists of limbs answers. -/
import Derived.Test.YtbhmgafiookjnaaLimb4
namespace Go.Proofs.Ytbhmgafiookjnaa.AddL
open Go.RowKit Mem LimbNum Limb1 Limb2 Limb4

set_option maxRecDepth 20000 in
set_option maxHeartbeats 2000000 in
theorem add_core (A B P Q : List Nat) (ao1 ao2 : Option Addr) (cap1 cap2 : Nat) (w : World) (h1 : Lies w ao1 cap1 (ints .u32 P)) (h2 : Lies w ao2 cap2 (ints .u32 Q))
    (c1 : Calls Try.prog 34 #[.slice ao1 A.length cap1] w fun e w' => e = .returned (.slice ao1 P.length cap1) ∧ w' = w)
    (c2 : Calls Try.prog 34 #[.slice ao2 B.length cap2] w fun e w' => e = .returned (.slice ao2 Q.length cap2) ∧ w' = w)
    (hP : Small P) (hQ : Small Q) (hl1 : P.length ≤ 35184372088832) (hl2 : Q.length ≤ 35184372088832) :
    Calls Try.prog 8 #[.slice ao1 A.length cap1, .slice ao2 B.length cap2] w fun e w' => ∃ ao cap, e = .returned (.slice ao (nl (val P + val Q)).length cap) ∧
      w'.ownsRow w.heap.size 23 1 (.slice ao (nl (val P + val Q)).length cap) (nl (val P + val Q)).length (ints .u32 (nl (val P + val Q))) ∧ Below w.heap.size w w' := by
  obtain ⟨i0, hi, hz0, hz1, hz2⟩ := info_parts info32
  have m1 := h1.size
  have m2 := h2.size
  rw [ints_length] at m1 m2
  unfold maxLen at m1 m2
  have t1 : True := trivial
  by_cases hsw : P.length < Q.length
  · go_enter Try.func8, Try.ntmps8
    go_wp2_with (first
      | (go_at_call 34; have _t := t1; clear _t t1; refine c1.mono ?_; rintro e w2 ⟨rfl, hw⟩; have hw2 := hw.symm; clear hw; subst hw2)
      | (go_at_call 34; refine c2.mono ?_; rintro e w2 ⟨rfl, hw⟩; have hw2 := hw.symm; clear hw; subst hw2)
      | (at_make; refine wpList_make_full _ rfl _ _ 22 rfl w.heap.size 23 i0 (.int .u32 0) 1 Try.underlying22 hi hz0 hz1 .i64 .i64 ((Q.length : Int) + 1) ((Q.length : Int) + 1) (Q.length + 1) rfl rfl (by omega) (by omega) (by rw [hz2]; omega) (by unfold maxLen; omega) (Nat.le_refl _) ?_; intro w3 hown hgr))
    have hown0 : w3.ownsRow w.heap.size 23 1 (.slice (some ⟨w.heap.size, 0, none⟩) (Q.length + 1) (Q.length + 1)) (Q.length + 1) (ints .u32 ([] ++ List.replicate (Q.length + 1 - 0) 0)) := by
      rw [List.nil_append, ints_zero, Nat.sub_zero, ← toList_madeCells_one]; rw [Nat.mul_one] at hown; exact hown
    have hb3 : Below w.heap.size w w3 := (Below.refl _ _).grown hgr (Nat.le_refl _) (by simp)
    clear hown hgr c1 c2
    generalize hgg : w.heap.size = g at *
    go_loopw [6, 27] (fun bo i wr => ∃ (k cy : Nat) (O : List Nat), k ≤ Q.length ∧ i = .int .i64 k ∧ bo = .int .u64 (cy : Int) ∧ cy ≤ 1 ∧ O.length = k ∧ Small O ∧ Hid (val O + cy * 4294967296 ^ k = val (Q.take k) + val (P.take k)) ∧
        wr.ownsRow g 23 1 (.slice (some ⟨g, 0, none⟩) (Q.length + 1) (Q.length + 1)) (Q.length + 1) (ints .u32 (O ++ List.replicate (Q.length + 1 - k) 0)) ∧ Below g w wr)
      (fun _ i _ => Q.length - (intOf i).toNat)
    case atStart => exact ⟨0, 0, [], Nat.zero_le _, rfl, rfl, by omega, rfl, by intro x hx; simp at hx, by unfold Hid; simp [val], hown0, hb3⟩
    case round =>
      clear hown0 hb3
      obtain ⟨k, cy, O, hk, rfl, rfl, hcy, hO, hOs, HI, hown, hb⟩ := hrel
      by_cases hlt : k < Q.length
      · have g1 := h2.below hb (by omega)
        obtain ⟨b1, off1, rfl, _, hc1⟩ := g1.2.2.2 (by rw [ints_length]; omega)
        have d1 := hc1 k (by rw [ints_length]; omega)
        rw [ints_get _ _ _ (by omega)] at d1
        have hx := getD_small Q hQ k
        have hy := getD_small P hP k
        have d2 : k < P.length → ∃ b2 off2, ao1 = some ⟨b2, off2, none⟩ ∧ wr.cell? ⟨b2, off2 + k, none⟩ = some (.int .u32 ((P.getD k 0 : Nat) : Int)) := fun hq => by
          have g2 := h1.below hb (by omega)
          obtain ⟨b2, off2, e, _, hc2⟩ := g2.2.2.2 (by rw [ints_length]; omega)
          refine ⟨b2, off2, e, ?_⟩
          rw [hc2 k (by rw [ints_length]; omega), ints_get _ _ _ hq]
        have d3 : P.length ≤ k → P.getD k 0 = 0 := fun hq => by simp [hq]
        obtain ⟨x, ex⟩ : ∃ x, Q.getD k 0 = x := ⟨_, rfl⟩
        obtain ⟨y, ey⟩ : ∃ y, P.getD k 0 = y := ⟨_, rfl⟩
        rw [ex] at d1 hx
        rw [ey] at hy d2 d3
        obtain ⟨o, c2, e1, e2, e3, e6, e7, e8⟩ := add_limb x y cy hx hy hcy
        have HN : Hid (val (O ++ [o]) + c2 * 4294967296 ^ (k + 1) = val (Q.take (k + 1)) + val (P.take (k + 1))) := add_step Q P O k x y cy o c2 hO ex ey e8 HI
        have hOs2 := small_push O o hOs e6
        have hf := hown.frozenAt k
        have hcw : wr.cell? ⟨g, k, none⟩ = some (.int .u32 (((O ++ List.replicate (Q.length + 1 - k) 0).getD k 0 : Nat) : Int)) := by
          rw [hown.cellAt k (by omega), ints_get _ _ _ (by simp; omega)]
        obtain ⟨hR1, _⟩ := hown.stored k (.int .u32 (o : Int))
        rw [ints_set, fill_step O (Q.length + 1) k o hO (by omega)] at hR1
        have hb4 : Below g w (wr.setCell ⟨g, k, none⟩ (.int .u32 (o : Int))) := hb.setCell (by exact Nat.le_refl _) _
        clear hc1 g1 h2 h1 hown hb HI hOs ex ey e8
        by_cases hq : k < P.length
        · obtain ⟨b3, off3, rfl, d4⟩ := d2 hq
          clear d2 d3 e3
          go_wp2
          go_roundw
          case rel => exact ⟨k + 1, c2, O ++ [o], by omega, by go_num, by first | rfl | go_num, e7, by simp; omega, hOs2, HN, hR1, hb4⟩
          case measure => simp [intOf]; omega
        · obtain ⟨e4, e5⟩ := e3 (d3 (by omega))
          clear d2 d3 e3 e1 e2
          go_wp2
          go_roundw
          case rel => exact ⟨k + 1, c2, O ++ [o], by omega, by go_num, by first | rfl | go_num, e7, by simp; omega, hOs2, HN, hR1, hb4⟩
          case measure => simp [intOf]; omega
      · have ek : k = Q.length := by omega
        subst ek
        have hv : val (O ++ [cy]) = val Q + val P := by
          have := HI.out
          rw [List.take_of_length_le (Nat.le_refl _), List.take_of_length_le (by omega)] at this
          rw [val_append, hO, Nat.mul_comm, ← this]; simp [val]
        have hOs2 := small_push O cy hOs (by omega)
        have hf := hown.frozenAt Q.length
        have hcw : wr.cell? ⟨g, Q.length, none⟩ = some (.int .u32 (((O ++ List.replicate (Q.length + 1 - Q.length) 0).getD Q.length 0 : Nat) : Int)) := by
          rw [hown.cellAt Q.length (by omega), ints_get _ _ _ (by simp; omega)]
        obtain ⟨hR1, _⟩ := hown.stored Q.length (.int .u32 (cy : Int))
        rw [ints_set, fill_step O (Q.length + 1) Q.length cy hO (by omega), Nat.sub_self, List.replicate_zero, List.append_nil] at hR1
        have hb4 : Below g w (wr.setCell ⟨g, Q.length, none⟩ (.int .u32 (cy : Int))) := hb.setCell (by exact Nat.le_refl _) _
        have hll : (O ++ [cy]).length = Q.length + 1 := by simp; omega
        have c3 := trim_own (O ++ [cy]) g (some ⟨g, 0, none⟩) (Q.length + 1) _ (by rw [hll]; exact hR1) hOs2
        rw [hv, hll] at c3
        have hcy2 : (cy : Int) ≤ 1 := by omega
        clear hown HI h2 h1 hb hv hll hO hOs hOs2 hcy
        rw [Nat.add_comm (val Q)] at c3
        go_wp2_with (go_at_call 34; refine c3.mono ?_; rintro e w5 ⟨rfl, hw, hown5⟩; have hw2 := hw.symm; clear hw; subst hw2)
        go_ret
        exact ⟨_, _, rfl, by first | exact hown5 | (rw [hgg]; exact hown5), by first | exact hb4 | (rw [hgg]; exact hb4)⟩
  · go_enter Try.func8, Try.ntmps8
    go_wp2_with (first
      | (go_at_call 34; have _t := t1; clear _t t1; refine c1.mono ?_; rintro e w2 ⟨rfl, hw⟩; have hw2 := hw.symm; clear hw; subst hw2)
      | (go_at_call 34; refine c2.mono ?_; rintro e w2 ⟨rfl, hw⟩; have hw2 := hw.symm; clear hw; subst hw2)
      | (at_make; refine wpList_make_full _ rfl _ _ 22 rfl w.heap.size 23 i0 (.int .u32 0) 1 Try.underlying22 hi hz0 hz1 .i64 .i64 ((P.length : Int) + 1) ((P.length : Int) + 1) (P.length + 1) rfl rfl (by omega) (by omega) (by rw [hz2]; omega) (by unfold maxLen; omega) (Nat.le_refl _) ?_; intro w3 hown hgr))
    have hown0 : w3.ownsRow w.heap.size 23 1 (.slice (some ⟨w.heap.size, 0, none⟩) (P.length + 1) (P.length + 1)) (P.length + 1) (ints .u32 ([] ++ List.replicate (P.length + 1 - 0) 0)) := by
      rw [List.nil_append, ints_zero, Nat.sub_zero, ← toList_madeCells_one]; rw [Nat.mul_one] at hown; exact hown
    have hb3 : Below w.heap.size w w3 := (Below.refl _ _).grown hgr (Nat.le_refl _) (by simp)
    clear hown hgr c1 c2
    generalize hgg : w.heap.size = g at *
    go_loopw [6, 27] (fun bo i wr => ∃ (k cy : Nat) (O : List Nat), k ≤ P.length ∧ i = .int .i64 k ∧ bo = .int .u64 (cy : Int) ∧ cy ≤ 1 ∧ O.length = k ∧ Small O ∧ Hid (val O + cy * 4294967296 ^ k = val (P.take k) + val (Q.take k)) ∧
        wr.ownsRow g 23 1 (.slice (some ⟨g, 0, none⟩) (P.length + 1) (P.length + 1)) (P.length + 1) (ints .u32 (O ++ List.replicate (P.length + 1 - k) 0)) ∧ Below g w wr)
      (fun _ i _ => P.length - (intOf i).toNat)
    case atStart => exact ⟨0, 0, [], Nat.zero_le _, rfl, rfl, by omega, rfl, by intro x hx; simp at hx, by unfold Hid; simp [val], hown0, hb3⟩
    case round =>
      clear hown0 hb3
      obtain ⟨k, cy, O, hk, rfl, rfl, hcy, hO, hOs, HI, hown, hb⟩ := hrel
      by_cases hlt : k < P.length
      · have g1 := h1.below hb (by omega)
        obtain ⟨b1, off1, rfl, _, hc1⟩ := g1.2.2.2 (by rw [ints_length]; omega)
        have d1 := hc1 k (by rw [ints_length]; omega)
        rw [ints_get _ _ _ (by omega)] at d1
        have hx := getD_small P hP k
        have hy := getD_small Q hQ k
        have d2 : k < Q.length → ∃ b2 off2, ao2 = some ⟨b2, off2, none⟩ ∧ wr.cell? ⟨b2, off2 + k, none⟩ = some (.int .u32 ((Q.getD k 0 : Nat) : Int)) := fun hq => by
          have g2 := h2.below hb (by omega)
          obtain ⟨b2, off2, e, _, hc2⟩ := g2.2.2.2 (by rw [ints_length]; omega)
          refine ⟨b2, off2, e, ?_⟩
          rw [hc2 k (by rw [ints_length]; omega), ints_get _ _ _ hq]
        have d3 : Q.length ≤ k → Q.getD k 0 = 0 := fun hq => by simp [hq]
        obtain ⟨x, ex⟩ : ∃ x, P.getD k 0 = x := ⟨_, rfl⟩
        obtain ⟨y, ey⟩ : ∃ y, Q.getD k 0 = y := ⟨_, rfl⟩
        rw [ex] at d1 hx
        rw [ey] at hy d2 d3
        obtain ⟨o, c2, e1, e2, e3, e6, e7, e8⟩ := add_limb x y cy hx hy hcy
        have HN : Hid (val (O ++ [o]) + c2 * 4294967296 ^ (k + 1) = val (P.take (k + 1)) + val (Q.take (k + 1))) := add_step P Q O k x y cy o c2 hO ex ey e8 HI
        have hOs2 := small_push O o hOs e6
        have hf := hown.frozenAt k
        have hcw : wr.cell? ⟨g, k, none⟩ = some (.int .u32 (((O ++ List.replicate (P.length + 1 - k) 0).getD k 0 : Nat) : Int)) := by
          rw [hown.cellAt k (by omega), ints_get _ _ _ (by simp; omega)]
        obtain ⟨hR1, _⟩ := hown.stored k (.int .u32 (o : Int))
        rw [ints_set, fill_step O (P.length + 1) k o hO (by omega)] at hR1
        have hb4 : Below g w (wr.setCell ⟨g, k, none⟩ (.int .u32 (o : Int))) := hb.setCell (by exact Nat.le_refl _) _
        clear hc1 g1 h1 h2 hown hb HI hOs ex ey e8
        by_cases hq : k < Q.length
        · obtain ⟨b3, off3, rfl, d4⟩ := d2 hq
          clear d2 d3 e3
          go_wp2
          go_roundw
          case rel => exact ⟨k + 1, c2, O ++ [o], by omega, by go_num, by first | rfl | go_num, e7, by simp; omega, hOs2, HN, hR1, hb4⟩
          case measure => simp [intOf]; omega
        · obtain ⟨e4, e5⟩ := e3 (d3 (by omega))
          clear d2 d3 e3 e1 e2
          go_wp2
          go_roundw
          case rel => exact ⟨k + 1, c2, O ++ [o], by omega, by go_num, by first | rfl | go_num, e7, by simp; omega, hOs2, HN, hR1, hb4⟩
          case measure => simp [intOf]; omega
      · have ek : k = P.length := by omega
        subst ek
        have hv : val (O ++ [cy]) = val P + val Q := by
          have := HI.out
          rw [List.take_of_length_le (Nat.le_refl _), List.take_of_length_le (by omega)] at this
          rw [val_append, hO, Nat.mul_comm, ← this]; simp [val]
        have hOs2 := small_push O cy hOs (by omega)
        have hf := hown.frozenAt P.length
        have hcw : wr.cell? ⟨g, P.length, none⟩ = some (.int .u32 (((O ++ List.replicate (P.length + 1 - P.length) 0).getD P.length 0 : Nat) : Int)) := by
          rw [hown.cellAt P.length (by omega), ints_get _ _ _ (by simp; omega)]
        obtain ⟨hR1, _⟩ := hown.stored P.length (.int .u32 (cy : Int))
        rw [ints_set, fill_step O (P.length + 1) P.length cy hO (by omega), Nat.sub_self, List.replicate_zero, List.append_nil] at hR1
        have hb4 : Below g w (wr.setCell ⟨g, P.length, none⟩ (.int .u32 (cy : Int))) := hb.setCell (by exact Nat.le_refl _) _
        have hll : (O ++ [cy]).length = P.length + 1 := by simp; omega
        have c3 := trim_own (O ++ [cy]) g (some ⟨g, 0, none⟩) (P.length + 1) _ (by rw [hll]; exact hR1) hOs2
        rw [hv, hll] at c3
        have hcy2 : (cy : Int) ≤ 1 := by omega
        clear hown HI h1 h2 hb hv hll hO hOs hOs2 hcy
        skip
        go_wp2_with (go_at_call 34; refine c3.mono ?_; rintro e w5 ⟨rfl, hw, hown5⟩; have hw2 := hw.symm; clear hw; subst hw2)
        go_ret
        exact ⟨_, _, rfl, by first | exact hown5 | (rw [hgg]; exact hown5), by first | exact hb4 | (rw [hgg]; exact hb4)⟩
/-- Add: the sum, in new memory. -/
theorem add_any (A B : List Nat) (ao1 ao2 : Option Addr) (cap1 cap2 : Nat) (w : World) (h1 : Lies w ao1 cap1 (ints .u32 A)) (h2 : Lies w ao2 cap2 (ints .u32 B)) (hA : Small A) (hB : Small B) (hl1 : A.length ≤ 35184372088832) (hl2 : B.length ≤ 35184372088832) :
    Calls Try.prog 8 #[.slice ao1 A.length cap1, .slice ao2 B.length cap2] w fun e w' => ∃ ao cap, e = .returned (.slice ao (nl (val A + val B)).length cap) ∧
      w'.ownsRow w.heap.size 23 1 (.slice ao (nl (val A + val B)).length cap) (nl (val A + val B)).length (ints .u32 (nl (val A + val B))) ∧ Below w.heap.size w w' := by
  have k1 := nl_len A hA
  have k2 := nl_len B hB
  have := add_core A B (nl (val A)) (nl (val B)) ao1 ao2 cap1 cap2 w (lies_trim h1 hA) (lies_trim h2 hB) (trim_at h1 hA w (Below.refl _ _)) (trim_at h2 hB w (Below.refl _ _)) (small_nl _) (small_nl _) (by omega) (by omega)
  rwa [val_nl, val_nl] at this
end Go.Proofs.Ytbhmgafiookjnaa.AddL
