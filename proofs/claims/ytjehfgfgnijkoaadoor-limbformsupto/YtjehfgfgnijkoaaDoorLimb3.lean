/- What the count of bits and the difference of lists of limbs answer, and that the check of answers that the document fixes says yes. -/
import Derived.Test.YtjehfgfgnijkoaaDoorLimb2
import Derived.Test.YtjehfgfgnijkoaaDoorLen
namespace Go.Proofs.YtjehfgfgnijkoaaDoor.Limb3
open Go.RowKit Mem LimbNum Limb1 Limb2 Len

theorem last_split (P : List Nat) (h : 1 ≤ P.length) : P = P.take (P.length - 1) ++ [P.getD (P.length - 1) 0] := by
  have h1 : P.take (P.length - 1 + 1) = P := List.take_of_length_le (by omega)
  rw [List.take_succ_eq_append_getElem (by omega)] at h1
  have h2 : P.getD (P.length - 1) 0 = P[P.length - 1] := by simp [show P.length - 1 < P.length by omega]
  rw [h2]; exact h1.symm
theorem bits_of (N : Nat) (h : N ≠ 0) : (bitLen N : Int) = 32 * (((nl N).length : Int) - 1) + bitLen ((nl N).getD ((nl N).length - 1) 0) := by
  obtain ⟨h1, h2⟩ := nl_last N h
  have h3 := bitLen_limbs ((nl N).take ((nl N).length - 1)) ((nl N).getD ((nl N).length - 1) 0) (fun x hx => small_nl N x (List.mem_of_mem_take hx)) h2
  rw [← last_split (nl N) h1, val_nl, List.length_take, Nat.min_eq_left (by omega)] at h3
  omega
theorem bl32 (x : Nat) (h : x < 4294967296) : bitLen x ≤ 32 := by
  unfold bitLen
  split
  · omega
  · rename_i h0
    have := (Nat.log2_lt h0).2 (show x < 2 ^ 32 by omega)
    omega

set_option maxRecDepth 20000 in
/-- Bits: how many bits the number has. -/
theorem bits_any (A : List Nat) (ao : Option Addr) (cap : Nat) (w : World) (h : Lies w ao cap (ints .u32 A)) (hA : Small A) (hlen : A.length ≤ 70368744177664) :
    Calls Tryd.prog 12 #[.slice ao A.length cap] w fun e w' => e = .returned (.int .i64 (bitLen (val A) : Int)) ∧ w' = w := by
  have c1 := trim_any A ao cap w h hA
  have hl := lies_trim h hA
  have hk := nl_len A hA
  by_cases h0 : val A = 0
  · rw [h0, nl_zero] at c1
    have e : bitLen (val A) = 0 := by rw [h0]; rfl
    rw [e]
    clear h hl hk h0 e
    go_enter Tryd.func12, Tryd.ntmps12
    go_wp2_with (go_at_call 17; refine c1.mono ?_; rintro e w2 ⟨rfl, hw, _⟩; have hw2 := hw.symm; clear hw; subst hw2)
    go_ret
    exact ⟨rfl, rfl⟩
  · have e := bits_of (val A) h0
    obtain ⟨n1, n2⟩ := nl_last (val A) h0
    have hsm := getD_small (nl (val A)) (small_nl _) ((nl (val A)).length - 1)
    obtain ⟨b, off, rfl, _, hc⟩ := hl.2.2.2 (by rw [ints_length]; omega)
    have hcell := hc ((nl (val A)).length - 1) (by rw [ints_length]; omega)
    rw [ints_get _ _ _ (by omega)] at hcell
    have hb := bl32 _ hsm
    have c2 := fun v => len32_any _ v hsm
    have HE : Hid ((bitLen (val A) : Int) = 32 * (((nl (val A)).length : Int) - 1) + bitLen ((nl (val A)).getD ((nl (val A)).length - 1) 0)) := e
    clear e hc hl h n2
    generalize (nl (val A)).getD ((nl (val A)).length - 1) 0 = x at *
    generalize (nl (val A)).length = n at *
    generalize bitLen x = y at *
    generalize bitLen (val A) = z at *
    have hn1 : (1 : Int) ≤ (n : Int) := by omega
    have hn2 : (n : Int) ≤ 70368744177664 := by omega
    have hy : (y : Int) ≤ 32 := by omega
    clear hb n1 hk hlen
    go_enter Tryd.func12, Tryd.ntmps12
    go_wp2_with (first
      | (go_at_call 17; refine c1.mono ?_; rintro e w2 ⟨rfl, hw, _⟩; have hw2 := hw.symm; clear hw; subst hw2)
      | (go_at_call 19; refine (c2 _).mono ?_; rintro e w2 ⟨rfl, hw⟩; have hw2 := hw.symm; clear hw; subst hw2))
    all_goals go_ret
    all_goals exact ⟨ret_int (by rw [HE.out]), rfl⟩

set_option maxRecDepth 20000 in
set_option maxHeartbeats 1000000 in
theorem sub_core (A B P Q : List Nat) (ao1 ao2 : Option Addr) (cap1 cap2 : Nat) (w : World) (h1 : Lies w ao1 cap1 (ints .u32 P)) (h2 : Lies w ao2 cap2 (ints .u32 Q))
    (cc : Calls Tryd.prog 10 #[.slice ao1 A.length cap1, .slice ao2 B.length cap2] w fun e w' => (∃ c : Int, 0 ≤ c ∧ e = .returned (.int .i64 c)) ∧ Below w.heap.size w w')
    (c1 : ∀ W : World, Below w.heap.size w W → Calls Tryd.prog 17 #[.slice ao1 A.length cap1] W fun e w' => e = .returned (.slice ao1 P.length cap1) ∧ w' = W)
    (c2 : ∀ W : World, Below w.heap.size w W → Calls Tryd.prog 17 #[.slice ao2 B.length cap2] W fun e w' => e = .returned (.slice ao2 Q.length cap2) ∧ w' = W)
    (hP : Small P) (hQ : Small Q) (hle : val Q ≤ val P) (hql : Q.length ≤ P.length) (hlen : P.length ≤ 70368744177664) :
    Calls Tryd.prog 16 #[.slice ao1 A.length cap1, .slice ao2 B.length cap2] w fun e w' => ∃ ao cap, e = .returned (.tuple #[.slice ao (nl (val P - val Q)).length cap, .bool true]) ∧
      w'.ownsRow w.heap.size 34 1 (.slice ao (nl (val P - val Q)).length cap) (nl (val P - val Q)).length (ints .u32 (nl (val P - val Q))) ∧ Below w.heap.size w w' := by
  obtain ⟨i0, hi, hz0, hz1, hz2⟩ := info_parts info32
  have m1 := h1.size
  have m2 := h2.size
  rw [ints_length] at m1 m2
  unfold maxLen at m1 m2
  have t1 : True := trivial
  go_enter Tryd.func16, Tryd.ntmps16
  go_wp2_with (first
    | (go_at_call 10; refine cc.mono ?_; rintro e w1 ⟨⟨c, hc0, rfl⟩, hb1⟩)
    | (go_at_call 17; have _t := t1; clear _t t1; refine (c1 _ hb1).mono ?_; rintro e w2 ⟨rfl, hw⟩; have hw2 := hw.symm; clear hw; subst hw2)
    | (go_at_call 17; refine (c2 _ hb1).mono ?_; rintro e w2 ⟨rfl, hw⟩; have hw2 := hw.symm; clear hw; subst hw2)
    | (at_make; refine wpList_make_full _ rfl _ _ 22 rfl w1.heap.size 34 i0 (.int .u32 0) 1 Tryd.underlying22 hi hz0 hz1 .i64 .i64 (P.length : Int) (P.length : Int) P.length rfl rfl rfl rfl (by rw [hz2]; omega) (by unfold maxLen; omega) (Nat.le_refl _) ?_; intro w3 hown hgr))
  have hown0 : w3.ownsRow w1.heap.size 34 1 (.slice (some ⟨w1.heap.size, 0, none⟩) P.length P.length) P.length (ints .u32 ([] ++ List.replicate (P.length - 0) 0)) := by
    rw [List.nil_append, ints_zero, Nat.sub_zero, ← toList_madeCells_one]; rw [Nat.mul_one] at hown; exact hown
  have hb3 : Below w.heap.size w w3 := hb1.grown hgr hb1.size (by simp)
  have hs := hb1.size
  clear hown hgr cc c1 c2
  generalize hgg : w1.heap.size = g at *
  go_loopw [7, 24] (fun bo i wr => ∃ (k bw : Nat) (O : List Nat), k ≤ P.length ∧ i = .int .i64 k ∧ bo = .int .u64 (bw : Int) ∧ bw ≤ 1 ∧ O.length = k ∧ Small O ∧ Hid (val O + val (Q.take k) = val (P.take k) + bw * 4294967296 ^ k) ∧
      wr.ownsRow g 34 1 (.slice (some ⟨g, 0, none⟩) P.length P.length) P.length (ints .u32 (O ++ List.replicate (P.length - k) 0)) ∧ Below w.heap.size w wr)
    (fun _ i _ => P.length - (intOf i).toNat)
  case atStart => exact ⟨0, 0, [], Nat.zero_le _, rfl, rfl, by omega, rfl, by intro x hx; simp at hx, by unfold Hid; simp [val], hown0, hb3⟩
  case round =>
    clear hown0 hb3
    obtain ⟨k, bw, O, hk, rfl, rfl, hbw, hO, hOs, HI, hown, hb⟩ := hrel
    by_cases hlt : k < P.length
    · have g1 := h1.below hb (Nat.le_refl _)
      obtain ⟨b1, off1, rfl, _, hc1⟩ := g1.2.2.2 (by rw [ints_length]; omega)
      have d1 := hc1 k (by rw [ints_length]; omega)
      rw [ints_get _ _ _ (by omega)] at d1
      have hx := getD_small P hP k
      have hy := getD_small Q hQ k
      have d2 : k < Q.length → ∃ b2 off2, ao2 = some ⟨b2, off2, none⟩ ∧ wr.cell? ⟨b2, off2 + k, none⟩ = some (.int .u32 ((Q.getD k 0 : Nat) : Int)) := fun hq => by
        have g2 := h2.below hb (Nat.le_refl _)
        obtain ⟨b2, off2, e, _, hc2⟩ := g2.2.2.2 (by rw [ints_length]; omega)
        refine ⟨b2, off2, e, ?_⟩
        rw [hc2 k (by rw [ints_length]; omega), ints_get _ _ _ hq]
      have d3 : Q.length ≤ k → Q.getD k 0 = 0 := fun hq => by simp [hq]
      obtain ⟨x, ex⟩ : ∃ x, P.getD k 0 = x := ⟨_, rfl⟩
      obtain ⟨y, ey⟩ : ∃ y, Q.getD k 0 = y := ⟨_, rfl⟩
      rw [ex] at d1 hx
      rw [ey] at hy d2 d3
      obtain ⟨D1, D2, o, b2, e1, e2, e3, e4, e5, e6, e7, e8, e9, e10⟩ := sub_limb x y bw hx hy hbw
      have HN : Hid (val (O ++ [o]) + val (Q.take (k + 1)) = val (P.take (k + 1)) + b2 * 4294967296 ^ (k + 1)) := sub_step P Q O k x y bw o b2 hO ex ey e8 HI
      have hOs2 := small_push O o hOs e6
      have hf := hown.frozenAt k
      have hcw : wr.cell? ⟨g, k, none⟩ = some (.int .u32 (((O ++ List.replicate (P.length - k) 0).getD k 0 : Nat) : Int)) := by
        rw [hown.cellAt k (by omega), ints_get _ _ _ (by simp; omega)]
      obtain ⟨hR1, _⟩ := hown.stored k (.int .u32 (o : Int))
      rw [ints_set, fill_step O P.length k o hO hlt] at hR1
      have hb4 : Below w.heap.size w (wr.setCell ⟨g, k, none⟩ (.int .u32 (o : Int))) := hb.setCell (by exact hs) _
      clear hc1 g1 h1 h2 hown hb HI hOs ex ey e8
      by_cases hq : k < Q.length
      · obtain ⟨b3, off3, rfl, d4⟩ := d2 hq
        clear d2 d3 e3
        go_wp2
        go_roundw
        case rel => exact ⟨k + 1, b2, O ++ [o], by omega, by go_num, by first | rfl | go_num, e7, by simp; omega, hOs2, HN, hR1, hb4⟩
        case measure => simp [intOf]; omega
      · have d5 := e3 (d3 (by omega))
        subst d5
        clear d2 d3 e3 e2
        go_wp2
        go_roundw
        case rel => exact ⟨k + 1, b2, O ++ [o], by omega, by go_num, by first | rfl | go_num, e7, by simp; omega, hOs2, HN, hR1, hb4⟩
        case measure => simp [intOf]; omega
    · have ek : k = P.length := by omega
      subst ek
      have hv := sub_end P Q O bw hOs hO hql hle hbw HI
      rw [Nat.sub_self, List.replicate_zero, List.append_nil] at hown
      have c3 := trim_own O g (some ⟨g, 0, none⟩) P.length wr (by rw [hO]; exact hown) hOs
      rw [hv, hO] at c3
      clear hown HI h1 h2
      go_wp2_with (go_at_call 17; refine c3.mono ?_; rintro e w5 ⟨rfl, hw, hown5⟩; have hw2 := hw.symm; clear hw; subst hw2)
      go_ret2
      exact ⟨_, _, rfl, owns_base hown5 (by omega), hb⟩
end Go.Proofs.YtjehfgfgnijkoaaDoor.Limb3
