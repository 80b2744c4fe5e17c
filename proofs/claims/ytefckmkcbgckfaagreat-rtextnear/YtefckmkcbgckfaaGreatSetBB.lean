/- rtext.Decimal: so many digits behind the point. -/
import Derived.Test.YtefckmkcbgckfaaGreatSetAY
import Derived.Test.YtefckmkcbgckfaaGreatSetBA
import Derived.Test.YtefckmkcbgckfaaGreatSetAF
import Derived.Test.YtefckmkcbgckfaaGreatSetAO
import Derived.Test.YtefckmkcbgckfaaGreatSetAX
import Derived.Deep.RegionWith
namespace Go.Proofs.YtefckmkcbgckfaaGreat.DcM
open Go.RowKit Mem LimbNum Limb1 Limb3 NatL DigNum DigL StrL TxN TextL RatL RatM RatN RatW RefR NmL QNum MulW MulL PtL PadL TensAll DivAll

/-- The number's size, times so many tens, cut off. -/
def cutM (n d k : Nat) : Nat := n * 10 ^ k / d
/-- Its digits, one ahead of the point at least. -/
def padM (n d k : Nat) : List Nat := List.replicate (k + 1 - (tx (cutM n d k)).length) 48 ++ tx (cutM n d k)
/-- The text with k digits behind the point. -/
def decM (b : Bool) (n d k : Nat) : List Nat :=
  (if b && decide (0 < cutM n d k) then [45] else []) ++ (if k = 0 then padM n d k else (padM n d k).take ((padM n d k).length - k) ++ 46 :: (padM n d k).drop ((padM n d k).length - k))
theorem pad_len (n d k : Nat) : k + 1 ≤ (padM n d k).length := by
  unfold padM
  rw [List.length_append, List.length_replicate]
  omega
theorem tens_len (k : Nat) : (nl (10 ^ k)).length ≤ k + 1 :=
  nl_lt _ _ (Nat.lt_of_le_of_lt (Nat.pow_le_pow_left (show 10 ≤ 4294967296 by omega) _) (Nat.pow_lt_pow_right (by omega) (by omega)))
theorem prod_nl (x y a b : Nat) (hx : (nl x).length ≤ a) (hy : (nl y).length ≤ b) : (nl (x * y)).length ≤ a + b := by
  have h1 := val_lt (nl x) (small_nl x)
  have h2 := val_lt (nl y) (small_nl y)
  rw [val_nl] at h1 h2
  refine nl_lt _ _ ?_
  rw [Nat.pow_add]
  exact Nat.mul_lt_mul'' (Nat.lt_of_lt_of_le h1 (Nat.pow_le_pow_right (by omega) hx)) (Nat.lt_of_lt_of_le h2 (Nat.pow_le_pow_right (by omega) hy))
theorem nl_le (x y : Nat) (h : x ≤ y) (a : Nat) (hy : (nl y).length ≤ a) : (nl x).length ≤ a := by
  have h2 := val_lt (nl y) (small_nl y)
  rw [val_nl] at h2
  exact nl_lt _ _ (Nat.lt_of_le_of_lt h (Nat.lt_of_lt_of_le h2 (Nat.pow_le_pow_right (by omega) hy)))
theorem bl_pos (n : Nat) : decide ((0 : Int) < ((bitLen n : Nat) : Int)) = decide (0 < n) := by
  rw [decide_eq_decide]
  constructor
  · intro h
    rcases Nat.eq_zero_or_pos n with rfl | h2
    · rw [show bitLen 0 = 0 by decide +kernel] at h; omega
    · exact h2
  · intro h
    have h2 : bitLen n = n.log2 + 1 := by unfold bitLen; rw [if_neg (by omega)]
    omega
theorem dec_low (v : Value) (p : Nm) (k : Int) (w : World) (h : IsR w v p) (hk : k < 0) : Calls Tryz.prog 5 #[v, .int .i64 k] w fun e w' => e = .returned (.tuple #[.string (ByteArray.mk #[]), .int .i64 1]) ∧ Below w.heap.size w w' := by
  obtain ⟨b, A, L, q, rfl⟩ := h.shape4
  go_enter Tryz.func5, Tryz.ntmps5
  go_wp2
  go_ret2
  exact ⟨rfl, (Below.refl _ _).alloc (Nat.le_refl _) _⟩
theorem dec_high (v : Value) (p : Nm) (k : Int) (w : World) (h : IsR w v p) (hk : 1000 < k) : Calls Tryz.prog 5 #[v, .int .i64 k] w fun e w' => e = .returned (.tuple #[.string (ByteArray.mk #[]), .int .i64 2]) ∧ Below w.heap.size w w' := by
  obtain ⟨b, A, L, q, rfl⟩ := h.shape4
  have h0 : (0 : Int) ≤ k := by omega
  go_enter Tryz.func5, Tryz.ntmps5
  go_wp2
  go_ret2
  exact ⟨rfl, (Below.refl _ _).alloc (Nat.le_refl _) _⟩
set_option maxRecDepth 20000 in
set_option maxHeartbeats 1000000 in
theorem dec_str (b x1 : Bool) (A L : Int) (q : Option Addr) (k a : Nat) (X G : ByteArray) (nz : Bool) (BL : Int) (l1 l2 l3 l4 l5 l6 : Nat) (w : World) (hk : k ≤ 1000) (hX : X.size ≤ 20000000) (hG : G.size ≤ 1) (ha : (X.size : Int) - (k : Int) = (a : Int)) (hnz : decide ((0 : Int) < BL) = nz)
    (cP : ∀ W, Below w.heap.size w W → Calls Tryz.prog 22 #[.agg #[.bool b, .int .u64 A, .int .u64 L, .pointer q]] W fun e w1 => ∃ o1 c1 o2 c2, e = .returned (.tuple #[.bool x1, .slice o1 l1 c1, .slice o2 l2 c2]) ∧
      (∀ V, Below w1.heap.size w1 V → Calls Tryz.prog 23 #[.int .i64 (k : Int)] V fun e w2 => ∃ o3 c3, e = .returned (.tuple #[.slice o3 l3 c3, .int .i64 0]) ∧
        (∀ V, Below w2.heap.size w2 V → Calls Tryz.prog 25 #[.slice o1 l1 c1, .slice o3 l3 c3] V fun e w3 => ∃ o4 c4, e = .returned (.slice o4 l4 c4) ∧
          (∀ V, Below w3.heap.size w3 V → Calls Tryz.prog 24 #[.slice o4 l4 c4, .slice o2 l2 c2] V fun e w4 => ∃ o5 c5 o6 c6, e = .returned (.tuple #[.slice o5 l5 c5, .slice o6 l6 c6, .bool true]) ∧
            (∀ V, Below w4.heap.size w4 V → Calls Tryz.prog 26 #[.slice o5 l5 c5, .int .i64 ((k : Int) + 1)] V fun e w5 => e = .returned (.tuple #[.string X, .int .i64 0]) ∧ Below V.heap.size V w5) ∧
            (∀ V, Below w4.heap.size w4 V → Calls Tryz.prog 28 #[.slice o5 l5 c5] V fun e w5 => e = .returned (.int .i64 BL) ∧ w5 = V) ∧ Below V.heap.size V w4) ∧ Below V.heap.size V w3) ∧ Below V.heap.size V w2) ∧ Below W.heap.size W w1)
    (cG : ∀ W, Calls Tryz.prog 27 #[.bool (x1 && nz)] W fun e w' => e = .returned (.string G) ∧ w' = W) :
    Calls Tryz.prog 5 #[.agg #[.bool b, .int .u64 A, .int .u64 L, .pointer q], .int .i64 (k : Int)] w fun e w' => e = .returned (.tuple #[.string (G ++ (if k = 0 then X else X.extract 0 a ++ ByteArray.mk #[46] ++ X.extract a X.size)), .int .i64 0]) ∧ Below w.heap.size w w' := by
  obtain ⟨W0, eW0, hb0, k0⟩ := one_new w (.cells #[.bool b, .int .u64 A, .int .u64 L, .pointer q] 28)
  have e0 := cell_at k0
  have a0 : W0.cell? ⟨w.heap.size, 0, none⟩ = some (.bool b) := e0 0 _ rfl
  have a1 : W0.cell? ⟨w.heap.size, 1, none⟩ = some (.int .u64 A) := e0 1 _ rfl
  have a2 : W0.cell? ⟨w.heap.size, 2, none⟩ = some (.int .u64 L) := e0 2 _ rfl
  have a3 : W0.cell? ⟨w.heap.size, 3, none⟩ = some (.pointer q) := e0 3 _ rfl
  have EW : Hid (_ = W0) := eW0
  have cP0 := cP W0 hb0
  have q0 : (0 : Int) ≤ (k : Int) := by omega
  have q1 : (k : Int) ≤ 1000 := by omega
  have hsz : (a : Int) ≤ (X.size : Int) := by omega
  have hsn : a ≤ X.size := by omega
  clear eW0 e0 cP
  go_enter Tryz.func5, Tryz.ntmps5
  go_upto_region 1 with fail
  rw [EW.out]
  clear EW
  go_upto_region 6 with (go_at_call 22; refine cP0.mono ?_; rintro e w1 ⟨o1, c1, o2, c2, rfl, t1, hb1⟩)
  go_upto_region 7 with (go_at_call 23; refine (t1 _ (Below.refl _ _)).mono ?_; rintro e w2 ⟨o3, c3, rfl, t2, hb2⟩)
  go_upto_region 8 with (first
    | (go_at_call 25; refine (t2 _ (Below.refl _ _)).mono ?_; rintro e w3 ⟨o4, c4, rfl, t3, hb3⟩)
    | (go_at_call 24; refine (t3 _ (Below.refl _ _)).mono ?_; rintro e w4 ⟨o5, c5, o6, c6, rfl, t4, t5, hb4⟩))
  go_upto_region 9 with (go_at_call 26; refine (t4 _ (Below.refl _ _)).mono ?_; rintro e w5 ⟨rfl, hb5⟩)
  have H5 := bt hb0 (bt hb1 (bt hb2 (bt hb3 (bt hb4 hb5))))
  by_cases hz : k = 0
  · have q2 : ¬ (0 : Int) < (k : Int) := by omega
    cases x1
    · go_wp2_with (go_at_call 27; refine (cG _).mono ?_; rintro e w7 ⟨rfl, hw⟩; have hw2 := hw.symm; clear hw; subst hw2)
      go_ret2
      exact ⟨(by first | rfl | simp [hz]), H5⟩
    · go_wp2_with (first
        | (go_at_call 28; refine (t5 _ hb5).mono ?_; rintro e w6 ⟨rfl, hw⟩; have hw2 := hw.symm; clear hw; subst hw2)
        | (go_at_call 27; refine (cG _).mono ?_; rintro e w7 ⟨rfl, hw⟩; have hw2 := hw.symm; clear hw; subst hw2))
      go_ret2
      exact ⟨(by first | rfl | simp [hz]), H5⟩
  · have q2 : (0 : Int) < (k : Int) := by omega
    go_upto_region 11 with fail
    go_region
    have hb5d := hb5.drew
    have H5d := H5.drew
    cases x1
    · go_wp2_with (go_at_call 27; refine (cG _).mono ?_; rintro e w7 ⟨rfl, hw⟩; have hw2 := hw.symm; clear hw; subst hw2)
      go_ret2
      exact ⟨(by first | rfl | rw [if_neg hz] | simp [hz]), H5d⟩
    · go_wp2_with (first
        | (go_at_call 28; refine (t5 _ hb5d).mono ?_; rintro e w6 ⟨rfl, hw⟩; have hw2 := hw.symm; clear hw; subst hw2)
        | (go_at_call 27; refine (cG _).mono ?_; rintro e w7 ⟨rfl, hw⟩; have hw2 := hw.symm; clear hw; subst hw2))
      go_ret2
      exact ⟨(by first | rfl | rw [if_neg hz] | simp [hz]), H5d⟩
/-- Decimal, of 0 to 1000 places. -/
theorem dec_any (v : Value) (p : Nm) (k : Nat) (w : World) (h : IsR w v p) (f : Fits p 256) (hk : k ≤ 1000) : Calls Tryz.prog 5 #[v, .int .i64 (k : Int)] w fun e w' => e = .returned (.tuple #[.string (bs (decM p.b p.n p.d k)), .int .i64 0]) ∧ Below w.heap.size w w' := by
  have ln := (f.nl (by omega)).1
  have ld := (f.nl (by omega)).2
  have n256 : (nl p.n).length ≤ 256 := FldL.nl_of_nb f.2.1
  have d256 : (nl p.d).length ≤ 256 := FldL.nl_of_nb f.2.2
  have t1 := tens_len k
  have t2 := prod_nl p.n (10 ^ k) 256 (k + 1) n256 t1
  have t3 := nl_le (p.n * 10 ^ k / p.d) (p.n * 10 ^ k) (Nat.div_le_self _ _) _ t2
  have hX : (padM p.n p.d k).length ≤ 20000000 := by
    have := tx_len (p.n * 10 ^ k / p.d) (by omega)
    unfold padM cutM
    rw [List.length_append, List.length_replicate]
    omega
  have hL := pad_len p.n p.d k
  have hsz := bs_size (padM p.n p.d k)
  have cP : ∀ W, Below w.heap.size w W → Calls Tryz.prog 22 #[v] W fun e w1 => ∃ o1 c1 o2 c2, e = .returned (.tuple #[.bool p.b, .slice o1 (nl p.n).length c1, .slice o2 (nl p.d).length c2]) ∧
      (∀ V, Below w1.heap.size w1 V → Calls Tryz.prog 23 #[.int .i64 (k : Int)] V fun e w2 => ∃ o3 c3, e = .returned (.tuple #[.slice o3 (nl (10 ^ k)).length c3, .int .i64 0]) ∧
        (∀ V, Below w2.heap.size w2 V → Calls Tryz.prog 25 #[.slice o1 (nl p.n).length c1, .slice o3 (nl (10 ^ k)).length c3] V fun e w3 => ∃ o4 c4, e = .returned (.slice o4 (nl (p.n * 10 ^ k)).length c4) ∧
          (∀ V, Below w3.heap.size w3 V → Calls Tryz.prog 24 #[.slice o4 (nl (p.n * 10 ^ k)).length c4, .slice o2 (nl p.d).length c2] V fun e w4 => ∃ o5 c5 o6 c6, e = .returned (.tuple #[.slice o5 (nl (p.n * 10 ^ k / p.d)).length c5, .slice o6 (nl (p.n * 10 ^ k % p.d)).length c6, .bool true]) ∧
            (∀ V, Below w4.heap.size w4 V → Calls Tryz.prog 26 #[.slice o5 (nl (p.n * 10 ^ k / p.d)).length c5, .int .i64 ((k : Int) + 1)] V fun e w5 => e = .returned (.tuple #[.string (bs (padM p.n p.d k)), .int .i64 0]) ∧ Below V.heap.size V w5) ∧
            (∀ V, Below w4.heap.size w4 V → Calls Tryz.prog 28 #[.slice o5 (nl (p.n * 10 ^ k / p.d)).length c5] V fun e w5 => e = .returned (.int .i64 (bitLen (p.n * 10 ^ k / p.d) : Int)) ∧ w5 = V) ∧ Below V.heap.size V w4) ∧ Below V.heap.size V w3) ∧ Below V.heap.size V w2) ∧ Below W.heap.size W w1 := by
    intro W hW
    refine (parts_any v p.b p.n p.d W (h.below hW) (by omega) (by omega)).mono ?_
    rintro e w1 ⟨o1, c1, o2, c2, rfl, r1, r2, hb1⟩
    refine ⟨o1, c1, o2, c2, rfl, fun V hV => (tens_any k V (by omega)).mono ?_, hb1⟩
    rintro e w2 ⟨o3, c3, rfl, r3, hb2⟩
    refine ⟨o3, c3, rfl, fun V2 hV2 => (mul_nl p.n (10 ^ k) o1 o3 c1 c3 V2 ((lies_of_owns r1).below (bt hV (bt hb2 hV2)) (Nat.le_refl _)) ((lies_of_owns r3).below hV2 (Nat.le_refl _)) (by omega) (by omega)).mono ?_, hb2⟩
    rintro e w3 ⟨o4, c4, rfl, r4, hb3⟩
    refine ⟨o4, c4, rfl, fun V3 hV3 => ?_, hb3⟩
    have cD := divmod_any (nl (p.n * 10 ^ k)) (nl p.d) o4 o2 c4 c2 V3 (r4.below hV3 (Nat.le_refl _)) ((lies_of_owns r2).below (bt hV (bt hb2 (bt hV2 (bt hb3 hV3)))) (Nat.le_refl _)) (small_nl _) (small_nl _) (by rw [val_nl]; exact f.pos) (by omega) (by omega)
    rw [val_nl, val_nl] at cD
    refine cD.mono ?_
    rintro e w4 ⟨o5, c5, o6, c6, rfl, r5, _, hb4⟩
    refine ⟨o5, c5, o6, c6, rfl, fun V4 hV4 => ?_, fun V4 hV4 => ?_, hb4⟩
    · have := pad_any (nl (p.n * 10 ^ k / p.d)) (k + 1) o5 c5 V4 ((lies_of_owns r5).below hV4 (Nat.le_refl _)) (small_nl _) (by omega) (by omega)
      rw [val_nl] at this
      exact this
    · have := bits_any (nl (p.n * 10 ^ k / p.d)) o5 c5 V4 ((lies_of_owns r5).below hV4 (Nat.le_refl _)) (small_nl _) (by omega)
      rw [val_nl] at this
      exact this
  obtain ⟨b, A, L, q, rfl⟩ := h.shape4
  refine (dec_str b p.b A L q k ((padM p.n p.d k).length - k) (bs (padM p.n p.d k)) (bs (if p.b && decide (0 < cutM p.n p.d k) then [45] else [])) (decide (0 < cutM p.n p.d k)) _ _ _ _ _ _ _ w hk (by omega) (by rw [bs_size]; split <;> simp) (by omega) (bl_pos _) cP (fun W => sign_text _ W)).mono ?_
  rintro e w' ⟨rfl, hb⟩
  refine ⟨?_, hb⟩
  unfold decM
  rw [bs_append]
  by_cases hz : k = 0
  · rw [if_pos hz, if_pos hz]
  · rw [if_neg hz, if_neg hz, bs_append, show ∀ l : List Nat, 46 :: l = [46] ++ l from fun _ => rfl, bs_append, extract_bs, bs_size, extract_bs, List.take_length, List.drop_zero, ByteArray.append_assoc]
    rfl
end Go.Proofs.YtefckmkcbgckfaaGreat.DcM
