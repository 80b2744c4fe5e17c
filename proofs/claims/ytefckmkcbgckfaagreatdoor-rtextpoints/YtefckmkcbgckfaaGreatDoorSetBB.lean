/- rtext.Decimal: so many digits behind the point; The reference's decimal text. -/
import Derived.Test.YtefckmkcbgckfaaGreatDoorSetAY
import Derived.Test.YtefckmkcbgckfaaGreatDoorSetBA
import Derived.Test.YtefckmkcbgckfaaGreatDoorSetAF
import Derived.Test.YtefckmkcbgckfaaGreatDoorSetAO
import Derived.Test.YtefckmkcbgckfaaGreatDoorSetAX
import Derived.Deep.RegionWith
import Derived.Deep.RegionHeld3
/- rtext.Decimal: so many digits behind the point. -/
namespace Go.Proofs.YtefckmkcbgckfaaGreatDoor.DcM
open Go.RowKit Mem LimbNum Limb1 Limb3 NatL DigNum DigL StrL TxN TextL RatL RatM RatN RatW RefR NmL QNum MulW MulL PtL PadL TensAll DivAll

/-- The number's size, times so many tens, cut off. -/
def cutM (n d k : Nat) : Nat := n * 10 ^ k / d
/-- Its digits, one ahead of the point at least. -/
def padM (n d k : Nat) : List Nat := List.replicate (k + 1 - (tx (cutM n d k)).length) 48 ++ tx (cutM n d k)
/-- The text with k digits behind the point. -/
def decM (b : Bool) (n d k : Nat) : List Nat :=
  (if b && decide (0 < cutM n d k) then [45] else []) ++ (if k = 0 then padM n d k else (padM n d k).take ((padM n d k).length - k) ++ 46 :: (padM n d k).drop ((padM n d k).length - k))
theorem pad_len (n d k : Nat) : k + 1 ≤ (padM n d k).length := by
  unfold padM
  rw [List.length_append, List.length_replicate]
  omega
theorem tens_len (k : Nat) : (nl (10 ^ k)).length ≤ k + 1 :=
  nl_lt _ _ (Nat.lt_of_le_of_lt (Nat.pow_le_pow_left (show 10 ≤ 4294967296 by omega) _) (Nat.pow_lt_pow_right (by omega) (by omega)))
theorem prod_nl (x y a b : Nat) (hx : (nl x).length ≤ a) (hy : (nl y).length ≤ b) : (nl (x * y)).length ≤ a + b := by
  have h1 := val_lt (nl x) (small_nl x)
  have h2 := val_lt (nl y) (small_nl y)
  rw [val_nl] at h1 h2
  refine nl_lt _ _ ?_
  rw [Nat.pow_add]
  exact Nat.mul_lt_mul'' (Nat.lt_of_lt_of_le h1 (Nat.pow_le_pow_right (by omega) hx)) (Nat.lt_of_lt_of_le h2 (Nat.pow_le_pow_right (by omega) hy))
theorem nl_le (x y : Nat) (h : x ≤ y) (a : Nat) (hy : (nl y).length ≤ a) : (nl x).length ≤ a := by
  have h2 := val_lt (nl y) (small_nl y)
  rw [val_nl] at h2
  exact nl_lt _ _ (Nat.lt_of_le_of_lt h (Nat.lt_of_lt_of_le h2 (Nat.pow_le_pow_right (by omega) hy)))
theorem bl_pos (n : Nat) : decide ((0 : Int) < ((bitLen n : Nat) : Int)) = decide (0 < n) := by
  rw [decide_eq_decide]
  constructor
  · intro h
    rcases Nat.eq_zero_or_pos n with rfl | h2
    · rw [show bitLen 0 = 0 by decide +kernel] at h; omega
    · exact h2
  · intro h
    have h2 : bitLen n = n.log2 + 1 := by unfold bitLen; rw [if_neg (by omega)]
    omega
theorem dec_low (v : Value) (p : Nm) (k : Int) (w : World) (h : IsR w v p) (hk : k < 0) : Calls Tryz.prog 24 #[v, .int .i64 k] w fun e w' => e = .returned (.tuple #[.string (ByteArray.mk #[]), .int .i64 1]) ∧ Below w.heap.size w w' := by
  obtain ⟨b, A, L, q, rfl⟩ := h.shape4
  go_enter Tryz.func24, Tryz.ntmps24
  go_wp2
  go_ret2
  exact ⟨rfl, (Below.refl _ _).alloc (Nat.le_refl _) _⟩
theorem dec_high (v : Value) (p : Nm) (k : Int) (w : World) (h : IsR w v p) (hk : 1000 < k) : Calls Tryz.prog 24 #[v, .int .i64 k] w fun e w' => e = .returned (.tuple #[.string (ByteArray.mk #[]), .int .i64 2]) ∧ Below w.heap.size w w' := by
  obtain ⟨b, A, L, q, rfl⟩ := h.shape4
  have h0 : (0 : Int) ≤ k := by omega
  go_enter Tryz.func24, Tryz.ntmps24
  go_wp2
  go_ret2
  exact ⟨rfl, (Below.refl _ _).alloc (Nat.le_refl _) _⟩
set_option maxRecDepth 20000 in
set_option maxHeartbeats 1000000 in
theorem dec_str (b x1 : Bool) (A L : Int) (q : Option Addr) (k a : Nat) (X G : ByteArray) (nz : Bool) (BL : Int) (l1 l2 l3 l4 l5 l6 : Nat) (w : World) (hk : k ≤ 1000) (hX : X.size ≤ 20000000) (hG : G.size ≤ 1) (ha : (X.size : Int) - (k : Int) = (a : Int)) (hnz : decide ((0 : Int) < BL) = nz)
    (cP : ∀ W, Below w.heap.size w W → Calls Tryz.prog 19 #[.agg #[.bool b, .int .u64 A, .int .u64 L, .pointer q]] W fun e w1 => ∃ o1 c1 o2 c2, e = .returned (.tuple #[.bool x1, .slice o1 l1 c1, .slice o2 l2 c2]) ∧
      (∀ V, Below w1.heap.size w1 V → Calls Tryz.prog 50 #[.int .i64 (k : Int)] V fun e w2 => ∃ o3 c3, e = .returned (.tuple #[.slice o3 l3 c3, .int .i64 0]) ∧
        (∀ V, Below w2.heap.size w2 V → Calls Tryz.prog 52 #[.slice o1 l1 c1, .slice o3 l3 c3] V fun e w3 => ∃ o4 c4, e = .returned (.slice o4 l4 c4) ∧
          (∀ V, Below w3.heap.size w3 V → Calls Tryz.prog 51 #[.slice o4 l4 c4, .slice o2 l2 c2] V fun e w4 => ∃ o5 c5 o6 c6, e = .returned (.tuple #[.slice o5 l5 c5, .slice o6 l6 c6, .bool true]) ∧
            (∀ V, Below w4.heap.size w4 V → Calls Tryz.prog 53 #[.slice o5 l5 c5, .int .i64 ((k : Int) + 1)] V fun e w5 => e = .returned (.tuple #[.string X, .int .i64 0]) ∧ Below V.heap.size V w5) ∧
            (∀ V, Below w4.heap.size w4 V → Calls Tryz.prog 23 #[.slice o5 l5 c5] V fun e w5 => e = .returned (.int .i64 BL) ∧ w5 = V) ∧ Below V.heap.size V w4) ∧ Below V.heap.size V w3) ∧ Below V.heap.size V w2) ∧ Below W.heap.size W w1)
    (cG : ∀ W, Calls Tryz.prog 54 #[.bool (x1 && nz)] W fun e w' => e = .returned (.string G) ∧ w' = W) :
    Calls Tryz.prog 24 #[.agg #[.bool b, .int .u64 A, .int .u64 L, .pointer q], .int .i64 (k : Int)] w fun e w' => e = .returned (.tuple #[.string (G ++ (if k = 0 then X else X.extract 0 a ++ ByteArray.mk #[46] ++ X.extract a X.size)), .int .i64 0]) ∧ Below w.heap.size w w' := by
  obtain ⟨W0, eW0, hb0, k0⟩ := one_new w (.cells #[.bool b, .int .u64 A, .int .u64 L, .pointer q] 28)
  have e0 := cell_at k0
  have a0 : W0.cell? ⟨w.heap.size, 0, none⟩ = some (.bool b) := e0 0 _ rfl
  have a1 : W0.cell? ⟨w.heap.size, 1, none⟩ = some (.int .u64 A) := e0 1 _ rfl
  have a2 : W0.cell? ⟨w.heap.size, 2, none⟩ = some (.int .u64 L) := e0 2 _ rfl
  have a3 : W0.cell? ⟨w.heap.size, 3, none⟩ = some (.pointer q) := e0 3 _ rfl
  have EW : Hid (_ = W0) := eW0
  have cP0 := cP W0 hb0
  have q0 : (0 : Int) ≤ (k : Int) := by omega
  have q1 : (k : Int) ≤ 1000 := by omega
  have hsz : (a : Int) ≤ (X.size : Int) := by omega
  have hsn : a ≤ X.size := by omega
  clear eW0 e0 cP
  go_enter Tryz.func24, Tryz.ntmps24
  go_upto_region 1 with fail
  rw [EW.out]
  clear EW
  go_upto_region 6 with (go_at_call 19; refine cP0.mono ?_; rintro e w1 ⟨o1, c1, o2, c2, rfl, t1, hb1⟩)
  go_upto_region 7 with (go_at_call 50; refine (t1 _ (Below.refl _ _)).mono ?_; rintro e w2 ⟨o3, c3, rfl, t2, hb2⟩)
  go_upto_region 8 with (first
    | (go_at_call 52; refine (t2 _ (Below.refl _ _)).mono ?_; rintro e w3 ⟨o4, c4, rfl, t3, hb3⟩)
    | (go_at_call 51; refine (t3 _ (Below.refl _ _)).mono ?_; rintro e w4 ⟨o5, c5, o6, c6, rfl, t4, t5, hb4⟩))
  go_upto_region 9 with (go_at_call 53; refine (t4 _ (Below.refl _ _)).mono ?_; rintro e w5 ⟨rfl, hb5⟩)
  have H5 := bt hb0 (bt hb1 (bt hb2 (bt hb3 (bt hb4 hb5))))
  by_cases hz : k = 0
  · have q2 : ¬ (0 : Int) < (k : Int) := by omega
    cases x1
    · go_wp2_with (go_at_call 54; refine (cG _).mono ?_; rintro e w7 ⟨rfl, hw⟩; have hw2 := hw.symm; clear hw; subst hw2)
      go_ret2
      exact ⟨(by first | rfl | simp [hz]), H5⟩
    · go_wp2_with (first
        | (go_at_call 23; refine (t5 _ hb5).mono ?_; rintro e w6 ⟨rfl, hw⟩; have hw2 := hw.symm; clear hw; subst hw2)
        | (go_at_call 54; refine (cG _).mono ?_; rintro e w7 ⟨rfl, hw⟩; have hw2 := hw.symm; clear hw; subst hw2))
      go_ret2
      exact ⟨(by first | rfl | simp [hz]), H5⟩
  · have q2 : (0 : Int) < (k : Int) := by omega
    go_upto_region 11 with fail
    go_region
    have hb5d := hb5.drew
    have H5d := H5.drew
    cases x1
    · go_wp2_with (go_at_call 54; refine (cG _).mono ?_; rintro e w7 ⟨rfl, hw⟩; have hw2 := hw.symm; clear hw; subst hw2)
      go_ret2
      exact ⟨(by first | rfl | rw [if_neg hz] | simp [hz]), H5d⟩
    · go_wp2_with (first
        | (go_at_call 23; refine (t5 _ hb5d).mono ?_; rintro e w6 ⟨rfl, hw⟩; have hw2 := hw.symm; clear hw; subst hw2)
        | (go_at_call 54; refine (cG _).mono ?_; rintro e w7 ⟨rfl, hw⟩; have hw2 := hw.symm; clear hw; subst hw2))
      go_ret2
      exact ⟨(by first | rfl | rw [if_neg hz] | simp [hz]), H5d⟩
/-- Decimal, of 0 to 1000 places. -/
theorem dec_any (v : Value) (p : Nm) (k : Nat) (w : World) (h : IsR w v p) (f : Fits p 256) (hk : k ≤ 1000) : Calls Tryz.prog 24 #[v, .int .i64 (k : Int)] w fun e w' => e = .returned (.tuple #[.string (bs (decM p.b p.n p.d k)), .int .i64 0]) ∧ Below w.heap.size w w' := by
  have ln := (f.nl (by omega)).1
  have ld := (f.nl (by omega)).2
  have n256 : (nl p.n).length ≤ 256 := FldL.nl_of_nb f.2.1
  have d256 : (nl p.d).length ≤ 256 := FldL.nl_of_nb f.2.2
  have t1 := tens_len k
  have t2 := prod_nl p.n (10 ^ k) 256 (k + 1) n256 t1
  have t3 := nl_le (p.n * 10 ^ k / p.d) (p.n * 10 ^ k) (Nat.div_le_self _ _) _ t2
  have hX : (padM p.n p.d k).length ≤ 20000000 := by
    have := tx_len (p.n * 10 ^ k / p.d) (by omega)
    unfold padM cutM
    rw [List.length_append, List.length_replicate]
    omega
  have hL := pad_len p.n p.d k
  have hsz := bs_size (padM p.n p.d k)
  have cP : ∀ W, Below w.heap.size w W → Calls Tryz.prog 19 #[v] W fun e w1 => ∃ o1 c1 o2 c2, e = .returned (.tuple #[.bool p.b, .slice o1 (nl p.n).length c1, .slice o2 (nl p.d).length c2]) ∧
      (∀ V, Below w1.heap.size w1 V → Calls Tryz.prog 50 #[.int .i64 (k : Int)] V fun e w2 => ∃ o3 c3, e = .returned (.tuple #[.slice o3 (nl (10 ^ k)).length c3, .int .i64 0]) ∧
        (∀ V, Below w2.heap.size w2 V → Calls Tryz.prog 52 #[.slice o1 (nl p.n).length c1, .slice o3 (nl (10 ^ k)).length c3] V fun e w3 => ∃ o4 c4, e = .returned (.slice o4 (nl (p.n * 10 ^ k)).length c4) ∧
          (∀ V, Below w3.heap.size w3 V → Calls Tryz.prog 51 #[.slice o4 (nl (p.n * 10 ^ k)).length c4, .slice o2 (nl p.d).length c2] V fun e w4 => ∃ o5 c5 o6 c6, e = .returned (.tuple #[.slice o5 (nl (p.n * 10 ^ k / p.d)).length c5, .slice o6 (nl (p.n * 10 ^ k % p.d)).length c6, .bool true]) ∧
            (∀ V, Below w4.heap.size w4 V → Calls Tryz.prog 53 #[.slice o5 (nl (p.n * 10 ^ k / p.d)).length c5, .int .i64 ((k : Int) + 1)] V fun e w5 => e = .returned (.tuple #[.string (bs (padM p.n p.d k)), .int .i64 0]) ∧ Below V.heap.size V w5) ∧
            (∀ V, Below w4.heap.size w4 V → Calls Tryz.prog 23 #[.slice o5 (nl (p.n * 10 ^ k / p.d)).length c5] V fun e w5 => e = .returned (.int .i64 (bitLen (p.n * 10 ^ k / p.d) : Int)) ∧ w5 = V) ∧ Below V.heap.size V w4) ∧ Below V.heap.size V w3) ∧ Below V.heap.size V w2) ∧ Below W.heap.size W w1 := by
    intro W hW
    refine (parts_any v p.b p.n p.d W (h.below hW) (by omega) (by omega)).mono ?_
    rintro e w1 ⟨o1, c1, o2, c2, rfl, r1, r2, hb1⟩
    refine ⟨o1, c1, o2, c2, rfl, fun V hV => (tens_any k V (by omega)).mono ?_, hb1⟩
    rintro e w2 ⟨o3, c3, rfl, r3, hb2⟩
    refine ⟨o3, c3, rfl, fun V2 hV2 => (mul_nl p.n (10 ^ k) o1 o3 c1 c3 V2 ((lies_of_owns r1).below (bt hV (bt hb2 hV2)) (Nat.le_refl _)) ((lies_of_owns r3).below hV2 (Nat.le_refl _)) (by omega) (by omega)).mono ?_, hb2⟩
    rintro e w3 ⟨o4, c4, rfl, r4, hb3⟩
    refine ⟨o4, c4, rfl, fun V3 hV3 => ?_, hb3⟩
    have cD := divmod_any (nl (p.n * 10 ^ k)) (nl p.d) o4 o2 c4 c2 V3 (r4.below hV3 (Nat.le_refl _)) ((lies_of_owns r2).below (bt hV (bt hb2 (bt hV2 (bt hb3 hV3)))) (Nat.le_refl _)) (small_nl _) (small_nl _) (by rw [val_nl]; exact f.pos) (by omega) (by omega)
    rw [val_nl, val_nl] at cD
    refine cD.mono ?_
    rintro e w4 ⟨o5, c5, o6, c6, rfl, r5, _, hb4⟩
    refine ⟨o5, c5, o6, c6, rfl, fun V4 hV4 => ?_, fun V4 hV4 => ?_, hb4⟩
    · have := pad_any (nl (p.n * 10 ^ k / p.d)) (k + 1) o5 c5 V4 ((lies_of_owns r5).below hV4 (Nat.le_refl _)) (small_nl _) (by omega) (by omega)
      rw [val_nl] at this
      exact this
    · have := bits_any (nl (p.n * 10 ^ k / p.d)) o5 c5 V4 ((lies_of_owns r5).below hV4 (Nat.le_refl _)) (small_nl _) (by omega)
      rw [val_nl] at this
      exact this
  obtain ⟨b, A, L, q, rfl⟩ := h.shape4
  refine (dec_str b p.b A L q k ((padM p.n p.d k).length - k) (bs (padM p.n p.d k)) (bs (if p.b && decide (0 < cutM p.n p.d k) then [45] else [])) (decide (0 < cutM p.n p.d k)) _ _ _ _ _ _ _ w hk (by omega) (by rw [bs_size]; split <;> simp) (by omega) (bl_pos _) cP (fun W => sign_text _ W)).mono ?_
  rintro e w' ⟨rfl, hb⟩
  refine ⟨?_, hb⟩
  unfold decM
  rw [bs_append]
  by_cases hz : k = 0
  · rw [if_pos hz, if_pos hz]
  · rw [if_neg hz, if_neg hz, bs_append, show ∀ l : List Nat, 46 :: l = [46] ++ l from fun _ => rfl, bs_append, extract_bs, bs_size, extract_bs, List.take_length, List.drop_zero, ByteArray.append_assoc]
    rfl
end Go.Proofs.YtefckmkcbgckfaaGreatDoor.DcM

/- The reference's decimal text. -/
namespace Go.Proofs.YtefckmkcbgckfaaGreatDoor.RdM
open Go.RowKit Mem LimbNum Limb1 NatL DigNum DigL StrL TxN TextL RText RefL RatL RatM RatN RatW RefR NmL QNum MulW MulL PtL RpL DcM RTens BitMul BitDiv

theorem keep3 {W W' : World} {g : Nat} {b : Bool} {o1 o2 : Option Addr} {l1 c1 l2 c2 : Nat} (hb : Below W.heap.size W W') (H : W.cell? ⟨g, 0, none⟩ = some (.bool b) ∧ W.cell? ⟨g, 1, none⟩ = some (.slice o1 l1 c1) ∧ W.cell? ⟨g, 2, none⟩ = some (.slice o2 l2 c2)) : W'.cell? ⟨g, 0, none⟩ = some (.bool b) ∧ W'.cell? ⟨g, 1, none⟩ = some (.slice o1 l1 c1) ∧ W'.cell? ⟨g, 2, none⟩ = some (.slice o2 l2 c2) := by
  have kc : ∀ {p : Addr} {v : Value}, W.cell? p = some v → W'.cell? p = some v := fun {p v} h => by rw [hb.cell (World.block_lt_of_cell? W p h)]; exact h
  exact ⟨kc H.1, kc H.2.1, kc H.2.2⟩
def slen : Value → Nat
  | .string s => s.size
  | _ => 0
theorem prod_nb (x y a b : Nat) (hx : (nb x).length ≤ a) (hy : (nb y).length ≤ b) : (nb (x * y)).length ≤ a + b := by
  have h1 := fromL_lt (nb x)
  have h2 := fromL_lt (nb y)
  rw [fromL_nb] at h1 h2
  refine nb_lt _ _ ?_
  rw [Nat.pow_add]
  exact Nat.mul_lt_mul'' (Nat.lt_of_lt_of_le h1 (Nat.pow_le_pow_right (by omega) hx)) (Nat.lt_of_lt_of_le h2 (Nat.pow_le_pow_right (by omega) hy))
theorem nb_le (x y : Nat) (h : x ≤ y) (a : Nat) (hy : (nb y).length ≤ a) : (nb x).length ≤ a := by
  have h2 := fromL_lt (nb y)
  rw [fromL_nb] at h2
  exact nb_lt _ _ (Nat.lt_of_le_of_lt h (Nat.lt_of_lt_of_le h2 (Nat.pow_le_pow_right (by omega) hy)))
theorem nb_pos (n : Nat) : decide ((0 : Int) < (((nb n).length : Nat) : Int)) = decide (0 < n) := by
  rw [len_nb]; exact bl_pos n
set_option maxRecDepth 20000 in
set_option maxHeartbeats 2000000 in
theorem rdec_str (b : Bool) (o1 o2 : Option Addr) (l1 c1 l2 c2 l3 l4 l5 l6 k : Nat) (T : List Nat) (X : ByteArray) (nz : Bool) (w : World) (hXe : Hid (X = bs (List.replicate (k + 1 - T.length) 48 ++ T))) (hk : k ≤ 1000) (hT : T.length ≤ 10000001) (hnz : decide ((0 : Int) < (l5 : Int)) = nz) (hT0 : 0 < T.length)
    (P3' P4' : World → Option Addr → Nat → Prop) (P5' : World → Option Addr → Nat → Prop)
    (t1 : ∀ V, Below w.heap.size w V → Calls Tryz.prog 30 #[.int .i64 (k : Int)] V fun e v' => ∃ o3 c3, e = .returned (.slice o3 l3 c3) ∧ P3' v' o3 c3 ∧ Below V.heap.size V v')
    (t2 : ∀ V o3 c3, Below w.heap.size w V → P3' V o3 c3 → Calls Tryz.prog 28 #[.slice o1 l1 c1, .slice o3 l3 c3] V fun e v' => ∃ o4 c4, e = .returned (.slice o4 l4 c4) ∧ P4' v' o4 c4 ∧ Below V.heap.size V v')
    (t3 : ∀ V o4 c4, Below w.heap.size w V → P4' V o4 c4 → Calls Tryz.prog 27 #[.slice o4 l4 c4, .slice o2 l2 c2] V fun e v' => ∃ o5 c5 o6 c6, e = .returned (.tuple #[.slice o5 l5 c5, .slice o6 l6 c6]) ∧ P5' v' o5 c5 ∧ Below V.heap.size V v')
    (t4 : ∀ V o5 c5, P5' V o5 c5 → Calls Tryz.prog 31 #[.slice o5 l5 c5] V fun e v' => e = .returned (.string (bs T)) ∧ Below V.heap.size V v') :
    Calls Tryz.prog 9 #[.agg #[.bool b, .slice o1 l1 c1, .slice o2 l2 c2], .int .i64 (k : Int)] w fun e w' => e = .returned (.string (if b && nz then ByteArray.mk #[45] ++ (if k = 0 then X else X.extract 0 (X.size - k) ++ ByteArray.mk #[46] ++ X.extract (X.size - k) X.size) else (if k = 0 then X else X.extract 0 (X.size - k) ++ ByteArray.mk #[46] ++ X.extract (X.size - k) X.size))) ∧ Below w.heap.size w w' := by
  obtain ⟨W0, eW0, hb0, k0⟩ := one_new w (.cells #[.bool b, .slice o1 l1 c1, .slice o2 l2 c2] 31)
  have e0 := cell_at (World.drew_at k0)
  have s0 : W0.drew.cell? ⟨w.heap.size, 0, none⟩ = some (.bool b) ∧ W0.drew.cell? ⟨w.heap.size, 1, none⟩ = some (.slice o1 l1 c1) ∧ W0.drew.cell? ⟨w.heap.size, 2, none⟩ = some (.slice o2 l2 c2) := ⟨e0 0 _ rfl, e0 1 _ rfl, e0 2 _ rfl⟩
  have EW : Hid (_ = W0) := eW0
  have H0 : Below w.heap.size w W0.drew := hb0.drew
  have q0 : (0 : Int) ≤ (k : Int) := by omega
  have q1 : (k : Int) ≤ 1000 := by omega
  have kd := World.drew_at k0
  clear eW0 e0
  go_enter Tryz.func9, Tryz.ntmps9
  go_upto_region 1 with fail
  rw [EW.out]
  clear EW
  go_region_held3 (fun w' => w'.cell? ⟨w.heap.size, 0, none⟩ = some (.bool b) ∧ w'.cell? ⟨w.heap.size, 1, none⟩ = some (.slice o1 l1 c1) ∧ w'.cell? ⟨w.heap.size, 2, none⟩ = some (.slice o2 l2 c2)) (first | with_reducible exact s0 | with_reducible exact sa0 | with_reducible exact sa1 | with_reducible exact sa2) (first
    | (go_at_call 30; refine (t1 _ H0).mono ?_; rintro e wa0 ⟨o3, c3, rfl, r3, hba0⟩; have Ha0 := bt H0 hba0; have sa0 := keep3 hba0 s0)
    | (go_at_call 28; refine (t2 _ o3 c3 Ha0 r3).mono ?_; rintro e wa1 ⟨o4, c4, rfl, r4, hba1⟩; have Ha1 := bt Ha0 hba1; have sa1 := keep3 hba1 sa0)
    | (go_at_call 27; refine (t3 _ o4 c4 Ha1 r4).mono ?_; rintro e wa2 ⟨o5, c5, o6, c6, rfl, r5, hba2⟩; have Ha2 := bt Ha1 hba2; have sa2 := keep3 hba2 sa1))
  have kb : ∀ V, Below wa2.heap.size wa2 V → V.cell? ⟨w.heap.size, 0, none⟩ = some (.bool b) := fun V hV => by rw [hV.cell (World.block_lt_of_cell? wa2 _ sa2.1)]; exact sa2.1
  clear s0 sa0 sa1 sa2 t1 t2 t3
  go_upto_region 3 with (go_at_call 31; refine (t4 _ o5 c5 r5).mono ?_; rintro e w5 ⟨rfl, hb5⟩)
  have H5 : Hid (Below w.heap.size w w5) := bt Ha2 hb5
  have HKB : Hid (∀ V, Below wa2.heap.size wa2 V → V.cell? ⟨w.heap.size, 0, none⟩ = some (.bool b)) := kb
  have hk5 := hb5
  clear kb t4 k0 kd hba0 hba1 hba2 Ha0 Ha1 Ha2 r3 r4 r5 H0 hb0 hb5
  go_loopw [7] (fun sv wr => ∃ j : Nat, sv = .string (bs (List.replicate j 48 ++ T)) ∧ (j = 0 ∨ j + T.length ≤ k + 1) ∧ Hid (Below w5.heap.size w5 wr)) (fun sv _ => k + 1 - slen sv)
  case atStart => exact ⟨0, rfl, .inl rfl, Below.refl _ _⟩
  case round =>
    obtain ⟨j, rfl, hj, HB⟩ := hrel
    have hsz := bs_size (List.replicate j 48 ++ T)
    rw [List.length_append, List.length_replicate] at hsz
    by_cases hlt : j + T.length < k + 1
    · have q2 : ((bs (List.replicate j 48 ++ T)).size : Int) < (k : Int) + 1 := by omega
      have q3 : (bs (List.replicate j 48 ++ T)).size ≤ 20000000 := by omega
      have ec : ByteArray.mk #[48] ++ bs (List.replicate j 48 ++ T) = bs (List.replicate (j + 1) 48 ++ T) := by
        rw [show ByteArray.mk #[48] = bs [48] from rfl, ← bs_append, List.replicate_succ]; rfl
      go_wp2
      go_roundw
      case rel => exact ⟨j + 1, by first | rw [ec] | exact congrArg Value.string ec, .inr (by omega), HB.out⟩
      case measure =>
        simp only [slen]
        rw [bs_size, bs_size, List.length_append, List.length_append, List.length_replicate, List.length_replicate]
        omega
    · have hX : List.replicate j 48 ++ T = List.replicate (k + 1 - T.length) 48 ++ T := by
        rw [show k + 1 - T.length = j by omega]
      have hl : (List.replicate j 48 ++ T).length = j + T.length := by rw [List.length_append, List.length_replicate]
      rw [hX, ← hXe.out] at hsz ⊢
      have q4 : ¬ ((X.size : Int) < (k : Int) + 1) := by omega
      have ha : (X.size : Int) - (k : Int) = ((X.size - k : Nat) : Int) := by omega
      have hsz1 : X.size ≤ 20000000 := by omega
      have hsn : X.size - k ≤ X.size := by omega
      have hsi : ((X.size - k : Nat) : Int) ≤ (X.size : Int) := by omega
      have HW := bt H5.out HB.out
      have bw := HKB.out _ (bt hk5 HB.out)
      have bd : wr.drew.cell? ⟨w.heap.size, 0, none⟩ = some (.bool b) := bw
      obtain ⟨a, ea⟩ : ∃ a, X.size - k = a := ⟨_, rfl⟩
      rw [ea] at ha hsn hsi
      clear hX hj hsz hlt
      by_cases hz : k = 0
      · have q2 : ¬ (0 : Int) < (k : Int) := by omega
        cases b
        · go_wp2
          go_ret
          exact ⟨(by first | rfl | simp [hz]), HW⟩
        · cases nz
          · have qn := of_decide_eq_false hnz
            go_wp2
            go_ret
            exact ⟨(by first | rfl | simp [hz]), HW⟩
          · have qn := of_decide_eq_true hnz
            go_wp2
            go_ret
            exact ⟨(by first | rfl | simp [hz]), HW⟩
      · have q2 : (0 : Int) < (k : Int) := by omega
        go_upto_region 6 with fail
        go_region
        have HWd := HW.drew
        cases b
        · go_wp2
          go_ret
          exact ⟨(by first | rfl | rw [if_neg hz, ea] | (rw [ea]; done) | simp [hz, ea]), HWd⟩
        · cases nz
          · have qn := of_decide_eq_false hnz
            go_wp2
            go_ret
            exact ⟨(by first | rfl | rw [if_neg hz, ea] | (rw [ea]; done) | simp [hz, ea]), HWd⟩
          · have qn := of_decide_eq_true hnz
            go_wp2
            go_ret
            exact ⟨(by first | rfl | rw [if_neg hz, ea] | (rw [ea]; done) | simp [hz, ea]), HWd⟩
/-- Decimal, of up to 60 places. -/
theorem rdec_any (v : Value) (p : Nm) (k : Nat) (w : World) (h : IsQ w v p) (f : Fits p 256) (hk : k ≤ 60) : Calls Tryz.prog 9 #[v, .int .i64 (k : Int)] w fun e w' => e = .returned (.string (bs (decM p.b p.n p.d k))) ∧ Below w.heap.size w w' := by
  obtain ⟨o1, c1, o2, c2, rfl, r1, r2⟩ := h
  have l1 := lies_of_owns r1
  have l2 := lies_of_owns r2
  have b1 := tlen k (by omega)
  have b2 := prod_nb p.n (10 ^ k) 256 481 f.2.1 b1
  have b3 := nb_le (p.n * 10 ^ k / p.d) (p.n * 10 ^ k) (Nat.div_le_self _ _) _ b2
  have hT : (tx (cutM p.n p.d k)).length ≤ 10000001 := by
    have := dl_nb (cutM p.n p.d k)
    have h3 : (nb (cutM p.n p.d k)).length ≤ 737 := b3
    unfold tx; split
    · decide
    · omega
  have t1 := fun (V : World) (hV : Below w.heap.size w V) => rtens_any k V (by omega)
  have t2 := fun (V : World) (o3 : Option Addr) (c3 : Nat) (hV : Below w.heap.size w V) (r3 : Lies V o3 c3 (bools (nb (10 ^ k)))) => rmul_core (nb p.n) (nb (10 ^ k)) (p.n * 10 ^ k) (by unfold Hid; rw [fromL_nb, fromL_nb]) o1 o3 c1 c3 V (l1.below hV (Nat.le_refl _)) r3 (Nat.le_trans f.2.1 (by omega)) (by omega)
  have t3 := fun (V : World) (o4 : Option Addr) (c4 : Nat) (hV : Below w.heap.size w V) (r4 : Lies V o4 c4 (bools (nb (p.n * 10 ^ k)))) => rdiv_core (nb (p.n * 10 ^ k)) p.d (p.n * 10 ^ k / p.d) (p.n * 10 ^ k % p.d) (by unfold Hid; rw [fromL_nb]) (by unfold Hid; rw [fromL_nb]) f.1 o4 o2 c4 c2 V r4 (l2.below hV (Nat.le_refl _)) (by omega)
  have t4 := fun (V : World) (o5 : Option Addr) (c5 : Nat) (r5 : Lies V o5 c5 (bools (nb (p.n * 10 ^ k / p.d)))) => rtext_any (p.n * 10 ^ k / p.d) o5 c5 V r5 (by omega)
  refine (rdec_str p.b o1 o2 _ c1 _ c2 _ _ _ (nb (p.n * 10 ^ k % p.d)).length k (tx (cutM p.n p.d k)) (bs (padM p.n p.d k)) (decide (0 < cutM p.n p.d k)) w rfl (by omega) hT (nb_pos _) (tx_pos _)
    (fun V o c => Lies V o c (bools (nb (10 ^ k)))) (fun V o c => Lies V o c (bools (nb (p.n * 10 ^ k)))) (fun V o c => Lies V o c (bools (nb (p.n * 10 ^ k / p.d)))) (fun V hV => (t1 V hV).mono ?_) (fun V o3 c3 hV r3 => (t2 V o3 c3 hV r3).mono ?_) (fun V o4 c4 hV r4 => (t3 V o4 c4 hV r4).mono ?_) t4).mono ?_
  · rintro e w' ⟨o, c, rfl, r, hb⟩
    exact ⟨o, c, rfl, lies_of_owns r, hb⟩
  · rintro e w' ⟨o, c, rfl, r, hb⟩
    exact ⟨o, c, rfl, lies_of_owns r, hb⟩
  · rintro e w' ⟨o5, c5, o6, c6, rfl, r, _, hb⟩
    exact ⟨o5, c5, o6, c6, rfl, lies_of_owns r, hb⟩
  · rintro e w' ⟨rfl, hb⟩
    refine ⟨?_, hb⟩
    have e0 : bs [] = ByteArray.empty := rfl
    unfold decM
    rw [bs_append]
    have e1 : bs (if k = 0 then padM p.n p.d k else List.take ((padM p.n p.d k).length - k) (padM p.n p.d k) ++ 46 :: List.drop ((padM p.n p.d k).length - k) (padM p.n p.d k)) = (if k = 0 then bs (padM p.n p.d k) else (bs (padM p.n p.d k)).extract 0 ((bs (padM p.n p.d k)).size - k) ++ ByteArray.mk #[46] ++ (bs (padM p.n p.d k)).extract ((bs (padM p.n p.d k)).size - k) (bs (padM p.n p.d k)).size) := by
      by_cases hz : k = 0
      · rw [if_pos hz, if_pos hz]
      · rw [if_neg hz, if_neg hz, bs_append, show ∀ l : List Nat, 46 :: l = [46] ++ l from fun _ => rfl, bs_append, extract_bs, bs_size, extract_bs, List.take_length, List.drop_zero, ByteArray.append_assoc]
        rfl
    rw [e1]
    cases hb2 : (p.b && decide (0 < cutM p.n p.d k))
    · simp [e0]
    · rfl
end Go.Proofs.YtefckmkcbgckfaaGreatDoor.RdM
