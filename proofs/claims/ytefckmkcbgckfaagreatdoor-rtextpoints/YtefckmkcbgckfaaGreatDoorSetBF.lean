/- Layer 6: which numbers have a finite decimal fraction, and that its text is read back; rtext.Places and Point; the reference's Places; rtext.Point; the reference's Places; RtextPoints: the walk. -/
import Derived.Test.YtefckmkcbgckfaaGreatDoorSetBB
import Derived.Test.YtefckmkcbgckfaaGreatDoorSetAA
import Derived.Test.YtefckmkcbgckfaaGreatDoorSetBE
import Derived.Test.YtefckmkcbgckfaaGreatDoorSetAX
import Derived.Test.YtefckmkcbgckfaaGreatDoorSetAF
import Derived.Test.YtefckmkcbgckfaaGreatDoorSetAH
import Derived.Lib.MinMax
import Derived.Test.YtefckmkcbgckfaaGreatDoorSetAW
/- Layer 6: which numbers have a finite decimal fraction, and that its text is read back. -/
namespace Go.Proofs.YtefckmkcbgckfaaGreatDoor.PlN
open Go.RowKit LimbNum DigNum StrL TxN TwoN RatL NmL QNum DcM PbL VqN

theorem five_some (a : Nat) (h : a ≠ 0) : ∃ c r, a = 5 ^ c * r ∧ r % 5 ≠ 0 := by
  induction a using Nat.strongRecOn with
  | _ a ih =>
    by_cases h1 : a % 5 = 0
    · obtain ⟨c, r, e, hr⟩ := ih (a / 5) (by omega) (by omega)
      refine ⟨c + 1, r, ?_, hr⟩
      have : a = 5 * (a / 5) := by omega
      rw [this, e, Nat.pow_succ]
      rw [Nat.mul_comm (5 ^ c) 5, Nat.mul_assoc]
    · exact ⟨0, a, by simp, h1⟩
/-- d is 2 so often, 5 so often, and what neither goes into. -/
structure Split (d t c r : Nat) : Prop where
  two : IsTwo d t
  eq : d = 2 ^ t * (5 ^ c * r)
  odd : r % 2 = 1
  five : r % 5 ≠ 0
theorem split_some (d : Nat) (h : d ≠ 0) : ∃ t c r, Split d t c r := by
  obtain ⟨t, ht⟩ := two_some d h
  have h1 : d = 2 ^ t * (d / 2 ^ t) := by
    have := Nat.div_add_mod d (2 ^ t)
    rw [ht.mod] at this
    omega
  have h2 : d / 2 ^ t ≠ 0 := fun e => by rw [e] at h1; omega
  obtain ⟨c, r, e, hr⟩ := five_some _ h2
  refine ⟨t, c, r, ht, by rw [← e]; exact h1, ?_, hr⟩
  have h3 := ht.div
  rw [e] at h3
  rcases Nat.mod_two_eq_zero_or_one r with h4 | h4
  · exfalso
    have : 5 ^ c * r % 2 = 0 := by rw [Nat.mul_mod, h4]; simp
    omega
  · exact h4
theorem cop2 {r : Nat} (h : r % 2 = 1) : Nat.Coprime r 2 := by
  have h1 := Nat.gcd_dvd_left r 2
  have h2 := Nat.gcd_dvd_right r 2
  have h3 := Nat.le_of_dvd (by omega) h2
  unfold Nat.Coprime
  generalize Nat.gcd r 2 = g at *
  rcases g with _ | _ | _ | g
  · omega
  · rfl
  · omega
  · omega
theorem cop5 {r : Nat} (h : r % 5 ≠ 0) : Nat.Coprime r 5 := by
  have h1 := Nat.gcd_dvd_left r 5
  have h2 := Nat.gcd_dvd_right r 5
  have h3 := Nat.le_of_dvd (by omega) h2
  unfold Nat.Coprime
  generalize Nat.gcd r 5 = g at *
  rcases g with _ | _ | _ | _ | _ | _ | g
  all_goals first | rfl | omega
theorem ten (m : Nat) : 10 ^ m = 2 ^ m * 5 ^ m := by rw [← Nat.mul_pow]
theorem Split.fine {d t c : Nat} (h : Split d t c 1) (n : Nat) {m : Nat} (h1 : t ≤ m) (h2 : c ≤ m) : n * 10 ^ m % d = 0 := by
  apply Nat.mod_eq_zero_of_dvd
  rw [h.eq, Nat.mul_one, ten]
  exact Nat.dvd_trans (Nat.mul_dvd_mul (Nat.pow_dvd_pow 2 h1) (Nat.pow_dvd_pow 5 h2)) (Nat.dvd_mul_left _ _)
theorem Split.only {d t c r : Nat} (h : Split d t c r) {n m : Nat} (hg : Nat.gcd n d = 1) (h0 : n * 10 ^ m % d = 0) : r = 1 ∧ t ≤ m ∧ c ≤ m := by
  have h1 : d ∣ 10 ^ m := Nat.Coprime.dvd_of_dvd_mul_left (show Nat.Coprime d n by unfold Nat.Coprime; rw [Nat.gcd_comm]; exact hg) (Nat.dvd_of_mod_eq_zero h0)
  have ht : 2 ^ t ∣ 10 ^ m := Nat.dvd_trans ⟨5 ^ c * r, h.eq⟩ h1
  have hc : 5 ^ c ∣ 10 ^ m := Nat.dvd_trans ⟨2 ^ t * r, by rw [h.eq, ← Nat.mul_assoc, ← Nat.mul_assoc, Nat.mul_comm (2 ^ t)]⟩ h1
  have hr : r ∣ 10 ^ m := Nat.dvd_trans ⟨2 ^ t * 5 ^ c, by rw [h.eq, ← Nat.mul_assoc, Nat.mul_comm]⟩ h1
  have c25 : Nat.Coprime 2 5 := by decide
  refine ⟨?_, ?_, ?_⟩
  · have : Nat.Coprime r (10 ^ m) := Nat.Coprime.pow_right m (show Nat.Coprime r (2 * 5) from Nat.Coprime.mul_right (cop2 h.odd) (cop5 h.five))
    exact Nat.Coprime.eq_one_of_dvd this hr
  · rw [ten] at ht
    have : 2 ^ t ∣ 2 ^ m := Nat.Coprime.dvd_of_dvd_mul_right (Nat.Coprime.pow t m c25) ht
    exact (Nat.pow_dvd_pow_iff_le_right (by omega)).1 this
  · rw [ten] at hc
    have : 5 ^ c ∣ 5 ^ m := Nat.Coprime.dvd_of_dvd_mul_left (Nat.Coprime.pow c m c25.symm) hc
    exact (Nat.pow_dvd_pow_iff_le_right (by omega)).1 this
theorem Split.low {d t c r : Nat} (h : Split d t c r) (hd : (nb d).length ≤ 256) : t ≤ 255 ∧ c ≤ 255 := by
  have h1 : d < 2 ^ 256 := by
    have h3 := fromL_lt (nb d)
    rw [fromL_nb] at h3
    exact Nat.lt_of_lt_of_le h3 (Nat.pow_le_pow_right (by omega) hd)
  have h2 : 0 < r := by have := h.odd; omega
  constructor
  · have := h.two.lt h1
    omega
  · have h3 : 2 ^ c ≤ 5 ^ c := Nat.pow_le_pow_left (by omega) c
    have h4 : 5 ^ c ≤ d := by
      rw [h.eq]
      exact Nat.le_trans (Nat.le_mul_of_pos_right _ h2) (Nat.le_mul_of_pos_left _ (Nat.two_pow_pos t))
    have h5 : 2 ^ c < 2 ^ 256 := by omega
    have := (Nat.pow_lt_pow_iff_right (a := 2) (by omega)).1 h5
    omega
theorem dg_pad (n d k : Nat) : DG (padM n d k) := by
  unfold padM
  intro x hx
  rcases List.mem_append.1 hx with h | h
  · have := (List.mem_replicate.1 h).2
    omega
  · exact dg_tx _ x h
theorem dv_pad (n d k : Nat) : dv (padM n d k) = cutM n d k := by
  unfold padM
  rw [dv_append, dv_noughts _ (fun x hx => (List.mem_replicate.1 hx).2), dv_tx]
  simp
/-- A text with a point in it. -/
theorem read_point {A B : List Nat} (hA : DG A) (hB : DG B) (ha : A ≠ []) (hb : B ≠ []) : readM (A ++ 46 :: B) = some (dv (A ++ B), 10 ^ B.length) := by
  have h1 : 47 ∉ A ++ 46 :: B := by
    intro h
    rcases List.mem_append.1 h with h | h
    · have := hA 47 h; omega
    · rcases List.mem_cons.1 h with h | h
      · omega
      · have := hB 47 h; omega
  have h2 := cut_none h1
  have h3 := cut_at (c := 46) B (dg_not hA (by omega))
  have ok : okN (A ++ B) = true := ok_iff.2 ⟨by simp [ha], fun x hx => by
    rcases List.mem_append.1 hx with h | h
    · exact hA x h
    · exact hB x h⟩
  unfold readM
  rw [h2, h3]
  simp [ok, ha, hb]
theorem dec_read (b : Bool) (n d k : Nat) (hk : 1 ≤ k) (hc : 0 < cutM n d k) : signM (decM b n d k) = (b, (padM n d k).take ((padM n d k).length - k) ++ 46 :: (padM n d k).drop ((padM n d k).length - k)) ∧ readM (signM (decM b n d k)).2 = some (cutM n d k, 10 ^ k) := by
  have hl := pad_len n d k
  have hD := dg_pad n d k
  have hA : DG ((padM n d k).take ((padM n d k).length - k)) := fun x hx => hD x (List.mem_of_mem_take hx)
  have hB : DG ((padM n d k).drop ((padM n d k).length - k)) := fun x hx => hD x (List.mem_of_mem_drop hx)
  have ha : (padM n d k).take ((padM n d k).length - k) ≠ [] := fun e => by
    have := congrArg List.length e
    rw [List.length_take] at this
    simp at this
    omega
  have lb : ((padM n d k).drop ((padM n d k).length - k)).length = k := by rw [List.length_drop]; omega
  have hb : (padM n d k).drop ((padM n d k).length - k) ≠ [] := fun e => by
    rw [e] at lb
    simp at lb
    omega
  have hs : signM (decM b n d k) = (b, (padM n d k).take ((padM n d k).length - k) ++ 46 :: (padM n d k).drop ((padM n d k).length - k)) := by
    unfold decM
    rw [decide_eq_true hc, if_neg (show ¬ k = 0 by omega)]
    cases b
    · simp only [Bool.false_and, Bool.false_eq_true, if_false, List.nil_append]
      generalize (padM n d k).take ((padM n d k).length - k) = A at *
      cases A with
      | nil => exact absurd rfl ha
      | cons x t =>
        have := hA x (List.mem_cons_self ..)
        unfold signM
        split
        · rename_i t' h
          simp only [List.cons_append, List.cons.injEq] at h
          omega
        · rfl
    · rfl
  refine ⟨hs, ?_⟩
  rw [hs, read_point hA hB ha hb, List.take_append_drop, dv_pad, lb]
theorem b8_dec (b : Bool) (n d k : Nat) : B8 (decM b n d k) := by
  have h8 : B8 (padM n d k) := b8_dg (dg_pad n d k)
  unfold decM
  refine b8_app ?_ ?_
  · split
    · intro x hx; simp at hx; omega
    · intro x hx; simp at hx
  · split
    · exact h8
    · refine b8_app (fun x hx => h8 x (List.mem_of_mem_take hx)) (fun x hx => ?_)
      rcases List.mem_cons.1 hx with h | h
      · omega
      · exact h8 x (List.mem_of_mem_drop h)
/-- Where k digits suffice the number that the text says is the number itself. -/
theorem dec_same {p : Nm} {k : Nat} (lo : Low p.b p.n p.d) (h0 : p.n * 10 ^ k % p.d = 0) (hn : p.n ≠ 0) : 0 < cutM p.n p.d k ∧ lowM p.b (cutM p.n p.d k) (10 ^ k) = p := by
  have e : cutM p.n p.d k * p.d = p.n * 10 ^ k := by
    unfold cutM
    exact Nat.div_mul_cancel (Nat.dvd_of_mod_eq_zero h0)
  have hp : 0 < p.n * 10 ^ k := Nat.mul_pos (by omega) (Nat.pow_pos (by omega))
  have hc : 0 < cutM p.n p.d k := Nat.pos_of_ne_zero (fun h => by rw [h] at e; omega)
  refine ⟨hc, ?_⟩
  generalize cutM p.n p.d k = C at *
  have hg : 0 < Nat.gcd C (10 ^ k) := Nat.gcd_pos_of_pos_left _ hc
  have g1 : Nat.gcd (C / Nat.gcd C (10 ^ k)) (10 ^ k / Nat.gcd C (10 ^ k)) = 1 := Nat.coprime_div_gcd_div_gcd hg
  have e1 : C / Nat.gcd C (10 ^ k) * Nat.gcd C (10 ^ k) = C := Nat.div_mul_cancel (Nat.gcd_dvd_left _ _)
  have e2 : 10 ^ k / Nat.gcd C (10 ^ k) * Nat.gcd C (10 ^ k) = 10 ^ k := Nat.div_mul_cancel (Nat.gcd_dvd_right _ _)
  have hd : 0 < 10 ^ k / Nat.gcd C (10 ^ k) := Nat.div_pos (Nat.le_of_dvd (Nat.pow_pos (by omega)) (Nat.gcd_dvd_right _ _)) hg
  have e3 : C / Nat.gcd C (10 ^ k) * p.d = p.n * (10 ^ k / Nat.gcd C (10 ^ k)) := by
    apply Nat.eq_of_mul_eq_mul_right hg
    calc C / Nat.gcd C (10 ^ k) * p.d * Nat.gcd C (10 ^ k) = C / Nat.gcd C (10 ^ k) * Nat.gcd C (10 ^ k) * p.d := by rw [Nat.mul_right_comm]
      _ = p.n * (10 ^ k / Nat.gcd C (10 ^ k) * Nat.gcd C (10 ^ k)) := by rw [e1, e2, e]
      _ = p.n * (10 ^ k / Nat.gcd C (10 ^ k)) * Nat.gcd C (10 ^ k) := by rw [Nat.mul_assoc]
  obtain ⟨u1, u2⟩ := uniq _ _ _ _ g1 lo.one hd e3
  obtain ⟨pb, pn, pd⟩ := p
  unfold lowM
  rw [u1, u2]
  simp at hn
  simp [hn]
end Go.Proofs.YtefckmkcbgckfaaGreatDoor.PlN

/- rtext.Places and Point; the reference's Places. -/
namespace Go.Proofs.YtefckmkcbgckfaaGreatDoor.PlL
open Go.RowKit Mem LimbNum Limb1 Limb3 NatL DigNum DigL StrL TxN TextL RatL RatM RatN RatW RefR NmL QNum MulW MulL PtL PadL TensAll DivAll TwoN TwoL DcM PbL PlN DivW ShiftL RefL RdM RText BitMul BitDiv

set_option maxRecDepth 20000 in
set_option maxHeartbeats 1000000 in
/-- How often 5 goes into a number, and what is left. -/
theorem fives_any (c r : Nat) (hr : r % 5 ≠ 0) (hc : c ≤ 255) (o : Option Addr) (cap : Nat) (w : World) (hlen : (nl (5 ^ c * r)).length ≤ 1000000) (h : Lies w o cap (ints .u32 (nl (5 ^ c * r)))) :
    Calls Tryz.prog 22 #[.slice o (nl (5 ^ c * r)).length cap] w fun e w' => ∃ o' c', e = .returned (.tuple #[.int .i64 (c : Int), .slice o' (nl r).length c']) ∧ Lies w' o' c' (ints .u32 (nl r)) ∧ Below w.heap.size w w' := by
  have HL : Hid (Lies w o cap (ints .u32 (nl (5 ^ c * r))) ∧ (nl (5 ^ c * r)).length ≤ 1000000) := ⟨h, hlen⟩
  clear h hlen
  obtain ⟨l0, el0⟩ : ∃ l, (nl (5 ^ c * r)).length = l := ⟨_, rfl⟩
  rw [el0]
  have EL : Hid ((nl (5 ^ c * r)).length = l0) := el0
  clear el0
  go_enter Tryz.func22, Tryz.ntmps22
  go_wp2
  go_loopw [0, 4] (fun sa iv wr => ∃ (i : Nat) (o1 : Option Addr) (l1 c1 : Nat), i ≤ c ∧ sa = .slice o1 l1 c1 ∧ iv = .int .i64 (i : Int) ∧ Hid (l1 = (nl (5 ^ (c - i) * r)).length ∧ l1 ≤ 1000000 ∧ Lies wr o1 c1 (ints .u32 (nl (5 ^ (c - i) * r)))) ∧ Hid (Below w.heap.size w wr)) (fun _ iv _ => c - (intOf iv).toNat)
  case atStart => exact ⟨0, o, l0, cap, by omega, rfl, rfl, ⟨by rw [Nat.sub_zero]; exact EL.out.symm, by rw [← EL.out]; exact HL.out.2, by rw [Nat.sub_zero]; exact HL.out.1⟩, Below.refl _ _⟩
  case round =>
    clear HL EL
    obtain ⟨i, o1, l1, c1, hi, rfl, rfl, HX, HB⟩ := hrel
    have q0 : (i : Int) < 1000 := by omega
    have cD := divword_any (nl (5 ^ (c - i) * r)) 5 o1 c1 wr HX.out.2.2 (small_nl _) (by omega) (by omega) (by have := HX.out.1; have := HX.out.2.1; omega)
    rw [val_nl, ← HX.out.1] at cD
    by_cases hlt : i < c
    · have hV : 5 ^ (c - i) * r = 5 * (5 ^ (c - (i + 1)) * r) := by
        rw [show c - i = c - (i + 1) + 1 by omega, Nat.pow_succ, Nat.mul_comm (5 ^ (c - (i + 1))) 5, Nat.mul_assoc]
      have h5 : 5 ^ (c - i) * r / 5 = 5 ^ (c - (i + 1)) * r := by rw [hV]; exact Nat.mul_div_cancel_left _ (by omega)
      have h6 : 5 ^ (c - i) * r % 5 = 0 := by rw [hV]; exact Nat.mul_mod_right _ _
      rw [h5, h6] at cD
      have hle : (nl (5 ^ (c - (i + 1)) * r)).length ≤ 1000000 := by
        have h1 := HX.out.1
        have h2 := HX.out.2.1
        have := nl_mono (5 ^ (c - (i + 1)) * r) (5 ^ (c - i) * r) (by rw [hV]; omega)
        omega
      clear hV h5 h6 HX
      go_wp2_with (go_at_call 48; refine cD.mono ?_; rintro e w1 ⟨o2, c2, rfl, own, hb⟩)
      go_roundw
      case rel => exact ⟨i + 1, o2, _, c2, by omega, rfl, by go_num, ⟨rfl, hle, lies_of_owns own⟩, bt HB.out hb⟩
      case measure => simp [intOf]; omega
    · obtain rfl : c = i := by omega
      have hz : ¬ (((5 ^ (c - c) * r % 5 : Nat) : Int) = 0) := by rw [Nat.sub_self, Nat.pow_zero, Nat.one_mul]; omega
      have hLL := HX.out.2.2
      have hll := HX.out.1
      rw [Nat.sub_self, Nat.pow_zero, Nat.one_mul] at hLL hll
      have HY : Hid (Lies wr o1 c1 (ints .u32 (nl r)) ∧ l1 = (nl r).length) := ⟨hLL, hll⟩
      generalize 5 ^ (c - c) * r % 5 = R at *
      generalize 5 ^ (c - c) * r / 5 = V at *
      generalize (nl V).length = lv at *
      clear HX hLL hll hlt
      go_wp2_with (go_at_call 48; refine cD.mono ?_; rintro e w1 ⟨o2, c2, rfl, own, hb⟩)
      go_ret2
      exact ⟨o1, c1, by rw [← HY.out.2]; rfl, HY.out.1.below hb (Nat.le_refl _), bt HB.out hb⟩
/-- One bit has 1 alone. -/
theorem one_bit {r : Nat} (h : r % 2 = 1) : (bitLen r : Int) = 1 ↔ r = 1 := by
  constructor
  · intro e
    have h2 := fromL_lt (nb r)
    rw [fromL_nb, len_nb] at h2
    have : bitLen r = 1 := by omega
    rw [this] at h2
    omega
  · rintro rfl
    decide
set_option maxRecDepth 20000 in
set_option maxHeartbeats 1000000 in
theorem places_any (v : Value) (p : Nm) (t c r : Nat) (w : World) (h : IsR w v p) (f : Fits p 256) (hs : Split p.d t c r) (hT : Tabl w) :
    Calls Tryz.prog 5 #[v] w fun e w' => e = .returned (.tuple #[.int .i64 ((if r = 1 then max t c else 0 : Nat) : Int), .bool (decide (r = 1))]) ∧ Below w.heap.size w w' := by
  obtain ⟨xb, xA, xL, xp, rfl⟩ := h.shape4
  have hlow := hs.low f.2.2
  have l2 := (f.nl (by omega)).2
  obtain ⟨W0, eW0, hb0, k0⟩ := one_new w (.cells #[.bool xb, .int .u64 xA, .int .u64 xL, .pointer xp] 28)
  have e0 := cell_at k0
  have a0 : W0.cell? ⟨w.heap.size, 0, none⟩ = some (.bool xb) := e0 0 _ rfl
  have a1 : W0.cell? ⟨w.heap.size, 1, none⟩ = some (.int .u64 xA) := e0 1 _ rfl
  have a2 : W0.cell? ⟨w.heap.size, 2, none⟩ = some (.int .u64 xL) := e0 2 _ rfl
  have a3 : W0.cell? ⟨w.heap.size, 3, none⟩ = some (.pointer xp) := e0 3 _ rfl
  have EW : Hid (_ = W0) := eW0
  have C0 : Hid (Below w.heap.size w W0) := hb0
  have cP := parts_any _ p.b p.n p.d W0 (h.below hb0) (Nat.le_trans (f.nl (by omega)).1 (by omega)) (Nat.le_trans l2 (by omega))
  have HT : Hid (Tabl W0) := hT.below hb0
  have hN : 5 ^ c * r = p.d / 2 ^ t := by rw [hs.eq]; exact (Nat.mul_div_cancel_left _ (Nat.two_pow_pos t)).symm
  have hl5 : (nl (5 ^ c * r)).length ≤ 1000000 := Nat.le_trans (nl_mono _ _ (by rw [hN]; exact Nat.div_le_self _ _)) l2
  have cT := fun (W : World) (o : Option Addr) (cp : Nat) (h : Lies W o cp (ints .u32 (nl p.d))) (hT : Tabl W) => twos_any (nl p.d) t (.inl (by rw [val_nl]; exact hs.two)) o cp W h (small_nl _) (by omega) hT
  have cS := fun (W : World) (o : Option Addr) (cp : Nat) (h : Lies W o cp (ints .u32 (nl p.d))) => shr_any (nl p.d) (t : Int) o cp W (by omega) (by omega) h (small_nl _) (by omega)
  rw [val_nl, Int.toNat_natCast, ← hN] at cS
  have cF := fun (W : World) (o : Option Addr) (cp : Nat) (h : Lies W o cp (ints .u32 (nl (5 ^ c * r)))) => fives_any c r hs.five hlow.2 o cp W hl5 h
  have hlr : (nl r).length ≤ 1000000 := Nat.le_trans (nl_mono _ _ (Nat.le_mul_of_pos_left _ (Nat.pow_pos (by omega)))) hl5
  have cB := fun (W : World) (o : Option Addr) (cp : Nat) (h : Lies W o cp (ints .u32 (nl r))) => bits_any (nl r) o cp W h (small_nl _) (by omega)
  rw [val_nl] at cB
  have hone := one_bit hs.odd
  have q1 : (t : Int) ≤ 1000 := by omega
  have q2 : (c : Int) ≤ 1000 := by omega
  generalize (nl p.n).length = m1 at *
  generalize (nl p.d).length = m2 at *
  generalize (nl (5 ^ c * r)).length = m3 at *
  generalize (nl r).length = m4 at *
  generalize (bitLen r : Int) = BL at *
  clear eW0 hb0 k0 e0 h f hs hlow l2 hT hN hl5 hlr
  go_enter Tryz.func5, Tryz.ntmps5
  go_upto_region 1 with fail
  rw [EW.out]
  clear EW
  go_upto_region 2 with (go_at_call 19; refine cP.mono ?_; rintro e w1 ⟨o1, c1, o2, c2, rfl, own1, own2, hb1⟩)
  have LL : Hid (Lies w1 o2 c2 (ints .u32 (nl p.d))) := lies_of_owns own2
  have HT1 : Hid (Tabl w1) := HT.out.below hb1
  clear own1 own2 a0 a1 a2 a3 HT cP
  go_upto_region 3 with (go_at_call 20; refine (cT _ _ _ LL.out HT1.out).mono ?_; rintro e w2 ⟨rfl, hw⟩; have hw2 := hw.symm; clear hw; subst hw2)
  go_upto_region 7 with (first
    | (go_at_call 21; refine (cS _ _ _ LL.out).mono ?_; rintro e w3 ⟨o3, c3, rfl, own3, hb3⟩; have L3 : Hid (Lies w3 o3 c3 (ints .u32 (nl (5 ^ c * r)))) := lies_of_owns own3; clear own3)
    | (go_at_call 22; refine (cF _ _ _ L3.out).mono ?_; rintro e w4 ⟨o4, c4, rfl, r4, hb4⟩; have L4 : Hid (Lies w4 o4 c4 (ints .u32 (nl r))) := r4; clear r4))
  have CC : Hid (Below w.heap.size w w4) := bt C0.out (bt hb1 (bt hb3 hb4))
  clear C0 hb1 hb3 hb4 cT cS cF LL HT1 L3
  by_cases hr1 : r = 1
  · have hB : BL = 1 := hone.2 hr1
    subst hB
    clear hone
    go_wp2_with (go_at_call 23; refine (cB _ _ _ L4.out).mono ?_; rintro e w5 ⟨rfl, hw⟩; have hw2 := hw.symm; clear hw; subst hw2)
    all_goals go_ret2
    refine ⟨?_, CC.out⟩
    have em : ((max t c : Nat) : Int) = max (t : Int) (c : Int) := by omega
    rw [em]
    rfl
  · have hB : ¬ BL = 1 := fun e => hr1 (hone.1 e)
    clear hone
    go_wp2_with (go_at_call 23; refine (cB _ _ _ L4.out).mono ?_; rintro e w5 ⟨rfl, hw⟩; have hw2 := hw.symm; clear hw; subst hw2)
    go_ret2
    exact ⟨rfl, CC.out⟩
end Go.Proofs.YtefckmkcbgckfaaGreatDoor.PlL

/- rtext.Point; the reference's Places. -/
namespace Go.Proofs.YtefckmkcbgckfaaGreatDoor.PlP
open Go.RowKit Mem LimbNum Limb1 Limb3 NatL DigNum DigL StrL TxN TextL RatL RatM RatN RatW RefR NmL QNum MulW MulL PtL PadL TensAll DivAll TwoN TwoL DcM PbL PlN PlL RefL RdM RText BitMul BitDiv Words

theorem tl (k : Nat) : (nb (10 ^ k)).length ≤ 4 * k + 1 := by
  refine nb_lt _ _ ?_
  have h1 : 10 ^ k ≤ 16 ^ k := Nat.pow_le_pow_left (by omega) k
  have h2 : (16 : Nat) ^ k = 2 ^ (4 * k) := by rw [Nat.pow_mul]
  have h3 : 2 ^ (4 * k) < 2 ^ (4 * k + 1) := Nat.pow_lt_pow_right (by omega) (by omega)
  omega
theorem dec_len {p : Nm} {k : Nat} (f : Fits p 256) (hk : k ≤ 1000) : (decM p.b p.n p.d k).length ≤ 20000 := by
  have h1 := prod_nb p.n (10 ^ k) 256 (4 * k + 1) f.2.1 (tl k)
  have h2 : (nb (cutM p.n p.d k)).length ≤ 256 + (4 * k + 1) := nb_le (cutM p.n p.d k) (p.n * 10 ^ k) (Nat.div_le_self _ _) _ h1
  have h3 : (tx (cutM p.n p.d k)).length ≤ 256 + (4 * k + 1) := by
    have := dl_nb (cutM p.n p.d k)
    unfold tx
    split
    · simp; omega
    · omega
  have h4 : (padM p.n p.d k).length ≤ 6000 := by
    unfold padM
    rw [List.length_append, List.length_replicate]
    omega
  unfold decM
  rw [List.length_append]
  have h5 : ∀ b : Bool, (if b then [45] else ([] : List Nat)).length ≤ 1 := fun b => by cases b <;> simp
  have h6 := h5 (p.b && decide (0 < cutM p.n p.d k))
  have h7 : (if k = 0 then padM p.n p.d k else (padM p.n p.d k).take ((padM p.n p.d k).length - k) ++ 46 :: (padM p.n p.d k).drop ((padM p.n p.d k).length - k)).length ≤ 12001 := by
    by_cases hk0 : k = 0
    · rw [if_pos hk0]; omega
    · rw [if_neg hk0]
      simp only [List.length_append, List.length_take, List.length_cons, List.length_drop]
      omega
  omega
set_option maxRecDepth 20000 in
set_option maxHeartbeats 1000000 in
theorem point_any (v : Value) (p : Nm) (t c r : Nat) (w : World) (h : IsR w v p) (f : Fits p 256) (hs : Split p.d t c r) (hT : Tabl w) :
    Calls Tryz.prog 6 #[v] w fun e w' => e = .returned (.tuple #[.string (if r = 1 then bs (decM p.b p.n p.d (max t c)) else ⟨#[]⟩), .bool (decide (r = 1))]) ∧ Below w.heap.size w w' := by
  obtain ⟨xb, xA, xL, xp, rfl⟩ := h.shape4
  have hlow := hs.low f.2.2
  obtain ⟨W0, eW0, hb0, k0⟩ := one_new w (.cells #[.bool xb, .int .u64 xA, .int .u64 xL, .pointer xp] 28)
  have e0 := cell_at k0
  have a0 : W0.cell? ⟨w.heap.size, 0, none⟩ = some (.bool xb) := e0 0 _ rfl
  have a1 : W0.cell? ⟨w.heap.size, 1, none⟩ = some (.int .u64 xA) := e0 1 _ rfl
  have a2 : W0.cell? ⟨w.heap.size, 2, none⟩ = some (.int .u64 xL) := e0 2 _ rfl
  have a3 : W0.cell? ⟨w.heap.size, 3, none⟩ = some (.pointer xp) := e0 3 _ rfl
  have EW : Hid (_ = W0) := eW0
  have C0 : Hid (Below w.heap.size w W0) := hb0
  have cP := places_any _ p t c r W0 (h.below hb0) f hs (hT.below hb0)
  have cD := fun (W : World) (hR : IsR W (.agg #[.bool xb, .int .u64 xA, .int .u64 xL, .pointer xp]) p) => dec_any _ p (max t c) W hR f (by omega)
  have HR : Hid (IsR W0 (.agg #[.bool xb, .int .u64 xA, .int .u64 xL, .pointer xp]) p) := h.below hb0
  have K0 : Hid (W0.heap[w.heap.size]? = some (.cells #[.bool xb, .int .u64 xA, .int .u64 xL, .pointer xp] 28)) := k0
  generalize bs (decM p.b p.n p.d (max t c)) = SS at *
  clear eW0 hb0 k0 e0 h f hs hlow hT
  go_enter Tryz.func6, Tryz.ntmps6
  go_upto_region 1 with fail
  rw [EW.out]
  clear EW
  by_cases hr : r = 1
  · rw [if_pos hr, decide_eq_true hr] at cP
    go_upto_region 2 with (go_at_call 5; refine cP.mono ?_; rintro e w1 ⟨rfl, hb1⟩)
    have f0 := cell_at (box_kept K0.out hb1 (in_heap K0.out))
    have c0 : w1.cell? ⟨w.heap.size, 0, none⟩ = some (.bool xb) := f0 0 _ rfl
    have c1 : w1.cell? ⟨w.heap.size, 1, none⟩ = some (.int .u64 xA) := f0 1 _ rfl
    have c2 : w1.cell? ⟨w.heap.size, 2, none⟩ = some (.int .u64 xL) := f0 2 _ rfl
    have c3 : w1.cell? ⟨w.heap.size, 3, none⟩ = some (.pointer xp) := f0 3 _ rfl
    clear f0 a0 a1 a2 a3 cP
    go_wp2_with (go_at_call 24; refine (cD _ (HR.out.below hb1)).mono ?_; rintro e w2 ⟨rfl, hb2⟩)
    go_ret2
    exact ⟨by first | rfl | (rw [if_pos hr, decide_eq_true hr]; rfl), bt C0.out (bt hb1 hb2)⟩
  · rw [if_neg hr, decide_eq_false hr] at cP
    go_wp2_with (go_at_call 5; refine cP.mono ?_; rintro e w1 ⟨rfl, hb1⟩)
    go_ret2
    exact ⟨by first | rfl | (rw [if_neg hr, decide_eq_false hr]; rfl), bt C0.out hb1⟩
theorem bits10 : (nb 10).length = 4 := by decide +kernel
set_option maxRecDepth 20000 in
set_option maxHeartbeats 1000000 in
theorem rplaces_any (v : Value) (p : Nm) (w : World) (h : IsQ w v p) (f : Fits p 256) :
    Calls Tryz.prog 8 #[v, .int .i64 30] w fun e w' => ((∃ m : Nat, m ≤ 30 ∧ p.n * 10 ^ m % p.d = 0 ∧ (∀ j : Nat, j < m → p.n * 10 ^ j % p.d ≠ 0) ∧ e = .returned (.tuple #[.int .i64 (m : Int), .bool true])) ∨ ((∀ j : Nat, j ≤ 30 → p.n * 10 ^ j % p.d ≠ 0) ∧ e = .returned (.tuple #[.int .i64 0, .bool false]))) ∧ Below w.heap.size w w' := by
  obtain ⟨o1, c1, o2, c2, rfl, r1, r2⟩ := h
  obtain ⟨W0, eW0, hb0, k0⟩ := one_new w (.cells #[.bool p.b, .slice o1 (nb p.n).length c1, .slice o2 (nb p.d).length c2] 31)
  have EW : Hid (_ = W0) := eW0
  have C0 : Hid (Below w.heap.size w W0) := hb0
  have LN : Hid (Lies W0 o1 c1 (bools (nb p.n))) := (lies_of_owns r1).below hb0 (Nat.le_refl _)
  have LD : Hid (Lies W0 o2 c2 (bools (nb p.d))) := (lies_of_owns r2).below hb0 (Nat.le_refl _)
  have K0 : Hid (W0.heap[w.heap.size]? = some (.cells #[.bool p.b, .slice o1 (nb p.n).length c1, .slice o2 (nb p.d).length c2] 31)) := k0
  have FF : Hid (Fits p 256) := f
  have e0 := cell_at k0
  have a1 : W0.cell? ⟨w.heap.size, 1, none⟩ = some (.slice o1 (nb p.n).length c1) := e0 1 _ rfl
  obtain ⟨l1, el1⟩ : ∃ l, (nb p.n).length = l := ⟨_, rfl⟩
  obtain ⟨l2, el2⟩ : ∃ l, (nb p.d).length = l := ⟨_, rfl⟩
  have E1 : Hid ((nb p.n).length = l1) := el1
  have E2 : Hid ((nb p.d).length = l2) := el2
  rw [el1] at a1 ⊢
  rw [el2]
  have EW2 : Hid (w.alloc (.cells #[.bool p.b, .slice o1 l1 c1, .slice o2 l2 c2] 31) = W0) := by rw [← el1, ← el2]; exact EW.out
  have K2 : Hid (W0.heap[w.heap.size]? = some (.cells #[.bool p.b, .slice o1 l1 c1, .slice o2 l2 c2] 31)) := by rw [← el1, ← el2]; exact K0.out
  clear eW0 hb0 k0 e0 f r1 r2 EW K0 el1 el2
  go_enter Tryz.func8, Tryz.ntmps8
  go_upto_region 1 with fail
  rw [EW2.out]
  clear EW2
  go_upto_region 3 with fail
  go_loopw [6, 7] (fun sa iv wr => ∃ (i : Nat) (o : Option Addr) (l c : Nat), i ≤ 31 ∧ sa = .slice o l c ∧ iv = .int .i64 (i : Int) ∧ Hid (l = (nb (p.n * 10 ^ i)).length ∧ Lies wr o c (bools (nb (p.n * 10 ^ i)))) ∧ Hid (∀ j : Nat, j < i → p.n * 10 ^ j % p.d ≠ 0) ∧ Hid (Below W0.heap.size W0 wr)) (fun _ iv _ => 31 - (intOf iv).toNat)
  case atStart => exact ⟨0, o1, l1, c1, by omega, rfl, rfl, ⟨by rw [Nat.pow_zero, Nat.mul_one]; exact E1.out.symm, by rw [Nat.pow_zero, Nat.mul_one]; exact LN.out⟩, fun j hj => by omega, Below.refl _ _⟩
  case round =>
    clear a1 LN
    obtain ⟨i, o, l, c, hi, rfl, rfl, HX, HZ, HB⟩ := hrel
    by_cases hlt : i ≤ 30
    · have q0 : (i : Int) ≤ 30 := by omega
      have hb1 := prod_nb p.n (10 ^ i) 256 (4 * i + 1) FF.out.2.1 (tl i)
      have f0 := cell_at (box_kept K2.out HB.out (in_heap K2.out))
      have c2' : wr.cell? ⟨w.heap.size, 2, none⟩ = some (.slice o2 l2 c2) := f0 2 _ rfl
      have cD := rdiv_core (nb (p.n * 10 ^ i)) p.d (p.n * 10 ^ i / p.d) (p.n * 10 ^ i % p.d) (by unfold Hid; rw [fromL_nb]) (by unfold Hid; rw [fromL_nb]) FF.out.1 o o2 c c2 wr HX.out.2 (LD.out.below HB.out (Nat.le_refl _)) (by omega)
      rw [← HX.out.1, E2.out] at cD
      have cW := fun (W : World) => rword_core 10 (nb 10) W (by rw [bits10]; omega) rfl (by omega)
      have cM := fun (W : World) (o' : Option Addr) (c' : Nat) (h1 : Lies W o c (bools (nb (p.n * 10 ^ i)))) (h2 : Lies W o' c' (bools (nb 10))) => rmul_core (nb (p.n * 10 ^ i)) (nb 10) (p.n * 10 ^ (i + 1)) (by unfold Hid; rw [fromL_nb, fromL_nb, Nat.pow_succ, Nat.mul_assoc]) o o' c c' W h1 h2 (by omega) (by rw [bits10]; omega)
      rw [← HX.out.1] at cM
      rw [bits10] at cW cM
      have HL : Hid (Lies wr o c (bools (nb (p.n * 10 ^ i)))) := HX.out.2
      clear f0 HX hb1
      by_cases hz : p.n * 10 ^ i % p.d = 0
      · have e0 : (nb (p.n * 10 ^ i % p.d)).length = 0 := by rw [hz, nb_zero]; rfl
        rw [e0] at cD
        go_wp2_with (go_at_call 27; refine cD.mono ?_; rintro e w1 ⟨o5, c5, o6, c6, rfl, _, _, hb1⟩)
        go_ret2
        exact ⟨.inl ⟨i, hlt, hz, HZ.out, rfl⟩, bt C0.out (bt HB.out hb1)⟩
      · have e0 : ¬ (((nb (p.n * 10 ^ i % p.d)).length : Nat) : Int) = 0 := fun e => hz (by
          have h3 := fromL_nb (p.n * 10 ^ i % p.d)
          have hnil : nb (p.n * 10 ^ i % p.d) = [] := List.length_eq_zero_iff.1 (by omega)
          rw [hnil] at h3
          exact h3.symm)
        generalize (nb (p.n * 10 ^ i % p.d)).length = lr at *
        generalize (nb (p.n * 10 ^ i / p.d)).length = lq at *
        obtain ⟨lm, elm⟩ : ∃ l, (nb (p.n * 10 ^ (i + 1))).length = l := ⟨_, rfl⟩
        simp only [elm] at cM
        have EM : Hid ((nb (p.n * 10 ^ (i + 1))).length = lm) := elm
        clear elm
        have HZ2 : Hid (∀ j : Nat, j < i + 1 → p.n * 10 ^ j % p.d ≠ 0) := fun j hj => by
          by_cases hji : j < i
          · exact HZ.out j hji
          · have : j = i := by omega
            subst this
            exact hz
        clear hz
        go_wp2_with (first
          | (go_at_call 27; refine cD.mono ?_; rintro e w1 ⟨o5, c5, o6, c6, rfl, _, _, hb1⟩)
          | (go_at_call 29; refine (cW _).mono ?_; rintro e w2 ⟨o7, c7, rfl, own7, hb2⟩)
          | (go_at_call 28; refine (cM _ _ _ (HL.out.below (bt hb1 hb2) (Nat.le_refl _)) (lies_of_owns own7)).mono ?_; rintro e w3 ⟨o8, c8, rfl, own8, hb3⟩))
        go_roundw
        case rel => exact ⟨i + 1, o8, _, c8, by omega, rfl, by go_num, ⟨EM.out.symm, lies_of_owns own8⟩, HZ2.out, bt HB.out (bt hb1 (bt hb2 hb3))⟩
        case measure => simp [intOf]; omega
    · obtain rfl : 31 = i := by omega
      have q0 : ¬ (((31 : Nat) : Int)) ≤ 30 := by omega
      go_wp2
      go_ret2
      exact ⟨.inr ⟨fun j hj => HZ.out j (by omega), rfl⟩, bt C0.out HB.out⟩
end Go.Proofs.YtefckmkcbgckfaaGreatDoor.PlP

/- RtextPoints: the walk. -/
namespace Go.Proofs.YtefckmkcbgckfaaGreatDoor.PlW
open Go.RowKit Mem LimbNum Limb1 DigNum DigL StrL TxN ShelfC TextL RText RatL RatM RatN RatW RefR RefT RefU InvL DivL QNum CmpL CmqL RefX RefY RefZ FloL Mk5 AddN JoinL AddW AddV AddR FldL SubL NmL MulN MulW MulL PaL PtL PbL Law5 Aw5 PadL TensAll DcM RpL RdM VqN TwoN TwoL PlN PlL BitMul BitDiv PlP

set_option maxRecDepth 20000 in
set_option maxHeartbeats 8000000 in
theorem law (xx0 : Bool) (SA0 SB0 : Value) (w : World) (hm : ML w) (hT : Tabl w)
    (cB0 : ∀ W, Below w.heap.size w W → Calls Tryz.prog 4 #[.agg #[.bool xx0, SA0, SB0]] W fun e w' => ∃ v q p, e = .returned (.tuple #[v, q]) ∧ IsR w' v p ∧ IsQ w' q p ∧ Fits p 256 ∧ Below W.heap.size W w') :
    Calls Tryz.prog 3 #[.agg #[.bool xx0, SA0, SB0]] w fun e w' => e = .returned (.bool true) ∧ Below w.heap.size w w' := by
  obtain ⟨W0, eW0, hb0, k0⟩ := one_new w (.cells #[.bool xx0, SA0, SB0] 24)
  have e0 := cell_at k0
  have ha0 : W0.cell? ⟨w.heap.size, 0, none⟩ = some (.bool xx0) := e0 0 _ rfl
  have ha1 : W0.cell? ⟨w.heap.size, 1, none⟩ = some (SA0) := e0 1 _ rfl
  have ha2 : W0.cell? ⟨w.heap.size, 2, none⟩ = some (SB0) := e0 2 _ rfl
  have EW : Hid (_ = W0) := eW0
  have C0 : Hid (Below w.heap.size w W0) := hb0
  have cc := cB0 W0 hb0
  clear eW0 e0 k0 cB0 hb0
  go_enter Tryz.func3, Tryz.ntmps3
  go_upto_region 1 with fail
  rw [EW.out]
  clear EW
  go_upto_region 2 with (go_at_call 4; refine cc.mono ?_; rintro e w1 ⟨v, y, q1, rfl, RR, QQ, F1, hb⟩; obtain ⟨b1, A1, L1, p1, rfl⟩ := RR.shape4; obtain ⟨bq1, o1, l1, c1, r1, m1, z1, rfl⟩ := QQ.shape3)
  obtain ⟨W1, eW, B, kx, kp⟩ := two_new w1 (.cells #[.bool b1, .int .u64 A1, .int .u64 L1, .pointer p1] 28) (.cells #[.bool bq1, .slice o1 l1 c1, .slice r1 m1 z1] 31)
  rw [eW]
  have BB := bt hb B
  have C1 : Hid (Below w.heap.size w W1) := bt C0.out BB
  have D0a : Hid (IsR W1 (.agg #[.bool b1, .int .u64 A1, .int .u64 L1, .pointer p1]) q1) := RR.below B
  have D0b : Hid (IsQ W1 (.agg #[.bool bq1, .slice o1 l1 c1, .slice r1 m1 z1]) q1) := QQ.below B
  obtain ⟨g0x, eg⟩ : ∃ g, w1.heap.size = g := ⟨_, rfl⟩
  obtain ⟨g0p, eg2⟩ : ∃ g, w1.heap.size + 1 = g := ⟨_, rfl⟩
  rw [eg2] at kp
  rw [eg] at kx
  simp only [eg2]
  simp only [eg]
  have K0x : Hid (W1.heap[g0x]? = some (.cells #[.bool b1, .int .u64 A1, .int .u64 L1, .pointer p1] 28)) := kx
  have K0p : Hid (W1.heap[g0p]? = some (.cells #[.bool bq1, .slice o1 l1 c1, .slice r1 m1 z1] 31)) := kp
  have G1 : Hid (Fits q1 256) := F1
  clear cc
  clear eW B kx kp BB hb RR QQ C0 eg eg2 F1 ha0 ha1 ha2
  have HM : Hid (ML W1) := hm.below C1.out
  have HT : Hid (Tabl W1) := hT.below C1.out
  have lo : Hid (Low q1.b q1.n q1.d) := D0a.out.1
  obtain ⟨t, c, r, hs⟩ := split_some q1.d G1.out.pos
  have hl := hs.low G1.out.2.2
  have cPl := fun (V : World) (hV : Below W1.heap.size W1 V) => places_any _ q1 t c r V (D0a.out.below hV) G1.out hs (HT.out.below hV)
  have cPt := fun (V : World) (hV : Below W1.heap.size W1 V) => point_any _ q1 t c r V (D0a.out.below hV) G1.out hs (HT.out.below hV)
  have cRp := fun (V : World) (hV : Below W1.heap.size W1 V) => rplaces_any _ q1 V (D0b.out.below hV) G1.out
  have HS : Hid (Split q1.d t c r) := hs
  clear hs hm hT
  have e0 := cell_at K0x.out
  have u0 : W1.cell? ⟨g0x, 0, none⟩ = some (.bool b1) := e0 0 _ rfl; have u1 : W1.cell? ⟨g0x, 1, none⟩ = some (.int .u64 A1) := e0 1 _ rfl; have u2 : W1.cell? ⟨g0x, 2, none⟩ = some (.int .u64 L1) := e0 2 _ rfl; have u3 : W1.cell? ⟨g0x, 3, none⟩ = some (.pointer p1) := e0 3 _ rfl
  clear e0
  by_cases hr : r = 1
  · simp only [if_pos hr, decide_eq_true hr] at cPl cPt
    obtain ⟨k, ek⟩ : ∃ k, max t c = k := ⟨_, rfl⟩
    rw [ek] at cPl cPt
    have hk : k ≤ 255 := by omega
    have hfine : Hid (q1.n * 10 ^ k % q1.d = 0) := by
      have h1 := HS.out
      rw [hr] at h1
      exact h1.fine _ (by omega) (by omega)
    obtain ⟨SS, eSS⟩ : ∃ S, bs (decM q1.b q1.n q1.d k) = S := ⟨_, rfl⟩
    rw [eSS] at cPt
    go_upto_region 3 with (go_at_call 5; refine (cPl _ (Below.refl _ _)).mono ?_; rintro e w5 ⟨rfl, hb5⟩)
    have f0 := cell_at (box_kept K0x.out hb5 (in_heap K0x.out))
    have x0 : w5.cell? ⟨g0x, 0, none⟩ = some (.bool b1) := f0 0 _ rfl; have x1 : w5.cell? ⟨g0x, 1, none⟩ = some (.int .u64 A1) := f0 1 _ rfl; have x2 : w5.cell? ⟨g0x, 2, none⟩ = some (.int .u64 L1) := f0 2 _ rfl; have x3 : w5.cell? ⟨g0x, 3, none⟩ = some (.pointer p1) := f0 3 _ rfl
    clear f0 u0 u1 u2 u3 cPl
    go_upto_region 4 with (go_at_call 6; refine (cPt _ hb5).mono ?_; rintro e w6 ⟨rfl, hb6⟩)
    clear cPt x0 x1 x2 x3
    have H6 : Hid (Below W1.heap.size W1 w6) := bt hb5 hb6
    go_upto_region 6 with (go_at_call 7; refine (awake6 _ (HM.out.below H6.out)).mono ?_; rintro e w7 ⟨rfl, hb7⟩)
    have H7 : Hid (Below W1.heap.size W1 w7) := bt H6.out hb7
    have f0 := cell_at (box_kept K0p.out H7.out (in_heap K0p.out))
    have y0 : w7.cell? ⟨g0p, 0, none⟩ = some (.bool bq1) := f0 0 _ rfl; have y1 : w7.cell? ⟨g0p, 1, none⟩ = some (.slice o1 l1 c1) := f0 1 _ rfl; have y2 : w7.cell? ⟨g0p, 2, none⟩ = some (.slice r1 m1 z1) := f0 2 _ rfl
    clear f0
    have cQ := cRp w7 H7.out
    clear cRp hb5 hb6 hb7 H6
    go_upto_region 7 with (go_at_call 8; refine cQ.mono ?_; rintro e w8 ⟨hor, hb8⟩; obtain ⟨m, hm30, hm0, hmin, rfl⟩ | ⟨hno, rfl⟩ := hor)
    · have hmk : m = k := by
        obtain ⟨_, h1, h2⟩ := HS.out.only lo.out.one hm0
        rcases Nat.lt_or_ge k m with h3 | h3
        · exact absurd hfine.out (hmin k h3)
        · omega
      subst hmk
      have f0 := cell_at (box_kept K0p.out (bt H7.out hb8) (in_heap K0p.out))
      have zz0 : w8.cell? ⟨g0p, 0, none⟩ = some (.bool bq1) := f0 0 _ rfl; have zz1 : w8.cell? ⟨g0p, 1, none⟩ = some (.slice o1 l1 c1) := f0 1 _ rfl; have zz2 : w8.cell? ⟨g0p, 2, none⟩ = some (.slice r1 m1 z1) := f0 2 _ rfl
      have cE := fun (V : World) (h : IsQ V (.agg #[.bool bq1, .slice o1 l1 c1, .slice r1 m1 z1]) q1) => rdec_any _ q1 m V h G1.out (by omega)
      rw [eSS] at cE
      clear f0 y0 y1 y2 cQ hmin hm0
      go_wp2_with (go_at_call 9; refine (cE _ (D0b.out.below (bt H7.out hb8))).mono ?_; rintro e w9 ⟨rfl, hb9⟩)
      all_goals go_ret
      all_goals exact ⟨rfl, bt C1.out (bt H7.out (bt hb8 hb9))⟩
    · have hk30 : 30 < k := by
        rcases Nat.lt_or_ge 30 k with h3 | h3
        · exact h3
        · exact absurd hfine.out (hno k h3)
      have q3 : (30 : Int) < (k : Int) := by omega
      have hn0 : q1.n ≠ 0 := fun e => hno 0 (by omega) (by rw [e]; simp)
      obtain ⟨hcut, hsame⟩ := dec_same lo.out hfine.out hn0
      obtain ⟨h1, h2⟩ := dec_read q1.b q1.n q1.d k (by omega) hcut
      have cA := parse_some (decM q1.b q1.n q1.d k) (cutM q1.n q1.d k) (10 ^ k) w8 (HM.out.below (bt H7.out hb8)) (b8_dec _ _ _ _) (dec_len G1.out (by omega)) h2 (Nat.pos_iff_ne_zero.1 (Nat.pow_pos (by omega)))
      rw [h1] at cA
      dsimp only at cA
      rw [hsame, eSS] at cA
      clear h1 h2 hsame hcut hno cQ y0 y1 y2
      go_upto_region 12 with (go_at_call 10; refine cA.mono ?_; rintro e w9 ⟨v7, rfl, RR7, hb9⟩; obtain ⟨b7, A7, L7, p7, rfl⟩ := RR7.shape4)
      obtain ⟨W9, eW9, B9, k9⟩ := one_new w9 (.cells #[.bool b7, .int .u64 A7, .int .u64 L7, .pointer p7] 28)
      rw [eW9]
      have BB := bt H7.out (bt hb8 (bt hb9 B9))
      have f0 := cell_at k9
      have z0 : W9.cell? ⟨w9.heap.size, 0, none⟩ = some (.bool b7) := f0 0 _ rfl; have z1 : W9.cell? ⟨w9.heap.size, 1, none⟩ = some (.int .u64 A7) := f0 1 _ rfl; have z2 : W9.cell? ⟨w9.heap.size, 2, none⟩ = some (.int .u64 L7) := f0 2 _ rfl; have z3 : W9.cell? ⟨w9.heap.size, 3, none⟩ = some (.pointer p7) := f0 3 _ rfl
      have f1 := cell_at (box_kept K0x.out BB (in_heap K0x.out))
      have x0 : W9.cell? ⟨g0x, 0, none⟩ = some (.bool b1) := f1 0 _ rfl; have x1 : W9.cell? ⟨g0x, 1, none⟩ = some (.int .u64 A1) := f1 1 _ rfl; have x2 : W9.cell? ⟨g0x, 2, none⟩ = some (.int .u64 L1) := f1 2 _ rfl; have x3 : W9.cell? ⟨g0x, 3, none⟩ = some (.pointer p1) := f1 3 _ rfl
      have cC := a_cmp (k := 256) (by omega) (RR7.below B9) (D0a.out.below BB) G1.out G1.out
      rw [cmp_self] at cC
      clear f0 f1 eW9 k9 cA
      go_wp2_with (go_at_call 11; refine cC.mono ?_; rintro e wz ⟨rfl, hbz⟩)
      all_goals go_ret
      all_goals exact ⟨rfl, bt C1.out (bt BB hbz)⟩
  · simp only [if_neg hr, decide_eq_false hr] at cPl cPt
    go_upto_region 3 with (go_at_call 5; refine (cPl _ (Below.refl _ _)).mono ?_; rintro e w5 ⟨rfl, hb5⟩)
    have f0 := cell_at (box_kept K0x.out hb5 (in_heap K0x.out))
    have x0 : w5.cell? ⟨g0x, 0, none⟩ = some (.bool b1) := f0 0 _ rfl; have x1 : w5.cell? ⟨g0x, 1, none⟩ = some (.int .u64 A1) := f0 1 _ rfl; have x2 : w5.cell? ⟨g0x, 2, none⟩ = some (.int .u64 L1) := f0 2 _ rfl; have x3 : w5.cell? ⟨g0x, 3, none⟩ = some (.pointer p1) := f0 3 _ rfl
    clear f0 u0 u1 u2 u3 cPl
    go_upto_region 4 with (go_at_call 6; refine (cPt _ hb5).mono ?_; rintro e w6 ⟨rfl, hb6⟩)
    clear cPt x0 x1 x2 x3
    have H6 : Hid (Below W1.heap.size W1 w6) := bt hb5 hb6
    go_upto_region 6 with (go_at_call 7; refine (awake6 _ (HM.out.below H6.out)).mono ?_; rintro e w7 ⟨rfl, hb7⟩)
    have H7 : Hid (Below W1.heap.size W1 w7) := bt H6.out hb7
    have f0 := cell_at (box_kept K0p.out H7.out (in_heap K0p.out))
    have y0 : w7.cell? ⟨g0p, 0, none⟩ = some (.bool bq1) := f0 0 _ rfl; have y1 : w7.cell? ⟨g0p, 1, none⟩ = some (.slice o1 l1 c1) := f0 1 _ rfl; have y2 : w7.cell? ⟨g0p, 2, none⟩ = some (.slice r1 m1 z1) := f0 2 _ rfl
    clear f0
    have cQ := cRp w7 H7.out
    clear cRp hb5 hb6 hb7 H6
    go_wp2_with (go_at_call 8; refine cQ.mono ?_; rintro e w8 ⟨hor, hb8⟩; obtain ⟨m, hm30, hm0, hmin, rfl⟩ | ⟨hno, rfl⟩ := hor)
    · exact absurd (HS.out.only lo.out.one hm0).1 hr
    · go_ret
      exact ⟨rfl, bt C1.out (bt H7.out hb8)⟩
end Go.Proofs.YtefckmkcbgckfaaGreatDoor.PlW
