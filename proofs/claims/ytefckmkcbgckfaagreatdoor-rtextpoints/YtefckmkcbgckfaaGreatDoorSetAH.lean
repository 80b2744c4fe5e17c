/- What the quotient of a list of limbs by one limb answers; What the guess at a limb of a quotient answers; What the quotient of lists of limbs answers where the divisor has one limb, and that the check of answers that the document fixes says yes. -/
import Derived.Test.YtefckmkcbgckfaaGreatDoorSetAF
import Derived.OwnWalk
import Derived.Test.YtefckmkcbgckfaaGreatDoorSetAA
/- What the quotient of a list of limbs by one limb answers. -/
namespace Go.Proofs.YtefckmkcbgckfaaGreatDoor.DivW
open Go.RowKit Mem LimbNum Limb1 Limb2 Limb4 NatNum DivNum NatL

theorem or_word (l x : Nat) (hl : l < 4294967296) (hx : x < 4294967296) : bits BinOp.or IntKind.u64 ((l : Int) * 4294967296) (x : Int) = ((l * 4294967296 + x : Nat) : Int) := by
  rw [show (l : Int) * 4294967296 = ((l * 4294967296 : Nat) : Int) by omega, u64_or_nat _ _ (by omega) (by omega), show (l * 4294967296 : Nat) = l * 2 ^ 32 from rfl, nat_join 32 _ _ (by simp) hx]
theorem divword_zero (A : List Nat) (ao : Option Addr) (cap : Nat) (w : World) :
    Calls Tryz.prog 48 #[.slice ao A.length cap, .int .u32 0] w fun e w' => e = .returned (.tuple #[.slice none 0 0, .int .u32 0, .bool false]) ∧ w' = w := by
  go_enter Tryz.func48, Tryz.ntmps48
  go_wp2
  go_ret3
  exact ⟨rfl, rfl⟩

set_option maxRecDepth 20000 in
set_option maxHeartbeats 2000000 in
theorem divword_core (A P : List Nat) (v q r : Nat) (hq : Hid (q = val P / v)) (hr : Hid (r = val P % v)) (hv0 : 0 < v) (hv : v < 4294967296) (ao : Option Addr) (cap : Nat) (w : World) (h : Lies w ao cap (ints .u32 P))
    (c1 : Calls Tryz.prog 71 #[.slice ao A.length cap] w fun e w' => e = .returned (.slice ao P.length cap) ∧ w' = w) (hP : Small P) (hl : P.length ≤ 70368744177664) :
    Calls Tryz.prog 48 #[.slice ao A.length cap, .int .u32 (v : Int)] w fun e w' => ∃ ao' cap', e = .returned (.tuple #[.slice ao' (nl q).length cap', .int .u32 (r : Int), .bool true]) ∧
      w'.ownsRow w.heap.size 48 1 (.slice ao' (nl q).length cap') (nl q).length (ints .u32 (nl q)) ∧ Below w.heap.size w w' := by
  obtain ⟨i0, hi, hz0, hz1, hz2⟩ := info_parts info32
  obtain ⟨W, eW⟩ : ∃ W : Int, W = (v : Int) := ⟨_, rfl⟩
  rw [← eW]
  have hW0 : 0 < W := by omega
  have hW1 : W < 4294967296 := by omega
  have EW : Hid (W = (v : Int)) := eW
  clear eW
  go_enter Tryz.func48, Tryz.ntmps48
  go_wp2_with (first
    | (go_at_call 71; refine c1.mono ?_; rintro e w2 ⟨rfl, hw⟩; have hw2 := hw.symm; clear hw; subst hw2)
    | (at_make; refine wpList_make_full _ rfl _ _ 22 rfl w.heap.size 48 i0 (.int .u32 0) 1 Tryz.underlying22 hi hz0 hz1 .i64 .i64 (P.length : Int) (P.length : Int) P.length rfl rfl rfl rfl (by rw [hz2]; omega) (by unfold maxLen; omega) (Nat.le_refl _) ?_; intro w3 hown hgr))
  have hown0 : w3.ownsRow w.heap.size 48 1 (.slice (some ⟨w.heap.size, 0, none⟩) P.length P.length) P.length (ints .u32 (List.replicate P.length 0 ++ [])) := by
    rw [List.append_nil, ints_zero, ← toList_madeCells_one]; rw [Nat.mul_one] at hown; exact hown
  have hb3 : Below w.heap.size w w3 := (Below.refl _ _).grown hgr (Nat.le_refl _) (by simp)
  clear hown hgr c1
  generalize hgg : w.heap.size = g at *
  go_loopw [8, 9] (fun lv i wr => ∃ (k l : Nat) (L : Int) (D : List Nat), k ≤ P.length ∧ i = .int .i64 ((k : Int) - 1) ∧ lv = .int .u64 L ∧ 0 ≤ L ∧ L < W ∧ Hid (L = (l : Int)) ∧ Hid (k + D.length = P.length) ∧ Small D ∧ Hid (val (P.drop k) = val D * v + l) ∧
      wr.ownsRow g 48 1 (.slice (some ⟨g, 0, none⟩) P.length P.length) P.length (ints .u32 (List.replicate k 0 ++ D)) ∧ Below g w wr)
    (fun _ i _ => (intOf i + 1).toNat)
  case atStart => exact ⟨P.length, 0, 0, [], Nat.le_refl _, by go_num, rfl, by omega, by omega, rfl, by unfold Hid; simp, by intro x hx; simp at hx, by unfold Hid; simp [val], hown0, hb3⟩
  case round =>
    clear hown0 hb3
    obtain ⟨k, l, L, D, hk, rfl, rfl, hL0, hL1, EL, HD, hDs, HV, hown, hb⟩ := hrel
    have hs := hb.size
    by_cases hk0 : 1 ≤ k
    · obtain ⟨j, rfl⟩ : ∃ j, k = j + 1 := ⟨k - 1, by omega⟩
      have g1 := h.below hb (by omega)
      obtain ⟨b1, off1, rfl, _, hc1⟩ := g1.2.2.2 (by rw [ints_length]; omega)
      have d1 := hc1 j (by rw [ints_length]; omega)
      rw [ints_get _ _ _ (by omega)] at d1
      have hx := getD_small P hP j
      have HS := word_step P D j v l (by omega) HV.out
      obtain ⟨x, ex⟩ : ∃ x, P.getD j 0 = x := ⟨_, rfl⟩
      rw [ex] at d1 hx HS
      have hlv : l < v := by have := EL.out; have := EW.out; omega
      obtain ⟨n1, n2, n3⟩ := word_limb l x v hlv hv hx
      have hor := or_word l x (by omega) hx
      obtain ⟨X, eX⟩ : ∃ X : Int, X = (x : Int) := ⟨_, rfl⟩
      obtain ⟨S, eS⟩ : ∃ S : Int, S = ((l * 4294967296 + x : Nat) : Int) := ⟨_, rfl⟩
      rw [← eX] at d1
      rw [← EL.out, ← eX, ← eS] at hor
      have hX0 : 0 ≤ X := by omega
      have hX1 : X < 4294967296 := by omega
      have hS0 : 0 ≤ S := by omega
      have hS1 : S < 18446744073709551616 := by omega
      have eq1 : S / W = (((l * 4294967296 + x) / v : Nat) : Int) := by rw [eS, EW.out]; exact (Int.natCast_ediv _ _).symm
      have eq2 : S % W = (((l * 4294967296 + x) % v : Nat) : Int) := by rw [eS, EW.out]; exact (Int.natCast_emod _ _).symm
      have et1 : S.tdiv W = S / W := Int.tdiv_eq_ediv_of_nonneg hS0
      have et2 : S.tmod W = S % W := Int.tmod_eq_emod_of_nonneg hS0
      have hq0 : 0 ≤ S / W := by rw [eq1]; exact Int.natCast_nonneg _
      have hq1 : S / W < 4294967296 := by rw [eq1]; exact Int.ofNat_lt.2 n2
      have hm0 : 0 ≤ S % W := by rw [eq2]; exact Int.natCast_nonneg _
      have hm1 : S % W < W := by rw [eq2, EW.out]; exact Int.ofNat_lt.2 n3
      have hL2 : L < 4294967296 := by omega
      have hcw : wr.cell? ⟨g, j, none⟩ = some (.int .u32 (((List.replicate (j + 1) 0 ++ D).getD j 0 : Nat) : Int)) := by
        rw [hown.cellAt j (by omega), ints_get _ _ _ (by have := HD.out; simp; omega)]
      obtain ⟨hR1, _⟩ := hown.stored j (.int .u32 (S / W))
      have hf := hown.frozenAt j
      have hb4 : Below g w (wr.setCell ⟨g, j, none⟩ (.int .u32 (S / W))) := hb.setCell (by exact Nat.le_refl _) _
      rw [eq1, ints_set, fill_down, ← eq1] at hR1
      have HD2 : Hid (j + (((l * 4294967296 + x) / v) :: D).length = P.length) := by have := HD.out; unfold Hid; simp; omega
      have hDs2 : Small (((l * 4294967296 + x) / v) :: D) := by
        intro y hy
        simp only [List.mem_cons] at hy
        rcases hy with rfl | hy
        · exact n2
        · exact hDs y hy
      have HV2 : Hid (val (P.drop j) = val (((l * 4294967296 + x) / v) :: D) * v + (l * 4294967296 + x) % v) := HS
      have E2 : Hid (S % W = (((l * 4294967296 + x) % v : Nat) : Int)) := eq2
      clear hc1 g1 h ex eX eS hown hb HV HS hx n1 n2 n3 hlv eq1 eq2 HD hDs EL
      generalize hQ : S / W = Q1 at *
      generalize hM : S % W = M1 at *
      go_wp2
      go_roundw
      case rel => exact ⟨j, (l * 4294967296 + x) % v, M1, _, by omega, by go_num, by first | rfl | go_num, hm0, hm1, E2, HD2, hDs2, HV2, hR1, hb4⟩
      case measure => simp [intOf]
    · have : k = 0 := by omega
      subst this
      have hlv : l < v := by have := EL.out; have := EW.out; omega
      have hV := HV.out
      rw [List.drop_zero] at hV
      have e1 : val D = q := by rw [hq.out, hV, Nat.mul_comm, Nat.mul_add_div hv0, Nat.div_eq_of_lt hlv]; omega
      have e2 : l = r := by rw [hr.out, hV, Nat.mul_comm, Nat.mul_add_mod, Nat.mod_eq_of_lt hlv]
      have hDl : D.length = P.length := by have := HD.out; omega
      rw [List.replicate_zero, List.nil_append] at hown
      have c3 := ntrim_own D g (some ⟨g, 0, none⟩) P.length wr (by rw [hDl]; exact hown) hDs
      rw [e1, hDl] at c3
      have ER : Hid (L = (r : Int)) := by unfold Hid; rw [← e2]; exact EL.out
      have hL2 : L < 4294967296 := by omega
      clear hown HV HD h e1 e2 hDl hq hr EL hV hlv
      go_wp2_with (go_at_call 71; refine c3.mono ?_; rintro e w5 ⟨rfl, hw, hown5⟩; have hw2 := hw.symm; clear hw; subst hw2)
      go_ret3
      exact ⟨some ⟨g, 0, none⟩, P.length, by rw [ER.out]; rfl, by first | exact hown5 | (rw [hgg]; exact hown5), by first | exact hb | (rw [hgg]; exact hb)⟩
theorem divword_any (A : List Nat) (v : Nat) (ao : Option Addr) (cap : Nat) (w : World) (h : Lies w ao cap (ints .u32 A)) (hA : Small A) (hv0 : 0 < v) (hv : v < 4294967296) (hl : A.length ≤ 70368744177664) :
    Calls Tryz.prog 48 #[.slice ao A.length cap, .int .u32 (v : Int)] w fun e w' => ∃ ao' cap', e = .returned (.tuple #[.slice ao' (nl (val A / v)).length cap', .int .u32 ((val A % v : Nat) : Int), .bool true]) ∧
      w'.ownsRow w.heap.size 48 1 (.slice ao' (nl (val A / v)).length cap') (nl (val A / v)).length (ints .u32 (nl (val A / v))) ∧ Below w.heap.size w w' := by
  have k1 := nl_len A hA
  exact divword_core A (nl (val A)) v _ _ (by unfold Hid; rw [val_nl]) (by unfold Hid; rw [val_nl]) hv0 hv ao cap w (lies_trim h hA) (ntrim_at h hA w (Below.refl _ _)) (small_nl _) (by omega)
end Go.Proofs.YtefckmkcbgckfaaGreatDoor.DivW

/- What the guess at a limb of a quotient answers. -/
namespace Go.Proofs.YtefckmkcbgckfaaGreatDoor.Guess
open Go.RowKit Mem LimbNum Limb1 Limb2 Limb4 NatNum DivNum LongNum GuessNum NatL DivW

/-- What holds of the guess and what is left by it, at each round's head. -/
def GR (u v top high : Nat) (qv rv : Value) : Prop := ∃ (q r : Nat) (QI RI : Int), qv = .int .u64 QI ∧ rv = .int .u64 RI ∧ 0 ≤ QI ∧ QI ≤ 4294967297 ∧ 0 ≤ RI ∧ RI < 4294967296 ∧ Hid (QI = (q : Int)) ∧ Hid (RI = (r : Int)) ∧ Hid (top = q * high + r) ∧ Hid (u / v ≤ q)

set_option maxRecDepth 20000 in
set_option maxHeartbeats 2000000 in
theorem guess_core (u v R top u2 high next lo vlo u0 u1 m : Nat) (t : Top u v R top u2 high next lo vlo) (htop : top = u0 * 4294967296 + u1) (h0 : u0 < 4294967296) (h1 : u1 < 4294967296) (hm : m ≤ 35184372088832) (bu ou uc bv ov vc : Nat) (w : World)
    (cu0 : w.cell? ⟨bu, ou + (m + 2), none⟩ = some (.int .u32 (u0 : Int))) (cu1 : w.cell? ⟨bu, ou + (m + 1), none⟩ = some (.int .u32 (u1 : Int))) (cu2 : w.cell? ⟨bu, ou + m, none⟩ = some (.int .u32 (u2 : Int)))
    (cv0 : w.cell? ⟨bv, ov + (m + 1), none⟩ = some (.int .u32 (high : Int))) (cv1 : w.cell? ⟨bv, ov + m, none⟩ = some (.int .u32 (next : Int))) :
    Calls Tryz.prog 86 #[.slice (some ⟨bu, ou, none⟩) (m + 3) uc, .slice (some ⟨bv, ov, none⟩) (m + 2) vc] w fun e w' => ∃ q : Nat, e = .returned (.int .u64 (q : Int)) ∧ q < 4294967296 ∧ u / v ≤ q ∧ q ≤ u / v + 1 ∧ Below w.heap.size w w' := by
  have hor1 := or_word u0 u1 h0 h1
  rw [← htop] at hor1
  have hst := t.start
  have hh := t.high_ge
  have hhl := t.high_lt
  have hnl := t.next_lt
  have hul := t.u2_lt
  have htl : top < 18446744073709551616 := by omega
  have hdm := Nat.div_add_mod top high
  have hml := Nat.mod_lt top (show 0 < high by omega)
  obtain ⟨A0, eA0⟩ : ∃ x : Int, x = (u0 : Int) := ⟨_, rfl⟩
  obtain ⟨A1, eA1⟩ : ∃ x : Int, x = (u1 : Int) := ⟨_, rfl⟩
  obtain ⟨A2, eA2⟩ : ∃ x : Int, x = (u2 : Int) := ⟨_, rfl⟩
  obtain ⟨HI, eH⟩ : ∃ x : Int, x = (high : Int) := ⟨_, rfl⟩
  obtain ⟨NI, eN⟩ : ∃ x : Int, x = (next : Int) := ⟨_, rfl⟩
  obtain ⟨TI, eT⟩ : ∃ x : Int, x = (top : Int) := ⟨_, rfl⟩
  rw [← eA0] at cu0 hor1
  rw [← eA1] at cu1 hor1
  rw [← eA2] at cu2
  rw [← eH] at cv0
  rw [← eN] at cv1
  rw [← eT] at hor1
  have a1 : 0 ≤ A0 := by omega
  have a2 : A0 < 4294967296 := by omega
  have a3 : 0 ≤ A1 := by omega
  have a4 : A1 < 4294967296 := by omega
  have a5 : 0 ≤ A2 := by omega
  have a6 : A2 < 4294967296 := by omega
  have a7 : 2147483648 ≤ HI := by omega
  have a8 : HI < 4294967296 := by omega
  have a9 : 0 ≤ NI := by omega
  have a10 : NI < 4294967296 := by omega
  have a11 : 0 ≤ TI := by omega
  have a12 : TI < 18446744073709551616 := by omega
  have eq1 : TI / HI = ((top / high : Nat) : Int) := by rw [eT, eH]; exact (Int.natCast_ediv _ _).symm
  have eq2 : TI % HI = ((top % high : Nat) : Int) := by rw [eT, eH]; exact (Int.natCast_emod _ _).symm
  have et1 : TI.tdiv HI = TI / HI := Int.tdiv_eq_ediv_of_nonneg a11
  have et2 : TI.tmod HI = TI % HI := Int.tmod_eq_emod_of_nonneg a11
  have b0 : 0 ≤ TI / HI := by rw [eq1]; exact Int.natCast_nonneg _
  have b1 : TI / HI ≤ 4294967297 := by rw [eq1]; exact Int.ofNat_le.2 hst.2
  have b2 : 0 ≤ TI % HI := by rw [eq2]; exact Int.natCast_nonneg _
  have b3 : TI % HI < 4294967296 := by rw [eq2]; omega
  have HQ0 : Hid (top = top / high * high + top % high) := by unfold Hid; rw [Nat.mul_comm]; exact hdm.symm
  have HQ1 : Hid (TI / HI = ((top / high : Nat) : Int)) := eq1
  have HQ2 : Hid (TI % HI = ((top % high : Nat) : Int)) := eq2
  have hs1 := hst.1
  have EA2 : Hid (A2 = (u2 : Int)) := eA2
  have EH : Hid (HI = (high : Int)) := eH
  have EN : Hid (NI = (next : Int)) := eN
  generalize top / high = qs at *
  generalize top % high = rs at *
  generalize TI / HI = QS at *
  generalize TI % HI = RS at *
  clear hst hdm hml eA0 eA1 eA2 eH eN eT eq1 eq2 htop h0 h1 htl
  have q1 : (0 : Int) ≤ (m : Int) := by omega
  go_enter Tryz.func86, Tryz.ntmps86
  go_wp2
  go_quiet (fail)
  go_wp2
  go_quiet (fail)
  go_wp2
  go_quiet (fail)
  go_wp2
  have HS1 : Hid (u / v ≤ qs) := hs1
  clear cu0 cu1 cv0 cv1 hor1 et1 et2 hs1 hh hhl hnl
  go_loop [9, 10] (fun qv rv => GR u v top high qv rv) (fun qv _ => (intOf qv).toNat)
  case atStart => exact ⟨qs, rs, QS, RS, rfl, rfl, b0, b1, b2, b3, HQ1, HQ2, HQ0, HS1⟩
  case round =>
    clear HQ0 HQ1 HQ2 HS1 b0 b1 b2 b3
    obtain ⟨q, r, QI, RI, rfl, rfl, p0, p1, p2, p3, EQ, ER, HT, HL⟩ := hrel
    have hr : r < 4294967296 := by have := ER.out; omega
    have hor := or_word r u2 hr hul
    rw [← ER.out, ← EA2.out] at hor
    obtain ⟨S, eS⟩ : ∃ S : Int, S = ((r * 4294967296 + u2 : Nat) : Int) := ⟨_, rfl⟩
    rw [← eS] at hor
    have hS0 : 0 ≤ S := by omega
    have hS1 : S < 18446744073709551616 := by omega
    have more : (4294967296 ≤ q ∨ r * 4294967296 + u2 < q * next) → 1 ≤ q ∧ u / v ≤ q - 1 ∧ top = (q - 1) * high + (r + high) := fun hc => by
      have h1 := t.too q r HT.out hc
      have h2 : 1 ≤ q := Nat.lt_of_le_of_lt (Nat.zero_le _) h1
      refine ⟨h2, Nat.le_sub_one_of_lt h1, ?_⟩
      clear h1 hc
      rw [HT.out]
      obtain ⟨q', rfl⟩ : ∃ q', q = q' + 1 := ⟨q - 1, by omega⟩
      rw [Nat.add_sub_cancel, Nat.add_mul, Nat.one_mul]; omega
    have step : (4294967296 ≤ q ∨ r * 4294967296 + u2 < q * next) → Hid (1 ≤ q) ∧ (4294967296 ≤ RI + HI → Hid (q - 1 < 4294967296 ∧ u / v ≤ q - 1 ∧ q - 1 ≤ u / v + 1)) ∧ Hid (u / v ≤ q - 1) ∧ Hid (top = (q - 1) * high + (r + high)) := fun hc => by
      obtain ⟨m1, m2, m3⟩ := more hc
      refine ⟨m1, fun hge => ?_, m2, m3⟩
      have hB : q - 1 ≤ 4294967296 := by have := EQ.out; omega
      obtain ⟨k1, k2⟩ := t.brk (q - 1) (r + high) m3 hB (by have := ER.out; have := EH.out; omega)
      exact ⟨k2, m2, k1⟩
    have hM : QI * NI = ((q * next : Nat) : Int) := by rw [EQ.out, EN.out, Int.natCast_mul]
    by_cases hbig : 4294967296 ≤ QI
    · obtain ⟨s1, s2, s3, s4⟩ := step (.inl (by have := EQ.out; omega))
      have d1 : QI / 4294967296 = 1 := by omega
      have d2 : 1 ≤ QI := by omega
      by_cases hbr : 4294967296 ≤ RI + HI
      · have HF := s2 hbr
        have d3 : (RI + HI) / 4294967296 = 1 := by omega
        clear s2 s3 s4 more step hM hor
        go_wp2
        go_ret
        exact ⟨q - 1, ret_int (by have := EQ.out; have := s1.out; omega), HF.out.1, HF.out.2.1, HF.out.2.2, below_drewN (Below.refl _ _) _⟩
      · have d3 : (RI + HI) / 4294967296 = 0 := by omega
        clear s2 more step hM hor
        go_wp2
        go_round
        case rel => exact ⟨q - 1, r + high, QI - 1, RI + HI, by first | rfl | go_num, by first | rfl | go_num, by omega, by omega, by omega, by omega, by have := EQ.out; have := s1.out; unfold Hid; omega, by have := ER.out; have := EH.out; unfold Hid; omega, s4, s3⟩
        case measure => simp [intOf]; omega
    · have d1 : QI / 4294967296 = 0 := by omega
      have hqB : q < 4294967296 := by have := EQ.out; omega
      have hM1 : q * next < 18446744073709551616 := by
        have : q * next ≤ 4294967295 * 4294967295 := Nat.mul_le_mul (by omega) (by have := t.next_lt; omega)
        omega
      obtain ⟨M, eM⟩ : ∃ M : Int, QI * NI = M := ⟨_, rfl⟩
      rw [eM] at hM
      have hM0 : 0 ≤ M := by rw [hM]; exact Int.natCast_nonneg _
      have hM2 : M < 18446744073709551616 := by rw [hM]; omega
      by_cases hcmp : S < M
      · obtain ⟨s1, s2, s3, s4⟩ := step (.inr (by omega))
        have d2 : 1 ≤ QI := by have := EQ.out; have := s1.out; omega
        by_cases hbr : 4294967296 ≤ RI + HI
        · have HF := s2 hbr
          have d3 : (RI + HI) / 4294967296 = 1 := by omega
          clear s2 s3 s4 more step hM hM1 eS
          go_wp2
          go_ret
          exact ⟨q - 1, ret_int (by have := EQ.out; have := s1.out; omega), HF.out.1, HF.out.2.1, HF.out.2.2, below_drewN (Below.refl _ _) _⟩
        · have d3 : (RI + HI) / 4294967296 = 0 := by omega
          clear s2 more step hM hM1 eS
          go_wp2
          go_round
          case rel => exact ⟨q - 1, r + high, QI - 1, RI + HI, by first | rfl | go_num, by first | rfl | go_num, by omega, by omega, by omega, by omega, by have := EQ.out; have := s1.out; unfold Hid; omega, by have := ER.out; have := EH.out; unfold Hid; omega, s4, s3⟩
          case measure => simp [intOf]; omega
      · have k1 := t.fin q r HT.out (by omega) (by omega)
        have HF : Hid (q < 4294967296 ∧ u / v ≤ q ∧ q ≤ u / v + 1) := ⟨hqB, HL.out, k1⟩
        clear more step hM hM1 eS k1
        go_wp2
        go_ret
        exact ⟨q, ret_int EQ.out, HF.out.1, HF.out.2.1, HF.out.2.2, below_drewN (Below.refl _ _) _⟩
end Go.Proofs.YtefckmkcbgckfaaGreatDoor.Guess

/- What the quotient of lists of limbs answers where the divisor has one limb, and that the check of answers that the document fixes says yes. -/
namespace Go.Proofs.YtefckmkcbgckfaaGreatDoor.DivOne
open Go.RowKit Mem LimbNum Limb1 Limb2 Limb4 NatNum DivNum NatL DivW Words

theorem nl_one (v : Nat) (h0 : 0 < v) (h : v < 4294967296) : nl v = [v] := by
  rw [nl_pos (by omega), Nat.mod_eq_of_lt h, Nat.div_eq_of_lt h, nl_zero]

set_option maxRecDepth 20000 in
/-- DivMod by a number of one limb. -/
theorem divmod_one (A B : List Nat) (v : Nat) (ao1 ao2 : Option Addr) (cap1 cap2 : Nat) (w : World) (h1 : Lies w ao1 cap1 (ints .u32 A)) (h2 : Lies w ao2 cap2 (ints .u32 B)) (hA : Small A) (hB : Small B) (hv : val B = v) (hv0 : 0 < v) (hv1 : v < 4294967296) (hle : v ≤ val A) (hl : A.length ≤ 70368744177664) :
    Calls Tryz.prog 51 #[.slice ao1 A.length cap1, .slice ao2 B.length cap2] w fun e w' => ∃ o1 c1 o2 c2, e = .returned (.tuple #[.slice o1 (nl (val A / v)).length c1, .slice o2 (nl (val A % v)).length c2, .bool true]) ∧
      w'.ownsRow w.heap.size 48 1 (.slice o1 (nl (val A / v)).length c1) (nl (val A / v)).length (ints .u32 (nl (val A / v))) ∧ w'.ownsRow w.heap.size 48 1 (.slice o2 (nl (val A % v)).length c2) (nl (val A % v)).length (ints .u32 (nl (val A % v))) ∧ Below w.heap.size w w' := by
  have k1 := nl_len A hA
  have hm := Nat.mod_lt (val A) hv0
  have c1 := ntrim_at h1 hA w (Below.refl _ _)
  have c2 := ntrim_at h2 hB w (Below.refl _ _)
  have l1 := lies_trim h1 hA
  have l2 := lies_trim h2 hB
  rw [hv, nl_one v hv0 hv1] at c2 l2
  have cC := cmp_any (nl (val A)) [v] ao1 ao2 cap1 cap2 w l1 l2 (small_nl _) (by intro x hx; simp at hx; omega)
  have e1 : val [v] = v := by simp [val]
  rw [val_nl, e1] at cC
  have hc : 0 ≤ cmpV (val A) v := by unfold cmpV; split <;> (try split) <;> omega
  have cD := fun (W : World) (hb : Below w.heap.size w W) => divword_any (nl (val A)) v ao1 cap1 W (l1.below hb (Nat.le_refl _)) (small_nl _) hv0 hv1 (by omega)
  rw [val_nl] at cD
  have cW := fun (W : World) => word_any (val A % v) W (by omega)
  obtain ⟨b2, off2, rfl, _, hc2⟩ := l2.2.2.2 (by simp [ints])
  have d2 := hc2 0 (by simp [ints])
  simp only [ints, List.map_cons, List.map_nil, List.getElem?_cons_zero, Nat.add_zero] at d2
  have hmi : ((val A % v : Nat) : Int) < 4294967296 := by omega
  have hmi0 : 0 ≤ ((val A % v : Nat) : Int) := Int.natCast_nonneg _
  have d3 : ∀ W : World, Below w.heap.size w W → W.cell? ⟨b2, off2, none⟩ = some (.int .u32 (v : Int)) := fun W hb => by
    rw [hb.cell (p := ⟨b2, off2, none⟩) (by assumption)]; exact d2
  simp only [List.length_cons, List.length_nil] at c2 cC
  generalize cmpV (val A) v = C at *
  generalize nl (val A / v) = NQ at *
  generalize nl (val A % v) = NR at *
  generalize nl (val A) = NA at *
  generalize val A % v = R at *
  generalize (R : Int) = RI at *
  clear h1 h2 hA hB hv hv0 hv1 hle hl k1 hm l1 l2 hc2 d2 e1
  have t1 : True := trivial
  go_enter Tryz.func51, Tryz.ntmps51
  go_wp2_with (first
    | (go_at_call 71; have _t := t1; clear _t t1; refine c1.mono ?_; rintro e w2 ⟨rfl, hw⟩; have hw2 := hw.symm; clear hw; subst hw2)
    | (go_at_call 71; refine c2.mono ?_; rintro e w2 ⟨rfl, hw⟩; have hw2 := hw.symm; clear hw; subst hw2)
    | (go_at_call 64; refine cC.mono ?_; rintro e w3 ⟨rfl, hb3⟩; have d4 := d3 w3 hb3)
    | (go_at_call 48; refine (cD _ hb3).mono ?_; rintro e w4 ⟨o4, p4, rfl, hown4, hb4⟩)
    | (go_at_call 70; refine (cW _).mono ?_; rintro e w5 ⟨o5, p5, rfl, hown5, hb5⟩))
  go_ret3
  have s3 := hb3.size
  have s4 := hb4.size
  exact ⟨_, _, _, _, rfl, owns_base (keep hown4 hb5) (by omega), owns_base hown5 (by omega), bt (bt hb3 hb4) hb5⟩

theorem nl_lit (v : Nat) (h0 : 0 < v) (h : v < 4294967296) : nl v = [v] := nl_one v h0 h
end Go.Proofs.YtefckmkcbgckfaaGreatDoor.DivOne
