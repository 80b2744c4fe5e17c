/- What the guess at a limb of a quotient answers. -/
import Derived.Test.YtipmdjfhailfbaaDivW
import Derived.Test.YtipmdjfhailfbaaGuessNum
namespace Go.Proofs.Ytipmdjfhailfbaa.Guess
open Go.RowKit Mem LimbNum Limb1 Limb2 Limb4 NatNum DivNum LongNum GuessNum NatL DivW

/-- What holds of the guess and what is left by it, at each round's head. -/
def GR (u v top high : Nat) (qv rv : Value) : Prop := ∃ (q r : Nat) (QI RI : Int), qv = .int .u64 QI ∧ rv = .int .u64 RI ∧ 0 ≤ QI ∧ QI ≤ 4294967297 ∧ 0 ≤ RI ∧ RI < 4294967296 ∧ Hid (QI = (q : Int)) ∧ Hid (RI = (r : Int)) ∧ Hid (top = q * high + r) ∧ Hid (u / v ≤ q)

set_option maxRecDepth 20000 in
set_option maxHeartbeats 2000000 in
theorem guess_core (u v R top u2 high next lo vlo u0 u1 m : Nat) (t : Top u v R top u2 high next lo vlo) (htop : top = u0 * 4294967296 + u1) (h0 : u0 < 4294967296) (h1 : u1 < 4294967296) (hm : m ≤ 35184372088832) (bu ou uc bv ov vc : Nat) (w : World)
    (cu0 : w.cell? ⟨bu, ou + (m + 2), none⟩ = some (.int .u32 (u0 : Int))) (cu1 : w.cell? ⟨bu, ou + (m + 1), none⟩ = some (.int .u32 (u1 : Int))) (cu2 : w.cell? ⟨bu, ou + m, none⟩ = some (.int .u32 (u2 : Int)))
    (cv0 : w.cell? ⟨bv, ov + (m + 1), none⟩ = some (.int .u32 (high : Int))) (cv1 : w.cell? ⟨bv, ov + m, none⟩ = some (.int .u32 (next : Int))) :
    Calls Try.prog 35 #[.slice (some ⟨bu, ou, none⟩) (m + 3) uc, .slice (some ⟨bv, ov, none⟩) (m + 2) vc] w fun e w' => ∃ q : Nat, e = .returned (.int .u64 (q : Int)) ∧ q < 4294967296 ∧ u / v ≤ q ∧ q ≤ u / v + 1 ∧ Below w.heap.size w w' := by
  have hor1 := or_word u0 u1 h0 h1
  rw [← htop] at hor1
  have hst := t.start
  have hh := t.high_ge
  have hhl := t.high_lt
  have hnl := t.next_lt
  have hul := t.u2_lt
  have htl : top < 18446744073709551616 := by omega
  have hdm := Nat.div_add_mod top high
  have hml := Nat.mod_lt top (show 0 < high by omega)
  obtain ⟨A0, eA0⟩ : ∃ x : Int, x = (u0 : Int) := ⟨_, rfl⟩
  obtain ⟨A1, eA1⟩ : ∃ x : Int, x = (u1 : Int) := ⟨_, rfl⟩
  obtain ⟨A2, eA2⟩ : ∃ x : Int, x = (u2 : Int) := ⟨_, rfl⟩
  obtain ⟨HI, eH⟩ : ∃ x : Int, x = (high : Int) := ⟨_, rfl⟩
  obtain ⟨NI, eN⟩ : ∃ x : Int, x = (next : Int) := ⟨_, rfl⟩
  obtain ⟨TI, eT⟩ : ∃ x : Int, x = (top : Int) := ⟨_, rfl⟩
  rw [← eA0] at cu0 hor1
  rw [← eA1] at cu1 hor1
  rw [← eA2] at cu2
  rw [← eH] at cv0
  rw [← eN] at cv1
  rw [← eT] at hor1
  have a1 : 0 ≤ A0 := by omega
  have a2 : A0 < 4294967296 := by omega
  have a3 : 0 ≤ A1 := by omega
  have a4 : A1 < 4294967296 := by omega
  have a5 : 0 ≤ A2 := by omega
  have a6 : A2 < 4294967296 := by omega
  have a7 : 2147483648 ≤ HI := by omega
  have a8 : HI < 4294967296 := by omega
  have a9 : 0 ≤ NI := by omega
  have a10 : NI < 4294967296 := by omega
  have a11 : 0 ≤ TI := by omega
  have a12 : TI < 18446744073709551616 := by omega
  have eq1 : TI / HI = ((top / high : Nat) : Int) := by rw [eT, eH]; exact (Int.natCast_ediv _ _).symm
  have eq2 : TI % HI = ((top % high : Nat) : Int) := by rw [eT, eH]; exact (Int.natCast_emod _ _).symm
  have et1 : TI.tdiv HI = TI / HI := Int.tdiv_eq_ediv_of_nonneg a11
  have et2 : TI.tmod HI = TI % HI := Int.tmod_eq_emod_of_nonneg a11
  have b0 : 0 ≤ TI / HI := by rw [eq1]; exact Int.natCast_nonneg _
  have b1 : TI / HI ≤ 4294967297 := by rw [eq1]; exact Int.ofNat_le.2 hst.2
  have b2 : 0 ≤ TI % HI := by rw [eq2]; exact Int.natCast_nonneg _
  have b3 : TI % HI < 4294967296 := by rw [eq2]; omega
  have HQ0 : Hid (top = top / high * high + top % high) := by unfold Hid; rw [Nat.mul_comm]; exact hdm.symm
  have HQ1 : Hid (TI / HI = ((top / high : Nat) : Int)) := eq1
  have HQ2 : Hid (TI % HI = ((top % high : Nat) : Int)) := eq2
  have hs1 := hst.1
  have EA2 : Hid (A2 = (u2 : Int)) := eA2
  have EH : Hid (HI = (high : Int)) := eH
  have EN : Hid (NI = (next : Int)) := eN
  generalize top / high = qs at *
  generalize top % high = rs at *
  generalize TI / HI = QS at *
  generalize TI % HI = RS at *
  clear hst hdm hml eA0 eA1 eA2 eH eN eT eq1 eq2 htop h0 h1 htl
  have q1 : (0 : Int) ≤ (m : Int) := by omega
  go_enter Try.func35, Try.ntmps35
  go_wp2
  go_quiet (fail)
  go_wp2
  go_quiet (fail)
  go_wp2
  go_quiet (fail)
  go_wp2
  have HS1 : Hid (u / v ≤ qs) := hs1
  clear cu0 cu1 cv0 cv1 hor1 et1 et2 hs1 hh hhl hnl
  go_loop [9, 10] (fun qv rv => GR u v top high qv rv) (fun qv _ => (intOf qv).toNat)
  case atStart => exact ⟨qs, rs, QS, RS, rfl, rfl, b0, b1, b2, b3, HQ1, HQ2, HQ0, HS1⟩
  case round =>
    clear HQ0 HQ1 HQ2 HS1 b0 b1 b2 b3
    obtain ⟨q, r, QI, RI, rfl, rfl, p0, p1, p2, p3, EQ, ER, HT, HL⟩ := hrel
    have hr : r < 4294967296 := by have := ER.out; omega
    have hor := or_word r u2 hr hul
    rw [← ER.out, ← EA2.out] at hor
    obtain ⟨S, eS⟩ : ∃ S : Int, S = ((r * 4294967296 + u2 : Nat) : Int) := ⟨_, rfl⟩
    rw [← eS] at hor
    have hS0 : 0 ≤ S := by omega
    have hS1 : S < 18446744073709551616 := by omega
    have more : (4294967296 ≤ q ∨ r * 4294967296 + u2 < q * next) → 1 ≤ q ∧ u / v ≤ q - 1 ∧ top = (q - 1) * high + (r + high) := fun hc => by
      have h1 := t.too q r HT.out hc
      have h2 : 1 ≤ q := Nat.lt_of_le_of_lt (Nat.zero_le _) h1
      refine ⟨h2, Nat.le_sub_one_of_lt h1, ?_⟩
      clear h1 hc
      rw [HT.out]
      obtain ⟨q', rfl⟩ : ∃ q', q = q' + 1 := ⟨q - 1, by omega⟩
      rw [Nat.add_sub_cancel, Nat.add_mul, Nat.one_mul]; omega
    have step : (4294967296 ≤ q ∨ r * 4294967296 + u2 < q * next) → Hid (1 ≤ q) ∧ (4294967296 ≤ RI + HI → Hid (q - 1 < 4294967296 ∧ u / v ≤ q - 1 ∧ q - 1 ≤ u / v + 1)) ∧ Hid (u / v ≤ q - 1) ∧ Hid (top = (q - 1) * high + (r + high)) := fun hc => by
      obtain ⟨m1, m2, m3⟩ := more hc
      refine ⟨m1, fun hge => ?_, m2, m3⟩
      have hB : q - 1 ≤ 4294967296 := by have := EQ.out; omega
      obtain ⟨k1, k2⟩ := t.brk (q - 1) (r + high) m3 hB (by have := ER.out; have := EH.out; omega)
      exact ⟨k2, m2, k1⟩
    have hM : QI * NI = ((q * next : Nat) : Int) := by rw [EQ.out, EN.out, Int.natCast_mul]
    by_cases hbig : 4294967296 ≤ QI
    · obtain ⟨s1, s2, s3, s4⟩ := step (.inl (by have := EQ.out; omega))
      have d1 : QI / 4294967296 = 1 := by omega
      have d2 : 1 ≤ QI := by omega
      by_cases hbr : 4294967296 ≤ RI + HI
      · have HF := s2 hbr
        have d3 : (RI + HI) / 4294967296 = 1 := by omega
        clear s2 s3 s4 more step hM hor
        go_wp2
        go_ret
        exact ⟨q - 1, ret_int (by have := EQ.out; have := s1.out; omega), HF.out.1, HF.out.2.1, HF.out.2.2, below_drewN (Below.refl _ _) _⟩
      · have d3 : (RI + HI) / 4294967296 = 0 := by omega
        clear s2 more step hM hor
        go_wp2
        go_round
        case rel => exact ⟨q - 1, r + high, QI - 1, RI + HI, by first | rfl | go_num, by first | rfl | go_num, by omega, by omega, by omega, by omega, by have := EQ.out; have := s1.out; unfold Hid; omega, by have := ER.out; have := EH.out; unfold Hid; omega, s4, s3⟩
        case measure => simp [intOf]; omega
    · have d1 : QI / 4294967296 = 0 := by omega
      have hqB : q < 4294967296 := by have := EQ.out; omega
      have hM1 : q * next < 18446744073709551616 := by
        have : q * next ≤ 4294967295 * 4294967295 := Nat.mul_le_mul (by omega) (by have := t.next_lt; omega)
        omega
      obtain ⟨M, eM⟩ : ∃ M : Int, QI * NI = M := ⟨_, rfl⟩
      rw [eM] at hM
      have hM0 : 0 ≤ M := by rw [hM]; exact Int.natCast_nonneg _
      have hM2 : M < 18446744073709551616 := by rw [hM]; omega
      by_cases hcmp : S < M
      · obtain ⟨s1, s2, s3, s4⟩ := step (.inr (by omega))
        have d2 : 1 ≤ QI := by have := EQ.out; have := s1.out; omega
        by_cases hbr : 4294967296 ≤ RI + HI
        · have HF := s2 hbr
          have d3 : (RI + HI) / 4294967296 = 1 := by omega
          clear s2 s3 s4 more step hM hM1 eS
          go_wp2
          go_ret
          exact ⟨q - 1, ret_int (by have := EQ.out; have := s1.out; omega), HF.out.1, HF.out.2.1, HF.out.2.2, below_drewN (Below.refl _ _) _⟩
        · have d3 : (RI + HI) / 4294967296 = 0 := by omega
          clear s2 more step hM hM1 eS
          go_wp2
          go_round
          case rel => exact ⟨q - 1, r + high, QI - 1, RI + HI, by first | rfl | go_num, by first | rfl | go_num, by omega, by omega, by omega, by omega, by have := EQ.out; have := s1.out; unfold Hid; omega, by have := ER.out; have := EH.out; unfold Hid; omega, s4, s3⟩
          case measure => simp [intOf]; omega
      · have k1 := t.fin q r HT.out (by omega) (by omega)
        have HF : Hid (q < 4294967296 ∧ u / v ≤ q ∧ q ≤ u / v + 1) := ⟨hqB, HL.out, k1⟩
        clear more step hM hM1 eS k1
        go_wp2
        go_ret
        exact ⟨q, ret_int EQ.out, HF.out.1, HF.out.2.1, HF.out.2.2, below_drewN (Below.refl _ _) _⟩
end Go.Proofs.Ytipmdjfhailfbaa.Guess
