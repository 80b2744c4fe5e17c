/- Rational numbers, the program's: sums of words and of lists with their signs; Rational numbers, the program's: sums of numbers in words; Rational numbers, the program's: the sum of two numbers in words, where a word holds it; Rational numbers, the program's: the sum; Rational numbers, the program's: each call's answer as a quotient of two whole numbers, in lowest terms or not; Rational numbers, th. -/
import Derived.Shelf.Lay
import Derived.Shelf.LaySoft
import Derived.Shelf.Spec.BitsCarry
import Derived.Test.YtefckmkcbgckfaaGreatDoorSetAW
import Derived.Test.YtefckmkcbgckfaaGreatDoorSetAF
import Derived.Test.YtefckmkcbgckfaaGreatDoorSetAU
import Derived.Test.YtefckmkcbgckfaaGreatDoorSetAQ
import Derived.Test.YtefckmkcbgckfaaGreatDoorSetAV
/- Rational numbers, the program's: sums of words and of lists with their signs. -/
namespace Go.Proofs
end Go.Proofs
namespace Go.Proofs.YtefckmkcbgckfaaGreatDoor.JoinL
open Go.RowKit Mem LimbNum Limb1 Limb2 Limb4 NatL GcdA RatL RatM RatN RatF RatO MulN MulW MulL InvL QNum FloL AddN

end Go.Proofs.YtefckmkcbgckfaaGreatDoor.JoinL

/- Rational numbers, the program's: sums of numbers in words. -/
namespace Go.Proofs.YtefckmkcbgckfaaGreatDoor.AddW
open Go.RowKit Mem LimbNum Limb1 Limb2 NatL GcdA RatL RatM RatN RatF RatO MulN MulW MulL InvL QNum RefZ FloL AddN JoinL

end Go.Proofs.YtefckmkcbgckfaaGreatDoor.AddW

/- Rational numbers, the program's: the sum of two numbers in words, where a word holds it. -/
namespace Go.Proofs.YtefckmkcbgckfaaGreatDoor.AddV
open Go.RowKit Mem LimbNum Limb1 Limb2 NatNum NatL GcdA RatL RatM RatN RatF RatO MulN MulW MulL InvL QNum RefZ FloL AddN JoinL AddW

theorem or3 (a b c : Nat) (ha : a < 18446744073709551616) (hb : b < 18446744073709551616) (hc : c < 18446744073709551616) :
    (bits BinOp.or IntKind.u64 (bits BinOp.or IntKind.u64 (a : Int) (b : Int)) (c : Int) == 0) = decide (a = 0 ∧ b = 0 ∧ c = 0) := by
  have e := or_zero a b ha hb
  rw [u64_or_nat a b ha hb] at e ⊢
  have hl : a ||| b < 18446744073709551616 := Nat.or_lt_two_pow (n := 64) ha hb
  rw [or_zero (a ||| b) c hl hc]
  have e2 : decide ((a ||| b) = 0) = (decide (a = 0) && decide (b = 0)) := by
    rw [← e, Bool.eq_iff_iff]; simp
  rw [e2, Bool.eq_iff_iff]
  simp only [Bool.and_eq_true, decide_eq_true_iff]
  omega
end Go.Proofs.YtefckmkcbgckfaaGreatDoor.AddV

/- Rational numbers, the program's: the sum. -/
namespace Go.Proofs.YtefckmkcbgckfaaGreatDoor.AddR
open Go.RowKit Mem LimbNum Limb1 NatL GcdA RatL RatM RatN RatF MulN MulW MulL QNum RefZ FloL AddN JoinL AddW AddV

theorem nl_mul (x y k l : Nat) (hx : (nl x).length ≤ k) (hy : (nl y).length ≤ l) : (nl (x * y)).length ≤ k + l := by
  apply nl_lt
  have h1 := val_lt (nl x) (small_nl x)
  have h2 := val_lt (nl y) (small_nl y)
  rw [val_nl] at h1 h2
  rw [Nat.pow_add]
  exact Nat.mul_lt_mul'' (Nat.lt_of_lt_of_le h1 (Nat.pow_le_pow_right (by omega) hx)) (Nat.lt_of_lt_of_le h2 (Nat.pow_le_pow_right (by omega) hy))
theorem nl_sum (a b : Bool) (x y k : Nat) (hx : (nl x).length ≤ k) (hy : (nl y).length ≤ k) : (nl (sumV a b x y)).length ≤ k + 1 := by
  refine Nat.le_trans (nl_mono _ _ (sumV_le a b x y)) ?_
  apply nl_lt
  have h1 := val_lt (nl x) (small_nl x)
  have h2 := val_lt (nl y) (small_nl y)
  rw [val_nl] at h1 h2
  have e1 := Nat.lt_of_lt_of_le h1 (Nat.pow_le_pow_right (show 0 < 4294967296 by omega) hx)
  have e2 := Nat.lt_of_lt_of_le h2 (Nat.pow_le_pow_right (show 0 < 4294967296 by omega) hy)
  rw [Nat.pow_succ]; omega
end Go.Proofs.YtefckmkcbgckfaaGreatDoor.AddR

/- Rational numbers, the program's: each call's answer as a quotient of two whole numbers, in lowest terms or not. -/
namespace Go.Proofs.YtefckmkcbgckfaaGreatDoor.FldL
open Go.RowKit Mem LimbNum Limb1 NatL GcdA RatL RatM RatN RatF RatO MulN MulW MulL RefR RefT RefU InvL DivL QNum CmpL CmqL RefX RefY RefZ FloL Mk5 AddN JoinL AddW AddV AddR

theorem nl_of_nb {n k : Nat} (h : (nb n).length ≤ k) : (nl n).length ≤ k := by
  apply nl_lt
  have h1 := fromL_lt (nb n)
  rw [fromL_nb] at h1
  exact Nat.lt_of_lt_of_le (Nat.lt_of_lt_of_le h1 (Nat.pow_le_pow_right (by omega) h)) (Nat.pow_le_pow_left (by omega) k)
theorem sv_flag (b : Bool) (n : Nat) : sv (b && decide (n ≠ 0)) n = sv b n := by
  unfold sv; by_cases h : n = 0
  · subst h; cases b <;> simp
  · simp [h]
theorem cmpI_mul (x y c : Int) (hc : 0 < c) : cmpI (x * c) (y * c) = cmpI x y := by
  unfold cmpI
  by_cases h : x < y
  · rw [if_pos h, if_pos (Int.mul_lt_mul_of_pos_right h hc)]
  · rw [if_neg h, if_neg (fun e => h (Int.lt_of_mul_lt_mul_right e (Int.le_of_lt hc)))]
    by_cases h2 : x = y
    · subst h2; simp
    · rw [if_neg h2, if_neg (fun e => h2 (Int.eq_of_mul_eq_mul_right (by omega) e))]
theorem add_val (b1 b2 : Bool) (n1 d1 n2 d2 : Nat) : ∃ g : Nat, sv (addB b1 n1 d1 b2 n2 d2) (addN b1 n1 d1 b2 n2 d2) * g = sv b1 n1 * d2 + sv b2 n2 * d1 ∧ addD b1 n1 d1 b2 n2 d2 * g = d1 * d2 := by
  refine ⟨Nat.gcd (sumV b1 b2 (n1 * d2) (n2 * d1)) (d1 * d2), ?_, ?_⟩
  · unfold addB addN
    rw [sv_flag, ← sv_mul, Nat.div_mul_cancel (Nat.gcd_dvd_left _ _), sum_sv, sv_mul, sv_mul]
  · unfold addD
    rw [Nat.div_mul_cancel (Nat.gcd_dvd_right _ _)]
theorem sv_ne (b1 b2 : Bool) (n1 n2 : Nat) : sv (b1 != b2) (n1 * n2) = sv b1 n1 * sv b2 n2 := by
  unfold sv; cases b1 <;> cases b2 <;> simp [Int.neg_mul, Int.mul_neg]
theorem mul_val (b1 b2 : Bool) (n1 d1 n2 d2 : Nat) : ∃ g : Nat, sv ((b1 != b2) && decide (n1 * n2 / Nat.gcd (n1 * n2) (d1 * d2) ≠ 0)) (n1 * n2 / Nat.gcd (n1 * n2) (d1 * d2)) * g = sv b1 n1 * sv b2 n2 ∧ d1 * d2 / Nat.gcd (n1 * n2) (d1 * d2) * g = d1 * d2 := by
  refine ⟨Nat.gcd (n1 * n2) (d1 * d2), ?_, Nat.div_mul_cancel (Nat.gcd_dvd_right _ _)⟩
  rw [sv_flag, ← sv_mul, Nat.div_mul_cancel (Nat.gcd_dvd_left _ _), sv_ne]
/-- The value v is P / Q; its two numbers have at most k bits. -/
def RV (w : World) (v : Value) (P Q : Int) (k : Nat) : Prop := 0 < Q ∧ ∃ b n d, IsRat w v b n d ∧ sv b n * Q = P * d ∧ (nb n).length ≤ k ∧ (nb d).length ≤ k
theorem RV.below {w w' : World} {v : Value} {P Q : Int} {k : Nat} (h : RV w v P Q k) (hb : Below w.heap.size w w') : RV w' v P Q k := by
  obtain ⟨h0, b, n, d, h1, h2, h3, h4⟩ := h
  exact ⟨h0, b, n, d, h1.below hb, h2, h3, h4⟩
theorem RV.of {w : World} {v : Value} {b : Bool} {n d k : Nat} (h : IsRat w v b n d) (h1 : (nb n).length ≤ k) (h2 : (nb d).length ≤ k) : RV w v (sv b n) d k :=
  ⟨by have := h.1.pos; omega, b, n, d, h, rfl, h1, h2⟩
theorem RV.more {w : World} {v : Value} {P Q : Int} {k l : Nat} (h : RV w v P Q k) (hl : k ≤ l) : RV w v P Q l := by
  obtain ⟨h0, b, n, d, h1, h2, h3, h4⟩ := h
  exact ⟨h0, b, n, d, h1, h2, by omega, by omega⟩
theorem ring_add {A g S1 S2 d1 d2 D P1 Q1 P2 Q2 : Int} (e1 : A * g = S1 * d2 + S2 * d1) (e2 : D * g = d1 * d2) (h1 : S1 * Q1 = P1 * d1) (h2 : S2 * Q2 = P2 * d2) (hg : g ≠ 0) : A * (Q1 * Q2) = (P1 * Q2 + P2 * Q1) * D := by
  apply Int.eq_of_mul_eq_mul_right hg
  have : A * (Q1 * Q2) * g = (A * g) * (Q1 * Q2) := by grind
  rw [this, e1]
  have : (P1 * Q2 + P2 * Q1) * D * g = (P1 * Q2 + P2 * Q1) * (D * g) := by grind
  rw [this, e2]
  have e3 : (S1 * d2 + S2 * d1) * (Q1 * Q2) = (S1 * Q1) * (d2 * Q2) + (S2 * Q2) * (d1 * Q1) := by grind
  rw [e3, h1, h2]
  grind
theorem ring_mul {A g S1 S2 d1 d2 D P1 Q1 P2 Q2 : Int} (e1 : A * g = S1 * S2) (e2 : D * g = d1 * d2) (h1 : S1 * Q1 = P1 * d1) (h2 : S2 * Q2 = P2 * d2) (hg : g ≠ 0) : A * (Q1 * Q2) = (P1 * P2) * D := by
  apply Int.eq_of_mul_eq_mul_right hg
  have : A * (Q1 * Q2) * g = (A * g) * (Q1 * Q2) := by grind
  rw [this, e1]
  have : (P1 * P2) * D * g = (P1 * P2) * (D * g) := by grind
  rw [this, e2]
  have e3 : S1 * S2 * (Q1 * Q2) = (S1 * Q1) * (S2 * Q2) := by grind
  rw [e3, h1, h2]
  grind
theorem rv_cmp {v1 v2 : Value} {P1 Q1 P2 Q2 : Int} {k1 k2 : Nat} (hk1 : k1 ≤ 100000) (hk2 : k2 ≤ 100000) {w : World} (h1 : RV w v1 P1 Q1 k1) (h2 : RV w v2 P2 Q2 k2) :
    Calls Tryz.prog 11 #[v1, v2] w fun e w' => e = .returned (.int .i64 (cmpI (P1 * Q2) (P2 * Q1))) ∧ Below w.heap.size w w' := by
  obtain ⟨q1, b1, n1, d1, r1, e1, l1, l2⟩ := h1
  obtain ⟨q2, b2, n2, d2, r2, e2, l3, l4⟩ := h2
  have := cmp_q v1 v2 b1 b2 n1 d1 n2 d2 w r1 r2 (Nat.le_trans (nl_of_nb l1) (by omega)) (Nat.le_trans (nl_of_nb l2) (by omega)) (Nat.le_trans (nl_of_nb l3) (by omega)) (Nat.le_trans (nl_of_nb l4) (by omega))
  have p1 := r1.1.pos
  have p2 := r2.1.pos
  have e : cmpQ b1 n1 d1 b2 n2 d2 = cmpI (P1 * Q2) (P2 * Q1) := by
    unfold cmpQ
    rw [sv_mul, sv_mul, ← cmpI_mul _ _ (Q1 * Q2) (Int.mul_pos q1 q2), ← cmpI_mul (P1 * Q2) (P2 * Q1) ((d1 : Int) * d2) (Int.mul_pos (by omega) (by omega))]
    generalize sv b1 n1 = S1 at *
    generalize sv b2 n2 = S2 at *
    generalize (d1 : Int) = D1 at *
    generalize (d2 : Int) = D2 at *
    have f1 : S1 * D2 * (Q1 * Q2) = (S1 * Q1) * (D2 * Q2) := by grind
    have f2 : S2 * D1 * (Q1 * Q2) = (S2 * Q2) * (D1 * Q1) := by grind
    rw [f1, f2, e1, e2]
    congr 1 <;> grind
  rw [← e]
  exact this
theorem rv_sign {v : Value} {P Q : Int} {k : Nat} {w : World} (h : RV w v P Q k) : Calls Tryz.prog 34 #[v] w fun e w' => e = .returned (.int .i64 (cmpI P 0)) ∧ Below w.heap.size w w' := by
  obtain ⟨q, b, n, d, r, e, l1, l2⟩ := h
  have := sign_any v b n d w r
  have p := r.1.pos
  rw [sgn_sv, ← cmpI_mul _ _ Q q, e, Int.zero_mul, show (0 : Int) = 0 * (d : Int) by omega, cmpI_mul _ _ (d : Int) (by omega)] at this
  exact this
end Go.Proofs.YtefckmkcbgckfaaGreatDoor.FldL

/- Rational numbers, the program's: the difference. -/
namespace Go.Proofs.YtefckmkcbgckfaaGreatDoor.SubL
open Go.RowKit Mem LimbNum Limb1 NatL GcdA RatL RatM RatN RatF RatO MulN MulW MulL RefR RefT RefU InvL DivL QNum CmpL CmqL RefX RefY RefZ FloL Mk5 AddN JoinL AddW AddV AddR FldL

theorem neg_flag (b : Bool) (n : Nat) : decide (0 < sgn b n) = (!b && decide (n ≠ 0)) := by
  unfold sgn; by_cases h : n = 0
  · simp [h]
  · cases b <;> simp [h]
theorem cells_kept8 {W w5 : World} {g h : Nat} {a0 a1 a2 a3 b0 b1 b2 b3 : Value} (hg : w5.heap[g]? = W.heap[g]?) (hh : w5.heap[h]? = W.heap[h]?) (H : W.cell? ⟨g, 0, none⟩ = some a0 ∧ W.cell? ⟨g, 1, none⟩ = some a1 ∧ W.cell? ⟨g, 2, none⟩ = some a2 ∧ W.cell? ⟨g, 3, none⟩ = some a3 ∧ W.cell? ⟨h, 0, none⟩ = some b0 ∧ W.cell? ⟨h, 1, none⟩ = some b1 ∧ W.cell? ⟨h, 2, none⟩ = some b2 ∧ W.cell? ⟨h, 3, none⟩ = some b3) :
    w5.cell? ⟨g, 0, none⟩ = some a0 ∧ w5.cell? ⟨g, 1, none⟩ = some a1 ∧ w5.cell? ⟨g, 2, none⟩ = some a2 ∧ w5.cell? ⟨g, 3, none⟩ = some a3 ∧ w5.cell? ⟨h, 0, none⟩ = some b0 ∧ w5.cell? ⟨h, 1, none⟩ = some b1 ∧ w5.cell? ⟨h, 2, none⟩ = some b2 ∧ w5.cell? ⟨h, 3, none⟩ = some b3 := by
  simp only [World.cell?, hg, hh] at H ⊢
  exact H
end Go.Proofs.YtefckmkcbgckfaaGreatDoor.SubL

/- Numbers as plain data (sign, above the bar, below it), what the calls of rat and of the reference make of them; what stays where a struct's cells are written. -/
namespace Go.Proofs.YtefckmkcbgckfaaGreatDoor.NmL
open Go.RowKit Mem LimbNum Limb1 NatL GcdA RatL RatM RatN RatF RatO MulN MulW MulL RefR RefT RefU RefI InvL DivL QNum CmpL CmqL RefX RefY RefZ FloL Mk5 AddN JoinL AddW AddV AddR FldL SubL Law5

/-- A number as plain data. -/
structure Nm where
  b : Bool
  n : Nat
  d : Nat
/-- The program's value v is the number p. -/
def IsR (w : World) (v : Value) (p : Nm) : Prop := IsRat w v p.b p.n p.d
/-- The reference's value v is the number p. -/
def IsQ (w : World) (v : Value) (p : Nm) : Prop := IsRef w v p.b p.n p.d
/-- Both parts have at most k bits, the lower one isn't nought. -/
def Fits (p : Nm) (k : Nat) : Prop := 0 < p.d ∧ (nb p.n).length ≤ k ∧ (nb p.d).length ≤ k
def addM (p q : Nm) : Nm := ⟨addB p.b p.n p.d q.b q.n q.d, addN p.b p.n p.d q.b q.n q.d, addD p.b p.n p.d q.b q.n q.d⟩
def negM (p : Nm) : Nm := ⟨!p.b && decide (p.n ≠ 0), p.n, p.d⟩
def mulM (p q : Nm) : Nm := ⟨(p.b != q.b) && decide (p.n * q.n / Nat.gcd (p.n * q.n) (p.d * q.d) ≠ 0), p.n * q.n / Nat.gcd (p.n * q.n) (p.d * q.d), p.d * q.d / Nat.gcd (p.n * q.n) (p.d * q.d)⟩
def intM (i : Int) : Nm := ⟨decide (i < 0), i.natAbs, 1⟩
def cmpM (p q : Nm) : Int := cmpQ p.b p.n p.d q.b q.n q.d
theorem IsR.below {w w' : World} {v : Value} {p : Nm} (h : IsR w v p) (hb : Below w.heap.size w w') : IsR w' v p := IsRat.below h hb
theorem IsQ.below {w w' : World} {v : Value} {p : Nm} (h : IsQ w v p) (hb : Below w.heap.size w w') : IsQ w' v p := IsRef.below h hb
theorem IsR.shape4 {w : World} {v : Value} {p : Nm} (h : IsR w v p) : ∃ (b : Bool) (A L : Int) (q : Option Addr), v = .agg #[.bool b, .int .u64 A, .int .u64 L, .pointer q] := by
  obtain ⟨A, L, q, e⟩ := IsRat.shape h
  exact ⟨_, A, L, q, e⟩
theorem IsQ.shape3 {w : World} {v : Value} {p : Nm} (h : IsQ w v p) : ∃ (b : Bool) (o1 : Option Addr) (l1 c1 : Nat) (o2 : Option Addr) (l2 c2 : Nat), v = .agg #[.bool b, .slice o1 l1 c1, .slice o2 l2 c2] := by
  obtain ⟨o1, c1, o2, c2, e, _⟩ := h
  exact ⟨_, o1, _, c1, o2, _, c2, e⟩
theorem Fits.more {p : Nm} {k l : Nat} (h : Fits p k) (hl : k ≤ l) : Fits p l := ⟨h.1, Nat.le_trans h.2.1 hl, Nat.le_trans h.2.2 hl⟩
theorem fits_neg {p : Nm} {k : Nat} (h : Fits p k) : Fits (negM p) k := h
theorem fits_int (i : Int) (h0 : -9223372036854775808 ≤ i) (h1 : i ≤ 9223372036854775807) : Fits (intM i) 64 := by
  have h2 : (nb i.natAbs).length ≤ 64 := nb_lt 64 _ (by omega)
  have h3 : (nb 1).length ≤ 64 := nb_lt 64 _ (by omega)
  exact ⟨by simp [intM], h2, h3⟩
theorem fits_add {p q : Nm} {k : Nat} (hp : Fits p k) (hq : Fits q k) : Fits (addM p q) (2 * k + 1) := by
  obtain ⟨p0, p1, p2⟩ := hp
  obtain ⟨q0, q1, q2⟩ := hq
  have hD : 0 < p.d * q.d := Nat.mul_pos p0 q0
  have bX := mul_bits p.n q.d _ _ p1 q2
  have bY := mul_bits q.n p.d _ _ q1 p2
  refine ⟨?_, ?_, ?_⟩
  · show 0 < addD _ _ _ _ _ _
    unfold addD
    exact Nat.div_pos (Nat.le_of_dvd hD (Nat.gcd_dvd_right _ _)) (Nat.gcd_pos_of_pos_right _ hD)
  · exact Nat.le_trans (bits_div _ _ _ (sumV_bits p.b q.b _ _ _ bX bY)) (by omega)
  · exact Nat.le_trans (bits_div _ _ _ (mul_bits p.d q.d _ _ p2 q2)) (by omega)
theorem fits_mul {p q : Nm} {k : Nat} (hp : Fits p k) (hq : Fits q k) : Fits (mulM p q) (2 * k) := by
  obtain ⟨p0, p1, p2⟩ := hp
  obtain ⟨q0, q1, q2⟩ := hq
  have hD : 0 < p.d * q.d := Nat.mul_pos p0 q0
  refine ⟨Nat.div_pos (Nat.le_of_dvd hD (Nat.gcd_dvd_right _ _)) (Nat.gcd_pos_of_pos_right _ hD), ?_, ?_⟩
  · exact Nat.le_trans (bits_div _ _ _ (mul_bits p.n q.n _ _ p1 q1)) (by omega)
  · exact Nat.le_trans (bits_div _ _ _ (mul_bits p.d q.d _ _ p2 q2)) (by omega)
theorem Fits.nl {p : Nm} {k : Nat} (h : Fits p k) (hk : k ≤ 1000000) : (nl p.n).length ≤ 1000000 ∧ (nl p.d).length ≤ 1000000 := ⟨Nat.le_trans (nl_of_nb h.2.1) hk, Nat.le_trans (nl_of_nb h.2.2) hk⟩
theorem Fits.pos {p : Nm} {k : Nat} (h : Fits p k) : p.d ≠ 0 := by have := h.1; omega
theorem a_int (i : Int) (w : World) (h0 : -9223372036854775808 ≤ i) (h1 : i ≤ 9223372036854775807) :
    Calls Tryz.prog 16 #[.int .i64 i] w fun e w' => ∃ v, e = .returned v ∧ IsR w' v (intM i) ∧ Below w.heap.size w w' := int_any i w h0 h1
theorem a_cmp {v1 v2 : Value} {p q : Nm} {k : Nat} (hk : k ≤ 100000) {w : World} (h1 : IsR w v1 p) (h2 : IsR w v2 q) (f1 : Fits p k) (f2 : Fits q k) :
    Calls Tryz.prog 11 #[v1, v2] w fun e w' => e = .returned (.int .i64 (cmpM p q)) ∧ Below w.heap.size w w' :=
  cmp_q v1 v2 _ _ _ _ _ _ w h1 h2 (f1.nl (by omega)).1 (f1.nl (by omega)).2 (f2.nl (by omega)).1 (f2.nl (by omega)).2
theorem q_int (i : Int) (w : World) (h0 : -9223372036854775808 ≤ i) (h1 : i ≤ 9223372036854775807) :
    Calls Tryz.prog 17 #[.int .i64 i] w fun e w' => ∃ v, e = .returned v ∧ IsQ w' v (intM i) ∧ Below w.heap.size w w' := rint_any i w h0 h1
/-- A block without what a number points to: limbs, or a pair of lists. -/
def Plain (w : World) (g : Nat) : Prop := ∀ i v, w.cell? ⟨g, i, none⟩ = some v → (∀ k z, v = .int k z → k = .u64) ∧ (i = 0 → ∀ o n c, v ≠ .slice o n c)
theorem lies_offP {w W : World} {g : Nat} {o : Option Addr} {c : Nat} {A : List Nat} (h : Lies w o c (ints .u32 A)) (hk : Plain w g)
    (hW : ∀ k, k ≠ g → W.heap[k]? = w.heap[k]?) (hs : W.heap.size = w.heap.size) : Lies W o c (ints .u32 A) := by
  obtain ⟨h1, h2, h3, h4⟩ := h
  refine ⟨h1, h2, h3, fun hp => ?_⟩
  obtain ⟨b, off, rfl, hlt, hc⟩ := h4 hp
  have hne : b ≠ g := by
    rintro rfl
    have h0 := hc 0 hp
    rw [ints_get _ _ _ (by rw [ints_length] at hp; exact hp)] at h0
    have := (hk _ _ h0).1 _ _ rfl
    simp at this
  refine ⟨b, off, rfl, by omega, fun i hi => ?_⟩
  rw [← hc i hi]
  simp only [World.cell?, hW b hne]
theorem IsR.offP {w W : World} {g : Nat} {v : Value} {p : Nm} (h : IsR w v p) (hk : Plain w g)
    (hW : ∀ k, k ≠ g → W.heap[k]? = w.heap[k]?) (hs : W.heap.size = w.heap.size) : IsR W v p := by
  obtain ⟨h1, h2 | ⟨h2, g2, o1, c1, o2, c2, e, h3, h4, h5, h6, h7⟩⟩ := h
  · exact ⟨h1, .inl h2⟩
  · have hne : g2 ≠ g := by
      rintro rfl
      exact (hk _ _ h4).2 rfl _ _ _ rfl
    refine ⟨h1, .inr ⟨h2, g2, o1, c1, o2, c2, e, by omega, ?_, ?_, lies_offP h6 hk hW hs, lies_offP h7 hk hW hs⟩⟩
    · rw [← h4]; simp only [World.cell?, hW g2 hne]
    · rw [← h5]; simp only [World.cell?, hW g2 hne]
theorem IsQ.offT {w W : World} {g : Nat} {v : Value} {p : Nm} {cs : Array Value} {t : TypeId} (h : IsQ w v p) (hk : w.heap[g]? = some (.cells cs t)) (hne : t ≠ 4)
    (hW : ∀ k, k ≠ g → W.heap[k]? = w.heap[k]?) : IsQ W v p := by
  obtain ⟨o1, c1, o2, c2, e, h1, h2⟩ := h
  exact ⟨o1, c1, o2, c2, e, own_off h1 hk hne hW, own_off h2 hk hne hW⟩
theorem cell_at {w : World} {g : Nat} {cs : Array Value} {T : TypeId} (h : w.heap[g]? = some (.cells cs T)) (i : Nat) (v : Value) (hv : cs[i]? = some v) : w.cell? ⟨g, i, none⟩ = some v := by
  simp [World.cell?, h, hv]
theorem cell_heap {w W : World} {g i : Nat} (h : W.heap[g]? = w.heap[g]?) : W.cell? ⟨g, i, none⟩ = w.cell? ⟨g, i, none⟩ := by
  simp only [World.cell?, h]
/-- The program's value v is the pair p, q. -/
def IsD (w : World) (v : Value) (p q : Nm) : Prop := ∃ (b1 : Bool) (A1 L1 : Int) (p1 : Option Addr) (b2 : Bool) (A2 L2 : Int) (p2 : Option Addr), v = .agg #[.bool b1, .int .u64 A1, .int .u64 L1, .pointer p1, .bool b2, .int .u64 A2, .int .u64 L2, .pointer p2] ∧
  IsR w (.agg #[.bool b1, .int .u64 A1, .int .u64 L1, .pointer p1]) p ∧ IsR w (.agg #[.bool b2, .int .u64 A2, .int .u64 L2, .pointer p2]) q
/-- The reference's value v is the pair p, q. -/
def IsE (w : World) (v : Value) (p q : Nm) : Prop := ∃ (b1 : Bool) (o1 : Option Addr) (l1 c1 : Nat) (o2 : Option Addr) (l2 c2 : Nat) (b2 : Bool) (o3 : Option Addr) (l3 c3 : Nat) (o4 : Option Addr) (l4 c4 : Nat), v = .agg #[.bool b1, .slice o1 l1 c1, .slice o2 l2 c2, .bool b2, .slice o3 l3 c3, .slice o4 l4 c4] ∧
  IsQ w (.agg #[.bool b1, .slice o1 l1 c1, .slice o2 l2 c2]) p ∧ IsQ w (.agg #[.bool b2, .slice o3 l3 c3, .slice o4 l4 c4]) q
theorem IsD.below {w w' : World} {v : Value} {p q : Nm} (h : IsD w v p q) (hb : Below w.heap.size w w') : IsD w' v p q := by
  obtain ⟨b1, A1, L1, p1, b2, A2, L2, p2, e, h1, h2⟩ := h
  exact ⟨b1, A1, L1, p1, b2, A2, L2, p2, e, h1.below hb, h2.below hb⟩
theorem IsE.below {w w' : World} {v : Value} {p q : Nm} (h : IsE w v p q) (hb : Below w.heap.size w w') : IsE w' v p q := by
  obtain ⟨b1, o1, l1, c1, o2, l2, c2, b2, o3, l3, c3, o4, l4, c4, e, h1, h2⟩ := h
  exact ⟨b1, o1, l1, c1, o2, l2, c2, b2, o3, l3, c3, o4, l4, c4, e, h1.below hb, h2.below hb⟩
theorem World.drew_at {w : World} {g : Nat} {o : Obj} (h : w.heap[g]? = some o) : w.drew.heap[g]? = some o := h
theorem sto4_off (w : World) (g : Nat) (a0 a1 a2 a3 : Value) : (∀ k, k ≠ g → ((((w.setCell ⟨g, 0, none⟩ a0).setCell ⟨g, 1, none⟩ a1).setCell ⟨g, 2, none⟩ a2).setCell ⟨g, 3, none⟩ a3).heap[k]? = w.heap[k]?) ∧ ((((w.setCell ⟨g, 0, none⟩ a0).setCell ⟨g, 1, none⟩ a1).setCell ⟨g, 2, none⟩ a2).setCell ⟨g, 3, none⟩ a3).heap.size = w.heap.size := by
  constructor
  · intro k hk
    rw [heap_setCell_other _ _ _ _ hk, heap_setCell_other _ _ _ _ hk, heap_setCell_other _ _ _ _ hk, heap_setCell_other _ _ _ _ hk]
  · simp [World.setCell]
theorem sto4_box {w : World} {g : Nat} {o0 o1 o2 o3 : Value} {T : TypeId} (h : w.heap[g]? = some (.cells #[o0, o1, o2, o3] T)) (a0 a1 a2 a3 : Value) : ((((w.setCell ⟨g, 0, none⟩ a0).setCell ⟨g, 1, none⟩ a1).setCell ⟨g, 2, none⟩ a2).setCell ⟨g, 3, none⟩ a3).heap[g]? = some (.cells #[a0, a1, a2, a3] T) := by
  have h0 : (w.setCell ⟨g, 0, none⟩ a0).heap[g]? = some (.cells #[a0, o1, o2, o3] T) := by rw [heap_setCell_same _ g 0 _ _ _ h]; rfl
  have h1 : ((w.setCell ⟨g, 0, none⟩ a0).setCell ⟨g, 1, none⟩ a1).heap[g]? = some (.cells #[a0, a1, o2, o3] T) := by rw [heap_setCell_same _ g 1 _ _ _ h0]; rfl
  have h2 : (((w.setCell ⟨g, 0, none⟩ a0).setCell ⟨g, 1, none⟩ a1).setCell ⟨g, 2, none⟩ a2).heap[g]? = some (.cells #[a0, a1, a2, o3] T) := by rw [heap_setCell_same _ g 2 _ _ _ h1]; rfl
  have h3 : ((((w.setCell ⟨g, 0, none⟩ a0).setCell ⟨g, 1, none⟩ a1).setCell ⟨g, 2, none⟩ a2).setCell ⟨g, 3, none⟩ a3).heap[g]? = some (.cells #[a0, a1, a2, a3] T) := by rw [heap_setCell_same _ g 3 _ _ _ h2]; rfl
  exact h3
theorem sto4_below {w W : World} {B g : Nat} (h : Below B w W) (hg : B ≤ g) (a0 a1 a2 a3 : Value) : Below B w ((((W.setCell ⟨g, 0, none⟩ a0).setCell ⟨g, 1, none⟩ a1).setCell ⟨g, 2, none⟩ a2).setCell ⟨g, 3, none⟩ a3) :=
  (((h.setCell hg _).setCell hg _).setCell hg _).setCell hg _
theorem sto4_cell (w : World) (g : Nat) (a0 a1 a2 a3 : Value) (k i : Nat) (hk : k ≠ g) : ((((w.setCell ⟨g, 0, none⟩ a0).setCell ⟨g, 1, none⟩ a1).setCell ⟨g, 2, none⟩ a2).setCell ⟨g, 3, none⟩ a3).cell? ⟨k, i, none⟩ = w.cell? ⟨k, i, none⟩ := cell_heap ((sto4_off w g a0 a1 a2 a3).1 k hk)
theorem sto8_off (w : World) (g : Nat) (a0 a1 a2 a3 a4 a5 a6 a7 : Value) : (∀ k, k ≠ g → ((((((((w.setCell ⟨g, 0, none⟩ a0).setCell ⟨g, 1, none⟩ a1).setCell ⟨g, 2, none⟩ a2).setCell ⟨g, 3, none⟩ a3).setCell ⟨g, 4, none⟩ a4).setCell ⟨g, 5, none⟩ a5).setCell ⟨g, 6, none⟩ a6).setCell ⟨g, 7, none⟩ a7).heap[k]? = w.heap[k]?) ∧ ((((((((w.setCell ⟨g, 0, none⟩ a0).setCell ⟨g, 1, none⟩ a1).setCell ⟨g, 2, none⟩ a2).setCell ⟨g, 3, none⟩ a3).setCell ⟨g, 4, none⟩ a4).setCell ⟨g, 5, none⟩ a5).setCell ⟨g, 6, none⟩ a6).setCell ⟨g, 7, none⟩ a7).heap.size = w.heap.size := by
  constructor
  · intro k hk
    rw [heap_setCell_other _ _ _ _ hk, heap_setCell_other _ _ _ _ hk, heap_setCell_other _ _ _ _ hk, heap_setCell_other _ _ _ _ hk, heap_setCell_other _ _ _ _ hk, heap_setCell_other _ _ _ _ hk, heap_setCell_other _ _ _ _ hk, heap_setCell_other _ _ _ _ hk]
  · simp [World.setCell]
theorem sto8_box {w : World} {g : Nat} {o0 o1 o2 o3 o4 o5 o6 o7 : Value} {T : TypeId} (h : w.heap[g]? = some (.cells #[o0, o1, o2, o3, o4, o5, o6, o7] T)) (a0 a1 a2 a3 a4 a5 a6 a7 : Value) : ((((((((w.setCell ⟨g, 0, none⟩ a0).setCell ⟨g, 1, none⟩ a1).setCell ⟨g, 2, none⟩ a2).setCell ⟨g, 3, none⟩ a3).setCell ⟨g, 4, none⟩ a4).setCell ⟨g, 5, none⟩ a5).setCell ⟨g, 6, none⟩ a6).setCell ⟨g, 7, none⟩ a7).heap[g]? = some (.cells #[a0, a1, a2, a3, a4, a5, a6, a7] T) := by
  have h0 : (w.setCell ⟨g, 0, none⟩ a0).heap[g]? = some (.cells #[a0, o1, o2, o3, o4, o5, o6, o7] T) := by rw [heap_setCell_same _ g 0 _ _ _ h]; rfl
  have h1 : ((w.setCell ⟨g, 0, none⟩ a0).setCell ⟨g, 1, none⟩ a1).heap[g]? = some (.cells #[a0, a1, o2, o3, o4, o5, o6, o7] T) := by rw [heap_setCell_same _ g 1 _ _ _ h0]; rfl
  have h2 : (((w.setCell ⟨g, 0, none⟩ a0).setCell ⟨g, 1, none⟩ a1).setCell ⟨g, 2, none⟩ a2).heap[g]? = some (.cells #[a0, a1, a2, o3, o4, o5, o6, o7] T) := by rw [heap_setCell_same _ g 2 _ _ _ h1]; rfl
  have h3 : ((((w.setCell ⟨g, 0, none⟩ a0).setCell ⟨g, 1, none⟩ a1).setCell ⟨g, 2, none⟩ a2).setCell ⟨g, 3, none⟩ a3).heap[g]? = some (.cells #[a0, a1, a2, a3, o4, o5, o6, o7] T) := by rw [heap_setCell_same _ g 3 _ _ _ h2]; rfl
  have h4 : (((((w.setCell ⟨g, 0, none⟩ a0).setCell ⟨g, 1, none⟩ a1).setCell ⟨g, 2, none⟩ a2).setCell ⟨g, 3, none⟩ a3).setCell ⟨g, 4, none⟩ a4).heap[g]? = some (.cells #[a0, a1, a2, a3, a4, o5, o6, o7] T) := by rw [heap_setCell_same _ g 4 _ _ _ h3]; rfl
  have h5 : ((((((w.setCell ⟨g, 0, none⟩ a0).setCell ⟨g, 1, none⟩ a1).setCell ⟨g, 2, none⟩ a2).setCell ⟨g, 3, none⟩ a3).setCell ⟨g, 4, none⟩ a4).setCell ⟨g, 5, none⟩ a5).heap[g]? = some (.cells #[a0, a1, a2, a3, a4, a5, o6, o7] T) := by rw [heap_setCell_same _ g 5 _ _ _ h4]; rfl
  have h6 : (((((((w.setCell ⟨g, 0, none⟩ a0).setCell ⟨g, 1, none⟩ a1).setCell ⟨g, 2, none⟩ a2).setCell ⟨g, 3, none⟩ a3).setCell ⟨g, 4, none⟩ a4).setCell ⟨g, 5, none⟩ a5).setCell ⟨g, 6, none⟩ a6).heap[g]? = some (.cells #[a0, a1, a2, a3, a4, a5, a6, o7] T) := by rw [heap_setCell_same _ g 6 _ _ _ h5]; rfl
  have h7 : ((((((((w.setCell ⟨g, 0, none⟩ a0).setCell ⟨g, 1, none⟩ a1).setCell ⟨g, 2, none⟩ a2).setCell ⟨g, 3, none⟩ a3).setCell ⟨g, 4, none⟩ a4).setCell ⟨g, 5, none⟩ a5).setCell ⟨g, 6, none⟩ a6).setCell ⟨g, 7, none⟩ a7).heap[g]? = some (.cells #[a0, a1, a2, a3, a4, a5, a6, a7] T) := by rw [heap_setCell_same _ g 7 _ _ _ h6]; rfl
  exact h7
theorem sto8_below {w W : World} {B g : Nat} (h : Below B w W) (hg : B ≤ g) (a0 a1 a2 a3 a4 a5 a6 a7 : Value) : Below B w ((((((((W.setCell ⟨g, 0, none⟩ a0).setCell ⟨g, 1, none⟩ a1).setCell ⟨g, 2, none⟩ a2).setCell ⟨g, 3, none⟩ a3).setCell ⟨g, 4, none⟩ a4).setCell ⟨g, 5, none⟩ a5).setCell ⟨g, 6, none⟩ a6).setCell ⟨g, 7, none⟩ a7) :=
  (((((((h.setCell hg _).setCell hg _).setCell hg _).setCell hg _).setCell hg _).setCell hg _).setCell hg _).setCell hg _
theorem sto8_cell (w : World) (g : Nat) (a0 a1 a2 a3 a4 a5 a6 a7 : Value) (k i : Nat) (hk : k ≠ g) : ((((((((w.setCell ⟨g, 0, none⟩ a0).setCell ⟨g, 1, none⟩ a1).setCell ⟨g, 2, none⟩ a2).setCell ⟨g, 3, none⟩ a3).setCell ⟨g, 4, none⟩ a4).setCell ⟨g, 5, none⟩ a5).setCell ⟨g, 6, none⟩ a6).setCell ⟨g, 7, none⟩ a7).cell? ⟨k, i, none⟩ = w.cell? ⟨k, i, none⟩ := cell_heap ((sto8_off w g a0 a1 a2 a3 a4 a5 a6 a7).1 k hk)
theorem sto6_off (w : World) (g : Nat) (a0 a1 a2 a3 a4 a5 : Value) : (∀ k, k ≠ g → ((((((w.setCell ⟨g, 0, none⟩ a0).setCell ⟨g, 1, none⟩ a1).setCell ⟨g, 2, none⟩ a2).setCell ⟨g, 3, none⟩ a3).setCell ⟨g, 4, none⟩ a4).setCell ⟨g, 5, none⟩ a5).heap[k]? = w.heap[k]?) ∧ ((((((w.setCell ⟨g, 0, none⟩ a0).setCell ⟨g, 1, none⟩ a1).setCell ⟨g, 2, none⟩ a2).setCell ⟨g, 3, none⟩ a3).setCell ⟨g, 4, none⟩ a4).setCell ⟨g, 5, none⟩ a5).heap.size = w.heap.size := by
  constructor
  · intro k hk
    rw [heap_setCell_other _ _ _ _ hk, heap_setCell_other _ _ _ _ hk, heap_setCell_other _ _ _ _ hk, heap_setCell_other _ _ _ _ hk, heap_setCell_other _ _ _ _ hk, heap_setCell_other _ _ _ _ hk]
  · simp [World.setCell]
theorem sto6_box {w : World} {g : Nat} {o0 o1 o2 o3 o4 o5 : Value} {T : TypeId} (h : w.heap[g]? = some (.cells #[o0, o1, o2, o3, o4, o5] T)) (a0 a1 a2 a3 a4 a5 : Value) : ((((((w.setCell ⟨g, 0, none⟩ a0).setCell ⟨g, 1, none⟩ a1).setCell ⟨g, 2, none⟩ a2).setCell ⟨g, 3, none⟩ a3).setCell ⟨g, 4, none⟩ a4).setCell ⟨g, 5, none⟩ a5).heap[g]? = some (.cells #[a0, a1, a2, a3, a4, a5] T) := by
  have h0 : (w.setCell ⟨g, 0, none⟩ a0).heap[g]? = some (.cells #[a0, o1, o2, o3, o4, o5] T) := by rw [heap_setCell_same _ g 0 _ _ _ h]; rfl
  have h1 : ((w.setCell ⟨g, 0, none⟩ a0).setCell ⟨g, 1, none⟩ a1).heap[g]? = some (.cells #[a0, a1, o2, o3, o4, o5] T) := by rw [heap_setCell_same _ g 1 _ _ _ h0]; rfl
  have h2 : (((w.setCell ⟨g, 0, none⟩ a0).setCell ⟨g, 1, none⟩ a1).setCell ⟨g, 2, none⟩ a2).heap[g]? = some (.cells #[a0, a1, a2, o3, o4, o5] T) := by rw [heap_setCell_same _ g 2 _ _ _ h1]; rfl
  have h3 : ((((w.setCell ⟨g, 0, none⟩ a0).setCell ⟨g, 1, none⟩ a1).setCell ⟨g, 2, none⟩ a2).setCell ⟨g, 3, none⟩ a3).heap[g]? = some (.cells #[a0, a1, a2, a3, o4, o5] T) := by rw [heap_setCell_same _ g 3 _ _ _ h2]; rfl
  have h4 : (((((w.setCell ⟨g, 0, none⟩ a0).setCell ⟨g, 1, none⟩ a1).setCell ⟨g, 2, none⟩ a2).setCell ⟨g, 3, none⟩ a3).setCell ⟨g, 4, none⟩ a4).heap[g]? = some (.cells #[a0, a1, a2, a3, a4, o5] T) := by rw [heap_setCell_same _ g 4 _ _ _ h3]; rfl
  have h5 : ((((((w.setCell ⟨g, 0, none⟩ a0).setCell ⟨g, 1, none⟩ a1).setCell ⟨g, 2, none⟩ a2).setCell ⟨g, 3, none⟩ a3).setCell ⟨g, 4, none⟩ a4).setCell ⟨g, 5, none⟩ a5).heap[g]? = some (.cells #[a0, a1, a2, a3, a4, a5] T) := by rw [heap_setCell_same _ g 5 _ _ _ h4]; rfl
  exact h5
theorem sto6_below {w W : World} {B g : Nat} (h : Below B w W) (hg : B ≤ g) (a0 a1 a2 a3 a4 a5 : Value) : Below B w ((((((W.setCell ⟨g, 0, none⟩ a0).setCell ⟨g, 1, none⟩ a1).setCell ⟨g, 2, none⟩ a2).setCell ⟨g, 3, none⟩ a3).setCell ⟨g, 4, none⟩ a4).setCell ⟨g, 5, none⟩ a5) :=
  (((((h.setCell hg _).setCell hg _).setCell hg _).setCell hg _).setCell hg _).setCell hg _
theorem sto6_cell (w : World) (g : Nat) (a0 a1 a2 a3 a4 a5 : Value) (k i : Nat) (hk : k ≠ g) : ((((((w.setCell ⟨g, 0, none⟩ a0).setCell ⟨g, 1, none⟩ a1).setCell ⟨g, 2, none⟩ a2).setCell ⟨g, 3, none⟩ a3).setCell ⟨g, 4, none⟩ a4).setCell ⟨g, 5, none⟩ a5).cell? ⟨k, i, none⟩ = w.cell? ⟨k, i, none⟩ := cell_heap ((sto6_off w g a0 a1 a2 a3 a4 a5).1 k hk)
theorem sto3_off (w : World) (g : Nat) (a0 a1 a2 : Value) : (∀ k, k ≠ g → (((w.setCell ⟨g, 0, none⟩ a0).setCell ⟨g, 1, none⟩ a1).setCell ⟨g, 2, none⟩ a2).heap[k]? = w.heap[k]?) ∧ (((w.setCell ⟨g, 0, none⟩ a0).setCell ⟨g, 1, none⟩ a1).setCell ⟨g, 2, none⟩ a2).heap.size = w.heap.size := by
  constructor
  · intro k hk
    rw [heap_setCell_other _ _ _ _ hk, heap_setCell_other _ _ _ _ hk, heap_setCell_other _ _ _ _ hk]
  · simp [World.setCell]
theorem sto3_box {w : World} {g : Nat} {o0 o1 o2 : Value} {T : TypeId} (h : w.heap[g]? = some (.cells #[o0, o1, o2] T)) (a0 a1 a2 : Value) : (((w.setCell ⟨g, 0, none⟩ a0).setCell ⟨g, 1, none⟩ a1).setCell ⟨g, 2, none⟩ a2).heap[g]? = some (.cells #[a0, a1, a2] T) := by
  have h0 : (w.setCell ⟨g, 0, none⟩ a0).heap[g]? = some (.cells #[a0, o1, o2] T) := by rw [heap_setCell_same _ g 0 _ _ _ h]; rfl
  have h1 : ((w.setCell ⟨g, 0, none⟩ a0).setCell ⟨g, 1, none⟩ a1).heap[g]? = some (.cells #[a0, a1, o2] T) := by rw [heap_setCell_same _ g 1 _ _ _ h0]; rfl
  have h2 : (((w.setCell ⟨g, 0, none⟩ a0).setCell ⟨g, 1, none⟩ a1).setCell ⟨g, 2, none⟩ a2).heap[g]? = some (.cells #[a0, a1, a2] T) := by rw [heap_setCell_same _ g 2 _ _ _ h1]; rfl
  exact h2
theorem sto3_below {w W : World} {B g : Nat} (h : Below B w W) (hg : B ≤ g) (a0 a1 a2 : Value) : Below B w (((W.setCell ⟨g, 0, none⟩ a0).setCell ⟨g, 1, none⟩ a1).setCell ⟨g, 2, none⟩ a2) :=
  ((h.setCell hg _).setCell hg _).setCell hg _
theorem sto3_cell (w : World) (g : Nat) (a0 a1 a2 : Value) (k i : Nat) (hk : k ≠ g) : (((w.setCell ⟨g, 0, none⟩ a0).setCell ⟨g, 1, none⟩ a1).setCell ⟨g, 2, none⟩ a2).cell? ⟨k, i, none⟩ = w.cell? ⟨k, i, none⟩ := cell_heap ((sto3_off w g a0 a1 a2).1 k hk)
theorem plain6 {w : World} {g : Nat} {b1 b2 : Bool} {o1 o2 o3 o4 : Option Addr} {l1 l2 l3 l4 c1 c2 c3 c4 : Nat} {T : TypeId} (hk : w.heap[g]? = some (.cells #[.bool b1, .slice o1 l1 c1, .slice o2 l2 c2, .bool b2, .slice o3 l3 c3, .slice o4 l4 c4] T)) : Plain w g := by
  intro i v h
  simp only [World.cell?, hk] at h
  match i, h with
  | 0, h => simp at h; subst h; exact ⟨fun k z e => by simp at e, fun _ o n c e => by simp at e⟩
  | 1, h => simp at h; subst h; exact ⟨fun k z e => by simp at e, fun e => by omega⟩
  | 2, h => simp at h; subst h; exact ⟨fun k z e => by simp at e, fun e => by omega⟩
  | 3, h => simp at h; subst h; exact ⟨fun k z e => by simp at e, fun _ o n c e => by simp at e⟩
  | 4, h => simp at h; subst h; exact ⟨fun k z e => by simp at e, fun e => by omega⟩
  | 5, h => simp at h; subst h; exact ⟨fun k z e => by simp at e, fun e => by omega⟩
  | (i + 6), h => simp at h
theorem plain4 {w : World} {g : Nat} {x0 : Bool} {A0 L0 : Int} {p0 : Option Addr} {T : TypeId} (hk : w.heap[g]? = some (.cells #[.bool x0, .int .u64 A0, .int .u64 L0, .pointer p0] T)) : Plain w g := by
  intro i v h
  simp only [World.cell?, hk] at h
  match i, h with
  | 0, h => simp at h; subst h; exact ⟨fun k z e => by simp at e, fun _ o n c e => by simp at e⟩
  | 1, h => simp at h; subst h; exact ⟨fun k z e => by simp at e; exact e.1.symm, fun _ o n c e => by simp at e⟩
  | 2, h => simp at h; subst h; exact ⟨fun k z e => by simp at e; exact e.1.symm, fun _ o n c e => by simp at e⟩
  | 3, h => simp at h; subst h; exact ⟨fun k z e => by simp at e, fun _ o n c e => by simp at e⟩
  | (i + 4), h => simp at h
theorem plain8 {w : World} {g : Nat} {x0 x1 : Bool} {A0 L0 A1 L1 : Int} {p0 p1 : Option Addr} {T : TypeId} (hk : w.heap[g]? = some (.cells #[.bool x0, .int .u64 A0, .int .u64 L0, .pointer p0, .bool x1, .int .u64 A1, .int .u64 L1, .pointer p1] T)) : Plain w g := by
  intro i v h
  simp only [World.cell?, hk] at h
  match i, h with
  | 0, h => simp at h; subst h; exact ⟨fun k z e => by simp at e, fun _ o n c e => by simp at e⟩
  | 1, h => simp at h; subst h; exact ⟨fun k z e => by simp at e; exact e.1.symm, fun _ o n c e => by simp at e⟩
  | 2, h => simp at h; subst h; exact ⟨fun k z e => by simp at e; exact e.1.symm, fun _ o n c e => by simp at e⟩
  | 3, h => simp at h; subst h; exact ⟨fun k z e => by simp at e, fun _ o n c e => by simp at e⟩
  | 4, h => simp at h; subst h; exact ⟨fun k z e => by simp at e, fun _ o n c e => by simp at e⟩
  | 5, h => simp at h; subst h; exact ⟨fun k z e => by simp at e; exact e.1.symm, fun _ o n c e => by simp at e⟩
  | 6, h => simp at h; subst h; exact ⟨fun k z e => by simp at e; exact e.1.symm, fun _ o n c e => by simp at e⟩
  | 7, h => simp at h; subst h; exact ⟨fun k z e => by simp at e, fun _ o n c e => by simp at e⟩
  | (i + 8), h => simp at h
theorem conj_3 {P0 P1 P2 : Prop} (a0 : P0) (a1 : P1) (a2 : P2) : P0 ∧ P1 ∧ P2 := ⟨a0, a1, a2⟩
theorem conj_4 {P0 P1 P2 P3 : Prop} (a0 : P0) (a1 : P1) (a2 : P2) (a3 : P3) : P0 ∧ P1 ∧ P2 ∧ P3 := ⟨a0, a1, a2, a3⟩
theorem conj_6 {P0 P1 P2 P3 P4 P5 : Prop} (a0 : P0) (a1 : P1) (a2 : P2) (a3 : P3) (a4 : P4) (a5 : P5) : P0 ∧ P1 ∧ P2 ∧ P3 ∧ P4 ∧ P5 := ⟨a0, a1, a2, a3, a4, a5⟩
theorem conj_7 {P0 P1 P2 P3 P4 P5 P6 : Prop} (a0 : P0) (a1 : P1) (a2 : P2) (a3 : P3) (a4 : P4) (a5 : P5) (a6 : P6) : P0 ∧ P1 ∧ P2 ∧ P3 ∧ P4 ∧ P5 ∧ P6 := ⟨a0, a1, a2, a3, a4, a5, a6⟩
theorem conj_8 {P0 P1 P2 P3 P4 P5 P6 P7 : Prop} (a0 : P0) (a1 : P1) (a2 : P2) (a3 : P3) (a4 : P4) (a5 : P5) (a6 : P6) (a7 : P7) : P0 ∧ P1 ∧ P2 ∧ P3 ∧ P4 ∧ P5 ∧ P6 ∧ P7 := ⟨a0, a1, a2, a3, a4, a5, a6, a7⟩
theorem conj_9 {P0 P1 P2 P3 P4 P5 P6 P7 P8 : Prop} (a0 : P0) (a1 : P1) (a2 : P2) (a3 : P3) (a4 : P4) (a5 : P5) (a6 : P6) (a7 : P7) (a8 : P8) : P0 ∧ P1 ∧ P2 ∧ P3 ∧ P4 ∧ P5 ∧ P6 ∧ P7 ∧ P8 := ⟨a0, a1, a2, a3, a4, a5, a6, a7, a8⟩
theorem conj_12 {P0 P1 P2 P3 P4 P5 P6 P7 P8 P9 P10 P11 : Prop} (a0 : P0) (a1 : P1) (a2 : P2) (a3 : P3) (a4 : P4) (a5 : P5) (a6 : P6) (a7 : P7) (a8 : P8) (a9 : P9) (a10 : P10) (a11 : P11) : P0 ∧ P1 ∧ P2 ∧ P3 ∧ P4 ∧ P5 ∧ P6 ∧ P7 ∧ P8 ∧ P9 ∧ P10 ∧ P11 := ⟨a0, a1, a2, a3, a4, a5, a6, a7, a8, a9, a10, a11⟩
theorem conj_16 {P0 P1 P2 P3 P4 P5 P6 P7 P8 P9 P10 P11 P12 P13 P14 P15 : Prop} (a0 : P0) (a1 : P1) (a2 : P2) (a3 : P3) (a4 : P4) (a5 : P5) (a6 : P6) (a7 : P7) (a8 : P8) (a9 : P9) (a10 : P10) (a11 : P11) (a12 : P12) (a13 : P13) (a14 : P14) (a15 : P15) : P0 ∧ P1 ∧ P2 ∧ P3 ∧ P4 ∧ P5 ∧ P6 ∧ P7 ∧ P8 ∧ P9 ∧ P10 ∧ P11 ∧ P12 ∧ P13 ∧ P14 ∧ P15 := ⟨a0, a1, a2, a3, a4, a5, a6, a7, a8, a9, a10, a11, a12, a13, a14, a15⟩
end Go.Proofs.YtefckmkcbgckfaaGreatDoor.NmL

/- Numbers as fractions, in Lean's own field (what HoN has, without layer 7). -/
namespace Go.Proofs.YtefckmkcbgckfaaGreatDoor.VqN
open Go.RowKit Mem LimbNum Limb1 NatL GcdA RatL RatM RatN RatF RatO MulN MulW MulL RefR RefT RefU InvL DivL QNum CmpL CmqL RefX RefY RefZ FloL Mk5 AddN JoinL AddW AddV AddR FldL SubL NmL Law5

theorem frac_eq {A D P Q g : Int} (h1 : A * g = P) (h2 : D * g = Q) (hQ : Q ≠ 0) : (A : Rat) / (D : Rat) = (P : Rat) / (Q : Rat) := by
  have hg : (g : Rat) ≠ 0 := by
    intro h; apply hQ; have : g = 0 := by exact_mod_cast h
    rw [← h2, this]; simp
  have hD : (D : Rat) ≠ 0 := by
    intro h; apply hQ; have : D = 0 := by exact_mod_cast h
    rw [← h2, this]; simp
  rw [← h1, ← h2]
  simp only [Rat.intCast_mul]
  grind
theorem f_add {a b c d : Rat} (hb : b ≠ 0) (hd : d ≠ 0) : a / b + c / d = (a * d + c * b) / (b * d) := by grind
theorem f_mul {a b c d : Rat} (hb : b ≠ 0) (hd : d ≠ 0) : a / b * (c / d) = (a * c) / (b * d) := by grind
theorem f_lt {a b c d : Rat} (hb : 0 < b) (hd : 0 < d) : a / b < c / d ↔ a * d < c * b := by
  have e1 : a = a / b * b := by grind
  have e2 : c = c / d * d := by grind
  generalize a / b = x at *
  generalize c / d = y at *
  subst e1 e2
  have h : 0 < b * d := Rat.mul_pos hb hd
  constructor
  · intro h1
    have := Rat.mul_lt_mul_of_pos_right h1 h
    grind
  · intro h1
    apply Rat.not_le.mp
    intro h2
    have := Rat.mul_le_mul_of_nonneg_right h2 (Rat.le_of_lt h)
    grind
/-- The number's value. -/
def vq (p : Nm) : Rat := ((sv p.b p.n : Int) : Rat) / (((p.d : Nat) : Int) : Rat)
theorem dpos {p : Nm} (h : 0 < p.d) : (0 : Rat) < (((p.d : Nat) : Int) : Rat) := by
  have : (0 : Int) < ((p.d : Nat) : Int) := by omega
  exact_mod_cast this
theorem dne {p : Nm} (h : 0 < p.d) : (((p.d : Nat) : Int) : Rat) ≠ 0 := by have := dpos h; grind
theorem vq_add {p q : Nm} (hp : 0 < p.d) (hq : 0 < q.d) : vq (addM p q) = vq p + vq q := by
  obtain ⟨g, e1, e2⟩ := add_val p.b q.b p.n p.d q.n q.d
  have e3 : (((addM p q).d : Nat) : Int) * (g : Int) = (p.d : Int) * (q.d : Int) := by
    rw [← Int.natCast_mul, ← Int.natCast_mul]; exact congrArg _ e2
  have e1' : sv (addM p q).b (addM p q).n * (g : Int) = sv p.b p.n * (q.d : Int) + sv q.b q.n * (p.d : Int) := e1
  unfold vq
  rw [f_add (dne hp) (dne hq), frac_eq e1' e3 (Int.ne_of_gt (Int.mul_pos (by omega) (by omega)))]
  simp only [Rat.intCast_mul, Rat.intCast_add]
theorem vq_mul {p q : Nm} (hp : 0 < p.d) (hq : 0 < q.d) : vq (mulM p q) = vq p * vq q := by
  obtain ⟨g, e1, e2⟩ := mul_val p.b q.b p.n p.d q.n q.d
  have e3 : (((mulM p q).d : Nat) : Int) * (g : Int) = (p.d : Int) * (q.d : Int) := by
    rw [← Int.natCast_mul, ← Int.natCast_mul]; exact congrArg _ e2
  have e1' : sv (mulM p q).b (mulM p q).n * (g : Int) = sv p.b p.n * sv q.b q.n := e1
  unfold vq
  rw [f_mul (dne hp) (dne hq), frac_eq e1' e3 (Int.ne_of_gt (Int.mul_pos (by omega) (by omega)))]
  simp only [Rat.intCast_mul]
theorem sv_negM (p : Nm) : sv (negM p).b (negM p).n = - sv p.b p.n := by
  unfold negM
  rw [sv_flag]
  unfold sv
  cases p.b <;> simp
theorem vq_neg (p : Nm) : vq (negM p) = - vq p := by
  unfold vq
  rw [sv_negM]
  show ((-sv p.b p.n : Int) : Rat) / (((p.d : Nat) : Int) : Rat) = _
  rw [Rat.intCast_neg]
  grind
theorem cmp_lt {p q : Nm} (hp : 0 < p.d) (hq : 0 < q.d) : 0 < cmpM p q ↔ vq q < vq p := by
  have e : cmpM p q = cmpI (sv p.b p.n * (q.d : Int)) (sv q.b q.n * (p.d : Int)) := by
    unfold cmpM cmpQ; rw [sv_mul, sv_mul]
  have l : vq q < vq p ↔ sv q.b q.n * (p.d : Int) < sv p.b p.n * (q.d : Int) := by
    unfold vq
    rw [f_lt (dpos hq) (dpos hp), ← Rat.intCast_mul, ← Rat.intCast_mul, Rat.intCast_lt_intCast]
  rw [e, l]
  unfold cmpI
  split
  · omega
  · split <;> omega
theorem cmp_eq {p q : Nm} (hp : 0 < p.d) (hq : 0 < q.d) : cmpM p q = 0 ↔ vq p = vq q := by
  have e : ∀ x y : Nm, cmpM x y = cmpI (sv x.b x.n * (y.d : Int)) (sv y.b y.n * (x.d : Int)) := by
    intro x y; unfold cmpM cmpQ; rw [sv_mul, sv_mul]
  have h1 := cmp_lt hp hq
  have h2 := cmp_lt hq hp
  rw [e] at h1 h2 ⊢
  have h3 : vq p = vq q ↔ ¬ vq q < vq p ∧ ¬ vq p < vq q := by
    constructor
    · intro h; grind
    · intro h; grind
  rw [h3, ← h1, ← h2]
  unfold cmpI
  split <;> split <;> (try split) <;> omega
def sgnM (p : Nm) : Int := sgn p.b p.n
theorem sgn_lt {p : Nm} (hp : 0 < p.d) : 0 < sgnM p ↔ 0 < vq p := by
  have l : (0 : Rat) < vq p ↔ 0 < sv p.b p.n := by
    have e0 : (0 : Rat) = ((0 : Int) : Rat) / ((1 : Int) : Rat) := by decide +kernel
    unfold vq
    rw [e0, f_lt (by decide +kernel) (dpos hp), ← Rat.intCast_mul, ← Rat.intCast_mul, Rat.intCast_lt_intCast]
    simp
  rw [l]
  unfold sgnM sgn sv
  split
  · simp_all
  · cases p.b <;> simp <;> omega
theorem d_add {p q : Nm} (hp : 0 < p.d) (hq : 0 < q.d) : 0 < (addM p q).d :=
  Nat.div_pos (Nat.le_of_dvd (Nat.mul_pos hp hq) (Nat.gcd_dvd_right _ _)) (Nat.gcd_pos_of_pos_right _ (Nat.mul_pos hp hq))
theorem d_mul {p q : Nm} (hp : 0 < p.d) (hq : 0 < q.d) : 0 < (mulM p q).d :=
  Nat.div_pos (Nat.le_of_dvd (Nat.mul_pos hp hq) (Nat.gcd_dvd_right _ _)) (Nat.gcd_pos_of_pos_right _ (Nat.mul_pos hp hq))
def absM (p : Nm) : Nm := ⟨false, p.n, p.d⟩
theorem vq_abs {p : Nm} (hp : 0 < p.d) : 0 ≤ vq (absM p) ∧ (p.n ≠ 0 → 0 < vq (absM p)) := by
  have h := sgn_lt (p := absM p) hp
  have e : sgnM (absM p) = if p.n = 0 then 0 else 1 := by unfold sgnM sgn absM; simp
  rw [e] at h
  by_cases hn : p.n = 0
  · refine ⟨?_, fun h2 => absurd hn h2⟩
    unfold vq absM sv
    simp only [hn]
    simp
    grind
  · rw [if_neg hn] at h
    have := h.mp (by decide)
    exact ⟨by grind, fun _ => this⟩
theorem low_same {p : Nm} (h : Low p.b p.n p.d) : (⟨p.b && decide (p.n / Nat.gcd p.n p.d ≠ 0), p.n / Nat.gcd p.n p.d, p.d / Nat.gcd p.n p.d⟩ : Nm) = p := by
  rw [h.one, Nat.div_one, Nat.div_one]
  have : (p.b && decide (p.n ≠ 0)) = p.b := by
    by_cases e : p.n = 0
    · rw [h.sg e]; rfl
    · simp [e]
  rw [this]
theorem sv_inj {b1 b2 : Bool} {n1 n2 : Nat} (h1 : n1 = 0 → b1 = false) (h2 : n2 = 0 → b2 = false) (h : sv b1 n1 = sv b2 n2) : b1 = b2 ∧ n1 = n2 := by
  unfold sv at h
  cases b1 <;> cases b2 <;> simp at h h1 h2 ⊢ <;> omega
/-- In lowest terms the same value is the same number. -/
theorem same_of {p q : Nm} (hp : Low p.b p.n p.d) (hq : Low q.b q.n q.d) (h : cmpM p q = 0) : p = q := by
  have e : cmpM p q = cmpI (sv p.b p.n * (q.d : Int)) (sv q.b q.n * (p.d : Int)) := by unfold cmpM cmpQ; rw [sv_mul, sv_mul]
  have h2 : sv p.b p.n * (q.d : Int) = sv q.b q.n * (p.d : Int) := by
    rw [e] at h
    unfold cmpI at h
    split at h
    · cases h
    · split at h
      · assumption
      · cases h
  have h3 : p.n * q.d = q.n * p.d := by
    have := congrArg Int.natAbs h2
    rw [Int.natAbs_mul, Int.natAbs_mul] at this
    have a1 : (sv p.b p.n).natAbs = p.n := by unfold sv; split <;> simp
    have a2 : (sv q.b q.n).natAbs = q.n := by unfold sv; split <;> simp
    rw [a1, a2] at this
    simpa using this
  have hd1 : p.d ∣ q.d := by
    have c : Nat.Coprime p.d p.n := by rw [Nat.coprime_comm]; exact hp.one
    exact Nat.Coprime.dvd_of_dvd_mul_left c ⟨q.n, by rw [h3, Nat.mul_comm]⟩
  have hd2 : q.d ∣ p.d := by
    have c : Nat.Coprime q.d q.n := by rw [Nat.coprime_comm]; exact hq.one
    exact Nat.Coprime.dvd_of_dvd_mul_left c ⟨p.n, by rw [← h3, Nat.mul_comm]⟩
  have hd : p.d = q.d := Nat.dvd_antisymm hd1 hd2
  have hpd := hp.pos
  rw [hd] at h2
  have h4 := Int.eq_of_mul_eq_mul_right (by have := hq.pos; omega) h2
  obtain ⟨e1, e2⟩ := sv_inj hp.sg hq.sg h4
  obtain ⟨pb, pn, pd⟩ := p
  obtain ⟨qb, qn, qd⟩ := q
  dsimp only at e1 e2 hd
  rw [e1, e2, hd]
theorem cmp_self (p : Nm) : cmpM p p = 0 := by
  have e : cmpM p p = cmpI (sv p.b p.n * (p.d : Int)) (sv p.b p.n * (p.d : Int)) := by unfold cmpM cmpQ; rw [sv_mul]
  rw [e]; unfold cmpI; simp
end Go.Proofs.YtefckmkcbgckfaaGreatDoor.VqN

/- Both of a number that came in, as plain data. -/
namespace Go.Proofs.YtefckmkcbgckfaaGreatDoor.BnL
open Go.RowKit Mem LimbNum NmL RatL RefR
theorem both_nm (b : Bool) (A B : List Nat) (ao bo : Option Addr) (cap1 cap2 : Nat) (w : World) (hl : Lies w ao cap1 (ints .u32 A)) (hl2 : Lies w bo cap2 (ints .u32 B)) (hA : Small A) (hB : Small B) :
    Calls Tryz.prog 4 #[.agg #[.bool b, .slice ao A.length cap1, .slice bo B.length cap2]] w fun e w' => ∃ v q p, e = .returned (.tuple #[v, q]) ∧ IsR w' v p ∧ IsQ w' q p ∧ Fits p 256 ∧ Below w.heap.size w w' := by
  refine (DvW.both_any b A B ao bo cap1 cap2 w hl hl2 hA hB).mono ?_
  rintro e w' ⟨v, q, b2, n, d, rfl, h1, h2, h3, hb⟩
  exact ⟨v, q, ⟨b2, n, d⟩, rfl, h1, h2, ⟨h1.1.pos, h3⟩, hb⟩
end Go.Proofs.YtefckmkcbgckfaaGreatDoor.BnL
