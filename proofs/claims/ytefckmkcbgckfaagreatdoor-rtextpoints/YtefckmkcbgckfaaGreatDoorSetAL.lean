/- What the highest bits of a list of limbs are. -/
import Derived.Test.YtefckmkcbgckfaaGreatDoorSetAK
import Derived.Test.YtefckmkcbgckfaaGreatDoorSetAH
namespace Go.Proofs.YtefckmkcbgckfaaGreatDoor.HighL
open Go.RowKit Mem LimbNum Limb1 Limb2 Limb4 NatNum DivNum NatL GcdNum GcdL DivW

theorem three_val (A : List Nat) (n : Nat) (hA : Small A) (hn : 3 ≤ n) (hl : A.length ≤ n) : ∃ l0, l0 < 4294967296 ^ (n - 3) ∧ val A = l0 + 4294967296 ^ (n - 3) * (A.getD (n - 3) 0 + 4294967296 * (A.getD (n - 2) 0 + 4294967296 * A.getD (n - 1) 0)) := by
  obtain ⟨m, rfl⟩ : ∃ m, n = m + 3 := ⟨n - 3, by omega⟩
  refine ⟨val (A.take m), ?_, ?_⟩
  · have h1 := val_lt (A.take m) (fun x hx => hA x (List.mem_of_mem_take hx))
    have h2 : (A.take m).length ≤ m := by rw [List.length_take]; omega
    rw [show m + 3 - 3 = m by omega]
    exact Nat.lt_of_lt_of_le h1 (Nat.pow_le_pow_right (by omega) h2)
  · have e : val A = val (A.take (m + 3)) := by rw [List.take_of_length_le hl]
    rw [e, show m + 3 = m + 1 + 1 + 1 from rfl, val_take_any, val_take_any, val_take_any, show m + 1 + 1 + 1 - 3 = m by omega, show m + 1 + 1 + 1 - 2 = m + 1 by omega, show m + 1 + 1 + 1 - 1 = m + 1 + 1 by omega, Nat.pow_succ, Nat.pow_succ]
    grind
theorem high_val (A : List Nat) (n s : Nat) (hA : Small A) (hn : 3 ≤ n) (hl : A.length ≤ n) (hs : s ≤ 31) (hv : val A < 2 ^ (32 * n - s)) :
    (A.getD (n - 1) 0 * 4294967296 + A.getD (n - 2) 0) * 2 ^ s + A.getD (n - 3) 0 / 2 ^ (32 - s) = val A / 2 ^ (32 * (n - 2) - s) ∧ (A.getD (n - 1) 0 * 4294967296 + A.getD (n - 2) 0) * 2 ^ s < 18446744073709551616 := by
  obtain ⟨l0, h0, e0⟩ := three_val A n hA hn hl
  obtain ⟨H, eH⟩ : ∃ H, H = A.getD (n - 1) 0 := ⟨_, rfl⟩
  obtain ⟨M, eM⟩ : ∃ H, H = A.getD (n - 2) 0 := ⟨_, rfl⟩
  obtain ⟨Lo, eL⟩ : ∃ H, H = A.getD (n - 3) 0 := ⟨_, rfl⟩
  rw [← eH, ← eM, ← eL] at e0
  rw [← eH, ← eM, ← eL]
  clear eH eM eL
  obtain ⟨q, hq⟩ : ∃ q, q = 32 - s := ⟨_, rfl⟩
  have hp : (2 : Nat) ^ s * 2 ^ q = 4294967296 := by rw [← Nat.pow_add, show s + q = 32 by omega]
  have e1 : (2 : Nat) ^ (32 * (n - 2) - s) = 4294967296 ^ (n - 3) * 2 ^ q := by
    rw [← pow32, ← Nat.pow_add]; congr 1; omega
  have e2 : (2 : Nat) ^ (32 * n - s) = 4294967296 ^ (n - 3) * (2 ^ q * 18446744073709551616) := by
    rw [← pow32, show (18446744073709551616 : Nat) = 2 ^ 64 from rfl, ← Nat.pow_add, ← Nat.pow_add]; congr 1; omega
  rw [← hq, e1]
  rw [e2] at hv
  clear e1 e2
  have hR : 0 < 4294967296 ^ (n - 3) := Nat.pow_pos (by omega)
  generalize 4294967296 ^ (n - 3) = R at *
  have hQ : 0 < 2 ^ q := Nat.pow_pos (by omega)
  generalize 2 ^ q = Q at *
  generalize 2 ^ s = P at *
  have e3 : Lo + 4294967296 * (M + 4294967296 * H) = Lo + Q * ((H * 4294967296 + M) * P) := by rw [← hp]; grind
  have e4 : val A / R = Lo + Q * ((H * 4294967296 + M) * P) := by
    rw [e0, e3, Nat.add_mul_div_left _ _ hR, Nat.div_eq_of_lt h0, Nat.zero_add]
  constructor
  · rw [← Nat.div_div_eq_div_mul, e4, Nat.add_mul_div_left _ _ hQ, Nat.add_comm]
  · have h5 : Q * ((H * 4294967296 + M) * P) ≤ val A / R := by omega
    have h6 : val A / R < Q * 18446744073709551616 := Nat.div_lt_of_lt_mul hv
    exact Nat.lt_of_mul_lt_mul_left (Nat.lt_of_le_of_lt h5 h6)
set_option maxRecDepth 20000 in
theorem highest_any (A : List Nat) (n s : Nat) (ao : Option Addr) (cap : Nat) (w : World) (h : Lies w ao cap (ints .u32 A)) (hA : Small A) (hn : 3 ≤ n) (hn2 : n ≤ 100000000000000) (hl : A.length ≤ n) (hs : s ≤ 31) (hv : val A < 2 ^ (32 * n - s)) :
    Calls Tryz.prog 96 #[.slice ao A.length cap, .int .i64 (n : Int), .int .u64 (s : Int)] w fun e w' => e = .returned (.int .u64 ((val A / 2 ^ (32 * (n - 2) - s) : Nat) : Int)) ∧ w' = w := by
  obtain ⟨k1, k2⟩ := high_val A n s hA hn hl hs hv
  have c1 := at_any A (n - 1) ao cap w h
  have c2 := at_any A (n - 2) ao cap w h
  have c3 := at_any A (n - 3) ao cap w h
  have b1 := getD_small A hA (n - 1)
  have b2 := getD_small A hA (n - 2)
  have b3 := getD_small A hA (n - 3)
  rw [← k1]
  obtain ⟨H, eH⟩ : ∃ H, H = A.getD (n - 1) 0 := ⟨_, rfl⟩
  obtain ⟨M, eM⟩ : ∃ H, H = A.getD (n - 2) 0 := ⟨_, rfl⟩
  obtain ⟨Lo, eL⟩ : ∃ H, H = A.getD (n - 3) 0 := ⟨_, rfl⟩
  rw [← eH] at c1 b1 k2
  rw [← eM] at c2 b2 k2
  rw [← eL] at c3 b3
  rw [← eH, ← eM, ← eL]
  have hor := or_word H M b1 b2
  have hU : Lo / 2 ^ (32 - s) < 2 ^ s := by
    have hp : (2 : Nat) ^ (32 - s) * 2 ^ s = 4294967296 := by rw [← Nat.pow_add, show 32 - s + s = 32 by omega]
    exact Nat.div_lt_of_lt_mul (by rw [hp]; exact b3)
  have hP : (2 : Nat) ^ s ≤ 2 ^ 31 := Nat.pow_le_pow_right (by omega) hs
  obtain ⟨W, eW⟩ : ∃ W, W = H * 4294967296 + M := ⟨_, rfl⟩
  rw [← eW] at hor k2
  rw [← eW]
  have f1 : IntKind.u64.wrap ((W : Int) * 2 ^ s) = ((W * 2 ^ s : Nat) : Int) := by
    rw [IntKind.wrap_u64, show (W : Int) * 2 ^ s = ((W * 2 ^ s : Nat) : Int) by simp]; omega
  obtain ⟨q, hq⟩ : ∃ q, q = 32 - s := ⟨_, rfl⟩
  have f2 : (Lo : Int) / 2 ^ q = ((Lo / 2 ^ q : Nat) : Int) := by simp
  have f0 : 32 - (s : Int) = (q : Int) := by omega
  rw [← hq] at hU ⊢
  have f3 : bits BinOp.or IntKind.u64 ((W * 2 ^ s : Nat) : Int) ((Lo / 2 ^ q : Nat) : Int) = ((W * 2 ^ s + Lo / 2 ^ q : Nat) : Int) := by
    rw [u64_or_nat _ _ k2 (by omega), nat_join s _ _ (Nat.mul_mod_left _ _) hU]
  have hsum : W * 2 ^ s + Lo / 2 ^ q < 18446744073709551616 := by
    have hp : W * 2 ^ s ||| Lo / 2 ^ q < 2 ^ 64 := Nat.or_lt_two_pow (by omega) (by omega)
    rw [nat_join s _ _ (Nat.mul_mod_left _ _) hU] at hp
    omega
  obtain ⟨TI, eT⟩ : ∃ T : Int, T = ((W * 2 ^ s : Nat) : Int) := ⟨_, rfl⟩
  obtain ⟨UI, eU⟩ : ∃ T : Int, T = ((Lo / 2 ^ q : Nat) : Int) := ⟨_, rfl⟩
  obtain ⟨SI, eS⟩ : ∃ T : Int, T = ((W * 2 ^ s + Lo / 2 ^ q : Nat) : Int) := ⟨_, rfl⟩
  obtain ⟨WI, eWI⟩ : ∃ T : Int, T = (W : Int) := ⟨_, rfl⟩
  obtain ⟨HI, eHI⟩ : ∃ T : Int, T = (H : Int) := ⟨_, rfl⟩
  obtain ⟨MI, eMI⟩ : ∃ T : Int, T = (M : Int) := ⟨_, rfl⟩
  obtain ⟨LI, eLI⟩ : ∃ T : Int, T = (Lo : Int) := ⟨_, rfl⟩
  rw [← eHI] at c1 hor
  rw [← eMI] at c2 hor
  rw [← eLI] at c3 f2
  rw [← eWI] at hor f1
  rw [← eT] at f1 f3
  rw [← eU] at f2 f3
  rw [← eS] at f3 ⊢
  have HI0 : 0 ≤ HI := by omega
  have HI1 : HI < 4294967296 := by omega
  have MI0 : 0 ≤ MI := by omega
  have MI1 : MI < 4294967296 := by omega
  have LI0 : 0 ≤ LI := by omega
  have LI1 : LI < 4294967296 := by omega
  have n1 : (n : Int) - 1 = ((n - 1 : Nat) : Int) := by omega
  have n2 : (n : Int) - 2 = ((n - 2 : Nat) : Int) := by omega
  have n3 : (n : Int) - 3 = ((n - 3 : Nat) : Int) := by omega
  rw [← n1] at c1
  rw [← n2] at c2
  rw [← n3] at c3
  have WI0 : 0 ≤ WI := by omega
  have WI1 : WI < 18446744073709551616 := by omega
  have U0 : 0 ≤ UI := by rw [eU]; exact Int.natCast_nonneg _
  have U1 : UI < 4294967296 := by rw [eU]; exact Int.ofNat_lt.2 (Nat.lt_of_lt_of_le hU (Nat.le_trans hP (by decide)))
  have S0 : 0 ≤ SI := by rw [eS]; exact Int.natCast_nonneg _
  have S1 : SI < 18446744073709551616 := by rw [eS]; exact Int.ofNat_lt.2 hsum
  have ns : (s : Int) ≤ 31 := by omega
  have nn : (3 : Int) ≤ (n : Int) := by omega
  have t1 : True := trivial
  have t2 : True := trivial
  clear k1 k2 b1 b2 b3 eH eM eL hU hP eW hq hsum eT eU eS eWI eHI eMI eLI n1 n2 n3 h hA hv hl hs hn
  go_enter Tryz.func96, Tryz.ntmps96
  go_wp2_with (first
    | (go_at_call 97; have _t := t1; clear _t t1; refine c1.mono ?_; rintro e w1 ⟨rfl, hw⟩; have hw2 := hw.symm; clear hw; subst hw2)
    | (go_at_call 97; have _t := t2; clear _t t2; refine c2.mono ?_; rintro e w1 ⟨rfl, hw⟩; have hw2 := hw.symm; clear hw; subst hw2)
    | (go_at_call 97; refine c3.mono ?_; rintro e w1 ⟨rfl, hw⟩; have hw2 := hw.symm; clear hw; subst hw2))
  go_ret
  exact ⟨rfl, rfl⟩
end Go.Proofs.YtefckmkcbgckfaaGreatDoor.HighL
