/- What the power of a list of limbs answers. -/
import Derived.Test.YtbhmgafiookjnadNatL
import Derived.Test.YtbhmgafiookjnadLimb3
import Derived.Test.YtbhmgafiookjnadLen64
namespace Go.Proofs.Ytbhmgafiookjnad.PowL
open Go.RowKit Mem LimbNum Limb1 Limb2 Limb3 Limb4 NatNum NatL Len64

theorem and_one (x : Nat) : bits BinOp.and IntKind.i64 (x : Int) 1 = ((x % 2 : Nat) : Int) := by
  show IntKind.i64.wrap ((BitVec.ofInt 64 (x : Int) &&& BitVec.ofInt 64 1).toNat : Int) = _
  have e : (BitVec.ofInt 64 1).toNat = 2 ^ 1 - 1 := by decide
  rw [BitVec.toNat_and, e, Nat.and_two_pow_sub_one_eq_mod, BitVec.toNat_ofInt]
  simp [IntKind.wrap, IntKind.bits, IntKind.signed]
  omega
theorem pow_len (A : List Nat) (m n : Nat) (hm : m ≤ n) (hb : bitLen (val A) * n ≤ 100000) : (nl (val A ^ m)).length ≤ 3126 := by
  obtain ⟨K, hK⟩ : ∃ K, 3126 = K := ⟨_, rfl⟩
  rw [hK]
  apply nl_lt
  have h1 : val A < 2 ^ bitLen (val A) := by have := fromL_lt (nb (val A)); rwa [fromL_nb, len_nb] at this
  have h2 : val A ^ m ≤ (2 ^ bitLen (val A)) ^ m := Nat.pow_le_pow_left (by omega) m
  rw [← Nat.pow_mul] at h2
  have h3 : bitLen (val A) * m ≤ bitLen (val A) * n := Nat.mul_le_mul_left _ hm
  have h5 : (2 : Nat) ^ (bitLen (val A) * m) < 2 ^ (32 * K) := Nat.pow_lt_pow_right (by omega) (by omega)
  rw [← pow32]
  exact Nat.lt_of_le_of_lt h2 h5
theorem mul_limbs (A B : List Nat) (hA : Small A) (hB : Small B) : (nl (val A * val B)).length ≤ A.length + B.length := by
  apply nl_lt
  rw [Nat.pow_add]
  exact Nat.mul_lt_mul'' (val_lt A hA) (val_lt B hB)
theorem half (n j : Nat) : n / 2 ^ j = 2 * (n / 2 ^ (j + 1)) + n / 2 ^ j % 2 := by
  rw [Nat.pow_succ, ← Nat.div_div_eq_div_mul]; omega
set_option maxRecDepth 20000 in
/-- Pow, where it is refused by the exponent. -/
theorem pow_out (A : List Nat) (n : Int) (ao : Option Addr) (cap : Nat) (w : World) (h : n < 0 ∨ 1000 < n) :
    Calls Try.prog 16 #[.slice ao A.length cap, .int .i64 n] w fun e w' => e = .returned (.tuple #[.slice none 0 0, .bool false]) ∧ Below w.heap.size w w' := by
  rcases h with h | h
  · have d1 : decide (n < 0) = true := by simp; omega
    go_enter Try.func16, Try.ntmps16
    go_wp2
    go_quiet (fail)
    go_wp2
    go_ret2
    exact ⟨rfl, below_drewN (Below.refl _ _) _⟩
  · have d1 : decide (n < 0) = false := by simp; omega
    have d2 : decide (1000 < n) = true := by simp; omega
    go_enter Try.func16, Try.ntmps16
    go_wp2
    go_quiet (fail)
    go_wp2
    go_ret2
    exact ⟨rfl, below_drewN (Below.refl _ _) _⟩
set_option maxRecDepth 20000 in
/-- Pow, where the power would be too great. -/
theorem pow_big (A : List Nat) (n : Int) (ao : Option Addr) (cap : Nat) (w : World) (h : Lies w ao cap (ints .u32 A)) (hA : Small A) (hlen : A.length ≤ 70368744177664) (h0 : 0 < n) (h1 : n ≤ 1000) (hb : 100000 / n < (bitLen (val A) : Int)) :
    Calls Try.prog 16 #[.slice ao A.length cap, .int .i64 n] w fun e w' => e = .returned (.tuple #[.slice none 0 0, .bool false]) ∧ Below w.heap.size w w' := by
  have cB := fun W : World => fun (hW : Below w.heap.size w W) => bits_any A ao cap W (h.below hW (Nat.le_refl _)) hA hlen
  have ht : (100000 : Int).tdiv n = 100000 / n := Int.tdiv_eq_ediv_of_nonneg (by omega)
  have hD0 : 0 ≤ (100000 : Int) / n := Int.ediv_nonneg (by omega) (by omega)
  have hD1 : (100000 : Int) / n ≤ 100000 := Int.ediv_le_self _ (by omega)
  generalize (100000 : Int) / n = D at *
  clear h hA hlen
  generalize bitLen (val A) = L at *
  have d1 : decide (n < 0) = false := by simp; omega
  have d2 : decide (1000 < n) = false := by simp; omega
  have d3 : decide (0 < n) = true := by simp; omega
  go_enter Try.func16, Try.ntmps16
  go_wp2
  go_quiet ((go_at_call 24; exact (cB _ (by first | exact Below.refl _ _ | exact below_drewN (Below.refl _ _) _)).mono (fun e w'' h => ⟨h.1, _, h.2⟩)))
  go_wp2
  go_ret2
  exact ⟨rfl, below_drewN (Below.refl _ _) _⟩

set_option maxRecDepth 20000 in
set_option maxHeartbeats 1000000 in
theorem pow_zero (A : List Nat) (ao : Option Addr) (cap : Nat) (w : World) :
    Calls Try.prog 16 #[.slice ao A.length cap, .int .i64 0] w fun e w' => ∃ ao' cap', e = .returned (.tuple #[.slice ao' (nl 1).length cap', .bool true]) ∧ w'.ownsRow w.heap.size 48 1 (.slice ao' (nl 1).length cap') (nl 1).length (ints .u32 (nl 1)) ∧ Below w.heap.size w w' := by
  have cL := fun W : World => len_int 0 W (by omega) (by omega)
  have e0 : bitLen (0 : Int).toNat = 0 := by decide
  rw [e0] at cL
  have e1 : nl 1 = [1] := by rw [nl_pos (by decide), show 1 / 4294967296 = 0 by decide, nl_zero]
  rw [e1]
  go_enter Try.func16, Try.ntmps16
  go_wp2
  go_quiet (fail)
  go_wp2_with (go_at_call 68; refine (cL _).mono ?_; rintro e w2 ⟨rfl, hw⟩; have hw2 := hw.symm; clear hw; subst hw2)
  generalize hg : w.heap.size = g
  have hown : ((w.drewN nq).alloc (.cells #[.int .u32 1] 48)).ownsRow g 48 1 (.slice (some ⟨g, 0, none⟩) 1 1) 1 (ints .u32 [1]) := by
    subst hg
    exact World.ownsRow_lit (base := w.heap.size) (e := 48) (size := 1) (w.drewN nq) #[.int .u32 1] 1 (Nat.le_refl _) (by decide) rfl
  have hb : Below g w ((w.drewN nq).alloc (.cells #[.int .u32 1] 48)) := by
    subst hg
    exact (below_drewN (Below.refl _ _) _).alloc (Nat.le_refl _) _
  generalize (w.drewN nq).alloc (.cells #[.int .u32 1] 48) = W at *
  go_loopw [6, 7] (fun v i wr => v = .slice (some ⟨g, 0, none⟩) 1 1 ∧ i = .int .i64 (-1) ∧ wr = W) (fun _ _ _ => 0)
  case atStart => exact ⟨rfl, rfl, rfl⟩
  case round =>
    obtain ⟨rfl, rfl, rfl⟩ := hrel
    go_wp2
    go_ret2
    exact ⟨_, _, rfl, by rw [hg]; exact hown, by rw [hg]; exact hb⟩
set_option maxRecDepth 20000 in
set_option maxHeartbeats 1000000 in
theorem pow_core (A : List Nat) (n : Nat) (ao : Option Addr) (cap : Nat) (w : World) (h : Lies w ao cap (ints .u32 A)) (hA : Small A) (hlen : A.length ≤ 35184372000000) (h0 : 0 < n) (h1 : n ≤ 1000) (hbt : bitLen (val A) * n ≤ 100000) :
    Calls Try.prog 16 #[.slice ao A.length cap, .int .i64 (n : Int)] w fun e w' => ∃ ao' cap', e = .returned (.tuple #[.slice ao' (nl (val A ^ n)).length cap', .bool true]) ∧ w'.ownsRow w.heap.size 48 1 (.slice ao' (nl (val A ^ n)).length cap') (nl (val A ^ n)).length (ints .u32 (nl (val A ^ n))) ∧ Below w.heap.size w w' := by
  have cB := fun W : World => fun (hW : Below w.heap.size w W) => bits_any A ao cap W (h.below hW (Nat.le_refl _)) hA (by omega)
  have ht : (100000 : Int).tdiv (n : Int) = 100000 / (n : Int) := Int.tdiv_eq_ediv_of_nonneg (by omega)
  have hle : (bitLen (val A) : Int) ≤ 100000 / (n : Int) := by
    rw [Int.le_ediv_iff_mul_le (by omega)]
    have : ((bitLen (val A) * n : Nat) : Int) ≤ 100000 := by omega
    rwa [Int.natCast_mul] at this
  have hD0 : 0 ≤ (100000 : Int) / (n : Int) := Int.ediv_nonneg (by omega) (by omega)
  have hD1 : (100000 : Int) / (n : Int) ≤ 100000 := Int.ediv_le_self _ (by omega)
  generalize (100000 : Int) / (n : Int) = D at *
  have cL := fun W : World => len_int (n : Int) W (by omega) (by omega)
  rw [Int.toNat_natCast] at cL
  have hK : bitLen n ≤ 10 := by
    have := nb_lt 10 n (by omega)
    rwa [len_nb] at this
  have hK2 : n < 2 ^ bitLen n := by have := fromL_lt (nb n); rwa [fromL_nb, len_nb] at this
  obtain ⟨x, ex⟩ : ∃ x : Int, x = (n : Int) := ⟨_, rfl⟩
  rw [← ex]
  rw [← ex] at ht cL
  have d1 : decide (x < 0) = false := by simp; omega
  have d2 : decide (1000 < x) = false := by simp; omega
  have d3 : decide (0 < x) = true := by simp; omega
  have hx0 : 0 < x := by omega
  have hx1 : x ≤ 1000 := by omega
  have EX : Hid (x = (n : Int)) := ex
  obtain ⟨L, hL⟩ : ∃ L, L = bitLen (val A) := ⟨_, rfl⟩
  rw [← hL] at cB hle
  have d4 : decide (D < (L : Int)) = false := by simp; omega
  clear ex hL
  generalize bitLen n = K at *
  go_enter Try.func16, Try.ntmps16
  go_wp2
  go_quiet ((go_at_call 24; exact (cB _ (by first | exact Below.refl _ _ | exact below_drewN (Below.refl _ _) _)).mono (fun e w'' h => ⟨h.1, _, h.2⟩)))
  go_wp2_with (go_at_call 68; refine (cL _).mono ?_; rintro e w2 ⟨rfl, hw⟩; have hw2 := hw.symm; clear hw; subst hw2)
  generalize hg : w.heap.size = g
  have e1 : nl 1 = [1] := by rw [nl_pos (by decide), show 1 / 4294967296 = 0 by decide, nl_zero]
  have hown : ((w.drewN nq).alloc (.cells #[.int .u32 1] 48)).ownsRow g 48 1 (.slice (some ⟨g, 0, none⟩) 1 1) 1 (ints .u32 [1]) := by
    subst hg
    exact World.ownsRow_lit (base := w.heap.size) (e := 48) (size := 1) (w.drewN nq) #[.int .u32 1] 1 (Nat.le_refl _) (by decide) rfl
  have hb3 : Below g w ((w.drewN nq).alloc (.cells #[.int .u32 1] 48)) := by
    subst hg
    exact (below_drewN (Below.refl _ _) _).alloc (Nat.le_refl _) _
  generalize (w.drewN nq).alloc (.cells #[.int .u32 1] 48) = W at *
  clear cB cL ht d1 d2 d3 d4 hD0 hD1 hle
  go_loopw [6, 7] (fun v i wr => ∃ (k M : Nat) (o : Option Addr) (c : Nat), k ≤ K ∧ i = .int .i64 ((k : Int) - 1) ∧ Hid (M = val A ^ (n / 2 ^ k)) ∧ v = .slice o (nl M).length c ∧ wr.ownsRow g 48 1 v (nl M).length (ints .u32 (nl M)) ∧ Below g w wr)
    (fun _ i _ => (intOf i + 1).toNat)
  case atStart => exact ⟨K, 1, some ⟨g, 0, none⟩, 1, Nat.le_refl _, by go_num, by unfold Hid; rw [Nat.div_eq_of_lt hK2]; rfl, by rw [e1]; rfl, by rw [e1]; exact hown, hb3⟩
  case round =>
    clear hown hb3 e1
    obtain ⟨k, M, o, c, hk, rfl, HM, rfl, hown, hb⟩ := hrel
    have hs := hb.size
    by_cases hk0 : 1 ≤ k
    · obtain ⟨j, rfl⟩ : ∃ j, k = j + 1 := ⟨k - 1, by omega⟩
      have hMl : (nl M).length ≤ 3126 := by rw [HM.out]; exact pow_len A (n / 2 ^ (j + 1)) n (Nat.div_le_self _ _) hbt
      have hM2 : (nl (M * M)).length ≤ 6252 := by
        have h3 := mul_limbs (nl M) (nl M) (small_nl M) (small_nl M)
        rw [val_nl] at h3
        omega
      have cM := mul_any (nl M) (nl M) o o c c wr (lies_of_owns hown) (lies_of_owns hown) (small_nl _) (small_nl _) (by omega)
      rw [val_nl] at cM
      have cM2 := fun (W : World) (hbW : Below g w W) (o1 : Option Addr) (c1 : Nat) (hW : Lies W o1 c1 (ints .u32 (nl (M * M)))) => mul_any (nl (M * M)) A o1 ao c1 cap W hW (h.below hbW (by omega)) (small_nl _) hA (by omega)
      rw [val_nl] at cM2
      have hsq : M * M = val A ^ (2 * (n / 2 ^ (j + 1))) := by rw [HM.out, ← Nat.pow_add]; congr 1; omega
      have hh := half n j
      have hj : j < 64 := by omega
      have hand := and_one (n / 2 ^ j)
      have hsh : x / 2 ^ j = ((n / 2 ^ j : Nat) : Int) := by rw [EX.out]; simp
      rcases Nat.mod_two_eq_zero_or_one (n / 2 ^ j) with hb0 | hb0
      · rw [hb0] at hand hh
        have HN : Hid (M * M = val A ^ (n / 2 ^ j)) := by unfold Hid; rw [hsq, hh]; rfl
        generalize n / 2 ^ j = Y at hand hsh
        clear HM hsq hh hb0 h hA hown
        go_wp2_with (go_at_call 23; refine cM.mono ?_; rintro e w1 ⟨o1, c1, rfl, hown1, hb1⟩)
        have hs1 := hb1.size
        go_roundw
        case rel => exact ⟨j, M * M, o1, c1, by omega, by go_num, HN, rfl, owns_base hown1 (by omega), hb.trans (hb1.mono (by omega))⟩
        case measure => simp [intOf]
      · rw [hb0] at hand hh
        have HN : Hid (M * M * val A = val A ^ (n / 2 ^ j)) := by unfold Hid; rw [hsq, ← Nat.pow_succ, show (2 * (n / 2 ^ (j + 1))).succ = n / 2 ^ j by omega]
        generalize n / 2 ^ j = Y at hand hsh
        clear HM hsq hh hb0 h hA hown
        have t1 : True := trivial
        go_wp2_with (first
          | (go_at_call 23; have _t := t1; clear _t t1; refine cM.mono ?_; rintro e w1 ⟨o1, c1, rfl, hown1, hb1⟩; have H1 := hb.trans (hb1.mono (by omega)))
          | (go_at_call 23; refine (cM2 _ H1 _ _ (lies_of_owns hown1)).mono ?_; rintro e w2 ⟨o2, c2, rfl, hown2, hb2⟩))
        have hs1 := H1.size
        have hs2 := hb2.size
        go_roundw
        case rel => exact ⟨j, M * M * val A, o2, c2, by omega, by go_num, HN, rfl, owns_base hown2 (by omega), H1.trans (hb2.mono (by omega))⟩
        case measure => simp [intOf]
    · have : k = 0 := by omega
      subst this
      have e : M = val A ^ n := by have := HM.out; rwa [Nat.pow_zero, Nat.div_one] at this
      subst e
      clear HM
      go_wp2
      go_ret2
      exact ⟨_, _, rfl, by rw [hg]; exact hown, by rw [hg]; exact hb⟩
end Go.Proofs.Ytbhmgafiookjnad.PowL
