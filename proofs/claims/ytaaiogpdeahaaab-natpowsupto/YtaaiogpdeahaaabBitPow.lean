/- What the reference's power of lists of bits answers. -/
import Derived.Test.YtaaiogpdeahaaabBitMul
import Derived.Test.YtaaiogpdeahaaabWords
namespace Go.Proofs.Ytaaiogpdeahaaab.BitPow
open Go.RowKit Mem LimbNum Limb1 RefL BitMul Words

theorem bpow_len (V m n : Nat) (hm : m ≤ n) (hb : (nb V).length * n ≤ 100000) : (nb (V ^ m)).length ≤ 100001 := by
  obtain ⟨K, hK⟩ : ∃ K, 100001 = K := ⟨_, rfl⟩
  rw [hK]
  apply nb_lt
  have h1 : V < 2 ^ (nb V).length := by have := fromL_lt (nb V); rwa [fromL_nb] at this
  have h2 : V ^ m ≤ (2 ^ (nb V).length) ^ m := Nat.pow_le_pow_left (by omega) m
  rw [← Nat.pow_mul] at h2
  have h3 : (nb V).length * m ≤ (nb V).length * n := Nat.mul_le_mul_left _ hm
  have h5 : (2 : Nat) ^ ((nb V).length * m) < 2 ^ K := Nat.pow_lt_pow_right (by omega) (by omega)
  exact Nat.lt_of_le_of_lt h2 h5

set_option maxRecDepth 20000 in
set_option maxHeartbeats 1000000 in
/-- The reference's power. -/
theorem rpow_core (V n : Nat) (N : Nat) (hN : Hid (N = V ^ n)) (ao : Option Addr) (cap : Nat) (w : World) (h : Lies w ao cap (bools (nb V))) (hl : (nb V).length ≤ 100000 ∨ n = 0) (hb : (nb V).length * n ≤ 100000) (hn : n ≤ 1000) :
    Calls Try.prog 21 #[.slice ao (nb V).length cap, .int .i64 (n : Int)] w fun e w' => ∃ ao' cap', e = .returned (.slice ao' (nb N).length cap') ∧ w'.ownsRow w.heap.size 4 1 (.slice ao' (nb N).length cap') (nb N).length (bools (nb N)) ∧ Below w.heap.size w w' := by
  have cW := rword_any 1 w (by omega)
  go_enter Try.func21, Try.ntmps21
  go_wp2_with (go_at_call 44; refine cW.mono ?_; rintro e w1 ⟨o1, c1, rfl, hown1, hb1⟩)
  clear cW
  generalize hbase : w.heap.size = base at *
  go_loopw [5, 6] (fun v i wr => ∃ (k M : Nat) (o : Option Addr) (c : Nat), k ≤ n ∧ i = .int .i64 (k : Int) ∧ Hid (M = V ^ k) ∧ v = .slice o (nb M).length c ∧ wr.ownsRow base 4 1 v (nb M).length (bools (nb M)) ∧ Below base w wr)
    (fun _ i _ => n - (intOf i).toNat)
  case atStart => exact ⟨0, 1, o1, c1, Nat.zero_le _, rfl, rfl, rfl, hown1, hb1⟩
  case round =>
    clear hown1 hb1
    obtain ⟨k, M, o, c, hk, rfl, HM, rfl, hown, hbw⟩ := hrel
    have hs := hbw.size
    by_cases hlt : k < n
    · have hML := bpow_len V k n hk hb
      rw [← HM.out] at hML
      have cM := rmul_core (nb M) (nb V) (M * V) (by unfold Hid; rw [fromL_nb, fromL_nb]) o ao c cap wr (lies_of_owns hown) (h.below hbw (by omega)) (by omega) (by omega)
      have HN : Hid (M * V = V ^ (k + 1)) := by unfold Hid; rw [HM.out, Nat.pow_succ]
      clear HM h hML
      go_wp2_with (go_at_call 45; refine cM.mono ?_; rintro e w2 ⟨o2, c2, rfl, hown2, hb2⟩)
      have hs2 := hb2.size
      go_roundw
      case rel => exact ⟨k + 1, M * V, o2, c2, by omega, by go_num, HN, rfl, owns_base hown2 (by omega), hbw.trans (hb2.mono (by omega))⟩
      case measure => simp [intOf]; omega
    · have ek : k = n := by omega
      subst ek
      have e : M = N := by rw [HM.out, hN.out]
      subst e
      clear HM hN h
      go_wp2
      go_ret
      exact ⟨_, _, rfl, by first | exact hown | (rw [hbase]; exact hown), by first | exact hbw | (rw [hbase]; exact hbw)⟩
end Go.Proofs.Ytaaiogpdeahaaab.BitPow
