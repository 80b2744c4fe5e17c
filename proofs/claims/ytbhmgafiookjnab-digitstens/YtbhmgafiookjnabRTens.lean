/- What the reference's powers of ten answer. -/
import Derived.Test.YtbhmgafiookjnabBitMul
import Derived.Test.YtbhmgafiookjnabWords
namespace Go.Proofs.Ytbhmgafiookjnab.RTens
open Go.RowKit Mem LimbNum Limb1 RefL BitMul Words

theorem tlen (k : Nat) (h : k ≤ 120) : (nb (10 ^ k)).length ≤ 481 := by
  apply nb_lt
  have h2 : 10 ^ k ≤ (2 ^ 4) ^ k := Nat.pow_le_pow_left (by omega) k
  rw [← Nat.pow_mul] at h2
  obtain ⟨K, hK⟩ : ∃ K, 481 = K := ⟨_, rfl⟩
  rw [hK]
  have h3 : (2 : Nat) ^ (4 * k) < 2 ^ K := Nat.pow_lt_pow_right (by omega) (by omega)
  omega
set_option maxRecDepth 20000 in
set_option maxHeartbeats 1000000 in
theorem rtens_any (n : Nat) (w : World) (hn : n ≤ 120) :
    Calls Try.prog 13 #[.int .i64 (n : Int)] w fun e w' => ∃ o c, e = .returned (.slice o (nb (10 ^ n)).length c) ∧ w'.ownsRow w.heap.size 4 1 (.slice o (nb (10 ^ n)).length c) (nb (10 ^ n)).length (bools (nb (10 ^ n))) ∧ Below w.heap.size w w' := by
  have cW := rword_any 1 w (by omega)
  have hl10 : (nb 10).length ≤ 4 := nb_lt _ _ (by omega)
  go_enter Try.func13, Try.ntmps13
  go_wp2_with (go_at_call 50; refine cW.mono ?_; rintro e w1 ⟨o1, c1, rfl, hown1, hb1⟩)
  clear cW
  generalize hbase : w.heap.size = base at *
  go_loopw [3, 4] (fun v i wr => ∃ (k : Nat) (o : Option Addr) (c : Nat), k ≤ n ∧ i = .int .i64 (k : Int) ∧ v = .slice o (nb (10 ^ k)).length c ∧ wr.ownsRow base 4 1 v (nb (10 ^ k)).length (bools (nb (10 ^ k))) ∧ Below base w wr)
    (fun _ i _ => n - (intOf i).toNat)
  case atStart => exact ⟨0, o1, c1, Nat.zero_le _, rfl, rfl, hown1, hb1⟩
  case round =>
    clear hown1 hb1
    obtain ⟨k, o, c, hk, rfl, rfl, hown, hbw⟩ := hrel
    have hs := hbw.size
    by_cases hlt : k < n
    · have hML := tlen k (by omega)
      have cT := rword_any 10 wr (by omega)
      have cM := fun (W : World) (hW : Below wr.heap.size wr W) (oT : Option Addr) (cT : Nat) (hT : Lies W oT cT (bools (nb 10))) => rmul_core (nb (10 ^ k)) (nb 10) (10 ^ (k + 1)) (by unfold Hid; rw [fromL_nb, fromL_nb, Nat.pow_succ]) o oT c cT W (lies_of_owns (keep hown hW)) hT (by omega) (by omega)
      clear hML
      go_wp2_with (first
        | (go_at_call 50; refine cT.mono ?_; rintro e w2 ⟨o2, c2, rfl, hown2, hb2⟩)
        | (go_at_call 51; refine (cM _ hb2 _ _ (lies_of_owns hown2)).mono ?_; rintro e w3 ⟨o3, c3, rfl, hown3, hb3⟩))
      have hs2 := hb2.size
      have hs3 := hb3.size
      go_roundw
      case rel => exact ⟨k + 1, o3, c3, by omega, by go_num, rfl, owns_base hown3 (by omega), (hbw.trans (hb2.mono (by omega))).trans (hb3.mono (by omega))⟩
      case measure => simp [intOf]; omega
    · have ek : k = n := by omega
      subst ek
      go_wp2
      go_ret
      exact ⟨_, _, rfl, by first | exact hown | (rw [hbase]; exact hown), by first | exact hbw | (rw [hbase]; exact hbw)⟩
end Go.Proofs.Ytbhmgafiookjnab.RTens
