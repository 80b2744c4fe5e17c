/- What the reference's product of lists of bits answers. -/
import Derived.Test.YtfhhmpgldmakjaaRefA
import Derived.Test.YtfhhmpgldmakjaaRefH
namespace Go.Proofs.Ytfhhmpgldmakjaa.BitMul
open Go.RowKit Mem LimbNum Limb1 RefL RefA RefH

theorem prod_len (P Q : List Bool) (k : Nat) : (nb (fromL P * fromL (Q.take k))).length ≤ P.length + k := by
  apply nb_lt
  have h1 := fromL_lt P
  have h2 := fromL_lt (Q.take k)
  have h3 : (2 : Nat) ^ (Q.take k).length ≤ 2 ^ k := Nat.pow_le_pow_right (by omega) (by simp; omega)
  rw [Nat.pow_add]
  exact Nat.mul_lt_mul'' h1 (Nat.lt_of_lt_of_le h2 h3)
theorem prod_step (P Q : List Bool) (k : Nat) (h : Q.getD k false = true) : fromL P * fromL (Q.take (k + 1)) = fromL P * fromL (Q.take k) + fromL P * 2 ^ k := by
  rw [fromL_take_any, h, Nat.mul_add]; simp
theorem prod_skip (P Q : List Bool) (k : Nat) (h : Q.getD k false = false) : fromL P * fromL (Q.take (k + 1)) = fromL P * fromL (Q.take k) := by
  rw [fromL_take_any, h]; simp

set_option maxRecDepth 20000 in
set_option maxHeartbeats 1000000 in
/-- The reference's product. -/
theorem rmul_core (P Q : List Bool) (N : Nat) (hN : Hid (N = fromL P * fromL Q)) (ao1 ao2 : Option Addr) (cap1 cap2 : Nat) (w : World) (h1 : Lies w ao1 cap1 (bools P)) (h2 : Lies w ao2 cap2 (bools Q)) (hl1 : P.length ≤ 1000000) (hl2 : Q.length ≤ 100000) :
    Calls Try.prog 61 #[.slice ao1 P.length cap1, .slice ao2 Q.length cap2] w fun e w' => ∃ ao cap, e = .returned (.slice ao (nb N).length cap) ∧ w'.ownsRow w.heap.size 4 1 (.slice ao (nb N).length cap) (nb N).length (bools (nb N)) ∧ Below w.heap.size w w' := by
  go_enter Try.func61, Try.ntmps61
  go_wp2
  generalize hbase : w.heap.size = base
  go_loopw [5, 10] (fun v i wr => ∃ (k M : Nat) (o : Option Addr) (c : Nat), k ≤ Q.length ∧ i = .int .i64 k ∧ Hid (M = fromL P * fromL (Q.take k)) ∧ v = .slice o (nb M).length c ∧ wr.ownsRow base 4 1 v (nb M).length (bools (nb M)) ∧ Below base w wr)
    (fun _ i _ => Q.length - (intOf i).toNat)
  case atStart =>
    subst hbase
    refine ⟨0, 0, some ⟨w.heap.size, 0, none⟩, 0, Nat.zero_le _, rfl, by unfold Hid; simp [fromL], by rw [nb_zero]; rfl, ?_, (Below.refl _ _).alloc (Nat.le_refl _) _⟩
    rw [nb_zero]
    exact World.ownsRow_lit w #[] 0 (Nat.le_refl _) (by decide) rfl
  case round =>
    obtain ⟨k, M, o, c, hk, rfl, HM, rfl, hown, hb⟩ := hrel
    have hs := hb.size
    by_cases hlt : k < Q.length
    · have g1 := h1.below hb (by omega)
      have g2 := h2.below hb (by omega)
      obtain ⟨b2, off2, rfl, _, hc2⟩ := g2.2.2.2 (by rw [bools_length]; omega)
      have d2 := hc2 k (by rw [bools_length]; omega)
      rw [bools_at _ _ hlt] at d2
      have hML : (nb M).length ≤ 1100000 := by have := prod_len P Q k; rw [← HM.out] at this; omega
      cases hq : Q.getD k false
      · rw [hq] at d2
        have HN : Hid (M = fromL P * fromL (Q.take (k + 1))) := by unfold Hid; rw [prod_skip P Q k hq]; exact HM.out
        clear hc2 g2 HM hq h1 h2 g1
        go_wp2
        go_roundw
        case rel => exact ⟨k + 1, M, o, c, by omega, by go_num, HN, rfl, hown, hb⟩
        case measure => simp [intOf]; omega
      · rw [hq] at d2
        have HN : Hid (M + fromL P * 2 ^ k = fromL P * fromL (Q.take (k + 1))) := by unfold Hid; rw [prod_step P Q k hq, HM.out]
        have cS := rshl_core P (k : Int) k (fromL P * 2 ^ k) rfl rfl (by omega) ao1 cap1 wr g1 (by omega)
        have hSl : (nb (fromL P * 2 ^ k)).length ≤ 1100000 := by
          have h3 := fromL_lt P
          have : (nb (fromL P * 2 ^ k)).length ≤ P.length + k := nb_lt _ _ (by rw [Nat.pow_add]; exact Nat.mul_lt_mul_of_pos_right h3 (Nat.two_pow_pos k))
          omega
        generalize hS : fromL P * 2 ^ k = S at *
        have cA := fun (W : World) (o2 : Option Addr) (c2 : Nat) (g1 : Lies W o c (bools (nb M))) (g2 : Lies W o2 c2 (bools (nb S))) => radd_core (nb M) (nb S) (M + S) (by unfold Hid; rw [fromL_nb, fromL_nb]) o o2 c c2 W g1 g2 (by omega) (by omega)
        clear hc2 g2 HM hq h1 h2 g1 hS hSl hML
        go_wp2_with (first
          | (go_at_call 83; refine cS.mono ?_; rintro e w1 ⟨o1, c1, rfl, hown1, hb1⟩)
          | (go_at_call 59; refine (cA _ _ _ (lies_of_owns (keep hown hb1)) (lies_of_owns hown1)).mono ?_; rintro e w2 ⟨o2, c2, rfl, hown2, hb2⟩))
        have hs1 := hb1.size
        have hs2 := hb2.size
        go_roundw
        case rel => exact ⟨k + 1, M + S, o2, c2, by omega, by go_num, HN, rfl, owns_base hown2 (by omega), (hb.trans (hb1.mono (by omega))).trans (hb2.mono (by omega))⟩
        case measure => simp [intOf]; omega
    · have ek : k = Q.length := by omega
      subst ek
      have e : M = N := by have := HM.out; rw [List.take_of_length_le (Nat.le_refl _)] at this; rw [this, hN.out]
      subst e
      subst hbase
      clear HM hN h1 h2
      go_wp2
      go_ret
      exact ⟨_, _, rfl, hown, hb⟩
end Go.Proofs.Ytfhhmpgldmakjaa.BitMul
