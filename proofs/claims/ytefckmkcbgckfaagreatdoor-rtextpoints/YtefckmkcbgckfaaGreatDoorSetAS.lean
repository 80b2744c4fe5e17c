/- What the reference's greatest common divisor answers. -/
import Derived.Test.YtefckmkcbgckfaaGreatDoorSetAF
import Derived.Deep.LoopGhost
namespace Go.Proofs.YtefckmkcbgckfaaGreatDoor.RGcd
open Go.RowKit Mem LimbNum Limb1 RefL BitDiv

set_option maxRecDepth 20000 in
set_option maxHeartbeats 2000000 in
theorem rgcd_any (x y : Nat) (ao1 ao2 : Option Addr) (cap1 cap2 : Nat) (w : World) (h1 : w.ownsRow 0 4 1 (.slice ao1 (nb x).length cap1) (nb x).length (bools (nb x))) (h2 : w.ownsRow 0 4 1 (.slice ao2 (nb y).length cap2) (nb y).length (bools (nb y))) (hl1 : (nb x).length ≤ 1000000) (hl2 : (nb y).length ≤ 1000000) :
    Calls Tryz.prog 44 #[.slice ao1 (nb x).length cap1, .slice ao2 (nb y).length cap2] w fun e w' => ∃ o c, e = .returned (.slice o (nb (Nat.gcd x y)).length c) ∧ w'.ownsRow 0 4 1 (.slice o (nb (Nat.gcd x y)).length c) (nb (Nat.gcd x y)).length (bools (nb (Nat.gcd x y))) ∧ Below w.heap.size w w' := by
  obtain ⟨G, eG⟩ : ∃ G, G = Nat.gcd x y := ⟨_, rfl⟩
  rw [← eG]
  have HG : Hid (Nat.gcd x y = G) := eG.symm
  have H1 : Hid (w.ownsRow 0 4 1 (.slice ao1 (nb x).length cap1) (nb x).length (bools (nb x))) := h1
  have H2 : Hid (w.ownsRow 0 4 1 (.slice ao2 (nb y).length cap2) (nb y).length (bools (nb y))) := h2
  have H3 : Hid ((nb x).length ≤ 1000000 ∧ (nb y).length ≤ 1000000) := ⟨hl1, hl2⟩
  clear eG h1 h2 hl1 hl2
  go_enter Tryz.func44, Tryz.ntmps44
  go_wp2
  go_loopg [0, 1, 5, 6] y (fun k xv yv _ _ wr => ∃ (X Y : Nat) (o1 o2 : Option Addr) (c1 c2 : Nat), xv = .slice o1 (nb X).length c1 ∧ yv = .slice o2 (nb Y).length c2 ∧ Hid (k = Y ∧ (nb X).length ≤ 1000000 ∧ (nb Y).length ≤ 1000000 ∧ Nat.gcd X Y = G) ∧
    Hid (wr.ownsRow 0 4 1 (.slice o1 (nb X).length c1) (nb X).length (bools (nb X))) ∧ Hid (wr.ownsRow 0 4 1 (.slice o2 (nb Y).length c2) (nb Y).length (bools (nb Y))) ∧ Hid (Below w.heap.size w wr))
  case atStart => exact ⟨x, y, _, _, _, _, rfl, rfl, ⟨rfl, H3.out.1, H3.out.2, HG.out⟩, H1, H2, Below.refl _ _⟩
  case round =>
    clear HG H1 H2 H3
    obtain ⟨X, Y, o1, o2, c1, c2, rfl, rfl, HX, HO1, HO2, HB⟩ := hrel
    by_cases hY : Y = 0
    · subst hY
      have hz : (nb 0).length = 0 := by rw [nb_zero]; rfl
      have eG : G = X := by rw [← HX.out.2.2.2, Nat.gcd_zero_right]
      subst eG
      rw [hz]
      go_wp2
      go_ret
      exact ⟨_, _, rfl, HO1.out, HB.out⟩
    · have cD := rdiv_core (nb X) Y (X / Y) (X % Y) (by unfold Hid; rw [fromL_nb]) (by unfold Hid; rw [fromL_nb]) (Nat.pos_of_ne_zero hY) o1 o2 c1 c2 wr (lies_of_owns HO1.out) (lies_of_owns HO2.out) HX.out.2.1
      have hYl : 0 < (nb Y).length := by rw [nb_pos hY]; simp
      have hYi : (0 : Int) < ((nb Y).length : Int) := by omega
      have hlt := Nat.mod_lt X (Nat.pos_of_ne_zero hY)
      have HR : Hid (X % Y < Y ∧ (nb (X % Y)).length ≤ 1000000 ∧ Nat.gcd Y (X % Y) = G) := ⟨hlt, Nat.le_trans (nb_mono _ _ (Nat.le_of_lt hlt)) HX.out.2.2.1, by rw [← HX.out.2.2.2, Nat.gcd_comm, ← Nat.gcd_rec, Nat.gcd_comm]⟩
      obtain ⟨R, eR⟩ : ∃ R, R = X % Y := ⟨_, rfl⟩
      obtain ⟨Q, eQ⟩ : ∃ Q, Q = X / Y := ⟨_, rfl⟩
      rw [← eR] at cD HR
      rw [← eQ] at cD
      clear eR eQ hlt hYl hY
      go_wp2_with (go_at_call 27; refine cD.mono ?_; rintro e w4 ⟨p1, q1, p2, q2, rfl, hw1, hw2, hb4⟩)
      go_roundg R
      case measure => rw [HX.out.1]; exact HR.out.1
      case rel => exact ⟨Y, R, _, _, _, _, rfl, rfl, ⟨rfl, HX.out.2.2.1, HR.out.2.1, HR.out.2.2⟩, keep HO2.out hb4, owns_base hw2 (Nat.zero_le _), bt HB.out hb4⟩
end Go.Proofs.YtefckmkcbgckfaaGreatDoor.RGcd
