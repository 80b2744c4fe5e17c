/- What the reference's order of lists of bits answer. -/
import Derived.Test.YtjehfgfgnijkoaaDoorRefL
namespace Go.Proofs.YtjehfgfgnijkoaaDoor.RefC
open Go.RowKit Mem LimbNum Limb1 RefL

set_option maxRecDepth 20000 in
set_option maxHeartbeats 1000000 in
/-- The reference's order. -/
theorem rcmp_any (P Q : List Bool) (ao1 ao2 : Option Addr) (cap1 cap2 : Nat) (w : World) (h1 : Lies w ao1 cap1 (bools P)) (h2 : Lies w ao2 cap2 (bools Q))
    (hlt : P.length < Q.length → fromL P < fromL Q) (hgt : Q.length < P.length → fromL Q < fromL P) :
    Calls Tryd.prog 11 #[.slice ao1 P.length cap1, .slice ao2 Q.length cap2] w fun e w' => e = .returned (.int .i64 (cmpV (fromL P) (fromL Q))) ∧ Below w.heap.size w w' := by
  have m1 := h1.size
  have m2 := h2.size
  rw [bools_length] at m1 m2
  unfold maxLen at m1 m2
  rcases Nat.lt_trichotomy P.length Q.length with hl | hl | hl
  · have e : cmpV (fromL P) (fromL Q) = -1 := by unfold cmpV; rw [if_pos (hlt hl)]
    rw [e]
    clear e hlt hgt h1 h2
    go_enter Tryd.func11, Tryd.ntmps11
    go_wp2
    go_ret
    exact ⟨rfl, Below.refl _ _⟩
  · clear hlt hgt
    go_enter Tryd.func11, Tryd.ntmps11
    go_wp2
    go_loopw [5] (fun i wr => ∃ k : Nat, k ≤ P.length ∧ i = .int .i64 ((k : Int) - 1) ∧ P.drop k = Q.drop k ∧ Below w.heap.size w wr) (fun i _ => (intOf i + 1).toNat)
    case atStart => exact ⟨P.length, Nat.le_refl _, by go_num, by rw [List.drop_length, hl, List.drop_length], Below.refl _ _⟩
    case round =>
      obtain ⟨k, hk, rfl, hd, hb⟩ := hrel
      by_cases hk0 : 1 ≤ k
      · obtain ⟨j, rfl⟩ : ∃ j, k = j + 1 := ⟨k - 1, by omega⟩
        have g1 := h1.below hb (Nat.le_refl _)
        have g2 := h2.below hb (Nat.le_refl _)
        obtain ⟨b1, off1, rfl, _, hc1⟩ := g1.2.2.2 (by rw [bools_length]; omega)
        obtain ⟨b2, off2, rfl, _, hc2⟩ := g2.2.2.2 (by rw [bools_length]; omega)
        have d1 := hc1 j (by rw [bools_length]; omega)
        have d2 := hc2 j (by rw [bools_length]; omega)
        rw [bools_at _ _ (by omega)] at d1 d2
        have q1 : (j : Int) < (P.length : Int) := by omega
        have q2 : (j : Int) < (Q.length : Int) := by omega
        have HD : Hid (P.drop (j + 1) = Q.drop (j + 1)) := hd
        obtain ⟨x, hx⟩ : ∃ x, P.getD j false = x := ⟨_, rfl⟩
        obtain ⟨y, hy⟩ : ∃ y, Q.getD j false = y := ⟨_, rfl⟩
        rw [hx] at d1
        rw [hy] at d2
        have HX : Hid (P.getD j false = x) := hx
        have HY : Hid (Q.getD j false = y) := hy
        have HJ : Hid (x = y → P.drop j = Q.drop j) := fun hxy => by
          rw [List.drop_eq_getElem_cons (show j < P.length by omega), List.drop_eq_getElem_cons (show j < Q.length by omega), HD.out]
          have e1 := HX.out
          have e2 := HY.out
          simp only [List.getD_eq_getElem?_getD, List.getElem?_eq_getElem (show j < P.length by omega), List.getElem?_eq_getElem (show j < Q.length by omega), Option.getD_some] at e1 e2
          rw [e1, e2, hxy]
        have HL : Hid (x = false → y = true → cmpV (fromL P) (fromL Q) = -1) := fun ex ey => by
          unfold cmpV
          rw [if_pos (bcmp_step P Q j hl (by omega) HD.out (by rw [HX.out, ex]) (by rw [HY.out, ey]))]
        have HG : Hid (x = true → y = false → cmpV (fromL P) (fromL Q) = 1) := fun ex ey => by
          have := bcmp_step Q P j hl.symm (by omega) HD.out.symm (by rw [HY.out, ey]) (by rw [HX.out, ex])
          unfold cmpV
          rw [if_neg (by omega), if_neg (by omega)]
        clear hx hy hc1 hc2 g1 g2 h1 h2 hd HX HY HD
        cases x
        · cases y
          · have HJ2 : Hid (P.drop j = Q.drop j) := HJ.out rfl
            clear HJ HL HG
            go_wp2
            go_quiet (fail)
            go_wp2
            go_roundw
            case rel => exact ⟨j, by omega, by go_num, HJ2.out, below_drewN hb _⟩
            case measure => simp [intOf]
          · have HE : Hid (cmpV (fromL P) (fromL Q) = -1) := HL.out rfl rfl
            clear HJ HL HG
            go_wp2
            go_quiet (fail)
            go_wp2
            go_ret
            exact ⟨by rw [HE.out]; rfl, below_drewN hb _⟩
        · cases y
          · have HE : Hid (cmpV (fromL P) (fromL Q) = 1) := HG.out rfl rfl
            clear HJ HL HG
            go_wp2
            go_quiet (fail)
            go_wp2
            go_ret
            exact ⟨by rw [HE.out]; rfl, below_drewN hb _⟩
          · have HJ2 : Hid (P.drop j = Q.drop j) := HJ.out rfl
            clear HJ HL HG
            go_wp2
            go_quiet (fail)
            go_wp2
            go_roundw
            case rel => exact ⟨j, by omega, by go_num, HJ2.out, below_drewN hb _⟩
            case measure => simp [intOf]
      · have : k = 0 := by omega
        subst this
        have e : cmpV (fromL P) (fromL Q) = 0 := by
          rw [List.drop_zero, List.drop_zero] at hd
          rw [hd]; simp [cmpV]
        have HE : Hid (cmpV (fromL P) (fromL Q) = 0) := e
        clear hd e h1 h2
        go_wp2
        go_ret
        exact ⟨by rw [HE.out]; rfl, hb⟩
  · have e : cmpV (fromL P) (fromL Q) = 1 := by unfold cmpV; have := hgt hl; rw [if_neg (by omega), if_neg (by omega)]
    rw [e]
    have q3 : ¬ (P.length : Int) < (Q.length : Int) := by omega
    clear e hlt hgt h1 h2
    go_enter Tryd.func11, Tryd.ntmps11
    go_wp2
    go_ret
    exact ⟨rfl, Below.refl _ _⟩
end Go.Proofs.YtjehfgfgnijkoaaDoor.RefC
