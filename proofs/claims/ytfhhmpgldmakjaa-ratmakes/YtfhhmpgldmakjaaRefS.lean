/- What the reference's order and difference of lists of bits answer. -/
import Derived.Test.YtfhhmpgldmakjaaRefL
namespace Go.Proofs.Ytfhhmpgldmakjaa.RefS
open Go.RowKit Mem LimbNum Limb1 RefL

set_option maxRecDepth 20000 in
set_option maxHeartbeats 4000000 in
theorem rsub_core (P Q : List Bool) (N : Nat) (hN : Hid (N = fromL P - fromL Q)) (hle : fromL Q ≤ fromL P) (hql : Q.length ≤ P.length) (ao1 ao2 : Option Addr) (cap1 cap2 : Nat) (w : World) (h1 : Lies w ao1 cap1 (bools P)) (h2 : Lies w ao2 cap2 (bools Q)) (hl1 : P.length ≤ 1073741824) :
    Calls Try.prog 82 #[.slice ao1 P.length cap1, .slice ao2 Q.length cap2] w fun e w' => ∃ ao cap, e = .returned (.slice ao (nb N).length cap) ∧ w'.ownsRow w.heap.size 4 1 (.slice ao (nb N).length cap) (nb N).length (bools (nb N)) ∧ Below w.heap.size w w' := by
  obtain ⟨i0, hi, hz0, hz1, hz2⟩ := info_parts infoB
  go_enter Try.func82, Try.ntmps82
  go_wp2
  generalize hbase : w.heap.size = base
  go_loopw [5, 6, 12] (fun v c i wr => ∃ (k ow : Nat) (F : List Bool), k ≤ P.length ∧ i = .int .i64 k ∧ c = .int .i64 (ow : Int) ∧ ow ≤ 1 ∧ F.length = k ∧ Hid (fromL F + fromL (Q.take k) = fromL (P.take k) + ow * 2 ^ k) ∧ wr.ownsRow base 4 1 v F.length (bools F) ∧ Below base w wr)
    (fun _ _ i _ => P.length - (intOf i).toNat)
  case atStart =>
    subst hbase
    refine ⟨0, 0, [], by omega, rfl, rfl, by omega, rfl, by unfold Hid; simp [fromL], ?_, (Below.refl _ _).alloc (Nat.le_refl _) _⟩
    exact World.ownsRow_lit w #[] 0 (Nat.le_refl _) (by decide) rfl
  case round =>
    obtain ⟨k, ow, F, hk, rfl, rfl, how, hF, HI, hown, hb⟩ := hrel
    have hs := hb.size
    have HST := fun (o2 : Nat) (x y z : Bool) (hx : P.getD k false = x) (hy : Q.getD k false = y) (h : z.toNat + ow + y.toNat = x.toNat + o2 * 2) => bsub_step P Q F k ow o2 x y z hF hx hy h HI
    have hc01 : ow = 0 ∨ ow = 1 := by omega
    by_cases ha : k < P.length
    · have g2 : k < Q.length → ∃ b1 off1, ao2 = some ⟨b1, off1, none⟩ ∧ wr.cell? ⟨b1, off1 + k, none⟩ = some (.bool (Q.getD k false)) := fun hq => by
        have g := h2.below hb (by omega)
        obtain ⟨b2, off2, e, _, hc2⟩ := g.2.2.2 (by rw [bools_length]; omega)
        exact ⟨b2, off2, e, by rw [hc2 k (by rw [bools_length]; omega), bools_at _ _ hq]⟩
      have z2 : Q.length ≤ k → Q.getD k false = false := fun hq => by simp [hq]
      have g := h1.below hb (by omega)
      obtain ⟨b1, off1, rfl, _, hc1⟩ := g.2.2.2 (by rw [bools_length]; omega)
      have d1 := hc1 k (by rw [bools_length]; omega)
      rw [bools_at _ _ ha] at d1
      clear h1 h2 HI g hc1
      obtain ⟨x, ex⟩ : ∃ x, P.getD k false = x := ⟨_, rfl⟩
      obtain ⟨y, ey⟩ : ∃ y, Q.getD k false = y := ⟨_, rfl⟩
      have HST2 : Hid (∀ (o2 : Nat) (z : Bool), z.toNat + ow + y.toNat = x.toNat + o2 * 2 → fromL (F ++ [z]) + fromL (Q.take (k + 1)) = fromL (P.take (k + 1)) + o2 * 2 ^ (k + 1)) := fun o2 z h => HST o2 x y z ex ey h
      rw [ex] at d1
      rw [ey] at g2 z2
      clear HST ex ey
      by_cases hbq : k < Q.length
      · obtain ⟨b2, off2, rfl, d2⟩ := g2 hbq
        clear g2 z2
        rcases hc01 with rfl | rfl
        · cases x
          · cases y
            · go_wp2_with (at_builtin; refine wpList_append_own _ rfl _ _ 33 rfl base 4 i0 (.bool false) 1 1 Try.underlying33 hi hz0 hz1 hz2 rfl (by decide) _ _ _ rfl (hown.alloc _) ⟨wr.heap.size, 0, none⟩ 1 1 [.bool false] rfl rfl (cells1 wr _ _) (by intro u hu; simp at hu; subst hu; rfl) (by unfold maxLen; omega) (by omega) (by simp; omega) ?_; intro v' w1 hown' hgrow _)
              have hb1 : Below base w w1 := (hb.alloc (by omega) _).grown hgrow (by simp; omega) (fun j hj => (hown.lt j hj).1)
              clear hgrow hown
              go_wp2
              go_roundw
              case rel => exact ⟨k + 1, 0, F ++ [false], by omega, by go_num, by first | rfl | go_num, by omega, by simp; omega, HST2.out 0 false (by decide), by simpa [bools, hF] using hown', hb1⟩
              case measure => simp [intOf]; omega
            · go_wp2_with (at_builtin; refine wpList_append_own _ rfl _ _ 33 rfl base 4 i0 (.bool false) 1 1 Try.underlying33 hi hz0 hz1 hz2 rfl (by decide) _ _ _ rfl (hown.alloc _) ⟨wr.heap.size, 0, none⟩ 1 1 [.bool true] rfl rfl (cells1 wr _ _) (by intro u hu; simp at hu; subst hu; rfl) (by unfold maxLen; omega) (by omega) (by simp; omega) ?_; intro v' w1 hown' hgrow _)
              have hb1 : Below base w w1 := (hb.alloc (by omega) _).grown hgrow (by simp; omega) (fun j hj => (hown.lt j hj).1)
              clear hgrow hown
              go_wp2
              go_roundw
              case rel => exact ⟨k + 1, 1, F ++ [true], by omega, by go_num, by first | rfl | go_num, by omega, by simp; omega, HST2.out 1 true (by decide), by simpa [bools, hF] using hown', hb1⟩
              case measure => simp [intOf]; omega
          · cases y
            · go_wp2_with (at_builtin; refine wpList_append_own _ rfl _ _ 33 rfl base 4 i0 (.bool false) 1 1 Try.underlying33 hi hz0 hz1 hz2 rfl (by decide) _ _ _ rfl (hown.alloc _) ⟨wr.heap.size, 0, none⟩ 1 1 [.bool true] rfl rfl (cells1 wr _ _) (by intro u hu; simp at hu; subst hu; rfl) (by unfold maxLen; omega) (by omega) (by simp; omega) ?_; intro v' w1 hown' hgrow _)
              have hb1 : Below base w w1 := (hb.alloc (by omega) _).grown hgrow (by simp; omega) (fun j hj => (hown.lt j hj).1)
              clear hgrow hown
              go_wp2
              go_roundw
              case rel => exact ⟨k + 1, 0, F ++ [true], by omega, by go_num, by first | rfl | go_num, by omega, by simp; omega, HST2.out 0 true (by decide), by simpa [bools, hF] using hown', hb1⟩
              case measure => simp [intOf]; omega
            · go_wp2_with (at_builtin; refine wpList_append_own _ rfl _ _ 33 rfl base 4 i0 (.bool false) 1 1 Try.underlying33 hi hz0 hz1 hz2 rfl (by decide) _ _ _ rfl (hown.alloc _) ⟨wr.heap.size, 0, none⟩ 1 1 [.bool false] rfl rfl (cells1 wr _ _) (by intro u hu; simp at hu; subst hu; rfl) (by unfold maxLen; omega) (by omega) (by simp; omega) ?_; intro v' w1 hown' hgrow _)
              have hb1 : Below base w w1 := (hb.alloc (by omega) _).grown hgrow (by simp; omega) (fun j hj => (hown.lt j hj).1)
              clear hgrow hown
              go_wp2
              go_roundw
              case rel => exact ⟨k + 1, 0, F ++ [false], by omega, by go_num, by first | rfl | go_num, by omega, by simp; omega, HST2.out 0 false (by decide), by simpa [bools, hF] using hown', hb1⟩
              case measure => simp [intOf]; omega
        · cases x
          · cases y
            · go_wp2_with (at_builtin; refine wpList_append_own _ rfl _ _ 33 rfl base 4 i0 (.bool false) 1 1 Try.underlying33 hi hz0 hz1 hz2 rfl (by decide) _ _ _ rfl (hown.alloc _) ⟨wr.heap.size, 0, none⟩ 1 1 [.bool true] rfl rfl (cells1 wr _ _) (by intro u hu; simp at hu; subst hu; rfl) (by unfold maxLen; omega) (by omega) (by simp; omega) ?_; intro v' w1 hown' hgrow _)
              have hb1 : Below base w w1 := (hb.alloc (by omega) _).grown hgrow (by simp; omega) (fun j hj => (hown.lt j hj).1)
              clear hgrow hown
              go_wp2
              go_roundw
              case rel => exact ⟨k + 1, 1, F ++ [true], by omega, by go_num, by first | rfl | go_num, by omega, by simp; omega, HST2.out 1 true (by decide), by simpa [bools, hF] using hown', hb1⟩
              case measure => simp [intOf]; omega
            · go_wp2_with (at_builtin; refine wpList_append_own _ rfl _ _ 33 rfl base 4 i0 (.bool false) 1 1 Try.underlying33 hi hz0 hz1 hz2 rfl (by decide) _ _ _ rfl (hown.alloc _) ⟨wr.heap.size, 0, none⟩ 1 1 [.bool false] rfl rfl (cells1 wr _ _) (by intro u hu; simp at hu; subst hu; rfl) (by unfold maxLen; omega) (by omega) (by simp; omega) ?_; intro v' w1 hown' hgrow _)
              have hb1 : Below base w w1 := (hb.alloc (by omega) _).grown hgrow (by simp; omega) (fun j hj => (hown.lt j hj).1)
              clear hgrow hown
              go_wp2
              go_roundw
              case rel => exact ⟨k + 1, 1, F ++ [false], by omega, by go_num, by first | rfl | go_num, by omega, by simp; omega, HST2.out 1 false (by decide), by simpa [bools, hF] using hown', hb1⟩
              case measure => simp [intOf]; omega
          · cases y
            · go_wp2_with (at_builtin; refine wpList_append_own _ rfl _ _ 33 rfl base 4 i0 (.bool false) 1 1 Try.underlying33 hi hz0 hz1 hz2 rfl (by decide) _ _ _ rfl (hown.alloc _) ⟨wr.heap.size, 0, none⟩ 1 1 [.bool false] rfl rfl (cells1 wr _ _) (by intro u hu; simp at hu; subst hu; rfl) (by unfold maxLen; omega) (by omega) (by simp; omega) ?_; intro v' w1 hown' hgrow _)
              have hb1 : Below base w w1 := (hb.alloc (by omega) _).grown hgrow (by simp; omega) (fun j hj => (hown.lt j hj).1)
              clear hgrow hown
              go_wp2
              go_roundw
              case rel => exact ⟨k + 1, 0, F ++ [false], by omega, by go_num, by first | rfl | go_num, by omega, by simp; omega, HST2.out 0 false (by decide), by simpa [bools, hF] using hown', hb1⟩
              case measure => simp [intOf]; omega
            · go_wp2_with (at_builtin; refine wpList_append_own _ rfl _ _ 33 rfl base 4 i0 (.bool false) 1 1 Try.underlying33 hi hz0 hz1 hz2 rfl (by decide) _ _ _ rfl (hown.alloc _) ⟨wr.heap.size, 0, none⟩ 1 1 [.bool true] rfl rfl (cells1 wr _ _) (by intro u hu; simp at hu; subst hu; rfl) (by unfold maxLen; omega) (by omega) (by simp; omega) ?_; intro v' w1 hown' hgrow _)
              have hb1 : Below base w w1 := (hb.alloc (by omega) _).grown hgrow (by simp; omega) (fun j hj => (hown.lt j hj).1)
              clear hgrow hown
              go_wp2
              go_roundw
              case rel => exact ⟨k + 1, 1, F ++ [true], by omega, by go_num, by first | rfl | go_num, by omega, by simp; omega, HST2.out 1 true (by decide), by simpa [bools, hF] using hown', hb1⟩
              case measure => simp [intOf]; omega
      · have yy := z2 (by omega)
        subst yy
        clear g2 z2
        rcases hc01 with rfl | rfl
        · cases x
          · go_wp2_with (at_builtin; refine wpList_append_own _ rfl _ _ 33 rfl base 4 i0 (.bool false) 1 1 Try.underlying33 hi hz0 hz1 hz2 rfl (by decide) _ _ _ rfl (hown.alloc _) ⟨wr.heap.size, 0, none⟩ 1 1 [.bool false] rfl rfl (cells1 wr _ _) (by intro u hu; simp at hu; subst hu; rfl) (by unfold maxLen; omega) (by omega) (by simp; omega) ?_; intro v' w1 hown' hgrow _)
            have hb1 : Below base w w1 := (hb.alloc (by omega) _).grown hgrow (by simp; omega) (fun j hj => (hown.lt j hj).1)
            clear hgrow hown
            go_wp2
            go_roundw
            case rel => exact ⟨k + 1, 0, F ++ [false], by omega, by go_num, by first | rfl | go_num, by omega, by simp; omega, HST2.out 0 false (by decide), by simpa [bools, hF] using hown', hb1⟩
            case measure => simp [intOf]; omega
          · go_wp2_with (at_builtin; refine wpList_append_own _ rfl _ _ 33 rfl base 4 i0 (.bool false) 1 1 Try.underlying33 hi hz0 hz1 hz2 rfl (by decide) _ _ _ rfl (hown.alloc _) ⟨wr.heap.size, 0, none⟩ 1 1 [.bool true] rfl rfl (cells1 wr _ _) (by intro u hu; simp at hu; subst hu; rfl) (by unfold maxLen; omega) (by omega) (by simp; omega) ?_; intro v' w1 hown' hgrow _)
            have hb1 : Below base w w1 := (hb.alloc (by omega) _).grown hgrow (by simp; omega) (fun j hj => (hown.lt j hj).1)
            clear hgrow hown
            go_wp2
            go_roundw
            case rel => exact ⟨k + 1, 0, F ++ [true], by omega, by go_num, by first | rfl | go_num, by omega, by simp; omega, HST2.out 0 true (by decide), by simpa [bools, hF] using hown', hb1⟩
            case measure => simp [intOf]; omega
        · cases x
          · go_wp2_with (at_builtin; refine wpList_append_own _ rfl _ _ 33 rfl base 4 i0 (.bool false) 1 1 Try.underlying33 hi hz0 hz1 hz2 rfl (by decide) _ _ _ rfl (hown.alloc _) ⟨wr.heap.size, 0, none⟩ 1 1 [.bool true] rfl rfl (cells1 wr _ _) (by intro u hu; simp at hu; subst hu; rfl) (by unfold maxLen; omega) (by omega) (by simp; omega) ?_; intro v' w1 hown' hgrow _)
            have hb1 : Below base w w1 := (hb.alloc (by omega) _).grown hgrow (by simp; omega) (fun j hj => (hown.lt j hj).1)
            clear hgrow hown
            go_wp2
            go_roundw
            case rel => exact ⟨k + 1, 1, F ++ [true], by omega, by go_num, by first | rfl | go_num, by omega, by simp; omega, HST2.out 1 true (by decide), by simpa [bools, hF] using hown', hb1⟩
            case measure => simp [intOf]; omega
          · go_wp2_with (at_builtin; refine wpList_append_own _ rfl _ _ 33 rfl base 4 i0 (.bool false) 1 1 Try.underlying33 hi hz0 hz1 hz2 rfl (by decide) _ _ _ rfl (hown.alloc _) ⟨wr.heap.size, 0, none⟩ 1 1 [.bool false] rfl rfl (cells1 wr _ _) (by intro u hu; simp at hu; subst hu; rfl) (by unfold maxLen; omega) (by omega) (by simp; omega) ?_; intro v' w1 hown' hgrow _)
            have hb1 : Below base w w1 := (hb.alloc (by omega) _).grown hgrow (by simp; omega) (fun j hj => (hown.lt j hj).1)
            clear hgrow hown
            go_wp2
            go_roundw
            case rel => exact ⟨k + 1, 0, F ++ [false], by omega, by go_num, by first | rfl | go_num, by omega, by simp; omega, HST2.out 0 false (by decide), by simpa [bools, hF] using hown', hb1⟩
            case measure => simp [intOf]; omega
    · have ek : k = P.length := by omega
      have hF2 : fromL F = N := by
        subst ek
        rw [bsub_end P Q F ow hF hql hle how HI, hN.out]
      obtain ⟨ao3, cap3, e3⟩ := owns_shape hown
      rw [e3] at hown ⊢
      have c1 := cut_own F base ao3 cap3 wr hown
      rw [hF2] at c1
      clear hown HI hF2 HST h1 h2 hc01 hN hle ek
      subst hF
      go_wp2_with (go_at_call 56; refine c1.mono ?_; rintro e w5 ⟨rfl, hw, hown5⟩; have hw2 := hw.symm; clear hw; subst hw2)
      go_ret
      exact ⟨_, _, rfl, by first | exact hown5 | (rw [hbase]; exact hown5), by first | exact hb | (rw [hbase]; exact hb)⟩

end Go.Proofs.Ytfhhmpgldmakjaa.RefS
