/- awake of the statements of intern. -/
import Derived.Test.YtmeomfnnachkoaaPlayL
namespace Go.Proofs.Ytmeomfnnachkoaa.AwI
open Go.RowKit Go.Maps Mem NdNum TabL NumL DoL DoA PlayL

theorem play3 : playN [] [(3, 5, 0), (3, 7, 0), (5, 3, 2)] = ([(3, 5, 0), (3, 7, 0), (5, 2, 3)], [some 2, some 3, some 4]) := by decide
set_option maxRecDepth 20000 in
theorem awake_any (w : World) : Calls Try.prog 11 #[] w fun e w' => e = .returned (.bool true) ∧ Below w.heap.size w w' := by
  have ho := World.ownsRow_lit (base := 0) (e := 36) (size := 3) w #[.int .i64 3, .int .i64 5, .int .i64 0, .int .i64 3, .int .i64 7, .int .i64 0, .int .i64 5, .int .i64 3, .int .i64 2] 3 (Nat.zero_le _) (by decide) rfl
  have hli : Li (w.alloc (.cells #[.int .i64 3, .int .i64 5, .int .i64 0, .int .i64 3, .int .i64 7, .int .i64 0, .int .i64 5, .int .i64 3, .int .i64 2] 36)) (some ⟨w.heap.size, 0, none⟩) 3 [(3, 5, 0), (3, 7, 0), (5, 3, 2)] := li_of_owns (L := [(3, 5, 0), (3, 7, 0), (5, 3, 2)]) ho
  have cP := play_any _ _ _ _ hli (by intro n hn; simp at hn; rcases hn with rfl | rfl | rfl <;> exact ⟨rfl, rfl, rfl⟩) (by decide)
  rw [play3] at cP
  have hb0 : Below w.heap.size w (w.alloc (.cells #[.int .i64 3, .int .i64 5, .int .i64 0, .int .i64 3, .int .i64 7, .int .i64 0, .int .i64 5, .int .i64 3, .int .i64 2] 36)) := (Below.refl _ _).alloc (Nat.le_refl _) _
  have q := fun (w : World) => eql_node w (5, 2, 3) (5, 2, 3) ⟨rfl, rfl, rfl⟩ ⟨rfl, rfl, rfl⟩
  simp only [beq_self_eq_true] at q
  simp only [List.length_cons, List.length_nil, Nat.zero_add] at cP
  clear ho hli
  go_enter Try.func11, Try.ntmps11
  go_wp2_with (go_at_call 9; refine cP.mono ?_; rintro e w1 ⟨o1, c1, o2, c2, rfl, r1, r2, hw1⟩; obtain ⟨b1, d1, e1⟩ := own_slice r1 (by decide); obtain ⟨b2, d2, e2⟩ := own_slice r2 (by decide); simp only [Value.slice.injEq, true_and] at e1 e2; obtain ⟨rfl, rfl⟩ := e1; obtain ⟨rfl, rfl⟩ := e2; have x0 := r1.cellAt 2 (by decide); have y0 := r2.cellAt 12 (by decide); have y1 := r2.cellAt 13 (by decide); have y2 := r2.cellAt 14 (by decide); simp [ansL, flat, full] at x0 y0 y1 y2)
  go_ret
  exact ⟨rfl, bt hb0 hw1⟩
end Go.Proofs.Ytmeomfnnachkoaa.AwI
