/- What the reference's shifts of lists of bits answer. -/
import Derived.Test.YtfhhmpgldmakjaaRefL
namespace Go.Proofs.Ytfhhmpgldmakjaa.RefH
open Go.RowKit Mem LimbNum Limb1 RefL

theorem bools_zero (n : Nat) : bools (List.replicate n false) = List.replicate n (.bool false) := by simp [bools]
theorem fromL_shift (l : List Bool) (M : Nat) : fromL (List.replicate M false ++ l) = fromL l * 2 ^ M := by
  rw [fromL_append, fromL_zero (List.replicate M false) (fun x hx => List.eq_of_mem_replicate hx), List.length_replicate, Nat.zero_add, Nat.mul_comm]
theorem fromL_cutoff (l : List Bool) (M : Nat) : fromL (l.drop M) = fromL l / 2 ^ M := by
  have h1 := fromL_append (l.take M) (l.drop M)
  rw [List.take_append_drop] at h1
  rcases Nat.lt_or_ge M l.length with h | h
  · have h2 := fromL_lt (l.take M)
    rw [List.length_take, Nat.min_eq_left (by omega)] at h1 h2
    rw [h1, Nat.add_mul_div_left _ _ (Nat.two_pow_pos M), Nat.div_eq_of_lt h2, Nat.zero_add]
  · have h2 := fromL_lt l
    have h3 : (2 : Nat) ^ l.length ≤ 2 ^ M := Nat.pow_le_pow_right (by omega) h
    rw [List.drop_eq_nil_of_le h, Nat.div_eq_of_lt (Nat.lt_of_lt_of_le h2 h3)]; rfl

set_option maxRecDepth 20000 in
set_option maxHeartbeats 1000000 in
theorem rshl_core (l : List Bool) (n : Int) (M N : Nat) (hN : Hid (N = fromL l * 2 ^ M)) (hn : n = (M : Int)) (hM : n ≤ 100000) (ao : Option Addr) (cap : Nat) (w : World) (h : Lies w ao cap (bools l)) (hlen : l.length ≤ 1073741824) :
    Calls Try.prog 83 #[.slice ao l.length cap, .int .i64 n] w fun e w' => ∃ ao' cap', e = .returned (.slice ao' (nb N).length cap') ∧ w'.ownsRow w.heap.size 4 1 (.slice ao' (nb N).length cap') (nb N).length (bools (nb N)) ∧ Below w.heap.size w w' := by
  obtain ⟨i0, hi, hz0, hz1, hz2⟩ := info_parts infoB
  have HM : Hid (n = (M : Int)) := hn
  have hM2 : M ≤ 100000 := by omega
  clear hn
  have fin : ∀ (W : World) (v : Value), W.ownsRow w.heap.size 4 1 v (M + l.length) (bools (List.replicate M false ++ l)) → ∃ o c, v = .slice o (M + l.length) c ∧ Calls Try.prog 56 #[.slice o (M + l.length) c] W fun e w' => e = .returned (.slice o (nb N).length c) ∧ w' = W ∧ W.ownsRow w.heap.size 4 1 (.slice o (nb N).length c) (nb N).length (bools (nb N)) := fun W v hv => by
    obtain ⟨o, c, rfl⟩ := owns_shape hv
    have hll : (List.replicate M false ++ l).length = M + l.length := by simp
    have := cut_own (List.replicate M false ++ l) w.heap.size o c W (by rw [hll]; exact hv)
    rw [hll, fromL_shift, ← hN.out] at this
    exact ⟨o, c, rfl, this⟩
  cases ao with
  | none =>
    have q0 := h.2.2.1 rfl
    have q1 := h.1
    rw [bools_length] at q1
    obtain rfl : cap = 0 := q0
    obtain rfl : l = [] := List.length_eq_zero_iff.1 (by omega)
    go_enter Try.func83, Try.ntmps83
    go_wp2_with (first
      | (at_make; refine wpList_make_full _ rfl _ _ 33 rfl w.heap.size 4 i0 (.bool false) 1 Try.underlying33 hi hz0 hz1 .i64 .i64 n n M rfl rfl HM.out HM.out (by rw [hz2]; omega) (by unfold maxLen; omega) (Nat.le_refl _) ?_; intro w3 hown hgr)
      | (at_builtin; refine wpList_append_own_none rfl _ _ 33 rfl w.heap.size 4 i0 1 Try.underlying33 hi _ _ _ rfl hown rfl ?_))
    have hb3 : Below w.heap.size w w3 := (Below.refl _ _).grown hgr (Nat.le_refl _) (by simp)
    have hown0 : w3.ownsRow w.heap.size 4 1 (.slice (some ⟨w.heap.size, 0, none⟩) M M) (M + ([] : List Bool).length) (bools (List.replicate M false ++ [])) := by
      rw [List.append_nil, bools_zero, ← toList_madeCells_one]; rw [Nat.mul_one] at hown; exact hown
    obtain ⟨o, c, e0, c3⟩ := fin _ _ hown0
    simp only [Value.slice.injEq, List.length_nil, Nat.add_zero, true_and] at e0
    obtain ⟨rfl, rfl⟩ := e0
    simp only [List.length_nil, Nat.add_zero] at c3
    refine c3.mono ?_
    rintro e w5 ⟨rfl, hw, hown5⟩
    have hw2 := hw.symm
    clear hw
    subst hw2
    clear fin hown hown0 hgr h hN c3
    go_wp2
    go_ret
    exact ⟨_, _, rfl, hown5, hb3⟩
  | some ad =>
    go_enter Try.func83, Try.ntmps83
    go_wp2_with (first
      | (at_make; refine wpList_make_full _ rfl _ _ 33 rfl w.heap.size 4 i0 (.bool false) 1 Try.underlying33 hi hz0 hz1 .i64 .i64 n n M rfl rfl HM.out HM.out (by rw [hz2]; omega) (by unfold maxLen; omega) (Nat.le_refl _) ?_; intro w3 hown hgr)
      | (at_builtin; refine wpList_append_own _ rfl _ _ 33 rfl w.heap.size 4 i0 (.bool false) 1 1 Try.underlying33 hi hz0 hz1 hz2 rfl (by decide) _ _ _ rfl hown ad l.length cap (bools l) rfl (by rw [bools_length]; omega) (h.below ((Below.refl w.heap.size w).grown hgr (Nat.le_refl _) (by simp)) (Nat.le_refl _)).src (bools_one _) (by unfold maxLen; omega) (by omega) (by have := hgr.size; omega) ?_; intro v4 w4 hown4 hgr4 _))
    have hb3 : Below w.heap.size w w3 := (Below.refl _ _).grown hgr (Nat.le_refl _) (by simp)
    have hb4 : Below w.heap.size w w4 := hb3.grown hgr4 hb3.size (fun j hj => by cases hj; exact Nat.le_refl _)
    have hown0 : w4.ownsRow w.heap.size 4 1 v4 (M + l.length) (bools (List.replicate M false ++ l)) := by
      rw [bools, List.map_append, ← bools, ← bools, bools_zero, ← toList_madeCells_one]; rw [Nat.mul_one] at hown4; exact hown4
    obtain ⟨o, c, rfl, c3⟩ := fin _ _ hown0
    refine c3.mono ?_
    rintro e w5 ⟨rfl, hw, hown5⟩
    have hw2 := hw.symm
    clear hw
    subst hw2
    clear fin hown hown0 hgr h hN c3 hown4 hgr4
    go_wp2
    go_ret
    exact ⟨_, _, rfl, hown5, hb4⟩

end Go.Proofs.Ytfhhmpgldmakjaa.RefH
