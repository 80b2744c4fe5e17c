/- What the reference's two helpers answer: the 64 bits of a number as a list in new memory, and the number of a list of at most 64 bits. -/
import Derived.Test.YtgboapmnimnojaaBase
import Derived.Test.YtgboapmnimnojaaBitNum
namespace Go.Proofs.Ytgboapmnimnojaa.Ref
open Go.RowKit Base BitNum

theorem infoB : (Try.prog.info? 4).map (fun i => (i.zero, i.size, i.bytes)) = some (some (.bool false), 1, 1) := by kernel_rfl

theorem div_step (X k : Nat) : X / 2 ^ k / 2 = X / 2 ^ (k + 1) := by rw [Nat.div_div_eq_div_mul, Nat.pow_succ]
theorem bit_step (X k : Nat) : (((X / 2 ^ k : Nat) : Int) % 2 == 1) = X.testBit k := by
  rw [testBit_is]; generalize X / 2 ^ k = q; rw [Bool.eq_iff_iff]; simp; omega

set_option maxHeartbeats 400000 in
theorem bits_any (X : Nat) (w : World) (hX : X < 18446744073709551616) :
    Calls Try.prog 29 #[.int .u64 (X : Int)] w fun e w' => ∃ g cap, e = .returned (.slice (some ⟨g, 0, none⟩) 64 cap) ∧ 64 ≤ cap ∧ w.heap.size ≤ g ∧
      w'.ownsRow w.heap.size 4 1 (.slice (some ⟨g, 0, none⟩) 64 cap) 64 ((bl X 64).map Value.bool) ∧ Below w.heap.size w w' := by
  obtain ⟨i0, hi, hz0, hz1, hz2⟩ := info_parts infoB
  go_enter Try.func29, Try.ntmps29
  go_wp2
  go_loopw [0, 3, 4] (fun x v i wr => ∃ k : Nat, k ≤ 64 ∧ i = .int .i64 k ∧ x = .int .u64 ((X / 2 ^ k : Nat) : Int) ∧
      wr.ownsRow w.heap.size 4 1 v k ((bl X k).map Value.bool) ∧ Below w.heap.size w wr)
    (fun _ _ i _ => 64 - (intOf i).toNat)
  case atStart =>
    refine ⟨0, by omega, rfl, by simp, ?_, (Below.refl _ _).alloc (Nat.le_refl _) _⟩
    exact World.ownsRow_lit w #[] 0 (Nat.le_refl _) (by decide) rfl
  case round =>
    obtain ⟨k, hk, rfl, rfl, hown, hb⟩ := hrel
    have hsz := hb.size
    have hbit := bit_step X k
    have hq : X / 2 ^ k ≤ X := Nat.div_le_self _ _
    have hq2 : ((X / 2 ^ k : Nat) : Int) ≤ 18446744073709551615 := by omega
    have hq1 : 0 ≤ ((X / 2 ^ k : Nat) : Int) := Int.natCast_nonneg _
    have hst := div_step X k
    generalize hQ : X / 2 ^ k = Q at *
    clear hQ
    by_cases hlt : k < 64
    · go_wp2_with (at_builtin; refine wpList_append_own _ rfl _ _ 48 rfl w.heap.size 4 i0 (.bool false) 1 1 Try.underlying48 hi hz0 hz1 hz2 rfl (by decide) _ _ _ rfl (hown.alloc _) ⟨wr.heap.size, 0, none⟩ 1 1 [.bool (X.testBit k)] rfl rfl ?c1 ?c2 ?c3 ?c4 ?c5 ?_)
      case c1 =>
        intro j u hj
        match j, hj with
        | 0, hj => simp at hj; subst hj; simp [Addr.add]
      case c2 => intro u hu; simp at hu; subst hu; rfl
      case c3 => unfold maxLen; omega
      case c4 => omega
      case c5 => simp; omega
      intro v' w1 hown' hgrow _
      have hb1 : Below w.heap.size w w1 := (hb.alloc hsz _).grown hgrow (by simp; omega) (fun j hj => (hown.lt j hj).1)
      clear hgrow hown
      go_wp2
      go_roundw
      case rel => exact ⟨k + 1, by omega, by go_num, by rw [← hst]; go_num, by rw [bl_succ, List.map_append]; exact hown', hb1⟩
      case measure => simp [intOf]; omega
    · have h64 : k = 64 := by omega
      subst h64
      go_wp2
      rcases hown.2 with ⟨_, h0⟩ | ⟨g, cap, cur, rfl, hg, _, hcap, _⟩
      · omega
      · go_ret
        exact ⟨g, cap, rfl, hcap, hg, hown, hb⟩

set_option maxHeartbeats 400000 in
theorem from_any (l : List Bool) (b off len cap : Nat) (w : World) (hl : l.length = len) (h64 : len ≤ 64)
    (hc : ∀ j, j < len → w.cell? ⟨b, off + j, none⟩ = some (.bool (l.getD j false))) :
    Calls Try.prog 30 #[.slice (some ⟨b, off, none⟩) len cap] w fun e w' => e = .returned (.int .u64 ((fromL l : Nat) : Int)) ∧ w' = w := by
  subst hl
  go_enter Try.func30, Try.ntmps30
  go_wp2
  go_loop [3, 4] (fun x i => ∃ k : Nat, k ≤ l.length ∧ i = .int .i64 ((k : Int) - 1) ∧ x = .int .u64 ((fromL (l.drop k) : Nat) : Int)) (fun _ i => (intOf i + 1).toNat)
  case atStart => exact ⟨l.length, Nat.le_refl _, rfl, by simp [fromL]⟩
  case round =>
    obtain ⟨k, hk, rfl, rfl⟩ := hrel
    by_cases hlt : 1 ≤ k
    · obtain ⟨j, rfl⟩ : ∃ j, k = j + 1 := ⟨k - 1, by omega⟩
      have hcell := hc j (by omega)
      have hd := fromL_drop l j (by omega)
      have hf := fromL_lt64 (l.drop j) (by simp; omega)
      have hf2 := fromL_lt64 (l.drop (j + 1)) (by simp; omega)
      generalize hF : fromL (l.drop (j + 1)) = F at *
      generalize hG : fromL (l.drop j) = G at *
      clear hF hc
      cases hbv : l.getD j false
      · rw [hbv] at hcell hd
        have hd' : G = 2 * F := by simpa using hd
        clear hd
        go_wp2
        go_round
        case rel => exact ⟨j, by omega, by go_num, by rw [hG]; go_num⟩
        case measure => simp [intOf]
      · rw [hbv] at hcell hd
        have hd' : G = 1 + 2 * F := by simpa using hd
        clear hd
        go_wp2
        go_round
        case rel => exact ⟨j, by omega, by go_num, by rw [hG]; go_num⟩
        case measure => simp [intOf]
    · have : k = 0 := by omega
      subst this
      go_wp2
      go_ret
      exact ⟨ret_int (by simp), rfl⟩
end Go.Proofs.Ytgboapmnimnojaa.Ref
