/- What the calls on texts of digits answer: is each byte a digit, and the number of one group. -/
import Derived.Test.YtefckmkcbgckfaaGreatDoorSetAB
import Derived.Test.YtefckmkcbgckfaaGreatDoorSetAA
import Derived.Laws.Closers25b
namespace Go.Proofs.YtefckmkcbgckfaaGreatDoor.DigL
open Go.RowKit Mem LimbNum

/-- The byte at a place of a text; beyond it nought. -/
def byteAt (s : ByteArray) (i : Nat) : Nat := if h : i < s.size then (s[i]'h).toNat else 0
/-- Is each of the first n bytes a digit? -/
def Digits (s : ByteArray) (n : Nat) : Prop := ∀ i, i < n → 48 ≤ byteAt s i ∧ byteAt s i ≤ 57
/-- The number of the digits from place a on, n of them. -/
def num (s : ByteArray) (a : Nat) : Nat → Nat
  | 0 => 0
  | n + 1 => 10 * num s a n + (byteAt s (a + n) - 48)
theorem byte_lt (s : ByteArray) (i : Nat) : byteAt s i < 256 := by
  unfold byteAt
  split
  · exact UInt8.toNat_lt _
  · omega
theorem byte_is (s : ByteArray) (i : Nat) (h : i < s.size) : ((s[i]'h).toNat : Int) = (byteAt s i : Int) := by
  unfold byteAt
  rw [dif_pos h]

set_option maxRecDepth 20000 in
set_option maxHeartbeats 400000 in
theorem all_yes (s : ByteArray) (w : World) (hd : Digits s s.size) (h0 : 0 < s.size) (hs : s.size ≤ 20000) :
    Calls Tryz.prog 78 #[.string s] w fun e w' => e = .returned (.bool true) ∧ w' = w := by
  go_enter Tryz.func78, Tryz.ntmps78
  go_wp2
  go_loop [6] (fun i => ∃ k : Nat, k ≤ s.size ∧ i = .int .i64 (k : Int)) (fun i => s.size - (intOf i).toNat)
  case atStart => exact ⟨0, Nat.zero_le _, rfl⟩
  case round =>
    obtain ⟨k, hk, rfl⟩ := hrel
    by_cases hlt : k < s.size
    · have hb := hd k hlt
      have he := byte_is s k hlt
      have q1 : (k : Int) < (s.size : Int) := by omega
      clear hd
      go_wp2
      go_round
      case rel => exact ⟨k + 1, by omega, by go_num⟩
      case measure => simp [intOf]; omega
    · have hne : ¬ s.toList = [] := by
        intro h
        rw [toList_nil_iff_emptyBytes] at h
        rw [h] at h0
        exact absurd h0 (by decide)
      go_wp2
      go_ret
      exact ⟨by first | rfl | (simp; exact hne), rfl⟩
set_option maxRecDepth 20000 in
set_option maxHeartbeats 400000 in
theorem all_no (s : ByteArray) (w : World) (hd : ¬ Digits s s.size) (hs : s.size ≤ 20000) :
    Calls Tryz.prog 78 #[.string s] w fun e w' => e = .returned (.bool false) ∧ w' = w := by
  go_enter Tryz.func78, Tryz.ntmps78
  go_wp2
  go_loop [6] (fun i => ∃ k : Nat, k ≤ s.size ∧ i = .int .i64 (k : Int) ∧ Digits s k) (fun i => s.size - (intOf i).toNat)
  case atStart => exact ⟨0, Nat.zero_le _, rfl, fun i hi => absurd hi (Nat.not_lt_zero _)⟩
  case round =>
    obtain ⟨k, hk, rfl, hpre⟩ := hrel
    by_cases hlt : k < s.size
    · have he := byte_is s k hlt
      have q1 : (k : Int) < (s.size : Int) := by omega
      by_cases h1 : byteAt s k < 48
      · clear hd hpre
        go_wp2
        go_ret
        exact ⟨rfl, rfl⟩
      · by_cases h2 : 57 < byteAt s k
        · have h3 : 48 ≤ byteAt s k := by omega
          clear hd hpre
          go_wp2
          go_ret
          exact ⟨rfl, rfl⟩
        · have h3 : 48 ≤ byteAt s k := by omega
          have h4 : byteAt s k ≤ 57 := by omega
          have hn : Digits s (k + 1) := fun i hi => by
            rcases Nat.lt_or_ge i k with h | h
            · exact hpre i h
            · rw [show i = k by omega]; exact ⟨h3, h4⟩
          have HN : Hid (Digits s (k + 1)) := hn
          clear hd hpre hn
          go_wp2
          go_round
          case rel => exact ⟨k + 1, by omega, by go_num, HN.out⟩
          case measure => simp [intOf]; omega
    · exact absurd (show Digits s s.size by rw [show s.size = k by omega]; exact hpre) hd
theorem all_none (s : ByteArray) (w : World) (h0 : s.size = 0) :
    Calls Tryz.prog 78 #[.string s] w fun e w' => e = .returned (.bool false) ∧ w' = w := by
  obtain rfl : s = ByteArray.mk #[] := by
    cases s with
    | mk d => simp only [ByteArray.mk.injEq]; exact Array.eq_empty_of_size_eq_zero h0
  go_enter Tryz.func78, Tryz.ntmps78
  go_wp2
  go_loop [6] (fun i => i = .int .i64 0) (fun _ => 0)
  case atStart => rfl
  case round =>
    subst hrel
    go_wp2
    go_ret
    exact ⟨rfl, rfl⟩
theorem num_lt (s : ByteArray) (a n : Nat) (hd : ∀ i, a ≤ i → i < a + n → 48 ≤ byteAt s i ∧ byteAt s i ≤ 57) : num s a n < 10 ^ n := by
  induction n with
  | zero => simp [num]
  | succ n ih =>
    have h1 := ih (fun i h2 h3 => hd i h2 (by omega))
    have h2 := hd (a + n) (by omega) (by omega)
    rw [num, Nat.pow_succ]; omega
set_option maxRecDepth 20000 in
set_option maxHeartbeats 400000 in
/-- value: the number of one group of digits. -/
theorem value_any (s : ByteArray) (w : World) (hd : Digits s s.size) (hs : s.size ≤ 9) :
    Calls Tryz.prog 80 #[.string s] w fun e w' => e = .returned (.int .u64 (num s 0 s.size : Int)) ∧ w' = w := by
  go_enter Tryz.func80, Tryz.ntmps80
  go_wp2
  go_loop [3, 7] (fun u i => ∃ (k : Nat) (U : Int), k ≤ s.size ∧ i = .int .i64 (k : Int) ∧ u = .int .u64 U ∧ Hid (U = (num s 0 k : Int))) (fun _ i => s.size - (intOf i).toNat)
  case atStart => exact ⟨0, 0, Nat.zero_le _, rfl, rfl, rfl⟩
  case round =>
    obtain ⟨k, U, hk, rfl, rfl, EU⟩ := hrel
    have hlim := num_lt s 0 k (fun i _ hi => hd i (by omega))
    have h9 : 10 ^ k ≤ 10 ^ 9 := Nat.pow_le_pow_right (by omega) (by omega)
    have u0 : 0 ≤ U := by have := EU.out; omega
    have u1 : U < 1000000000 := by have := EU.out; omega
    by_cases hlt : k < s.size
    · have hb := hd k hlt
      have he := byte_is s k hlt
      have q1 : (k : Int) < (s.size : Int) := by omega
      have EN : Hid (10 * U + ((byteAt s k : Int) - 48) = (num s 0 (k + 1) : Int)) := by
        unfold Hid
        rw [num, EU.out, Nat.zero_add]; omega
      obtain ⟨B, eB⟩ : ∃ B : Int, B = (byteAt s k : Int) := ⟨_, rfl⟩
      rw [← eB] at he EN
      have b0 : 48 ≤ B := by omega
      have b1 : B ≤ 57 := by omega
      clear hd hlim h9 eB hb
      go_wp2
      go_round
      case rel => exact ⟨k + 1, _, by omega, by go_num, rfl, by first | exact EN | (unfold Hid; rw [← EN.out]; omega)⟩
      case measure => simp [intOf]; omega
    · have ek : k = s.size := by omega
      subst ek
      clear hd hlim h9
      go_wp2
      go_ret
      exact ⟨ret_int EU.out, rfl⟩
end Go.Proofs.YtefckmkcbgckfaaGreatDoor.DigL
