/- The length of a number in bits, by Go's library: what bits.Len32 answers. -/
import Derived.Test.YtjehfgfgnijkoaaDoorLimb1
namespace Go.Proofs.YtjehfgfgnijkoaaDoor.Len
open Go.RowKit Mem LimbNum
/-- The table of Go's library that tells the length of a byte in bits. -/
def tab : ByteArray := { data := (([0, 1, 2, 2, 3, 3, 3, 3, 4, 4, 4, 4, 4, 4, 4, 4, 5, 5, 5, 5, 5, 5, 5, 5, 5, 5, 5, 5, 5, 5, 5, 5, 6, 6, 6, 6, 6, 6, 6, 6, 6, 6, 6, 6, 6, 6, 6, 6, 6, 6, 6, 6, 6, 6, 6, 6, 6, 6, 6, 6, 6, 6, 6, 6].append [7, 7, 7, 7, 7, 7, 7, 7, 7, 7, 7, 7, 7, 7, 7, 7, 7, 7, 7, 7, 7, 7, 7, 7, 7, 7, 7, 7, 7, 7, 7, 7, 7, 7, 7, 7, 7, 7, 7, 7, 7, 7, 7, 7, 7, 7, 7, 7, 7, 7, 7, 7, 7, 7, 7, 7, 7, 7, 7, 7, 7, 7, 7, 7]).append ([8, 8, 8, 8, 8, 8, 8, 8, 8, 8, 8, 8, 8, 8, 8, 8, 8, 8, 8, 8, 8, 8, 8, 8, 8, 8, 8, 8, 8, 8, 8, 8, 8, 8, 8, 8, 8, 8, 8, 8, 8, 8, 8, 8, 8, 8, 8, 8, 8, 8, 8, 8, 8, 8, 8, 8, 8, 8, 8, 8, 8, 8, 8, 8].append [8, 8, 8, 8, 8, 8, 8, 8, 8, 8, 8, 8, 8, 8, 8, 8, 8, 8, 8, 8, 8, 8, 8, 8, 8, 8, 8, 8, 8, 8, 8, 8, 8, 8, 8, 8, 8, 8, 8, 8, 8, 8, 8, 8, 8, 8, 8, 8, 8, 8, 8, 8, 8, 8, 8, 8, 8, 8, 8, 8, 8, 8, 8, 8])).toArray }
set_option maxRecDepth 100000 in
theorem tab_lit : ({ data := (([0, 1, 2, 2, 3, 3, 3, 3, 4, 4, 4, 4, 4, 4, 4, 4, 5, 5, 5, 5, 5, 5, 5, 5, 5, 5, 5, 5, 5, 5, 5, 5, 6, 6, 6, 6, 6, 6, 6, 6, 6, 6, 6, 6, 6, 6, 6, 6, 6, 6, 6, 6, 6, 6, 6, 6, 6, 6, 6, 6, 6, 6, 6, 6].append [7, 7, 7, 7, 7, 7, 7, 7, 7, 7, 7, 7, 7, 7, 7, 7, 7, 7, 7, 7, 7, 7, 7, 7, 7, 7, 7, 7, 7, 7, 7, 7, 7, 7, 7, 7, 7, 7, 7, 7, 7, 7, 7, 7, 7, 7, 7, 7, 7, 7, 7, 7, 7, 7, 7, 7, 7, 7, 7, 7, 7, 7, 7, 7]).append ([8, 8, 8, 8, 8, 8, 8, 8, 8, 8, 8, 8, 8, 8, 8, 8, 8, 8, 8, 8, 8, 8, 8, 8, 8, 8, 8, 8, 8, 8, 8, 8, 8, 8, 8, 8, 8, 8, 8, 8, 8, 8, 8, 8, 8, 8, 8, 8, 8, 8, 8, 8, 8, 8, 8, 8, 8, 8, 8, 8, 8, 8, 8, 8].append [8, 8, 8, 8, 8, 8, 8, 8, 8, 8, 8, 8, 8, 8, 8, 8, 8, 8, 8, 8, 8, 8, 8, 8, 8, 8, 8, 8, 8, 8, 8, 8, 8, 8, 8, 8, 8, 8, 8, 8, 8, 8, 8, 8, 8, 8, 8, 8, 8, 8, 8, 8, 8, 8, 8, 8, 8, 8, 8, 8, 8, 8, 8, 8])).toArray } : ByteArray) = tab := rfl
theorem tab_size : tab.size = 256 := by decide +kernel
theorem tab_all : ∀ i : Fin 256, ((tab[i.val]'(by rw [tab_size]; exact i.isLt)).toNat : Nat) = bitLen i.val := by decide +kernel
theorem tab_get (i : Nat) (h : i < tab.size) : ((tab[i]'h).toNat : Int) = (bitLen i : Int) := by
  have := tab_all ⟨i, by rw [tab_size] at h; exact h⟩
  exact congrArg (fun n : Nat => (n : Int)) this
theorem tab_ex : ∃ T : ByteArray, tab = T ∧ T.size = 256 ∧ ∀ (i : Nat) (h : i < T.size), ((T[i]'h).toNat : Int) = (bitLen i : Int) := ⟨tab, rfl, tab_size, tab_get⟩
theorem len_shift (x k : Nat) (y : Int) (h : y = (x : Int) / 2 ^ k) (h0 : y ≠ 0) : bitLen x = k + bitLen y.toNat := by
  have e : y.toNat = x / 2 ^ k := by
    rw [h, show (x : Int) / 2 ^ k = ((x / 2 ^ k : Nat) : Int) by simp, Int.toNat_natCast]
  rw [e]
  exact bitLen_shift x k (by rw [← e]; rw [h] at h0 ⊢; have : 0 ≤ (x : Int) / 2 ^ k := Int.ediv_nonneg (by omega) (Int.le_of_lt (Int.pow_pos (by decide))); omega)
theorem bl8 (y : Int) (h : y < 256) (h0 : 0 ≤ y) : (bitLen y.toNat : Int) ≤ 8 := by
  have := bitLen_le8 y.toNat (by omega)
  omega

set_option maxRecDepth 100000 in
set_option maxHeartbeats 1000000 in
theorem len32_int (x : Int) (w : World) (h0 : 0 ≤ x) (hx : x < 4294967296) : Calls Tryd.prog 19 #[.int .u32 x] w fun e w' => e = .returned (.int .i64 (bitLen x.toNat : Int)) ∧ w' = w := by
  obtain ⟨T, hT, hs, hg⟩ := tab_ex
  have hxx : (x.toNat : Int) = x := by omega
  by_cases c1 : x < 65536
  · by_cases c2 : x < 256
    · have hx3 : x < (T.size : Int) := by omega
      have hlt : x.toNat < T.size := by omega
      have hg1 := hg x.toNat hlt
      have hb := bl8 x c2 h0
      clear hg hxx hx
      go_enter Tryd.func19, Tryd.ntmps19
      rw [tab_lit, hT]
      clear hT
      go_wp2
      go_ret
      exact ⟨rfl, rfl⟩
    · have e := len_shift x.toNat 8 (x / 256) (by rw [hxx]; rfl) (by omega)
      have hb := bl8 (x / 256) (by omega) (by omega)
      have hx3 : x / 256 < (T.size : Int) := by omega
      have hlt : (x / 256).toNat < T.size := by omega
      have hg1 := hg (x / 256).toNat hlt
      rw [e]
      clear hg hxx hx e
      go_enter Tryd.func19, Tryd.ntmps19
      rw [tab_lit, hT]
      clear hT
      go_wp2
      go_ret
      exact ⟨by go_num, rfl⟩
  · by_cases c2 : x < 16777216
    · have e := len_shift x.toNat 16 (x / 65536) (by rw [hxx]; rfl) (by omega)
      have hb := bl8 (x / 65536) (by omega) (by omega)
      have hx3 : x / 65536 < (T.size : Int) := by omega
      have hlt : (x / 65536).toNat < T.size := by omega
      have hg1 := hg (x / 65536).toNat hlt
      rw [e]
      clear hg hxx hx e
      go_enter Tryd.func19, Tryd.ntmps19
      rw [tab_lit, hT]
      clear hT
      go_wp2
      go_ret
      exact ⟨by go_num, rfl⟩
    · have e := len_shift x.toNat 24 (x / 65536 / 256) (by rw [hxx]; omega) (by omega)
      have hb := bl8 (x / 65536 / 256) (by omega) (by omega)
      have hx3 : x / 65536 / 256 < (T.size : Int) := by omega
      have hlt : (x / 65536 / 256).toNat < T.size := by omega
      have hg1 := hg (x / 65536 / 256).toNat hlt
      rw [e]
      clear hg hxx e
      go_enter Tryd.func19, Tryd.ntmps19
      rw [tab_lit, hT]
      clear hT
      go_wp2
      go_ret
      exact ⟨by go_num, rfl⟩
theorem len32_any (x : Nat) (w : World) (hx : x < 4294967296) : Calls Tryd.prog 19 #[.int .u32 (x : Int)] w fun e w' => e = .returned (.int .i64 (bitLen x : Int)) ∧ w' = w := by
  have := len32_int (x : Int) w (by omega) (by omega)
  rwa [Int.toNat_natCast] at this
end Go.Proofs.YtjehfgfgnijkoaaDoor.Len
