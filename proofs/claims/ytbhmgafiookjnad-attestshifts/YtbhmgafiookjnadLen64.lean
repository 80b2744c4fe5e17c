/- The length of a small number in bits, by Go's library: what bits.Len answers. -/
import Derived.Test.YtbhmgafiookjnadLen
namespace Go.Proofs.Ytbhmgafiookjnad.Len64
open Go.RowKit Mem LimbNum Len

set_option maxRecDepth 100000 in
set_option maxHeartbeats 1000000 in
theorem len64_int (x : Int) (w : World) (h0 : 0 ≤ x) (hx : x < 65536) : Calls Try.prog 105 #[.int .u64 x] w fun e w' => e = .returned (.int .i64 (bitLen x.toNat : Int)) ∧ w' = w := by
  obtain ⟨T, hT, hs, hg⟩ := tab_ex
  have hxx : (x.toNat : Int) = x := by omega
  by_cases c2 : x < 256
  · have hx3 : x < (T.size : Int) := by omega
    have hlt : x.toNat < T.size := by omega
    have hg1 := hg x.toNat hlt
    have hb := bl8 x c2 h0
    clear hg hxx hx
    go_enter Try.func105, Try.ntmps105
    rw [tab_lit, hT]
    clear hT
    go_wp2
    go_ret
    exact ⟨rfl, rfl⟩
  · have e := len_shift x.toNat 8 (x / 256) (by rw [hxx]; rfl) (by omega)
    have hb := bl8 (x / 256) (by omega) (by omega)
    have hx3 : x / 256 < (T.size : Int) := by omega
    have hlt : (x / 256).toNat < T.size := by omega
    have hg1 := hg (x / 256).toNat hlt
    rw [e]
    clear hg hxx e
    go_enter Try.func105, Try.ntmps105
    rw [tab_lit, hT]
    clear hT
    go_wp2
    go_ret
    exact ⟨by go_num, rfl⟩
theorem len_int (x : Int) (w : World) (h0 : 0 ≤ x) (hx : x < 65536) : Calls Try.prog 68 #[.int .u64 x] w fun e w' => e = .returned (.int .i64 (bitLen x.toNat : Int)) ∧ w' = w := by
  have c := len64_int x w h0 hx
  go_enter Try.func68, Try.ntmps68
  go_wp2_with (go_at_call 105; refine c.mono ?_; rintro e w2 ⟨rfl, hw⟩; have hw2 := hw.symm; clear hw; subst hw2)
  go_ret
  exact ⟨rfl, rfl⟩
end Go.Proofs.Ytbhmgafiookjnad.Len64
