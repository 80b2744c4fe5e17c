/- What the difference of lists of limbs answers, and that the check of answers that the document fixes says yes. -/
import Derived.Test.YtfhhmpgldmakjaaLimb3
namespace Go.Proofs.Ytfhhmpgldmakjaa.Limb4
open Go.RowKit Mem LimbNum Limb1 Limb2 Limb3

theorem trim_at {A : List Nat} {ao : Option Addr} {cap : Nat} {w : World} (h : Lies w ao cap (ints .u32 A)) (hA : Small A) (W : World) (hb : Below w.heap.size w W) :
    Calls Try.prog 75 #[.slice ao A.length cap] W fun e w' => e = .returned (.slice ao (nl (val A)).length cap) ∧ w' = W :=
  (trim_any A ao cap W (h.below hb (Nat.le_refl _)) hA).mono fun _ _ h => ⟨h.1, h.2.1⟩
/-- Sub, where the difference is not below nought. -/
theorem sub_yes (A B : List Nat) (ao1 ao2 : Option Addr) (cap1 cap2 : Nat) (w : World) (h1 : Lies w ao1 cap1 (ints .u32 A)) (h2 : Lies w ao2 cap2 (ints .u32 B)) (hA : Small A) (hB : Small B) (hle : val B ≤ val A) (hlen : A.length ≤ 70368744177664) :
    Calls Try.prog 86 #[.slice ao1 A.length cap1, .slice ao2 B.length cap2] w fun e w' => ∃ ao cap, e = .returned (.tuple #[.slice ao (nl (val A - val B)).length cap, .bool true]) ∧
      w'.ownsRow w.heap.size 77 1 (.slice ao (nl (val A - val B)).length cap) (nl (val A - val B)).length (ints .u32 (nl (val A - val B))) ∧ Below w.heap.size w w' := by
  have hk := nl_len A hA
  have := sub_core A B (nl (val A)) (nl (val B)) ao1 ao2 cap1 cap2 w (lies_trim h1 hA) (lies_trim h2 hB)
    ((cmp_any A B ao1 ao2 cap1 cap2 w h1 h2 hA hB).mono fun e w' h => ⟨⟨_, by unfold cmpV; split <;> (try split) <;> omega, h.1⟩, h.2⟩)
    (trim_at h1 hA) (trim_at h2 hB) (small_nl _) (small_nl _) (by rw [val_nl, val_nl]; exact hle) (nl_mono _ _ hle) (by omega)
  rwa [val_nl, val_nl] at this
/-- Sub, where it is below nought. -/
theorem sub_no (A B : List Nat) (ao1 ao2 : Option Addr) (cap1 cap2 : Nat) (w : World) (h1 : Lies w ao1 cap1 (ints .u32 A)) (h2 : Lies w ao2 cap2 (ints .u32 B)) (hA : Small A) (hB : Small B) (hlt : val A < val B) :
    Calls Try.prog 86 #[.slice ao1 A.length cap1, .slice ao2 B.length cap2] w fun e w' => e = .returned (.tuple #[.slice none 0 0, .bool false]) ∧ Below w.heap.size w w' := by
  have cc := cmp_any A B ao1 ao2 cap1 cap2 w h1 h2 hA hB
  have e : cmpV (val A) (val B) = -1 := by unfold cmpV; rw [if_pos hlt]
  rw [e] at cc
  clear h1 h2 hA hB e
  go_enter Try.func86, Try.ntmps86
  go_wp2_with (go_at_call 77; refine cc.mono ?_; rintro e w1 ⟨rfl, hb1⟩)
  go_ret2
  exact ⟨rfl, hb1⟩

theorem nl_max : nl 4294967295 = [4294967295] := by rw [nl_pos (by decide), show 4294967295 / 4294967296 = 0 by decide, nl_zero]
theorem lit_lies (W : World) (A : List Nat) (n : Nat) (hn : A.length = n) (hl : n ≤ 1000) : Lies (W.alloc (.cells (ints .u32 A).toArray 77)) (some ⟨W.heap.size, 0, none⟩) n (ints .u32 A) := by
  have := lies_of_owns (World.ownsRow_lit (base := W.heap.size) (e := 77) (size := 1) W (ints .u32 A).toArray n (Nat.le_refl _) (by unfold maxLen; omega) (by simp [ints_length, hn]))
  simpa using this

end Go.Proofs.Ytfhhmpgldmakjaa.Limb4
