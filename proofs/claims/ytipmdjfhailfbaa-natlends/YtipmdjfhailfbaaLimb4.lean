/- What the difference of lists of limbs answers, and that the check of answers that the document fixes says yes. -/
import Derived.Test.YtipmdjfhailfbaaLimb3
namespace Go.Proofs.Ytipmdjfhailfbaa.Limb4
open Go.RowKit Mem LimbNum Limb1 Limb2 Limb3

theorem trim_at {A : List Nat} {ao : Option Addr} {cap : Nat} {w : World} (h : Lies w ao cap (ints .u32 A)) (hA : Small A) (W : World) (hb : Below w.heap.size w W) :
    Calls Try.prog 24 #[.slice ao A.length cap] W fun e w' => e = .returned (.slice ao (nl (val A)).length cap) ∧ w' = W :=
  (trim_any A ao cap W (h.below hb (Nat.le_refl _)) hA).mono fun _ _ h => ⟨h.1, h.2.1⟩
theorem nl_max : nl 4294967295 = [4294967295] := by rw [nl_pos (by decide), show 4294967295 / 4294967296 = 0 by decide, nl_zero]
theorem lit_lies (W : World) (A : List Nat) (n : Nat) (hn : A.length = n) (hl : n ≤ 1000) : Lies (W.alloc (.cells (ints .u32 A).toArray 33)) (some ⟨W.heap.size, 0, none⟩) n (ints .u32 A) := by
  have := lies_of_owns (World.ownsRow_lit (base := W.heap.size) (e := 33) (size := 1) W (ints .u32 A).toArray n (Nat.le_refl _) (by unfold maxLen; omega) (by simp [ints_length, hn]))
  simpa using this

end Go.Proofs.Ytipmdjfhailfbaa.Limb4
