/- What the quotient of lists of limbs answers, whatever the divisor but nought. -/
import Derived.Test.YtipmdjfhailfbaaDivGreat
import Derived.Test.YtipmdjfhailfbaaDivTwo
namespace Go.Proofs.Ytipmdjfhailfbaa.DivAll
open Go.RowKit Mem LimbNum Limb1 Limb2 Limb3 Limb4 NatNum NatL DivW DivOne DivMod DivGreat DivTwo

/-- DivMod: the quotient and what is left, in new memory. -/
theorem divmod_any (A B : List Nat) (ao1 ao2 : Option Addr) (cap1 cap2 : Nat) (w : World) (h1 : Lies w ao1 cap1 (ints .u32 A)) (h2 : Lies w ao2 cap2 (ints .u32 B)) (hA : Small A) (hB : Small B) (h0 : val B ≠ 0) (hl : A.length + 1 ≤ 70368744177664) (hlB : B.length ≤ 35184372088832) :
    Calls Try.prog 16 #[.slice ao1 A.length cap1, .slice ao2 B.length cap2] w fun e w' => ∃ o1 c1 o2 c2, e = .returned (.tuple #[.slice o1 (nl (val A / val B)).length c1, .slice o2 (nl (val A % val B)).length c2, .bool true]) ∧
      w'.ownsRow w.heap.size 33 1 (.slice o1 (nl (val A / val B)).length c1) (nl (val A / val B)).length (ints .u32 (nl (val A / val B))) ∧ w'.ownsRow w.heap.size 33 1 (.slice o2 (nl (val A % val B)).length c2) (nl (val A % val B)).length (ints .u32 (nl (val A % val B))) ∧ Below w.heap.size w w' := by
  rcases Nat.lt_or_ge (val A) (val B) with hlt | hge
  · exact divmod_lt A B ao1 ao2 cap1 cap2 w h1 h2 hA hB hlt (by omega)
  · by_cases hone : (nl (val B)).length < 2
    · have hv : val B < 4294967296 := by
        have h3 := val_lt (nl (val B)) (small_nl _)
        rw [val_nl] at h3
        have h4 : (4294967296 : Nat) ^ (nl (val B)).length ≤ 4294967296 ^ 1 := Nat.pow_le_pow_right (by omega) (by omega)
        omega
      exact divmod_one A B (val B) ao1 ao2 cap1 cap2 w h1 h2 hA hB rfl (by omega) hv hge (by omega)
    · by_cases hfit : (nb (val A)).length ≤ 64
      · exact divmod_two A B ao1 ao2 cap1 cap2 w h1 h2 hA hB hge (by omega) hfit
      · exact divmod_long A B ao1 ao2 cap1 cap2 w h1 h2 hA hB hge (by omega) hfit hl hlB
end Go.Proofs.Ytipmdjfhailfbaa.DivAll
