/- What the quotient of lists of limbs answers, whatever the divisor. -/
import Derived.Test.YtipmdjfhailfbaaLongDiv
import Derived.Test.YtipmdjfhailfbaaDivOne
import Derived.Deep.RegionWith
namespace Go.Proofs.Ytipmdjfhailfbaa.DivMod
open Go.RowKit Mem LimbNum Limb1 Limb2 Limb3 Limb4 NatNum DivNum LongTop NatL DivW DivOne Words CopyL LongDiv

set_option maxRecDepth 20000 in
/-- DivMod by nought. -/
theorem divmod_zero (A B : List Nat) (ao1 ao2 : Option Addr) (cap1 cap2 : Nat) (w : World) (h1 : Lies w ao1 cap1 (ints .u32 A)) (h2 : Lies w ao2 cap2 (ints .u32 B)) (hA : Small A) (hB : Small B) (hv : val B = 0) :
    Calls Try.prog 16 #[.slice ao1 A.length cap1, .slice ao2 B.length cap2] w fun e w' => e = .returned (.tuple #[.slice none 0 0, .slice none 0 0, .bool false]) ∧ w' = w := by
  have c1 := ntrim_at h1 hA w (Below.refl _ _)
  have c2 := ntrim_at h2 hB w (Below.refl _ _)
  rw [hv, nl_zero] at c2
  simp only [List.length_nil] at c2
  clear h1 h2 hA hB hv
  have t1 : True := trivial
  go_enter Try.func16, Try.ntmps16
  go_wp2_with (first
    | (go_at_call 26; have _t := t1; clear _t t1; refine c1.mono ?_; rintro e w2 ⟨rfl, hw⟩; have hw2 := hw.symm; clear hw; subst hw2)
    | (go_at_call 26; refine c2.mono ?_; rintro e w2 ⟨rfl, hw⟩; have hw2 := hw.symm; clear hw; subst hw2))
  go_ret3
  exact ⟨rfl, rfl⟩

set_option maxRecDepth 20000 in
/-- DivMod by a greater number. -/
theorem divmod_lt (A B : List Nat) (ao1 ao2 : Option Addr) (cap1 cap2 : Nat) (w : World) (h1 : Lies w ao1 cap1 (ints .u32 A)) (h2 : Lies w ao2 cap2 (ints .u32 B)) (hA : Small A) (hB : Small B) (hv : val A < val B) (hl : A.length ≤ 70368744177664) :
    Calls Try.prog 16 #[.slice ao1 A.length cap1, .slice ao2 B.length cap2] w fun e w' => ∃ o1 c1 o2 c2, e = .returned (.tuple #[.slice o1 (nl (val A / val B)).length c1, .slice o2 (nl (val A % val B)).length c2, .bool true]) ∧
      w'.ownsRow w.heap.size 33 1 (.slice o1 (nl (val A / val B)).length c1) (nl (val A / val B)).length (ints .u32 (nl (val A / val B))) ∧ w'.ownsRow w.heap.size 33 1 (.slice o2 (nl (val A % val B)).length c2) (nl (val A % val B)).length (ints .u32 (nl (val A % val B))) ∧ Below w.heap.size w w' := by
  have k1 := nl_len A hA
  rw [Nat.div_eq_of_lt hv, Nat.mod_eq_of_lt hv, nl_zero]
  have c1 := ntrim_at h1 hA w (Below.refl _ _)
  have c2 := ntrim_at h2 hB w (Below.refl _ _)
  have l1 := lies_trim h1 hA
  have l2 := lies_trim h2 hB
  have hn := (nl_last (val B) (by omega)).1
  have cC := cmp_any (nl (val A)) (nl (val B)) ao1 ao2 cap1 cap2 w l1 l2 (small_nl _) (small_nl _)
  rw [val_nl, val_nl] at cC
  have hc : cmpV (val A) (val B) < 0 := by unfold cmpV; rw [if_pos hv]; omega
  have cN := fun (W : World) (hb : Below w.heap.size w W) => norm_any (nl (val A)) ao1 cap1 W (l1.below hb (Nat.le_refl _)) (small_nl _) (by omega)
  rw [val_nl] at cN
  have hb1 : 1 ≤ ((nl (val B)).length : Int) := by omega
  clear h1 h2 hA hB hv k1 l1 l2 hn
  generalize cmpV (val A) (val B) = C at *
  generalize nl (val A) = NA at *
  generalize nl (val B) = NB at *
  have t1 : True := trivial
  go_enter Try.func16, Try.ntmps16
  go_wp2_with (first
    | (go_at_call 26; have _t := t1; clear _t t1; refine c1.mono ?_; rintro e w2 ⟨rfl, hw⟩; have hw2 := hw.symm; clear hw; subst hw2)
    | (go_at_call 26; refine c2.mono ?_; rintro e w2 ⟨rfl, hw⟩; have hw2 := hw.symm; clear hw; subst hw2)
    | (go_at_call 14; refine cC.mono ?_; rintro e w3 ⟨rfl, hb3⟩)
    | (go_at_call 17; refine (cN _ hb3).mono ?_; rintro e w4 ⟨o4, p4, rfl, hown4, hb4⟩))
  go_ret3
  have s3 := hb3.size
  exact ⟨none, 0, _, _, rfl, World.ownsRow_nil _ _ _ _, owns_base hown4 (by omega), bt hb3 hb4⟩

end Go.Proofs.Ytipmdjfhailfbaa.DivMod
