/- What the quotient of lists of limbs answers where the divided number is of more than 64 bits. -/
import Derived.Test.YtipmdjfhailfbaaDivMod
namespace Go.Proofs.Ytipmdjfhailfbaa.DivGreat
open Go.RowKit Mem LimbNum Limb1 Limb2 Limb3 Limb4 NatNum DivNum LongTop NatL DivW DivOne Words CopyL LongDiv DivMod

set_option maxRecDepth 20000 in
set_option maxHeartbeats 1000000 in
/-- DivMod by two limbs or more, of a number of more than 64 bits. -/
theorem divmod_long (A B : List Nat) (ao1 ao2 : Option Addr) (cap1 cap2 : Nat) (w : World) (h1 : Lies w ao1 cap1 (ints .u32 A)) (h2 : Lies w ao2 cap2 (ints .u32 B)) (hA : Small A) (hB : Small B) (hle : val B ≤ val A) (h2l : 2 ≤ (nl (val B)).length) (hfit : ¬ (nb (val A)).length ≤ 64) (hl : A.length + 1 ≤ 70368744177664) (hlB : B.length ≤ 35184372088832) :
    Calls Try.prog 16 #[.slice ao1 A.length cap1, .slice ao2 B.length cap2] w fun e w' => ∃ o1 c1 o2 c2, e = .returned (.tuple #[.slice o1 (nl (val A / val B)).length c1, .slice o2 (nl (val A % val B)).length c2, .bool true]) ∧
      w'.ownsRow w.heap.size 33 1 (.slice o1 (nl (val A / val B)).length c1) (nl (val A / val B)).length (ints .u32 (nl (val A / val B))) ∧ w'.ownsRow w.heap.size 33 1 (.slice o2 (nl (val A % val B)).length c2) (nl (val A % val B)).length (ints .u32 (nl (val A % val B))) ∧ Below w.heap.size w w' := by
  have k1 := nl_len A hA
  have k2 := nl_len B hB
  have hB0 : val B ≠ 0 := by
    intro h
    rw [h, nl_zero] at h2l; simp at h2l
  have c1 := ntrim_at h1 hA w (Below.refl _ _)
  have c2 := ntrim_at h2 hB w (Below.refl _ _)
  have l1 := lies_trim h1 hA
  have l2 := lies_trim h2 hB
  have cC := cmp_any (nl (val A)) (nl (val B)) ao1 ao2 cap1 cap2 w l1 l2 (small_nl _) (small_nl _)
  rw [val_nl, val_nl] at cC
  have hc : 0 ≤ cmpV (val A) (val B) := by unfold cmpV; split <;> (try split) <;> omega
  have cLa := fun (W : World) (hb : Below w.heap.size w W) => low_any (nl (val A)) ao1 cap1 W (l1.below hb (Nat.le_refl _)) (small_nl _)
  rw [val_nl, decide_eq_false hfit] at cLa
  have hlen := nl_mono _ _ hle
  obtain ⟨m, hm⟩ : ∃ m, (nl (val B)).length = m + 2 := ⟨(nl (val B)).length - 2, by omega⟩
  obtain ⟨s, hs1, hs2⟩ := shift_of (val B) (m + 2) hB0 hm
  have cD := fun (W : World) (hb : Below w.heap.size w W) => long_core (nl (val A)) (nl (val B)) m s ((nl (val A)).length + 1 - (m + 2)) (val A) (val B) (val A / val B) (val A % val B) _ _ rfl rfl (by unfold Hid; rw [val_nl]) (by unfold Hid; rw [val_nl]) hB0 hm (by omega) (by omega) hs1 hs2 rfl rfl ao1 ao2 cap1 cap2 W (l1.below hb (Nat.le_refl _)) (l2.below hb (Nat.le_refl _)) (small_nl _) (small_nl _) (by omega) (by omega)
  rw [hm] at c2 cC
  generalize ((val A % 18446744073709551616 : Nat) : Int) = LV at *
  generalize cmpV (val A) (val B) = C at *
  generalize nl (val A / val B) = NQ at *
  generalize nl (val A % val B) = NR at *
  clear h1 h2 hA hB l1 l2 hle h2l hfit hlen k1 k2 hB0 hs1 hs2 hm
  generalize nl (val A) = NA at *
  have t1 : True := trivial
  go_enter Try.func16, Try.ntmps16
  go_wp2_with (first
    | (go_at_call 26; have _t := t1; clear _t t1; refine c1.mono ?_; rintro e w2 ⟨rfl, hw⟩; have hw2 := hw.symm; clear hw; subst hw2)
    | (go_at_call 26; refine c2.mono ?_; rintro e w2 ⟨rfl, hw⟩; have hw2 := hw.symm; clear hw; subst hw2)
    | (go_at_call 14; refine cC.mono ?_; rintro e w3 ⟨rfl, hb3⟩)
    | (go_at_call 20; refine (cLa _ hb3).mono ?_; rintro e w2 ⟨rfl, hw⟩; have hw2 := hw.symm; clear hw; subst hw2)
    | (go_at_call 28; refine (cD _ hb3).mono ?_; rintro e w5 ⟨o5, p5, o6, p6, rfl, hown5, hown6, hb5⟩))
  go_ret3
  have s3 := hb3.size
  exact ⟨_, _, _, _, rfl, owns_base hown5 (by omega), owns_base hown6 (by omega), bt hb3 hb5⟩
end Go.Proofs.Ytipmdjfhailfbaa.DivGreat
