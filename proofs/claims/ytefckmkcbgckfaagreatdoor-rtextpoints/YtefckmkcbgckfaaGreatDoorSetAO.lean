/- What the quotient of lists of limbs answers, whatever the divisor; What the quotient of lists of limbs answers where the divided number is of more than 64 bits; What the quotient of lists of limbs answers where both are of at most 64 bits; What the quotient of lists of limbs answers, whatever the divisor but nought. -/
import Derived.Test.YtefckmkcbgckfaaGreatDoorSetAN
import Derived.Test.YtefckmkcbgckfaaGreatDoorSetAH
import Derived.Deep.RegionWith
/- What the quotient of lists of limbs answers, whatever the divisor. -/
namespace Go.Proofs.YtefckmkcbgckfaaGreatDoor.DivMod
open Go.RowKit Mem LimbNum Limb1 Limb2 Limb3 Limb4 NatNum DivNum LongTop NatL DivW DivOne Words CopyL LongDiv

set_option maxRecDepth 20000 in
/-- DivMod by nought. -/
theorem divmod_zero (A B : List Nat) (ao1 ao2 : Option Addr) (cap1 cap2 : Nat) (w : World) (h1 : Lies w ao1 cap1 (ints .u32 A)) (h2 : Lies w ao2 cap2 (ints .u32 B)) (hA : Small A) (hB : Small B) (hv : val B = 0) :
    Calls Tryz.prog 51 #[.slice ao1 A.length cap1, .slice ao2 B.length cap2] w fun e w' => e = .returned (.tuple #[.slice none 0 0, .slice none 0 0, .bool false]) ∧ w' = w := by
  have c1 := ntrim_at h1 hA w (Below.refl _ _)
  have c2 := ntrim_at h2 hB w (Below.refl _ _)
  rw [hv, nl_zero] at c2
  simp only [List.length_nil] at c2
  clear h1 h2 hA hB hv
  have t1 : True := trivial
  go_enter Tryz.func51, Tryz.ntmps51
  go_wp2_with (first
    | (go_at_call 71; have _t := t1; clear _t t1; refine c1.mono ?_; rintro e w2 ⟨rfl, hw⟩; have hw2 := hw.symm; clear hw; subst hw2)
    | (go_at_call 71; refine c2.mono ?_; rintro e w2 ⟨rfl, hw⟩; have hw2 := hw.symm; clear hw; subst hw2))
  go_ret3
  exact ⟨rfl, rfl⟩

set_option maxRecDepth 20000 in
/-- DivMod by a greater number. -/
theorem divmod_lt (A B : List Nat) (ao1 ao2 : Option Addr) (cap1 cap2 : Nat) (w : World) (h1 : Lies w ao1 cap1 (ints .u32 A)) (h2 : Lies w ao2 cap2 (ints .u32 B)) (hA : Small A) (hB : Small B) (hv : val A < val B) (hl : A.length ≤ 70368744177664) :
    Calls Tryz.prog 51 #[.slice ao1 A.length cap1, .slice ao2 B.length cap2] w fun e w' => ∃ o1 c1 o2 c2, e = .returned (.tuple #[.slice o1 (nl (val A / val B)).length c1, .slice o2 (nl (val A % val B)).length c2, .bool true]) ∧
      w'.ownsRow w.heap.size 48 1 (.slice o1 (nl (val A / val B)).length c1) (nl (val A / val B)).length (ints .u32 (nl (val A / val B))) ∧ w'.ownsRow w.heap.size 48 1 (.slice o2 (nl (val A % val B)).length c2) (nl (val A % val B)).length (ints .u32 (nl (val A % val B))) ∧ Below w.heap.size w w' := by
  have k1 := nl_len A hA
  rw [Nat.div_eq_of_lt hv, Nat.mod_eq_of_lt hv, nl_zero]
  have c1 := ntrim_at h1 hA w (Below.refl _ _)
  have c2 := ntrim_at h2 hB w (Below.refl _ _)
  have l1 := lies_trim h1 hA
  have l2 := lies_trim h2 hB
  have hn := (nl_last (val B) (by omega)).1
  have cC := cmp_any (nl (val A)) (nl (val B)) ao1 ao2 cap1 cap2 w l1 l2 (small_nl _) (small_nl _)
  rw [val_nl, val_nl] at cC
  have hc : cmpV (val A) (val B) < 0 := by unfold cmpV; rw [if_pos hv]; omega
  have cN := fun (W : World) (hb : Below w.heap.size w W) => norm_any (nl (val A)) ao1 cap1 W (l1.below hb (Nat.le_refl _)) (small_nl _) (by omega)
  rw [val_nl] at cN
  have hb1 : 1 ≤ ((nl (val B)).length : Int) := by omega
  clear h1 h2 hA hB hv k1 l1 l2 hn
  generalize cmpV (val A) (val B) = C at *
  generalize nl (val A) = NA at *
  generalize nl (val B) = NB at *
  have t1 : True := trivial
  go_enter Tryz.func51, Tryz.ntmps51
  go_wp2_with (first
    | (go_at_call 71; have _t := t1; clear _t t1; refine c1.mono ?_; rintro e w2 ⟨rfl, hw⟩; have hw2 := hw.symm; clear hw; subst hw2)
    | (go_at_call 71; refine c2.mono ?_; rintro e w2 ⟨rfl, hw⟩; have hw2 := hw.symm; clear hw; subst hw2)
    | (go_at_call 64; refine cC.mono ?_; rintro e w3 ⟨rfl, hb3⟩)
    | (go_at_call 40; refine (cN _ hb3).mono ?_; rintro e w4 ⟨o4, p4, rfl, hown4, hb4⟩))
  go_ret3
  have s3 := hb3.size
  exact ⟨none, 0, _, _, rfl, World.ownsRow_nil _ _ _ _, owns_base hown4 (by omega), bt hb3 hb4⟩

end Go.Proofs.YtefckmkcbgckfaaGreatDoor.DivMod

/- What the quotient of lists of limbs answers where the divided number is of more than 64 bits. -/
namespace Go.Proofs.YtefckmkcbgckfaaGreatDoor.DivGreat
open Go.RowKit Mem LimbNum Limb1 Limb2 Limb3 Limb4 NatNum DivNum LongTop NatL DivW DivOne Words CopyL LongDiv DivMod

set_option maxRecDepth 20000 in
set_option maxHeartbeats 1000000 in
/-- DivMod by two limbs or more, of a number of more than 64 bits. -/
theorem divmod_long (A B : List Nat) (ao1 ao2 : Option Addr) (cap1 cap2 : Nat) (w : World) (h1 : Lies w ao1 cap1 (ints .u32 A)) (h2 : Lies w ao2 cap2 (ints .u32 B)) (hA : Small A) (hB : Small B) (hle : val B ≤ val A) (h2l : 2 ≤ (nl (val B)).length) (hfit : ¬ (nb (val A)).length ≤ 64) (hl : A.length + 1 ≤ 70368744177664) (hlB : B.length ≤ 35184372088832) :
    Calls Tryz.prog 51 #[.slice ao1 A.length cap1, .slice ao2 B.length cap2] w fun e w' => ∃ o1 c1 o2 c2, e = .returned (.tuple #[.slice o1 (nl (val A / val B)).length c1, .slice o2 (nl (val A % val B)).length c2, .bool true]) ∧
      w'.ownsRow w.heap.size 48 1 (.slice o1 (nl (val A / val B)).length c1) (nl (val A / val B)).length (ints .u32 (nl (val A / val B))) ∧ w'.ownsRow w.heap.size 48 1 (.slice o2 (nl (val A % val B)).length c2) (nl (val A % val B)).length (ints .u32 (nl (val A % val B))) ∧ Below w.heap.size w w' := by
  have k1 := nl_len A hA
  have k2 := nl_len B hB
  have hB0 : val B ≠ 0 := by
    intro h
    rw [h, nl_zero] at h2l; simp at h2l
  have c1 := ntrim_at h1 hA w (Below.refl _ _)
  have c2 := ntrim_at h2 hB w (Below.refl _ _)
  have l1 := lies_trim h1 hA
  have l2 := lies_trim h2 hB
  have cC := cmp_any (nl (val A)) (nl (val B)) ao1 ao2 cap1 cap2 w l1 l2 (small_nl _) (small_nl _)
  rw [val_nl, val_nl] at cC
  have hc : 0 ≤ cmpV (val A) (val B) := by unfold cmpV; split <;> (try split) <;> omega
  have cLa := fun (W : World) (hb : Below w.heap.size w W) => low_any (nl (val A)) ao1 cap1 W (l1.below hb (Nat.le_refl _)) (small_nl _)
  rw [val_nl, decide_eq_false hfit] at cLa
  have hlen := nl_mono _ _ hle
  obtain ⟨m, hm⟩ : ∃ m, (nl (val B)).length = m + 2 := ⟨(nl (val B)).length - 2, by omega⟩
  obtain ⟨s, hs1, hs2⟩ := shift_of (val B) (m + 2) hB0 hm
  have cD := fun (W : World) (hb : Below w.heap.size w W) => long_core (nl (val A)) (nl (val B)) m s ((nl (val A)).length + 1 - (m + 2)) (val A) (val B) (val A / val B) (val A % val B) _ _ rfl rfl (by unfold Hid; rw [val_nl]) (by unfold Hid; rw [val_nl]) hB0 hm (by omega) (by omega) hs1 hs2 rfl rfl ao1 ao2 cap1 cap2 W (l1.below hb (Nat.le_refl _)) (l2.below hb (Nat.le_refl _)) (small_nl _) (small_nl _) (by omega) (by omega)
  rw [hm] at c2 cC
  generalize ((val A % 18446744073709551616 : Nat) : Int) = LV at *
  generalize cmpV (val A) (val B) = C at *
  generalize nl (val A / val B) = NQ at *
  generalize nl (val A % val B) = NR at *
  clear h1 h2 hA hB l1 l2 hle h2l hfit hlen k1 k2 hB0 hs1 hs2 hm
  generalize nl (val A) = NA at *
  have t1 : True := trivial
  go_enter Tryz.func51, Tryz.ntmps51
  go_wp2_with (first
    | (go_at_call 71; have _t := t1; clear _t t1; refine c1.mono ?_; rintro e w2 ⟨rfl, hw⟩; have hw2 := hw.symm; clear hw; subst hw2)
    | (go_at_call 71; refine c2.mono ?_; rintro e w2 ⟨rfl, hw⟩; have hw2 := hw.symm; clear hw; subst hw2)
    | (go_at_call 64; refine cC.mono ?_; rintro e w3 ⟨rfl, hb3⟩)
    | (go_at_call 69; refine (cLa _ hb3).mono ?_; rintro e w2 ⟨rfl, hw⟩; have hw2 := hw.symm; clear hw; subst hw2)
    | (go_at_call 74; refine (cD _ hb3).mono ?_; rintro e w5 ⟨o5, p5, o6, p6, rfl, hown5, hown6, hb5⟩))
  go_ret3
  have s3 := hb3.size
  exact ⟨_, _, _, _, rfl, owns_base hown5 (by omega), owns_base hown6 (by omega), bt hb3 hb5⟩
end Go.Proofs.YtefckmkcbgckfaaGreatDoor.DivGreat

/- What the quotient of lists of limbs answers where both are of at most 64 bits. -/
namespace Go.Proofs.YtefckmkcbgckfaaGreatDoor.DivTwo
open Go.RowKit Mem LimbNum Limb1 Limb2 Limb3 Limb4 NatNum DivNum LongTop NatL DivW DivOne Words CopyL LongDiv DivMod

set_option maxRecDepth 20000 in
set_option maxHeartbeats 8000000 in
/-- DivMod, both of at most 64 bits. -/
theorem divmod_two (A B : List Nat) (ao1 ao2 : Option Addr) (cap1 cap2 : Nat) (w : World) (h1 : Lies w ao1 cap1 (ints .u32 A)) (h2 : Lies w ao2 cap2 (ints .u32 B)) (hA : Small A) (hB : Small B) (hle : val B ≤ val A) (h2l : 2 ≤ (nl (val B)).length) (hfit : (nb (val A)).length ≤ 64) :
    Calls Tryz.prog 51 #[.slice ao1 A.length cap1, .slice ao2 B.length cap2] w fun e w' => ∃ o1 c1 o2 c2, e = .returned (.tuple #[.slice o1 (nl (val A / val B)).length c1, .slice o2 (nl (val A % val B)).length c2, .bool true]) ∧
      w'.ownsRow w.heap.size 48 1 (.slice o1 (nl (val A / val B)).length c1) (nl (val A / val B)).length (ints .u32 (nl (val A / val B))) ∧ w'.ownsRow w.heap.size 48 1 (.slice o2 (nl (val A % val B)).length c2) (nl (val A % val B)).length (ints .u32 (nl (val A % val B))) ∧ Below w.heap.size w w' := by
  have hA64 : val A < 18446744073709551616 := by
    have h3 := fromL_lt (nb (val A))
    rw [fromL_nb] at h3
    have h4 : (2 : Nat) ^ (nb (val A)).length ≤ 2 ^ 64 := Nat.pow_le_pow_right (by omega) hfit
    omega
  have hB0 : 0 < val B := by
    rcases Nat.eq_zero_or_pos (val B) with h | h
    · rw [h, nl_zero] at h2l; simp at h2l
    · exact h
  have c1 := ntrim_at h1 hA w (Below.refl _ _)
  have c2 := ntrim_at h2 hB w (Below.refl _ _)
  have l1 := lies_trim h1 hA
  have l2 := lies_trim h2 hB
  have cC := cmp_any (nl (val A)) (nl (val B)) ao1 ao2 cap1 cap2 w l1 l2 (small_nl _) (small_nl _)
  rw [val_nl, val_nl] at cC
  have hc : 0 ≤ cmpV (val A) (val B) := by unfold cmpV; split <;> (try split) <;> omega
  have cLa := fun (W : World) (hb : Below w.heap.size w W) => low_any (nl (val A)) ao1 cap1 W (l1.below hb (Nat.le_refl _)) (small_nl _)
  have cLb := fun (W : World) (hb : Below w.heap.size w W) => low_any (nl (val B)) ao2 cap2 W (l2.below hb (Nat.le_refl _)) (small_nl _)
  rw [val_nl, Nat.mod_eq_of_lt hA64, decide_eq_true hfit] at cLa
  rw [val_nl, Nat.mod_eq_of_lt (by omega)] at cLb
  have hql := Nat.div_le_self (val A) (val B)
  have hml := Nat.mod_lt (val A) hB0
  have cWq := fun (W : World) => word_any (val A / val B) W (Nat.lt_of_le_of_lt hql hA64)
  have cWr := fun (W : World) => word_any (val A % val B) W (Nat.lt_of_lt_of_le hml (Nat.le_trans hle (Nat.le_of_lt hA64)))
  obtain ⟨XI, eX⟩ : ∃ x : Int, x = (val A : Int) := ⟨_, rfl⟩
  obtain ⟨YI, eY⟩ : ∃ x : Int, x = (val B : Int) := ⟨_, rfl⟩
  have eq1 : XI / YI = ((val A / val B : Nat) : Int) := by rw [eX, eY]; exact (Int.natCast_ediv _ _).symm
  have eq2 : XI % YI = ((val A % val B : Nat) : Int) := by rw [eX, eY]; exact (Int.natCast_emod _ _).symm
  rw [← eX] at cLa
  rw [← eY] at cLb
  rw [← eq1] at cWq
  rw [← eq2] at cWr
  have x0 : 0 ≤ XI := by omega
  have x1 : XI < 18446744073709551616 := by omega
  have y0 : 0 < YI := by omega
  have et1 : XI.tdiv YI = XI / YI := Int.tdiv_eq_ediv_of_nonneg x0
  have et2 : XI.tmod YI = XI % YI := Int.tmod_eq_emod_of_nonneg x0
  have q0 : 0 ≤ XI / YI := by rw [eq1]; exact Int.natCast_nonneg _
  have q1 : XI / YI < 18446744073709551616 := by rw [eq1]; exact Int.ofNat_lt.2 (Nat.lt_of_le_of_lt hql hA64)
  have q2 : 0 ≤ XI % YI := by rw [eq2]; exact Int.natCast_nonneg _
  have q3 : XI % YI < 18446744073709551616 := by rw [eq2]; exact Int.ofNat_lt.2 (Nat.lt_of_lt_of_le hml (Nat.le_trans hle (Nat.le_of_lt hA64)))
  have hb1 : 2 ≤ ((nl (val B)).length : Int) := by omega
  clear h1 h2 hA hB l1 l2 eX eY eq1 eq2 hA64 hB0 hql hml hle h2l hfit
  generalize cmpV (val A) (val B) = C at *
  generalize nl (val A / val B) = NQ at *
  generalize nl (val A % val B) = NR at *
  generalize nl (val A) = NA at *
  generalize nl (val B) = NB at *
  generalize XI / YI = QI at *
  generalize XI % YI = RI at *
  generalize decide ((nb (val B)).length ≤ 64) = fb at *
  have t1 : True := trivial
  have t2 : True := trivial
  go_enter Tryz.func51, Tryz.ntmps51
  go_wp2_with (first
    | (go_at_call 71; have _t := t1; clear _t t1; refine c1.mono ?_; rintro e w2 ⟨rfl, hw⟩; have hw2 := hw.symm; clear hw; subst hw2)
    | (go_at_call 71; refine c2.mono ?_; rintro e w2 ⟨rfl, hw⟩; have hw2 := hw.symm; clear hw; subst hw2)
    | (go_at_call 64; refine cC.mono ?_; rintro e w3 ⟨rfl, hb3⟩)
    | (go_at_call 69; have _t := t2; clear _t t2; refine (cLa _ hb3).mono ?_; rintro e w2 ⟨rfl, hw⟩; have hw2 := hw.symm; clear hw; subst hw2)
    | (go_at_call 69; refine (cLb _ hb3).mono ?_; rintro e w2 ⟨rfl, hw⟩; have hw2 := hw.symm; clear hw; subst hw2))
  clear c1 c2 cC cLa cLb
  have hwq : IntKind.u64.wrap QI = QI := by rw [IntKind.wrap_u64]; omega
  have hwr : IntKind.u64.wrap RI = RI := by rw [IntKind.wrap_u64]; omega
  have cWq2 := cWq
  have cWr2 := cWr
  rw [← hwq] at cWq2
  rw [← hwr] at cWr2
  clear hwq hwr
  go_region_with (first
    | (go_at_call_of 70 (Value.int IntKind.u64 QI); refine (cWq _).mono ?_; rintro e w5 ⟨o5, p5, rfl, hown5, hb5⟩)
    | (go_at_call_of 70 (Value.int IntKind.u64 RI); refine (cWr _).mono ?_; rintro e w6 ⟨o6, p6, rfl, hown6, hb6⟩)
    | (go_at_call_of 70 (Value.int IntKind.u64 (IntKind.u64.wrap QI)); refine (cWq2 _).mono ?_; rintro e w5 ⟨o5, p5, rfl, hown5, hb5⟩)
    | (go_at_call_of 70 (Value.int IntKind.u64 (IntKind.u64.wrap RI)); refine (cWr2 _).mono ?_; rintro e w6 ⟨o6, p6, rfl, hown6, hb6⟩))
  all_goals go_wp2
  all_goals go_ret3
  all_goals
    have s3 := hb3.size
    have s5 := hb5.size
    have s6 := hb6.size
    first
    | exact ⟨_, _, _, _, rfl, owns_base (keep hown5 hb6) (by first | omega | (simp at s5 s6 ⊢; omega)), owns_base hown6 (by first | omega | (simp at s5 s6 ⊢; omega)), bt (bt (below_drewN hb3 _) hb5) hb6⟩
    | exact ⟨_, _, _, _, rfl, owns_base hown5 (by first | omega | (simp at s5 s6 ⊢; omega)), owns_base (keep hown6 hb5) (by first | omega | (simp at s5 s6 ⊢; omega)), bt (bt (below_drewN hb3 _) hb6) hb5⟩
end Go.Proofs.YtefckmkcbgckfaaGreatDoor.DivTwo

/- What the quotient of lists of limbs answers, whatever the divisor but nought. -/
namespace Go.Proofs.YtefckmkcbgckfaaGreatDoor.DivAll
open Go.RowKit Mem LimbNum Limb1 Limb2 Limb3 Limb4 NatNum NatL DivW DivOne DivMod DivGreat DivTwo

/-- DivMod: the quotient and what is left, in new memory. -/
theorem divmod_any (A B : List Nat) (ao1 ao2 : Option Addr) (cap1 cap2 : Nat) (w : World) (h1 : Lies w ao1 cap1 (ints .u32 A)) (h2 : Lies w ao2 cap2 (ints .u32 B)) (hA : Small A) (hB : Small B) (h0 : val B ≠ 0) (hl : A.length + 1 ≤ 70368744177664) (hlB : B.length ≤ 35184372088832) :
    Calls Tryz.prog 51 #[.slice ao1 A.length cap1, .slice ao2 B.length cap2] w fun e w' => ∃ o1 c1 o2 c2, e = .returned (.tuple #[.slice o1 (nl (val A / val B)).length c1, .slice o2 (nl (val A % val B)).length c2, .bool true]) ∧
      w'.ownsRow w.heap.size 48 1 (.slice o1 (nl (val A / val B)).length c1) (nl (val A / val B)).length (ints .u32 (nl (val A / val B))) ∧ w'.ownsRow w.heap.size 48 1 (.slice o2 (nl (val A % val B)).length c2) (nl (val A % val B)).length (ints .u32 (nl (val A % val B))) ∧ Below w.heap.size w w' := by
  rcases Nat.lt_or_ge (val A) (val B) with hlt | hge
  · exact divmod_lt A B ao1 ao2 cap1 cap2 w h1 h2 hA hB hlt (by omega)
  · by_cases hone : (nl (val B)).length < 2
    · have hv : val B < 4294967296 := by
        have h3 := val_lt (nl (val B)) (small_nl _)
        rw [val_nl] at h3
        have h4 : (4294967296 : Nat) ^ (nl (val B)).length ≤ 4294967296 ^ 1 := Nat.pow_le_pow_right (by omega) (by omega)
        omega
      exact divmod_one A B (val B) ao1 ao2 cap1 cap2 w h1 h2 hA hB rfl (by omega) hv hge (by omega)
    · by_cases hfit : (nb (val A)).length ≤ 64
      · exact divmod_two A B ao1 ao2 cap1 cap2 w h1 h2 hA hB hge (by omega) hfit
      · exact divmod_long A B ao1 ao2 cap1 cap2 w h1 h2 hA hB hge (by omega) hfit hl hlB
end Go.Proofs.YtefckmkcbgckfaaGreatDoor.DivAll
