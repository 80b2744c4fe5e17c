/- What the quotient of lists of limbs answers where the divisor has one limb, and that the check of answers that the document fixes says yes. -/
import Derived.Test.YtfhhmpgldmakjaaDivW
import Derived.Test.YtfhhmpgldmakjaaWords
namespace Go.Proofs.Ytfhhmpgldmakjaa.DivOne
open Go.RowKit Mem LimbNum Limb1 Limb2 Limb4 NatNum DivNum NatL DivW Words

theorem nl_one (v : Nat) (h0 : 0 < v) (h : v < 4294967296) : nl v = [v] := by
  rw [nl_pos (by omega), Nat.mod_eq_of_lt h, Nat.div_eq_of_lt h, nl_zero]

set_option maxRecDepth 20000 in
/-- DivMod by a number of one limb. -/
theorem divmod_one (A B : List Nat) (v : Nat) (ao1 ao2 : Option Addr) (cap1 cap2 : Nat) (w : World) (h1 : Lies w ao1 cap1 (ints .u32 A)) (h2 : Lies w ao2 cap2 (ints .u32 B)) (hA : Small A) (hB : Small B) (hv : val B = v) (hv0 : 0 < v) (hv1 : v < 4294967296) (hle : v ≤ val A) (hl : A.length ≤ 70368744177664) :
    Calls Try.prog 72 #[.slice ao1 A.length cap1, .slice ao2 B.length cap2] w fun e w' => ∃ o1 c1 o2 c2, e = .returned (.tuple #[.slice o1 (nl (val A / v)).length c1, .slice o2 (nl (val A % v)).length c2, .bool true]) ∧
      w'.ownsRow w.heap.size 77 1 (.slice o1 (nl (val A / v)).length c1) (nl (val A / v)).length (ints .u32 (nl (val A / v))) ∧ w'.ownsRow w.heap.size 77 1 (.slice o2 (nl (val A % v)).length c2) (nl (val A % v)).length (ints .u32 (nl (val A % v))) ∧ Below w.heap.size w w' := by
  have k1 := nl_len A hA
  have hm := Nat.mod_lt (val A) hv0
  have c1 := ntrim_at h1 hA w (Below.refl _ _)
  have c2 := ntrim_at h2 hB w (Below.refl _ _)
  have l1 := lies_trim h1 hA
  have l2 := lies_trim h2 hB
  rw [hv, nl_one v hv0 hv1] at c2 l2
  have cC := cmp_any (nl (val A)) [v] ao1 ao2 cap1 cap2 w l1 l2 (small_nl _) (by intro x hx; simp at hx; omega)
  have e1 : val [v] = v := by simp [val]
  rw [val_nl, e1] at cC
  have hc : 0 ≤ cmpV (val A) v := by unfold cmpV; split <;> (try split) <;> omega
  have cD := fun (W : World) (hb : Below w.heap.size w W) => divword_any (nl (val A)) v ao1 cap1 W (l1.below hb (Nat.le_refl _)) (small_nl _) hv0 hv1 (by omega)
  rw [val_nl] at cD
  have cW := fun (W : World) => word_any (val A % v) W (by omega)
  obtain ⟨b2, off2, rfl, _, hc2⟩ := l2.2.2.2 (by simp [ints])
  have d2 := hc2 0 (by simp [ints])
  simp only [ints, List.map_cons, List.map_nil, List.getElem?_cons_zero, Nat.add_zero] at d2
  have hmi : ((val A % v : Nat) : Int) < 4294967296 := by omega
  have hmi0 : 0 ≤ ((val A % v : Nat) : Int) := Int.natCast_nonneg _
  have d3 : ∀ W : World, Below w.heap.size w W → W.cell? ⟨b2, off2, none⟩ = some (.int .u32 (v : Int)) := fun W hb => by
    rw [hb.cell (p := ⟨b2, off2, none⟩) (by assumption)]; exact d2
  simp only [List.length_cons, List.length_nil] at c2 cC
  generalize cmpV (val A) v = C at *
  generalize nl (val A / v) = NQ at *
  generalize nl (val A % v) = NR at *
  generalize nl (val A) = NA at *
  generalize val A % v = R at *
  generalize (R : Int) = RI at *
  clear h1 h2 hA hB hv hv0 hv1 hle hl k1 hm l1 l2 hc2 d2 e1
  have t1 : True := trivial
  go_enter Try.func72, Try.ntmps72
  go_wp2_with (first
    | (go_at_call 87; have _t := t1; clear _t t1; refine c1.mono ?_; rintro e w2 ⟨rfl, hw⟩; have hw2 := hw.symm; clear hw; subst hw2)
    | (go_at_call 87; refine c2.mono ?_; rintro e w2 ⟨rfl, hw⟩; have hw2 := hw.symm; clear hw; subst hw2)
    | (go_at_call 77; refine cC.mono ?_; rintro e w3 ⟨rfl, hb3⟩; have d4 := d3 w3 hb3)
    | (go_at_call 88; refine (cD _ hb3).mono ?_; rintro e w4 ⟨o4, p4, rfl, hown4, hb4⟩)
    | (go_at_call 74; refine (cW _).mono ?_; rintro e w5 ⟨o5, p5, rfl, hown5, hb5⟩))
  go_ret3
  have s3 := hb3.size
  have s4 := hb4.size
  exact ⟨_, _, _, _, rfl, owns_base (keep hown4 hb5) (by omega), owns_base hown5 (by omega), bt (bt hb3 hb4) hb5⟩

theorem nl_lit (v : Nat) (h0 : 0 < v) (h : v < 4294967296) : nl v = [v] := nl_one v h0 h
end Go.Proofs.Ytfhhmpgldmakjaa.DivOne
