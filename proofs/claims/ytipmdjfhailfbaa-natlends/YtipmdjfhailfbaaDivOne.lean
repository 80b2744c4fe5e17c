/- What the quotient of lists of limbs answers where the divisor has one limb, and that the check of answers that the document fixes says yes. -/
import Derived.Test.YtipmdjfhailfbaaDivW
import Derived.Test.YtipmdjfhailfbaaWords
namespace Go.Proofs.Ytipmdjfhailfbaa.DivOne
open Go.RowKit Mem LimbNum Limb1 Limb2 Limb4 NatNum DivNum NatL DivW Words

theorem nl_one (v : Nat) (h0 : 0 < v) (h : v < 4294967296) : nl v = [v] := by
  rw [nl_pos (by omega), Nat.mod_eq_of_lt h, Nat.div_eq_of_lt h, nl_zero]

set_option maxRecDepth 20000 in
/-- DivMod by a number of one limb. -/
theorem divmod_one (A B : List Nat) (v : Nat) (ao1 ao2 : Option Addr) (cap1 cap2 : Nat) (w : World) (h1 : Lies w ao1 cap1 (ints .u32 A)) (h2 : Lies w ao2 cap2 (ints .u32 B)) (hA : Small A) (hB : Small B) (hv : val B = v) (hv0 : 0 < v) (hv1 : v < 4294967296) (hle : v ≤ val A) (hl : A.length ≤ 70368744177664) :
    Calls Try.prog 16 #[.slice ao1 A.length cap1, .slice ao2 B.length cap2] w fun e w' => ∃ o1 c1 o2 c2, e = .returned (.tuple #[.slice o1 (nl (val A / v)).length c1, .slice o2 (nl (val A % v)).length c2, .bool true]) ∧
      w'.ownsRow w.heap.size 33 1 (.slice o1 (nl (val A / v)).length c1) (nl (val A / v)).length (ints .u32 (nl (val A / v))) ∧ w'.ownsRow w.heap.size 33 1 (.slice o2 (nl (val A % v)).length c2) (nl (val A % v)).length (ints .u32 (nl (val A % v))) ∧ Below w.heap.size w w' := by
  have k1 := nl_len A hA
  have hm := Nat.mod_lt (val A) hv0
  have c1 := ntrim_at h1 hA w (Below.refl _ _)
  have c2 := ntrim_at h2 hB w (Below.refl _ _)
  have l1 := lies_trim h1 hA
  have l2 := lies_trim h2 hB
  rw [hv, nl_one v hv0 hv1] at c2 l2
  have cC := cmp_any (nl (val A)) [v] ao1 ao2 cap1 cap2 w l1 l2 (small_nl _) (by intro x hx; simp at hx; omega)
  have e1 : val [v] = v := by simp [val]
  rw [val_nl, e1] at cC
  have hc : 0 ≤ cmpV (val A) v := by unfold cmpV; split <;> (try split) <;> omega
  have cD := fun (W : World) (hb : Below w.heap.size w W) => divword_any (nl (val A)) v ao1 cap1 W (l1.below hb (Nat.le_refl _)) (small_nl _) hv0 hv1 (by omega)
  rw [val_nl] at cD
  have cW := fun (W : World) => word_any (val A % v) W (by omega)
  obtain ⟨b2, off2, rfl, _, hc2⟩ := l2.2.2.2 (by simp [ints])
  have d2 := hc2 0 (by simp [ints])
  simp only [ints, List.map_cons, List.map_nil, List.getElem?_cons_zero, Nat.add_zero] at d2
  have hmi : ((val A % v : Nat) : Int) < 4294967296 := by omega
  have hmi0 : 0 ≤ ((val A % v : Nat) : Int) := Int.natCast_nonneg _
  have d3 : ∀ W : World, Below w.heap.size w W → W.cell? ⟨b2, off2, none⟩ = some (.int .u32 (v : Int)) := fun W hb => by
    rw [hb.cell (p := ⟨b2, off2, none⟩) (by assumption)]; exact d2
  simp only [List.length_cons, List.length_nil] at c2 cC
  generalize cmpV (val A) v = C at *
  generalize nl (val A / v) = NQ at *
  generalize nl (val A % v) = NR at *
  generalize nl (val A) = NA at *
  generalize val A % v = R at *
  generalize (R : Int) = RI at *
  clear h1 h2 hA hB hv hv0 hv1 hle hl k1 hm l1 l2 hc2 d2 e1
  have t1 : True := trivial
  go_enter Try.func16, Try.ntmps16
  go_wp2_with (first
    | (go_at_call 26; have _t := t1; clear _t t1; refine c1.mono ?_; rintro e w2 ⟨rfl, hw⟩; have hw2 := hw.symm; clear hw; subst hw2)
    | (go_at_call 26; refine c2.mono ?_; rintro e w2 ⟨rfl, hw⟩; have hw2 := hw.symm; clear hw; subst hw2)
    | (go_at_call 14; refine cC.mono ?_; rintro e w3 ⟨rfl, hb3⟩; have d4 := d3 w3 hb3)
    | (go_at_call 27; refine (cD _ hb3).mono ?_; rintro e w4 ⟨o4, p4, rfl, hown4, hb4⟩)
    | (go_at_call 21; refine (cW _).mono ?_; rintro e w5 ⟨o5, p5, rfl, hown5, hb5⟩))
  go_ret3
  have s3 := hb3.size
  have s4 := hb4.size
  exact ⟨_, _, _, _, rfl, owns_base (keep hown4 hb5) (by omega), owns_base hown5 (by omega), bt (bt hb3 hb4) hb5⟩

theorem nl_lit (v : Nat) (h0 : 0 < v) (h : v < 4294967296) : nl v = [v] := nl_one v h0 h
set_option maxRecDepth 20000 in
theorem awake3 (w : World) :
    Calls Try.prog 10 #[] w fun e w' => e = .returned (.bool true) ∧ Below w.heap.size w w' := by
  have ll := fun (x : Nat) (W : World) => lit_lies W [x] 1 rfl (by decide)
  have sm := fun (x : Nat) (h : x < 4294967296) => (show Small [x] by intro y hy; simp at hy; omega)
  have cD := fun W : World => divmod_one [7] [2] 2 (some ⟨W.heap.size, 0, none⟩) (some ⟨W.heap.size + 1, 0, none⟩) 1 1 ((W.alloc (.cells #[.int .u32 7] 33)).alloc (.cells #[.int .u32 2] 33))
    ((ll 7 W).alloc _) (by have := ll 2 (W.alloc (.cells #[.int .u32 7] 33)); simpa [ints] using this) (sm 7 (by decide)) (sm 2 (by decide)) rfl (by decide) (by decide) (by decide) (by decide)
  have cM := fun W : World => mul_any [3] [5] (some ⟨W.heap.size, 0, none⟩) (some ⟨W.heap.size + 1, 0, none⟩) 1 1 ((W.alloc (.cells #[.int .u32 3] 33)).alloc (.cells #[.int .u32 5] 33))
    ((ll 3 W).alloc _) (by have := ll 5 (W.alloc (.cells #[.int .u32 3] 33)); simpa [ints] using this) (sm 3 (by decide)) (sm 5 (by decide)) (by decide)
  have cE := fun (x : Nat) (W : World) (ao : Option Addr) (cp : Nat) (h : Lies W ao cp (ints .u32 [x])) => same_any [x] [x] ao (some ⟨W.heap.size, 0, none⟩) cp 1 (W.alloc (.cells #[.int .u32 (x : Int)] 33)) (h.alloc _) (ll x W)
  have e1 : val [7] / 2 = 3 := by decide
  have e2 : val [7] % 2 = 1 := by decide
  have e3 : val [3] * val [5] = 15 := by decide
  rw [e1, e2, nl_one 3 (by decide) (by decide), nl_one 1 (by decide) (by decide)] at cD
  rw [e3, nl_one 15 (by decide) (by decide)] at cM
  have cE3 := cE 3
  have cE1 := cE 1
  have cE5 := cE 15
  simp only [List.length_cons, List.length_nil, decide_true] at cD cM cE3 cE1 cE5
  clear ll sm e1 e2 e3 cE
  have t1 : True := trivial
  have t2 : True := trivial
  go_enter Try.func10, Try.ntmps10
  go_wp2_with (first
    | (go_at_call 16; refine (cD _).mono ?_; rintro e w1 ⟨o1, p1, o2, p2, rfl, hown1, hown2, hb1⟩)
    | (go_at_call 11; have _t := t1; clear _t t1; refine (cE3 _ _ _ (lies_of_owns hown1)).mono ?_; rintro e w2 ⟨rfl, hb2⟩; have B2 := (Below.refl _ _).alloc (Nat.le_refl _) (.cells #[.int .u32 3] 33) (w := w1); have H2 := bt B2 hb2)
    | (go_at_call 11; have _t := t2; clear _t t2; refine (cE1 _ _ _ (lies_of_owns (keep hown2 H2))).mono ?_; rintro e w3 ⟨rfl, hb3⟩)
    | (go_at_call 15; refine (cM _).mono ?_; rintro e w4 ⟨o4, p4, rfl, hown4, hb4⟩)
    | (go_at_call 11; refine (cE5 _ _ _ (lies_of_owns hown4)).mono ?_; rintro e w5 ⟨rfl, hb5⟩))
  all_goals go_ret
  have B1 : Below w.heap.size w ((w.alloc (.cells #[.int .u32 7] 33)).alloc (.cells #[.int .u32 2] 33)) := ((Below.refl _ _).alloc (Nat.le_refl _) _).alloc (by simp) _
  have C1 := bt (bt B1 hb1) H2
  have C3 := bt (C1.alloc C1.size _) hb3
  have C4 := bt ((C3.alloc C3.size _).alloc (by have := C3.size; simp; omega) _) hb4
  exact ⟨rfl, bt (C4.alloc C4.size _) hb5⟩
end Go.Proofs.Ytipmdjfhailfbaa.DivOne
