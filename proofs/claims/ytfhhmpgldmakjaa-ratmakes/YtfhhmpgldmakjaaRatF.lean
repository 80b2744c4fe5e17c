/- What a quotient of two ints answers. -/
import Derived.Test.YtfhhmpgldmakjaaRatN
namespace Go.Proofs.Ytfhhmpgldmakjaa.RatF
open Go.RowKit Mem LimbNum Limb1 Limb2 Limb3 Limb4 NatNum DivNum NatL NearL GcdA CopyL Words DivMod DivAll RatL RatM RatN

theorem tdiv_nat (a b : Nat) : ((a : Int)).tdiv (b : Int) = ((a / b : Nat) : Int) := by rw [Int.tdiv_eq_ediv_of_nonneg (Int.natCast_nonneg _)]; exact (Int.natCast_ediv _ _).symm
set_option maxRecDepth 20000 in
set_option maxHeartbeats 1000000 in
theorem frac_any (i j : Int) (w : World) (h0 : -9223372036854775808 ≤ i) (h1 : i ≤ 9223372036854775807) (h2 : -9223372036854775808 ≤ j) (h3 : j ≤ 9223372036854775807) (hj : j ≠ 0) :
    Calls Try.prog 11 #[.int .i64 i, .int .i64 j] w fun e w' => ∃ v, e = .returned (.tuple #[v, .bool true]) ∧ IsRat w' v ((decide (i < 0) != decide (j < 0)) && decide (i.natAbs / Nat.gcd i.natAbs j.natAbs ≠ 0)) (i.natAbs / Nat.gcd i.natAbs j.natAbs) (j.natAbs / Nat.gcd i.natAbs j.natAbs) ∧ Below w.heap.size w w' := by
  have cZ1 := fun (W : World) => size_any i W h0 h1
  have cZ2 := fun (W : World) => size_any j W h2 h3
  have hja : j.natAbs ≠ 0 := by omega
  have hg0 : Nat.gcd i.natAbs j.natAbs ≠ 0 := fun h => hja (Nat.gcd_eq_zero_iff.1 h).2
  have hgle : Nat.gcd i.natAbs j.natAbs ≤ j.natAbs := Nat.gcd_le_right _ (Nat.pos_of_ne_zero hja)
  have cC := fun (W : World) => common_any i.natAbs j.natAbs W (by omega) (by omega)
  have hn1 := Nat.div_le_self i.natAbs (Nat.gcd i.natAbs j.natAbs)
  have hd1 := Nat.div_le_self j.natAbs (Nat.gcd i.natAbs j.natAbs)
  have hd0 : 1 ≤ j.natAbs / Nat.gcd i.natAbs j.natAbs := (Nat.one_le_div_iff (Nat.pos_of_ne_zero hg0)).2 hgle
  have hco : Nat.gcd (i.natAbs / Nat.gcd i.natAbs j.natAbs) (j.natAbs / Nat.gcd i.natAbs j.natAbs) = 1 := Nat.coprime_div_gcd_div_gcd (Nat.pos_of_ne_zero hg0)
  have et1 := tdiv_nat i.natAbs (Nat.gcd i.natAbs j.natAbs)
  have et2 := tdiv_nat j.natAbs (Nat.gcd i.natAbs j.natAbs)
  have cS := fun (W : World) => short_any (decide (i < 0) != decide (j < 0)) (i.natAbs / Nat.gcd i.natAbs j.natAbs) (j.natAbs / Nat.gcd i.natAbs j.natAbs) W hd0 (by omega)
  have HL : Hid (Low ((decide (i < 0) != decide (j < 0)) && decide (i.natAbs / Nat.gcd i.natAbs j.natAbs ≠ 0)) (i.natAbs / Nat.gcd i.natAbs j.natAbs) (j.natAbs / Nat.gcd i.natAbs j.natAbs) ∧ i.natAbs / Nat.gcd i.natAbs j.natAbs < 18446744073709551616 ∧ j.natAbs / Nat.gcd i.natAbs j.natAbs < 18446744073709551616) := ⟨Low.of_gcd hd0 hco, by omega, by omega⟩
  have n1 : ((i.natAbs / Nat.gcd i.natAbs j.natAbs : Nat) : Int) < 18446744073709551616 := by omega
  have n2 : ((j.natAbs / Nat.gcd i.natAbs j.natAbs : Nat) : Int) < 18446744073709551616 := by omega
  have n3 : 0 ≤ ((i.natAbs / Nat.gcd i.natAbs j.natAbs : Nat) : Int) := Int.natCast_nonneg _
  have n4 : 0 ≤ ((j.natAbs / Nat.gcd i.natAbs j.natAbs : Nat) : Int) := Int.natCast_nonneg _
  generalize ((decide (i < 0) != decide (j < 0)) && decide (i.natAbs / Nat.gcd i.natAbs j.natAbs ≠ 0)) = b2 at *
  obtain ⟨b1, ebb⟩ : ∃ b, (decide (i < 0) != decide (j < 0)) = b := ⟨_, rfl⟩
  obtain ⟨bi, ebi⟩ : ∃ b, decide (i < 0) = b := ⟨_, rfl⟩
  obtain ⟨bj, ebj⟩ : ∃ b, decide (j < 0) = b := ⟨_, rfl⟩
  rw [ebb] at cS
  rw [ebi, ebj] at ebb
  have gz : (((Nat.gcd i.natAbs j.natAbs : Nat) : Int) == 0) = false := by rw [beq_eq_false_iff_ne]; omega
  have jz : (j == 0) = false := by rw [beq_eq_false_iff_ne]; exact hj
  clear hgle hn1 hd1 hd0 hco h0 h1 h2 h3
  generalize i.natAbs / Nat.gcd i.natAbs j.natAbs = n at *
  generalize j.natAbs / Nat.gcd i.natAbs j.natAbs = d at *
  generalize Nat.gcd i.natAbs j.natAbs = g at *
  generalize i.natAbs = ia at *
  generalize j.natAbs = ja at *
  have hg : (g : Int) ≠ 0 := by omega
  clear hg0 hja hj
  generalize ((ia : Nat) : Int) = IA at *
  generalize ((ja : Nat) : Int) = JA at *
  generalize ((g : Nat) : Int) = GI at *
  have hb0 : Below w.heap.size w (w.alloc (.cells #[.bool false, .int .u64 0, .int .u64 0, .pointer none] 28)) := (Below.refl _ _).alloc (Nat.le_refl _) _
  have t1 : True := trivial
  go_enter Try.func11, Try.ntmps11
  go_wp2_with (first
    | (go_at_call_of 54 (Value.int IntKind.i64 i); refine (cZ1 _).mono ?_; rintro e w1 ⟨rfl, hw⟩; have hw2 := hw.symm; clear hw; subst hw2)
    | (go_at_call_of 54 (Value.int IntKind.i64 j); refine (cZ2 _).mono ?_; rintro e w1 ⟨rfl, hw⟩; have hw2 := hw.symm; clear hw; subst hw2)
    | (go_at_call 53; refine (cC _).mono ?_; rintro e w2 ⟨rfl, hb2⟩))
  have hlt : w.heap.size < w2.heap.size := by have := hb2.size; simp at this; omega
  have k0 := box_kept (box_new w (.bool false) (.int .u64 0) (.int .u64 0) (.pointer none)) hb2 (by simp)
  have cS2 : ∀ W : World, Calls Try.prog 55 #[.bool (!(bi == bj)), .int .u64 (IntKind.u64.wrap (n : Int)), .int .u64 (IntKind.u64.wrap (d : Int))] W fun e w' => e = .returned (.agg #[.bool b2, .int .u64 (n : Int), .int .u64 ((d : Int) - 1), .pointer none]) ∧ Below W.heap.size W w' := by
    intro W
    have hwn : IntKind.u64.wrap (n : Int) = n := by rw [IntKind.wrap_u64]; omega
    have hwd : IntKind.u64.wrap (d : Int) = d := by rw [IntKind.wrap_u64]; omega
    have := cS W
    rw [← ebb] at this
    rw [hwn, hwd]
    exact this
  clear cC t1 cS
  go_region_held3 (fun _ => True) (trivial) (first
    | (go_at_call_of 54 (Value.int IntKind.i64 i); refine (cZ1 _).mono ?_; rintro e w1 ⟨rfl, hw⟩; have hw2 := hw.symm; clear hw; subst hw2)
    | (go_at_call_of 54 (Value.int IntKind.i64 j); refine (cZ2 _).mono ?_; rintro e w1 ⟨rfl, hw⟩; have hw2 := hw.symm; clear hw; subst hw2)
    | (go_at_call 55; refine (cS2 _).mono ?_; rintro e w4 ⟨rfl, hb4⟩; have k1 := box_kept (w := w2.drew) k0 hb4 hlt; obtain ⟨d0, d1, d2, d3⟩ := box0 k1; have ff := boxF k1))
  all_goals go_wp2
  all_goals
    have k2 := box_set k1 (.bool b2) (.int .u64 (n : Int)) (.int .u64 ((d : Int) - 1)) (.pointer none)
    have hB := box_below (bt (below_drewN (bt hb0 hb2) _) hb4) (Nat.le_refl _) (.bool b2) (.int .u64 (n : Int)) (.int .u64 ((d : Int) - 1)) (.pointer none)
    generalize World.setCell _ _ _ = W' at *
    obtain ⟨y0, y1, y2, y3⟩ := box0 k2
    refine bodyPost_ret (v := .tuple #[.agg #[.bool b2, .int .u64 (n : Int), .int .u64 ((d : Int) - 1), .pointer none], .bool true]) ?_ rfl ?_
    · simp [results, go_sem, y0, y1, y2, y3]
    · exact ⟨_, rfl, ⟨HL.out.1, .inl ⟨HL.out.2.1, HL.out.2.2, rfl⟩⟩, hB⟩
end Go.Proofs.Ytfhhmpgldmakjaa.RatF
