/- What making a rational number, and telling its parts, answer. -/
import Derived.Test.YtfhhmpgldmakjaaRatL
namespace Go.Proofs.Ytfhhmpgldmakjaa.RatM
open Go.RowKit Mem LimbNum Limb1 Limb2 Limb3 Limb4 NatNum DivNum NatL NearL GcdA CopyL Words DivMod DivAll RatL

theorem fits64 (n : Nat) : decide ((nb n).length ≤ 64) = decide (n < 18446744073709551616) := by
  rw [Bool.eq_iff_iff, decide_eq_true_iff, decide_eq_true_iff]
  constructor
  · intro h
    have h3 := fromL_lt (nb n)
    rw [fromL_nb] at h3
    have h4 : (2 : Nat) ^ (nb n).length ≤ 2 ^ 64 := Nat.pow_le_pow_right (by omega) h
    omega
  · exact nb_lt 64 n
theorem low_is (n : Nat) (ao : Option Addr) (cap : Nat) (w : World) (h : Lies w ao cap (ints .u32 (nl n))) :
    Calls Try.prog 80 #[.slice ao (nl n).length cap] w fun e w' => e = .returned (.tuple #[.int .u64 ((n % 18446744073709551616 : Nat) : Int), .bool (decide (n < 18446744073709551616))]) ∧ w' = w := by
  have := low_any (nl n) ao cap w h (small_nl _)
  rw [val_nl, fits64] at this
  exact this
theorem Low.of_gcd {b : Bool} {n d : Nat} (h1 : 1 ≤ d) (h2 : Nat.gcd n d = 1) : Low (b && decide (n ≠ 0)) n d := ⟨h1, h2, fun h => by simp [h]⟩
set_option maxRecDepth 20000 in
set_option maxHeartbeats 1000000 in
theorem fit_any (b : Bool) (n d : Nat) (o1 o2 : Option Addr) (c1 c2 : Nat) (w : World) (h1 : Lies w o1 c1 (ints .u32 (nl n))) (h2 : Lies w o2 c2 (ints .u32 (nl d))) (hd : 1 ≤ d) (hg : Nat.gcd n d = 1) :
    Calls Try.prog 49 #[.bool b, .slice o1 (nl n).length c1, .slice o2 (nl d).length c2] w fun e w' => ∃ v, e = .returned v ∧ IsRat w' v (b && decide (n ≠ 0)) n d ∧ Below w.heap.size w w' := by
  have cL1 := fun (W : World) (hb : Below w.heap.size w W) => low_is n o1 c1 W (h1.below hb (Nat.le_refl _))
  have cL2 := fun (W : World) (hb : Below w.heap.size w W) => low_is d o2 c2 W (h2.below hb (Nat.le_refl _))
  have hb0 : Below w.heap.size w (w.alloc (.cells #[.bool false, .int .u64 0, .int .u64 0, .pointer none] 28)) := (Below.refl _ _).alloc (Nat.le_refl _) _
  have t1 : True := trivial
  by_cases hf : n < 18446744073709551616 ∧ d < 18446744073709551616
  · have cS := fun (W : World) => short_any b n d W hd hf.2
    rw [Nat.mod_eq_of_lt hf.1, decide_eq_true hf.1] at cL1
    rw [Nat.mod_eq_of_lt hf.2, decide_eq_true hf.2] at cL2
    have HL : Hid (Low (b && decide (n ≠ 0)) n d ∧ n < 18446744073709551616 ∧ d < 18446744073709551616) := ⟨Low.of_gcd hd hg, hf⟩
    clear h1 h2 hd hg hf
    generalize (b && decide (n ≠ 0)) = b2 at *
    go_enter Try.func49, Try.ntmps49
    go_wp2_with (first
      | (go_at_call 80; have _t := t1; clear _t t1; refine (cL1 _ hb0).mono ?_; rintro e w1 ⟨rfl, hw⟩; have hw2 := hw.symm; clear hw; subst hw2)
      | (go_at_call 80; refine (cL2 _ hb0).mono ?_; rintro e w1 ⟨rfl, hw⟩; have hw2 := hw.symm; clear hw; subst hw2)
      | (go_at_call 55; refine (cS _).mono ?_; rintro e w1 ⟨rfl, hb1⟩; have k1 := box_kept (box_new w _ _ _ _) hb1 (by simp); obtain ⟨d0, d1, d2, d3⟩ := box0 k1; have ff := boxF k1))
    have k2 := box_set k1 (.bool b2) (.int .u64 (n : Int)) (.int .u64 ((d : Int) - 1)) (.pointer none)
    have hB := box_below (bt hb0 hb1) (Nat.le_refl _) (.bool b2) (.int .u64 (n : Int)) (.int .u64 ((d : Int) - 1)) (.pointer none)
    generalize World.setCell _ _ _ = W' at *
    obtain ⟨y0, y1, y2, y3⟩ := box0 k2
    refine bodyPost_ret (v := .agg #[.bool b2, .int .u64 (n : Int), .int .u64 ((d : Int) - 1), .pointer none]) ?_ rfl ?_
    · simp [results, go_sem, y0, y1, y2, y3]
    · exact ⟨_, rfl, ⟨HL.out.1, .inl ⟨HL.out.2.1, HL.out.2.2, rfl⟩⟩, hB⟩
  · have hn0 : n ≠ 0 := by rintro rfl; rw [Nat.gcd_zero_left] at hg; exact hf (by omega)
    have eb : (b && decide (n ≠ 0)) = b := by simp [hn0]
    rw [eb]
    have HL : Hid (Low b n d) := ⟨hd, hg, fun h => absurd h hn0⟩
    have HF : Hid (¬ (n < 18446744073709551616 ∧ d < 18446744073709551616)) := hf
    have H1 : Hid (Lies w o1 c1 (ints .u32 (nl n))) := h1
    have H2 : Hid (Lies w o2 c2 (ints .u32 (nl d))) := h2
    have hp : (decide (n < 18446744073709551616) && decide (d < 18446744073709551616)) = false := by rw [Bool.and_eq_false_iff]; simp; omega
    generalize ((n % 18446744073709551616 : Nat) : Int) = NI at *
    generalize ((d % 18446744073709551616 : Nat) : Int) = DI at *
    generalize decide (n < 18446744073709551616) = p at *
    generalize decide (d < 18446744073709551616) = q at *
    clear h1 h2 hd hg hf hn0 eb
    cases p
    all_goals cases q
    case true.true => simp at hp
    all_goals
      clear hp
      go_enter Try.func49, Try.ntmps49
      go_wp2_with (first
        | (go_at_call 80; have _t := t1; clear _t t1; refine (cL1 _ hb0).mono ?_; rintro e w1 ⟨rfl, hw⟩; have hw2 := hw.symm; clear hw; subst hw2)
        | (go_at_call 80; refine (cL2 _ hb0).mono ?_; rintro e w1 ⟨rfl, hw⟩; have hw2 := hw.symm; clear hw; subst hw2))
      refine bodyPost_ret (v := .agg #[.bool b, .int .u64 0, .int .u64 0, .pointer (some ⟨w.heap.size + 1, 0, none⟩)]) ?_ rfl ?_
      · simp [results, go_sem]
      · have hB : Below w.heap.size w ((w.alloc (.cells #[.bool b, .int .u64 0, .int .u64 0, .pointer (some ⟨w.heap.size + 1, 0, none⟩)] 28)).alloc (.cells #[.slice o1 (nl n).length c1, .slice o2 (nl d).length c2] 93)) := ((Below.refl _ _).alloc (Nat.le_refl _) _).alloc (by simp) _
        exact ⟨_, rfl, ⟨HL.out, .inr ⟨HF.out, w.heap.size + 1, o1, c1, o2, c2, rfl, by simp, by simp, by simp, H1.out.below hB (Nat.le_refl _), H2.out.below hB (Nat.le_refl _)⟩⟩, hB⟩
/-- Both numbers as lists. -/
theorem spread_any (v : Value) (b : Bool) (n d : Nat) (w : World) (h : IsRat w v b n d) :
    Calls Try.prog 63 #[v] w fun e w' => ∃ o1 c1 o2 c2, e = .returned (.tuple #[.slice o1 (nl n).length c1, .slice o2 (nl d).length c2]) ∧ Lies w' o1 c1 (ints .u32 (nl n)) ∧ Lies w' o2 c2 (ints .u32 (nl d)) ∧ Below w.heap.size w w' := by
  obtain ⟨hL, ⟨hn, hd, rfl⟩ | ⟨_, g, o1, c1, o2, c2, rfl, hg, e1, e2, l1, l2⟩⟩ := h
  · have cW1 := fun (W : World) => word_any n W hn
    have cW2 := fun (W : World) => word_any d W hd
    have hd1 := hL.pos
    have cD := fun (W : World) => den_any b (n : Int) (d : Int) none W (by omega) (by omega)
    clear hL hn hd hd1
    go_enter Try.func63, Try.ntmps63
    go_wp2
    have hb0 : Below w.heap.size w (w.alloc (.cells #[.bool b, .int .u64 (n : Int), .int .u64 ((d : Int) - 1), .pointer none] 28)) := (Below.refl _ _).alloc (Nat.le_refl _) _
    go_region_held3 (fun w' => w'.cell? ⟨w.heap.size, 0, none⟩ = some (.bool b) ∧ w'.cell? ⟨w.heap.size, 1, none⟩ = some (.int .u64 (n : Int)) ∧ w'.cell? ⟨w.heap.size, 2, none⟩ = some (.int .u64 ((d : Int) - 1)) ∧ w'.cell? ⟨w.heap.size, 3, none⟩ = some (.pointer none))
      (first | exact four_new _ _ _ _ _ | exact four_kept (by assumption) (by assumption)) (first
      | (go_at_call_of 74 (Value.int IntKind.u64 (n : Int)); refine (cW1 _).mono ?_; rintro e w5 ⟨o5, c5, rfl, hown5, hb5⟩)
      | (go_at_call 71; refine (cD _).mono ?_; rintro e w6 ⟨rfl, hb6⟩)
      | (go_at_call_of 74 (Value.int IntKind.u64 (d : Int)); refine (cW2 _).mono ?_; rintro e w7 ⟨o7, c7, rfl, hown7, hb7⟩))
    all_goals go_wp2
    all_goals go_ret2
    all_goals exact ⟨_, _, _, _, rfl, lies_of_owns (keep (keep hown5 hb6) hb7), lies_of_owns hown7, bt (bt (bt (below_drewN hb0 _) hb5) hb6) hb7⟩
  · have hb0 : Below w.heap.size w (w.alloc (.cells #[.bool b, .int .u64 0, .int .u64 0, .pointer (some ⟨g, 0, none⟩)] 28)) := (Below.refl _ _).alloc (Nat.le_refl _) _
    have H1 := l1.below hb0 (Nat.le_refl _)
    have H2 := l2.below hb0 (Nat.le_refl _)
    clear hL l1 l2
    go_enter Try.func63, Try.ntmps63
    go_wp2
    go_region
    all_goals go_wp2
    all_goals go_ret2
    all_goals exact ⟨_, _, _, _, rfl, H1, H2, below_drewN hb0 _⟩
end Go.Proofs.Ytfhhmpgldmakjaa.RatM
