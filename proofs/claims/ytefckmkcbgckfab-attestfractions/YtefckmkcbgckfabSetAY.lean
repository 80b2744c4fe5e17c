/- rtext's Parse: a text's two numbers. -/
import Derived.Test.YtefckmkcbgckfabSetAF
import Derived.Test.YtefckmkcbgckfabSetAH
import Derived.Test.YtefckmkcbgckfabSetAG
import Derived.Test.YtefckmkcbgckfabSetAX
namespace Go.Proofs.Ytefckmkcbgckfab.PaL
open Go.RowKit Mem LimbNum Limb1 DigNum DigL StrL TxN ShelfC RatL RatM RatN NmL QNum ParseL TensAll MulW MulL

theorem dg_of_digits {l : List Nat} (hl : B8 l) (h : Digits (bs l) (bs l).size) : DG l := by
  intro d hd
  obtain ⟨i, hi, e⟩ := List.getElem_of_mem hd
  have h2 := h i (by rw [bs_size]; exact hi)
  rw [byte_bs l hl i, List.getD_eq_getElem?_getD, List.getElem?_eq_getElem hi] at h2
  rw [← e]
  exact h2
theorem parse_ok (l : List Nat) (w : World) (h : okN l = true) (hs : l.length ≤ 20000) :
    Calls Try.prog 49 #[.string (bs l)] w fun e w' => ∃ o c, e = .returned (.tuple #[.slice o (nl (dv l)).length c, .int .i64 0]) ∧ Lies w' o c (ints .u32 (nl (dv l))) ∧ Below w.heap.size w w' := by
  obtain ⟨h0, hd⟩ := ok_iff.1 h
  refine (parse_yes (bs l) w (digits_bs l hd) (by rw [bs_size]; exact List.length_pos_iff.2 h0) (by rw [bs_size]; exact hs)).mono ?_
  rw [num_all l hd]
  rintro e w' ⟨o, c, rfl, r, hb⟩
  exact ⟨o, c, rfl, lies_of_owns r, hb⟩
theorem parse_bad (l : List Nat) (w : World) (hl : B8 l) (h : okN l = false) (hs : l.length ≤ 20000) :
    Calls Try.prog 49 #[.string (bs l)] w fun e w' => e = .returned (.tuple #[.slice none 0 0, .int .i64 3]) ∧ w' = w := by
  refine parse_no (bs l) w ?_ (by rw [bs_size]; exact hs)
  by_cases h0 : l = []
  · exact .inl (by rw [h0]; rfl)
  · refine .inr (fun hd => ?_)
    rw [ok_iff.2 ⟨h0, dg_of_digits hl hd⟩] at h
    cases h
theorem bs_nil : (bs [] : ByteArray) = ByteArray.mk #[] := rfl
theorem tl_nil : (bs []).toList = [] := by rw [ByteArray.toList_eq, bs_data]; rfl
theorem tl_cons {l : List Nat} (h : l ≠ []) : ¬ (bs l).toList = [] := by
  rw [ByteArray.toList_eq, bs_data]
  cases l with
  | nil => exact absurd rfl h
  | cons x t => simp
theorem tl_emp {l : List Nat} (h : l ≠ []) : (bs l).toList.isEmpty = false := by
  have := tl_cons h
  cases e : (bs l).toList with
  | nil => exact absurd e this
  | cons x t => rfl
theorem bs_cons_ne (x : Nat) (l : List Nat) : ¬ (bs (x :: l) = ByteArray.mk #[]) := fun h => by
  have := congrArg ByteArray.size h
  rw [bs_size] at this
  simp [ByteArray.size] at this
theorem b8_cut {c : Nat} {l : List Nat} (h : B8 l) : B8 (cutN c l).1 ∧ B8 (cutN c l).2.1 ∧ (cutN c l).1.length + (cutN c l).2.1.length ≤ l.length := by
  cases e : (cutN c l).2.2
  · obtain ⟨h1, h2, _⟩ := cut_no e
    rw [h1, h2]
    exact ⟨h, fun x hx => by simp at hx, by simp⟩
  · obtain ⟨h1, _⟩ := cut_yes e
    generalize (cutN c l).1 = a at *
    generalize (cutN c l).2.1 = b at *
    subst h1
    exact ⟨fun x hx => h x (List.mem_append_left _ hx), fun x hx => h x (List.mem_append_right _ (List.mem_cons_of_mem _ hx)), by simp⟩
/-- What read answers. -/
def Reads (w : World) (e : Ending) (r : Option (Nat × Nat)) : Prop := match r with
  | none => ∃ v1 v2, e = .returned (.tuple #[v1, v2, .bool false])
  | some (n, d) => ∃ o1 c1 o2 c2, e = .returned (.tuple #[.slice o1 (nl n).length c1, .slice o2 (nl d).length c2, .bool true]) ∧ Lies w o1 c1 (ints .u32 (nl n)) ∧ Lies w o2 c2 (ints .u32 (nl d))
set_option maxRecDepth 20000 in
theorem read_bar (l a b : List Nat) (w : World) (hm : ML w) (hl : B8 l) (hs : l.length ≤ 20000) (hc : cutN 47 l = (a, b, true)) :
    Calls Try.prog 21 #[.string (bs l)] w fun e w' => Reads w' e (if okN a && okN b then some (dv a, dv b) else none) ∧ Below w.heap.size w w' := by
  have h8 := b8_cut (c := 47) hl
  have cC := cut_any l 47 w hl (by omega) (by omega) hm
  rw [hc] at h8 cC
  obtain ⟨h1, h2, h3⟩ := h8
  dsimp only at h1 h2 h3 cC
  have T1 : True := trivial
  cases ea : okN a <;> cases eb : okN b
  · have cA := fun (W : World) => parse_bad a W h1 ea (by omega)
    have cB := fun (W : World) => parse_bad b W h2 eb (by omega)
    go_enter Try.func21, Try.ntmps21
    go_wp2_with (first
      | (go_at_call 48; refine cC.mono ?_; rintro e w1 ⟨rfl, hb1⟩)
      | (go_at_call 49; have _t := T1; clear _t T1; refine (cA _).mono ?_; rintro e w2 ⟨rfl, hw⟩; have hw2 := hw.symm; clear hw; subst hw2)
      | (go_at_call 49; refine (cB _).mono ?_; rintro e w3 ⟨rfl, hw⟩; have hw3 := hw.symm; clear hw; subst hw3))
    go_ret3
    exact ⟨⟨_, _, rfl⟩, hb1⟩
  · have cA := fun (W : World) => parse_bad a W h1 ea (by omega)
    have cB := fun (W : World) => parse_ok b W eb (by omega)
    go_enter Try.func21, Try.ntmps21
    go_wp2_with (first
      | (go_at_call 48; refine cC.mono ?_; rintro e w1 ⟨rfl, hb1⟩)
      | (go_at_call 49; have _t := T1; clear _t T1; refine (cA _).mono ?_; rintro e w2 ⟨rfl, hw⟩; have hw2 := hw.symm; clear hw; subst hw2)
      | (go_at_call 49; refine (cB _).mono ?_; rintro e w3 ⟨o2, c2, rfl, r2, hb3⟩))
    go_ret3
    exact ⟨⟨_, _, rfl⟩, bt hb1 hb3⟩
  · have cA := fun (W : World) => parse_ok a W ea (by omega)
    have cB := fun (W : World) => parse_bad b W h2 eb (by omega)
    go_enter Try.func21, Try.ntmps21
    go_wp2_with (first
      | (go_at_call 48; refine cC.mono ?_; rintro e w1 ⟨rfl, hb1⟩)
      | (go_at_call 49; have _t := T1; clear _t T1; refine (cA _).mono ?_; rintro e w2 ⟨o1, c1, rfl, r1, hb2⟩)
      | (go_at_call 49; refine (cB _).mono ?_; rintro e w3 ⟨rfl, hw⟩; have hw3 := hw.symm; clear hw; subst hw3))
    go_ret3
    exact ⟨⟨_, _, rfl⟩, bt hb1 hb2⟩
  · have cA := fun (W : World) => parse_ok a W ea (by omega)
    have cB := fun (W : World) => parse_ok b W eb (by omega)
    go_enter Try.func21, Try.ntmps21
    go_wp2_with (first
      | (go_at_call 48; refine cC.mono ?_; rintro e w1 ⟨rfl, hb1⟩)
      | (go_at_call 49; have _t := T1; clear _t T1; refine (cA _).mono ?_; rintro e w2 ⟨o1, c1, rfl, r1, hb2⟩)
      | (go_at_call 49; refine (cB _).mono ?_; rintro e w3 ⟨o2, c2, rfl, r2, hb3⟩))
    go_ret3
    exact ⟨⟨o1, c1, o2, c2, rfl, r1.below hb3 (Nat.le_refl _), r2⟩, bt hb1 (bt hb2 hb3)⟩
/-- A text with a point that has nothing on one of its sides. -/
theorem read_none (l a b : List Nat) (w : World) (hm : ML w) (hl : B8 l) (hs : l.length ≤ 20000) (hc : (cutN 47 l).2.2 = false) (hp : cutN 46 l = (a, b, true)) (h : a = [] ∨ b = []) :
    Calls Try.prog 21 #[.string (bs l)] w fun e w' => Reads w' e none ∧ Below w.heap.size w w' := by
  have cC := cut_any l 47 w hl (by omega) (by omega) hm
  obtain ⟨g1, g2, _⟩ := cut_no hc
  rw [hc, g1, g2] at cC
  have cD := fun (W : World) (h : ML W) => cut_any l 46 W hl (by omega) (by omega) h
  rw [hp] at cD
  dsimp only at cD
  have T1 : True := trivial
  by_cases ha : a = []
  · subst ha
    rw [bs_nil] at cD
    go_enter Try.func21, Try.ntmps21
    go_wp2_with (first
      | (go_at_call 48; have _t := T1; clear _t T1; refine cC.mono ?_; rintro e w1 ⟨rfl, hb1⟩)
      | (go_at_call 48; refine (cD _ (hm.below hb1)).mono ?_; rintro e w2 ⟨rfl, hb2⟩))
    go_ret3
    exact ⟨⟨_, _, rfl⟩, bt hb1 hb2⟩
  · obtain rfl : b = [] := by rcases h with h | h; exact absurd h ha; exact h
    obtain ⟨x, a', rfl⟩ : ∃ x a', a = x :: a' := by cases a; exact absurd rfl ha; exact ⟨_, _, rfl⟩
    have n1 := tl_cons (l := x :: a') (by simp)
    have n2 := tl_emp (l := x :: a') (by simp)
    have z1 := tl_nil
    have z2 : (bs []).toList.isEmpty = true := by rw [z1]; rfl
    go_enter Try.func21, Try.ntmps21
    go_wp2_with (first
      | (go_at_call 48; have _t := T1; clear _t T1; refine cC.mono ?_; rintro e w1 ⟨rfl, hb1⟩)
      | (go_at_call 48; refine (cD _ (hm.below hb1)).mono ?_; rintro e w2 ⟨rfl, hb2⟩))
    go_ret3
    exact ⟨⟨_, _, rfl⟩, bt hb1 hb2⟩
/-- A text without a bar: its digits, over as many tens as stand behind its point. -/
theorem read_point (l a b : List Nat) (f : Bool) (w : World) (hm : ML w) (hl : B8 l) (hs : l.length ≤ 20000) (hc : (cutN 47 l).2.2 = false) (hp : cutN 46 l = (a, b, f)) (h : f = false ∨ (a ≠ [] ∧ b ≠ [])) :
    Calls Try.prog 21 #[.string (bs l)] w fun e w' => Reads w' e (if okN (a ++ b) then some (dv (a ++ b), 10 ^ b.length) else none) ∧ Below w.heap.size w w' := by
  have h8 := b8_cut (c := 46) hl
  have cC := cut_any l 47 w hl (by omega) (by omega) hm
  obtain ⟨g1, g2, _⟩ := cut_no hc
  rw [hc, g1, g2] at cC
  have cD := fun (W : World) (h : ML W) => cut_any l 46 W hl (by omega) (by omega) h
  rw [hp] at cD h8
  obtain ⟨h1, h2, h3⟩ := h8
  dsimp only at cD h1 h2 h3
  have T1 : True := trivial
  have hz1 : (bs a).size ≤ 20000 := by rw [bs_size]; omega
  have hz2 : (bs b).size ≤ 20000 := by rw [bs_size]; omega
  have cT := fun (W : World) => tens_any b.length W (by omega)
  rw [show ((b.length : Nat) : Int) = ((bs b).size : Int) by rw [bs_size]] at cT
  have ne1 : f = true → a ≠ [] ∧ b ≠ [] := fun e => by
    rcases h with h | h
    · rw [h] at e; cases e
    · exact h
  cases eo : okN (a ++ b)
  · have cP := fun (W : World) => parse_bad (a ++ b) W (b8_app h1 h2) eo (by simp; omega)
    rw [bs_append] at cP
    cases f
    · go_enter Try.func21, Try.ntmps21
      go_wp2_with (first
        | (go_at_call 48; have _t := T1; clear _t T1; refine cC.mono ?_; rintro e w1 ⟨rfl, hb1⟩)
        | (go_at_call 48; refine (cD _ (hm.below hb1)).mono ?_; rintro e w2 ⟨rfl, hb2⟩)
        | (go_at_call 49; refine (cP _).mono ?_; rintro e w3 ⟨rfl, hw⟩; have hw3 := hw.symm; clear hw; subst hw3)
        | (go_at_call 50; refine (cT _).mono ?_; rintro e w4 ⟨o2, c2, rfl, r2, hb4⟩))
      go_ret3
      exact ⟨⟨_, _, rfl⟩, bt hb1 (bt hb2 hb4)⟩
    · have n1 := tl_cons (ne1 rfl).1
      have n2 := tl_emp (ne1 rfl).1
      have n3 := tl_cons (ne1 rfl).2
      have n4 := tl_emp (ne1 rfl).2
      go_enter Try.func21, Try.ntmps21
      go_wp2_with (first
        | (go_at_call 48; have _t := T1; clear _t T1; refine cC.mono ?_; rintro e w1 ⟨rfl, hb1⟩)
        | (go_at_call 48; refine (cD _ (hm.below hb1)).mono ?_; rintro e w2 ⟨rfl, hb2⟩)
        | (go_at_call 49; refine (cP _).mono ?_; rintro e w3 ⟨rfl, hw⟩; have hw3 := hw.symm; clear hw; subst hw3)
        | (go_at_call 50; refine (cT _).mono ?_; rintro e w4 ⟨o2, c2, rfl, r2, hb4⟩))
      go_ret3
      exact ⟨⟨_, _, rfl⟩, bt hb1 (bt hb2 hb4)⟩
  · have cP := fun (W : World) => parse_ok (a ++ b) W eo (by simp; omega)
    rw [bs_append] at cP
    cases f
    · go_enter Try.func21, Try.ntmps21
      go_wp2_with (first
        | (go_at_call 48; have _t := T1; clear _t T1; refine cC.mono ?_; rintro e w1 ⟨rfl, hb1⟩)
        | (go_at_call 48; refine (cD _ (hm.below hb1)).mono ?_; rintro e w2 ⟨rfl, hb2⟩)
        | (go_at_call 49; refine (cP _).mono ?_; rintro e w3 ⟨o1, c1, rfl, r1, hb3⟩)
        | (go_at_call 50; refine (cT _).mono ?_; rintro e w4 ⟨o2, c2, rfl, r2, hb4⟩))
      go_ret3
      exact ⟨⟨o1, c1, o2, c2, rfl, r1.below hb4 (Nat.le_refl _), lies_of_owns r2⟩, bt hb1 (bt hb2 (bt hb3 hb4))⟩
    · have n1 := tl_cons (ne1 rfl).1
      have n2 := tl_emp (ne1 rfl).1
      have n3 := tl_cons (ne1 rfl).2
      have n4 := tl_emp (ne1 rfl).2
      go_enter Try.func21, Try.ntmps21
      go_wp2_with (first
        | (go_at_call 48; have _t := T1; clear _t T1; refine cC.mono ?_; rintro e w1 ⟨rfl, hb1⟩)
        | (go_at_call 48; refine (cD _ (hm.below hb1)).mono ?_; rintro e w2 ⟨rfl, hb2⟩)
        | (go_at_call 49; refine (cP _).mono ?_; rintro e w3 ⟨o1, c1, rfl, r1, hb3⟩)
        | (go_at_call 50; refine (cT _).mono ?_; rintro e w4 ⟨o2, c2, rfl, r2, hb4⟩))
      go_ret3
      exact ⟨⟨o1, c1, o2, c2, rfl, r1.below hb4 (Nat.le_refl _), lies_of_owns r2⟩, bt hb1 (bt hb2 (bt hb3 hb4))⟩
theorem read_any (l : List Nat) (w : World) (hm : ML w) (hl : B8 l) (hs : l.length ≤ 20000) :
    Calls Try.prog 21 #[.string (bs l)] w fun e w' => Reads w' e (readM l) ∧ Below w.heap.size w w' := by
  unfold readM
  by_cases h1 : (cutN 47 l).2.2 = true
  · rw [if_pos h1]
    exact read_bar l _ _ w hm hl hs (Prod.ext rfl (Prod.ext rfl h1))
  · rw [if_neg h1]
    have h1' : (cutN 47 l).2.2 = false := by simpa using h1
    by_cases h2 : ((cutN 46 l).2.2 && ((cutN 46 l).1.isEmpty || (cutN 46 l).2.1.isEmpty)) = true
    · rw [if_pos h2]
      simp only [Bool.and_eq_true, Bool.or_eq_true, List.isEmpty_iff] at h2
      exact read_none l _ _ w hm hl hs h1' (Prod.ext rfl (Prod.ext rfl h2.1)) h2.2
    · rw [if_neg h2]
      refine read_point l _ _ (cutN 46 l).2.2 w hm hl hs h1' (Prod.ext rfl (Prod.ext rfl rfl)) ?_
      simp only [Bool.and_eq_true, Bool.or_eq_true, List.isEmpty_iff] at h2
      cases e : (cutN 46 l).2.2
      · exact .inl rfl
      · rw [e] at h2
        simp only [true_and, not_or] at h2
        exact .inr h2
end Go.Proofs.Ytefckmkcbgckfab.PaL
