/- rtext's Parse: a text's two numbers; rtext.Parse: the number of a text; awake of layer 6. -/
import Derived.Test.YtefckmkcbgckfaaGreatDoorSetBC
import Derived.Test.YtefckmkcbgckfaaGreatDoorSetBD
import Derived.Test.YtefckmkcbgckfaaGreatDoorSetAF
import Derived.Test.YtefckmkcbgckfaaGreatDoorSetAX
import Derived.Test.YtefckmkcbgckfaaGreatDoorSetAY
/- rtext's Parse: a text's two numbers. -/
namespace Go.Proofs.YtefckmkcbgckfaaGreatDoor.PaL
open Go.RowKit Mem LimbNum Limb1 DigNum DigL StrL TxN ShelfC RatL RatM RatN NmL QNum ParseL TensAll MulW MulL

theorem dg_of_digits {l : List Nat} (hl : B8 l) (h : Digits (bs l) (bs l).size) : DG l := by
  intro d hd
  obtain ⟨i, hi, e⟩ := List.getElem_of_mem hd
  have h2 := h i (by rw [bs_size]; exact hi)
  rw [byte_bs l hl i, List.getD_eq_getElem?_getD, List.getElem?_eq_getElem hi] at h2
  rw [← e]
  exact h2
theorem parse_ok (l : List Nat) (w : World) (h : okN l = true) (hs : l.length ≤ 20000) :
    Calls Tryz.prog 63 #[.string (bs l)] w fun e w' => ∃ o c, e = .returned (.tuple #[.slice o (nl (dv l)).length c, .int .i64 0]) ∧ Lies w' o c (ints .u32 (nl (dv l))) ∧ Below w.heap.size w w' := by
  obtain ⟨h0, hd⟩ := ok_iff.1 h
  refine (parse_yes (bs l) w (digits_bs l hd) (by rw [bs_size]; exact List.length_pos_iff.2 h0) (by rw [bs_size]; exact hs)).mono ?_
  rw [num_all l hd]
  rintro e w' ⟨o, c, rfl, r, hb⟩
  exact ⟨o, c, rfl, lies_of_owns r, hb⟩
theorem parse_bad (l : List Nat) (w : World) (hl : B8 l) (h : okN l = false) (hs : l.length ≤ 20000) :
    Calls Tryz.prog 63 #[.string (bs l)] w fun e w' => e = .returned (.tuple #[.slice none 0 0, .int .i64 3]) ∧ w' = w := by
  refine parse_no (bs l) w ?_ (by rw [bs_size]; exact hs)
  by_cases h0 : l = []
  · exact .inl (by rw [h0]; rfl)
  · refine .inr (fun hd => ?_)
    rw [ok_iff.2 ⟨h0, dg_of_digits hl hd⟩] at h
    cases h
theorem bs_nil : (bs [] : ByteArray) = ByteArray.mk #[] := rfl
theorem tl_nil : (bs []).toList = [] := by rw [ByteArray.toList_eq, bs_data]; rfl
theorem tl_cons {l : List Nat} (h : l ≠ []) : ¬ (bs l).toList = [] := by
  rw [ByteArray.toList_eq, bs_data]
  cases l with
  | nil => exact absurd rfl h
  | cons x t => simp
theorem tl_emp {l : List Nat} (h : l ≠ []) : (bs l).toList.isEmpty = false := by
  have := tl_cons h
  cases e : (bs l).toList with
  | nil => exact absurd e this
  | cons x t => rfl
theorem bs_cons_ne (x : Nat) (l : List Nat) : ¬ (bs (x :: l) = ByteArray.mk #[]) := fun h => by
  have := congrArg ByteArray.size h
  rw [bs_size] at this
  simp [ByteArray.size] at this
theorem b8_cut {c : Nat} {l : List Nat} (h : B8 l) : B8 (cutN c l).1 ∧ B8 (cutN c l).2.1 ∧ (cutN c l).1.length + (cutN c l).2.1.length ≤ l.length := by
  cases e : (cutN c l).2.2
  · obtain ⟨h1, h2, _⟩ := cut_no e
    rw [h1, h2]
    exact ⟨h, fun x hx => by simp at hx, by simp⟩
  · obtain ⟨h1, _⟩ := cut_yes e
    generalize (cutN c l).1 = a at *
    generalize (cutN c l).2.1 = b at *
    subst h1
    exact ⟨fun x hx => h x (List.mem_append_left _ hx), fun x hx => h x (List.mem_append_right _ (List.mem_cons_of_mem _ hx)), by simp⟩
/-- What read answers. -/
def Reads (w : World) (e : Ending) (r : Option (Nat × Nat)) : Prop := match r with
  | none => ∃ v1 v2, e = .returned (.tuple #[v1, v2, .bool false])
  | some (n, d) => ∃ o1 c1 o2 c2, e = .returned (.tuple #[.slice o1 (nl n).length c1, .slice o2 (nl d).length c2, .bool true]) ∧ Lies w o1 c1 (ints .u32 (nl n)) ∧ Lies w o2 c2 (ints .u32 (nl d))
set_option maxRecDepth 20000 in
theorem read_bar (l a b : List Nat) (w : World) (hm : ML w) (hl : B8 l) (hs : l.length ≤ 20000) (hc : cutN 47 l = (a, b, true)) :
    Calls Tryz.prog 33 #[.string (bs l)] w fun e w' => Reads w' e (if okN a && okN b then some (dv a, dv b) else none) ∧ Below w.heap.size w w' := by
  have h8 := b8_cut (c := 47) hl
  have cC := cut_any l 47 w hl (by omega) (by omega) hm
  rw [hc] at h8 cC
  obtain ⟨h1, h2, h3⟩ := h8
  dsimp only at h1 h2 h3 cC
  have T1 : True := trivial
  cases ea : okN a <;> cases eb : okN b
  · have cA := fun (W : World) => parse_bad a W h1 ea (by omega)
    have cB := fun (W : World) => parse_bad b W h2 eb (by omega)
    go_enter Tryz.func33, Tryz.ntmps33
    go_wp2_with (first
      | (go_at_call 62; refine cC.mono ?_; rintro e w1 ⟨rfl, hb1⟩)
      | (go_at_call 63; have _t := T1; clear _t T1; refine (cA _).mono ?_; rintro e w2 ⟨rfl, hw⟩; have hw2 := hw.symm; clear hw; subst hw2)
      | (go_at_call 63; refine (cB _).mono ?_; rintro e w3 ⟨rfl, hw⟩; have hw3 := hw.symm; clear hw; subst hw3))
    go_ret3
    exact ⟨⟨_, _, rfl⟩, hb1⟩
  · have cA := fun (W : World) => parse_bad a W h1 ea (by omega)
    have cB := fun (W : World) => parse_ok b W eb (by omega)
    go_enter Tryz.func33, Tryz.ntmps33
    go_wp2_with (first
      | (go_at_call 62; refine cC.mono ?_; rintro e w1 ⟨rfl, hb1⟩)
      | (go_at_call 63; have _t := T1; clear _t T1; refine (cA _).mono ?_; rintro e w2 ⟨rfl, hw⟩; have hw2 := hw.symm; clear hw; subst hw2)
      | (go_at_call 63; refine (cB _).mono ?_; rintro e w3 ⟨o2, c2, rfl, r2, hb3⟩))
    go_ret3
    exact ⟨⟨_, _, rfl⟩, bt hb1 hb3⟩
  · have cA := fun (W : World) => parse_ok a W ea (by omega)
    have cB := fun (W : World) => parse_bad b W h2 eb (by omega)
    go_enter Tryz.func33, Tryz.ntmps33
    go_wp2_with (first
      | (go_at_call 62; refine cC.mono ?_; rintro e w1 ⟨rfl, hb1⟩)
      | (go_at_call 63; have _t := T1; clear _t T1; refine (cA _).mono ?_; rintro e w2 ⟨o1, c1, rfl, r1, hb2⟩)
      | (go_at_call 63; refine (cB _).mono ?_; rintro e w3 ⟨rfl, hw⟩; have hw3 := hw.symm; clear hw; subst hw3))
    go_ret3
    exact ⟨⟨_, _, rfl⟩, bt hb1 hb2⟩
  · have cA := fun (W : World) => parse_ok a W ea (by omega)
    have cB := fun (W : World) => parse_ok b W eb (by omega)
    go_enter Tryz.func33, Tryz.ntmps33
    go_wp2_with (first
      | (go_at_call 62; refine cC.mono ?_; rintro e w1 ⟨rfl, hb1⟩)
      | (go_at_call 63; have _t := T1; clear _t T1; refine (cA _).mono ?_; rintro e w2 ⟨o1, c1, rfl, r1, hb2⟩)
      | (go_at_call 63; refine (cB _).mono ?_; rintro e w3 ⟨o2, c2, rfl, r2, hb3⟩))
    go_ret3
    exact ⟨⟨o1, c1, o2, c2, rfl, r1.below hb3 (Nat.le_refl _), r2⟩, bt hb1 (bt hb2 hb3)⟩
/-- A text with a point that has nothing on one of its sides. -/
theorem read_none (l a b : List Nat) (w : World) (hm : ML w) (hl : B8 l) (hs : l.length ≤ 20000) (hc : (cutN 47 l).2.2 = false) (hp : cutN 46 l = (a, b, true)) (h : a = [] ∨ b = []) :
    Calls Tryz.prog 33 #[.string (bs l)] w fun e w' => Reads w' e none ∧ Below w.heap.size w w' := by
  have cC := cut_any l 47 w hl (by omega) (by omega) hm
  obtain ⟨g1, g2, _⟩ := cut_no hc
  rw [hc, g1, g2] at cC
  have cD := fun (W : World) (h : ML W) => cut_any l 46 W hl (by omega) (by omega) h
  rw [hp] at cD
  dsimp only at cD
  have T1 : True := trivial
  by_cases ha : a = []
  · subst ha
    rw [bs_nil] at cD
    go_enter Tryz.func33, Tryz.ntmps33
    go_wp2_with (first
      | (go_at_call 62; have _t := T1; clear _t T1; refine cC.mono ?_; rintro e w1 ⟨rfl, hb1⟩)
      | (go_at_call 62; refine (cD _ (hm.below hb1)).mono ?_; rintro e w2 ⟨rfl, hb2⟩))
    go_ret3
    exact ⟨⟨_, _, rfl⟩, bt hb1 hb2⟩
  · obtain rfl : b = [] := by rcases h with h | h; exact absurd h ha; exact h
    obtain ⟨x, a', rfl⟩ : ∃ x a', a = x :: a' := by cases a; exact absurd rfl ha; exact ⟨_, _, rfl⟩
    have n1 := tl_cons (l := x :: a') (by simp)
    have n2 := tl_emp (l := x :: a') (by simp)
    have z1 := tl_nil
    have z2 : (bs []).toList.isEmpty = true := by rw [z1]; rfl
    go_enter Tryz.func33, Tryz.ntmps33
    go_wp2_with (first
      | (go_at_call 62; have _t := T1; clear _t T1; refine cC.mono ?_; rintro e w1 ⟨rfl, hb1⟩)
      | (go_at_call 62; refine (cD _ (hm.below hb1)).mono ?_; rintro e w2 ⟨rfl, hb2⟩))
    go_ret3
    exact ⟨⟨_, _, rfl⟩, bt hb1 hb2⟩
/-- A text without a bar: its digits, over as many tens as stand behind its point. -/
theorem read_point (l a b : List Nat) (f : Bool) (w : World) (hm : ML w) (hl : B8 l) (hs : l.length ≤ 20000) (hc : (cutN 47 l).2.2 = false) (hp : cutN 46 l = (a, b, f)) (h : f = false ∨ (a ≠ [] ∧ b ≠ [])) :
    Calls Tryz.prog 33 #[.string (bs l)] w fun e w' => Reads w' e (if okN (a ++ b) then some (dv (a ++ b), 10 ^ b.length) else none) ∧ Below w.heap.size w w' := by
  have h8 := b8_cut (c := 46) hl
  have cC := cut_any l 47 w hl (by omega) (by omega) hm
  obtain ⟨g1, g2, _⟩ := cut_no hc
  rw [hc, g1, g2] at cC
  have cD := fun (W : World) (h : ML W) => cut_any l 46 W hl (by omega) (by omega) h
  rw [hp] at cD h8
  obtain ⟨h1, h2, h3⟩ := h8
  dsimp only at cD h1 h2 h3
  have T1 : True := trivial
  have hz1 : (bs a).size ≤ 20000 := by rw [bs_size]; omega
  have hz2 : (bs b).size ≤ 20000 := by rw [bs_size]; omega
  have cT := fun (W : World) => tens_any b.length W (by omega)
  rw [show ((b.length : Nat) : Int) = ((bs b).size : Int) by rw [bs_size]] at cT
  have ne1 : f = true → a ≠ [] ∧ b ≠ [] := fun e => by
    rcases h with h | h
    · rw [h] at e; cases e
    · exact h
  cases eo : okN (a ++ b)
  · have cP := fun (W : World) => parse_bad (a ++ b) W (b8_app h1 h2) eo (by simp; omega)
    rw [bs_append] at cP
    cases f
    · go_enter Tryz.func33, Tryz.ntmps33
      go_wp2_with (first
        | (go_at_call 62; have _t := T1; clear _t T1; refine cC.mono ?_; rintro e w1 ⟨rfl, hb1⟩)
        | (go_at_call 62; refine (cD _ (hm.below hb1)).mono ?_; rintro e w2 ⟨rfl, hb2⟩)
        | (go_at_call 63; refine (cP _).mono ?_; rintro e w3 ⟨rfl, hw⟩; have hw3 := hw.symm; clear hw; subst hw3)
        | (go_at_call 50; refine (cT _).mono ?_; rintro e w4 ⟨o2, c2, rfl, r2, hb4⟩))
      go_ret3
      exact ⟨⟨_, _, rfl⟩, bt hb1 (bt hb2 hb4)⟩
    · have n1 := tl_cons (ne1 rfl).1
      have n2 := tl_emp (ne1 rfl).1
      have n3 := tl_cons (ne1 rfl).2
      have n4 := tl_emp (ne1 rfl).2
      go_enter Tryz.func33, Tryz.ntmps33
      go_wp2_with (first
        | (go_at_call 62; have _t := T1; clear _t T1; refine cC.mono ?_; rintro e w1 ⟨rfl, hb1⟩)
        | (go_at_call 62; refine (cD _ (hm.below hb1)).mono ?_; rintro e w2 ⟨rfl, hb2⟩)
        | (go_at_call 63; refine (cP _).mono ?_; rintro e w3 ⟨rfl, hw⟩; have hw3 := hw.symm; clear hw; subst hw3)
        | (go_at_call 50; refine (cT _).mono ?_; rintro e w4 ⟨o2, c2, rfl, r2, hb4⟩))
      go_ret3
      exact ⟨⟨_, _, rfl⟩, bt hb1 (bt hb2 hb4)⟩
  · have cP := fun (W : World) => parse_ok (a ++ b) W eo (by simp; omega)
    rw [bs_append] at cP
    cases f
    · go_enter Tryz.func33, Tryz.ntmps33
      go_wp2_with (first
        | (go_at_call 62; have _t := T1; clear _t T1; refine cC.mono ?_; rintro e w1 ⟨rfl, hb1⟩)
        | (go_at_call 62; refine (cD _ (hm.below hb1)).mono ?_; rintro e w2 ⟨rfl, hb2⟩)
        | (go_at_call 63; refine (cP _).mono ?_; rintro e w3 ⟨o1, c1, rfl, r1, hb3⟩)
        | (go_at_call 50; refine (cT _).mono ?_; rintro e w4 ⟨o2, c2, rfl, r2, hb4⟩))
      go_ret3
      exact ⟨⟨o1, c1, o2, c2, rfl, r1.below hb4 (Nat.le_refl _), lies_of_owns r2⟩, bt hb1 (bt hb2 (bt hb3 hb4))⟩
    · have n1 := tl_cons (ne1 rfl).1
      have n2 := tl_emp (ne1 rfl).1
      have n3 := tl_cons (ne1 rfl).2
      have n4 := tl_emp (ne1 rfl).2
      go_enter Tryz.func33, Tryz.ntmps33
      go_wp2_with (first
        | (go_at_call 62; have _t := T1; clear _t T1; refine cC.mono ?_; rintro e w1 ⟨rfl, hb1⟩)
        | (go_at_call 62; refine (cD _ (hm.below hb1)).mono ?_; rintro e w2 ⟨rfl, hb2⟩)
        | (go_at_call 63; refine (cP _).mono ?_; rintro e w3 ⟨o1, c1, rfl, r1, hb3⟩)
        | (go_at_call 50; refine (cT _).mono ?_; rintro e w4 ⟨o2, c2, rfl, r2, hb4⟩))
      go_ret3
      exact ⟨⟨o1, c1, o2, c2, rfl, r1.below hb4 (Nat.le_refl _), lies_of_owns r2⟩, bt hb1 (bt hb2 (bt hb3 hb4))⟩
theorem read_any (l : List Nat) (w : World) (hm : ML w) (hl : B8 l) (hs : l.length ≤ 20000) :
    Calls Tryz.prog 33 #[.string (bs l)] w fun e w' => Reads w' e (readM l) ∧ Below w.heap.size w w' := by
  unfold readM
  by_cases h1 : (cutN 47 l).2.2 = true
  · rw [if_pos h1]
    exact read_bar l _ _ w hm hl hs (Prod.ext rfl (Prod.ext rfl h1))
  · rw [if_neg h1]
    have h1' : (cutN 47 l).2.2 = false := by simpa using h1
    by_cases h2 : ((cutN 46 l).2.2 && ((cutN 46 l).1.isEmpty || (cutN 46 l).2.1.isEmpty)) = true
    · rw [if_pos h2]
      simp only [Bool.and_eq_true, Bool.or_eq_true, List.isEmpty_iff] at h2
      exact read_none l _ _ w hm hl hs h1' (Prod.ext rfl (Prod.ext rfl h2.1)) h2.2
    · rw [if_neg h2]
      refine read_point l _ _ (cutN 46 l).2.2 w hm hl hs h1' (Prod.ext rfl (Prod.ext rfl rfl)) ?_
      simp only [Bool.and_eq_true, Bool.or_eq_true, List.isEmpty_iff] at h2
      cases e : (cutN 46 l).2.2
      · exact .inl rfl
      · rw [e] at h2
        simp only [true_and, not_or] at h2
        exact .inr h2
end Go.Proofs.YtefckmkcbgckfaaGreatDoor.PaL

/- rtext.Parse: the number of a text; awake of layer 6. -/
namespace Go.Proofs.YtefckmkcbgckfaaGreatDoor.PbL
open Go.RowKit Mem LimbNum Limb1 DigNum DigL StrL TxN ShelfC RatL RatM RatN NmL QNum ParseL TensAll MulW MulL PaL PtL

theorem nofreeze {w : World} {g : Nat} {cs : Array Value} {T : TypeId} (h : w.heap[g]? = some (.cells cs T)) (i : Nat) : w.frozen? ⟨g, i, none⟩ = false := by simp [World.frozen?, h]
/-- A fraction in lowest terms. -/
def lowM (b : Bool) (n d : Nat) : Nm := ⟨b && decide (n / Nat.gcd n d ≠ 0), n / Nat.gcd n d, d / Nat.gcd n d⟩
theorem b8_sign {l : List Nat} (h : B8 l) : B8 (signM l).2 ∧ (signM l).2.length ≤ l.length := by
  unfold signM
  split
  · exact ⟨fun x hx => h x (List.mem_cons_of_mem _ hx), by simp⟩
  · exact ⟨h, Nat.le_refl _⟩
theorem dv_bits (l : List Nat) (h : okN l = true) (hs : l.length ≤ 20000) : (nl (dv l)).length ≤ 100000 := by
  have h1 := dv_lt l (ok_iff.1 h).2
  have h2 : (10 : Nat) ^ l.length ≤ 4294967296 ^ l.length := Nat.pow_le_pow_left (by omega) _
  have := nl_lt l.length (dv l) (by omega)
  omega
theorem read_len {l : List Nat} {n d : Nat} (hl : B8 l) (h : readM l = some (n, d)) (hs : l.length ≤ 20000) : (nl n).length ≤ 100000 ∧ (nl d).length ≤ 100000 := by
  have c1 := b8_cut (c := 47) hl
  have c2 := b8_cut (c := 46) hl
  unfold readM at h
  split at h
  · split at h
    · rename_i ho
      simp only [Bool.and_eq_true] at ho
      simp only [Option.some.injEq, Prod.mk.injEq] at h
      obtain ⟨rfl, rfl⟩ := h
      exact ⟨dv_bits _ ho.1 (by omega), dv_bits _ ho.2 (by omega)⟩
    · cases h
  · split at h
    · cases h
    · split at h
      · rename_i ho
        simp only [Option.some.injEq, Prod.mk.injEq] at h
        obtain ⟨rfl, rfl⟩ := h
        refine ⟨dv_bits _ ho (by rw [List.length_append]; omega), ?_⟩
        have h2 : (10 : Nat) ^ (cutN 46 l).2.1.length < 4294967296 ^ ((cutN 46 l).2.1.length + 1) :=
          Nat.lt_of_le_of_lt (Nat.pow_le_pow_left (show 10 ≤ 4294967296 by omega) _) (Nat.pow_lt_pow_right (by omega) (by omega))
        have := nl_lt _ _ h2
        omega
      · cases h
theorem isR_z (w : World) : IsR w (.agg #[.bool false, .int .u64 0, .int .u64 0, .pointer none]) (⟨false, 0, 1⟩) := Mk5.is_zero w
set_option maxRecDepth 20000 in
theorem parse_big (l : List Nat) (w : World) (hs : 20000 < l.length) :
    Calls Tryz.prog 10 #[.string (bs l)] w fun e w' => e = .returned (.tuple #[.agg #[.bool false, .int .u64 0, .int .u64 0, .pointer none], .int .i64 2]) ∧ Below w.heap.size w w' := by
  obtain ⟨W0, eW0, hb0, k0⟩ := one_new w (.cells #[.bool false, .int .u64 0, .int .u64 0, .pointer none] 28)
  have EW : Hid (_ = W0) := eW0
  clear eW0
  have q1 : (20000 : Int) < ((bs l).size : Int) := by rw [bs_size]; omega
  have e0 := cell_at k0
  have a0 : W0.cell? ⟨w.heap.size, 0, none⟩ = some (.bool false) := e0 0 _ rfl
  have a1 : W0.cell? ⟨w.heap.size, 1, none⟩ = some (.int .u64 0) := e0 1 _ rfl
  have a2 : W0.cell? ⟨w.heap.size, 2, none⟩ = some (.int .u64 0) := e0 2 _ rfl
  have a3 : W0.cell? ⟨w.heap.size, 3, none⟩ = some (.pointer none) := e0 3 _ rfl
  have ff := nofreeze k0
  clear e0
  go_enter Tryz.func10, Tryz.ntmps10
  go_upto_region 1 with fail
  rw [EW.out]
  clear EW
  go_wp2
  have k2 := sto4_box k0 (.bool false) (.int .u64 0) (.int .u64 0) (.pointer none)
  have hB := sto4_below hb0 (Nat.le_refl _) (.bool false) (.int .u64 0) (.int .u64 0) (.pointer none)
  clear a0 a1 a2 a3 ff
  generalize World.setCell _ _ _ = W' at *
  have gg := cell_at k2
  have z0 : W'.cell? ⟨w.heap.size, 0, none⟩ = some (.bool false) := gg 0 _ rfl
  have z1 : W'.cell? ⟨w.heap.size, 1, none⟩ = some (.int .u64 0) := gg 1 _ rfl
  have z2 : W'.cell? ⟨w.heap.size, 2, none⟩ = some (.int .u64 0) := gg 2 _ rfl
  have z3 : W'.cell? ⟨w.heap.size, 3, none⟩ = some (.pointer none) := gg 3 _ rfl
  refine bodyPost_ret (v := .tuple #[.agg #[.bool false, .int .u64 0, .int .u64 0, .pointer none], .int .i64 2]) ?_ rfl ?_
  · simp [results, go_sem, z0, z1, z2, z3]
  · exact ⟨rfl, hB⟩
set_option maxRecDepth 20000 in
theorem parse_none (l : List Nat) (w : World) (hm : ML w) (hl : B8 l) (hs : l.length ≤ 20000) (h : readM (signM l).2 = none) :
    Calls Tryz.prog 10 #[.string (bs l)] w fun e w' => e = .returned (.tuple #[.agg #[.bool false, .int .u64 0, .int .u64 0, .pointer none], .int .i64 3]) ∧ Below w.heap.size w w' := by
  obtain ⟨W0, eW0, hb0, k0⟩ := one_new w (.cells #[.bool false, .int .u64 0, .int .u64 0, .pointer none] 28)
  have EW : Hid (_ = W0) := eW0
  have hm0 := hm.below hb0
  clear eW0
  obtain ⟨s1, s2⟩ := b8_sign hl
  have cP := prefix_any l W0 hl (by omega)
  have cR := fun (W : World) (h2 : ML W) => read_any (signM l).2 W h2 s1 (by omega)
  rw [h] at cR
  generalize (signM l).2 = t at *
  generalize (signM l).1 = neg at *
  have q1 : ((bs l).size : Int) ≤ 20000 := by rw [bs_size]; omega
  go_enter Tryz.func10, Tryz.ntmps10
  go_upto_region 1 with fail
  rw [EW.out]
  clear EW
  go_upto_region 4 with (go_at_call 32; refine cP.mono ?_; rintro e w1 ⟨rfl, hb1⟩)
  go_upto_region 5 with (go_at_call 33; refine (cR _ (hm0.below hb1)).mono ?_; rintro e w2 ⟨⟨x1, x2, rfl⟩, hb2⟩)
  have H2 := bt hb1 hb2
  have K2 := box_kept k0 H2 (in_heap k0)
  have B2 := bt hb0 H2
  have e0 := cell_at K2
  have a0 : w2.cell? ⟨w.heap.size, 0, none⟩ = some (.bool false) := e0 0 _ rfl
  have a1 : w2.cell? ⟨w.heap.size, 1, none⟩ = some (.int .u64 0) := e0 1 _ rfl
  have a2 : w2.cell? ⟨w.heap.size, 2, none⟩ = some (.int .u64 0) := e0 2 _ rfl
  have a3 : w2.cell? ⟨w.heap.size, 3, none⟩ = some (.pointer none) := e0 3 _ rfl
  have ff := nofreeze K2
  clear e0 hb1 hb2 cP cR hm0 hm H2 k0 hb0
  go_wp2
  have k2 := sto4_box K2 (.bool false) (.int .u64 0) (.int .u64 0) (.pointer none)
  have hB := sto4_below B2 (Nat.le_refl _) (.bool false) (.int .u64 0) (.int .u64 0) (.pointer none)
  clear a0 a1 a2 a3 ff
  generalize World.setCell _ _ _ = W' at *
  have gg := cell_at k2
  have z0 : W'.cell? ⟨w.heap.size, 0, none⟩ = some (.bool false) := gg 0 _ rfl
  have z1 : W'.cell? ⟨w.heap.size, 1, none⟩ = some (.int .u64 0) := gg 1 _ rfl
  have z2 : W'.cell? ⟨w.heap.size, 2, none⟩ = some (.int .u64 0) := gg 2 _ rfl
  have z3 : W'.cell? ⟨w.heap.size, 3, none⟩ = some (.pointer none) := gg 3 _ rfl
  refine bodyPost_ret (v := .tuple #[.agg #[.bool false, .int .u64 0, .int .u64 0, .pointer none], .int .i64 3]) ?_ rfl ?_
  · simp [results, go_sem, z0, z1, z2, z3]
  · exact ⟨rfl, hB⟩
set_option maxRecDepth 20000 in
theorem parse_zero (l : List Nat) (n : Nat) (w : World) (hm : ML w) (hl : B8 l) (hs : l.length ≤ 20000) (h : readM (signM l).2 = some (n, 0)) :
    Calls Tryz.prog 10 #[.string (bs l)] w fun e w' => e = .returned (.tuple #[.agg #[.bool false, .int .u64 0, .int .u64 0, .pointer none], .int .i64 3]) ∧ Below w.heap.size w w' := by
  obtain ⟨W0, eW0, hb0, k0⟩ := one_new w (.cells #[.bool false, .int .u64 0, .int .u64 0, .pointer none] 28)
  have EW : Hid (_ = W0) := eW0
  have hm0 := hm.below hb0
  clear eW0
  obtain ⟨s1, s2⟩ := b8_sign hl
  have cP := prefix_any l W0 hl (by omega)
  have cR := fun (W : World) (h2 : ML W) => read_any (signM l).2 W h2 s1 (by omega)
  rw [h] at cR
  generalize (signM l).2 = t at *
  generalize (signM l).1 = neg at *
  have q1 : ((bs l).size : Int) ≤ 20000 := by rw [bs_size]; omega
  go_enter Tryz.func10, Tryz.ntmps10
  go_upto_region 1 with fail
  rw [EW.out]
  clear EW
  go_upto_region 4 with (go_at_call 32; refine cP.mono ?_; rintro e w1 ⟨rfl, hb1⟩)
  go_upto_region 5 with (go_at_call 33; refine (cR _ (hm0.below hb1)).mono ?_; rintro e w2 ⟨⟨o1, c1, o2, c2, rfl, r1, r2⟩, hb2⟩)
  have H2 := bt hb1 hb2
  have cM := make_no neg (nl n) (nl 0) o1 o2 c1 c2 w2 r2 (small_nl _) (by decide +kernel) (val_nl 0)
  go_upto_region 8 with (go_at_call 14; refine cM.mono ?_; rintro e w3 ⟨rfl, hb3⟩)
  obtain ⟨W3, eW3, B3, k3⟩ := one_new w3 (.cells #[.bool false, .int .u64 0, .int .u64 0, .pointer none] 28)
  rw [eW3]
  have H3 := bt H2 (bt hb3 B3)
  have K2 := box_kept k0 H3 (in_heap k0)
  have B2 := bt hb0 H3
  have e0 := cell_at K2
  have a0 : W3.cell? ⟨w.heap.size, 0, none⟩ = some (.bool false) := e0 0 _ rfl
  have a1 : W3.cell? ⟨w.heap.size, 1, none⟩ = some (.int .u64 0) := e0 1 _ rfl
  have a2 : W3.cell? ⟨w.heap.size, 2, none⟩ = some (.int .u64 0) := e0 2 _ rfl
  have a3 : W3.cell? ⟨w.heap.size, 3, none⟩ = some (.pointer none) := e0 3 _ rfl
  have ff := nofreeze K2
  clear e0 hb1 hb2 cP cR hm0 hm H2 k0 hb0 cM eW3 k3 B3 H3 hb3
  go_wp2
  have k2 := sto4_box K2 (.bool false) (.int .u64 0) (.int .u64 0) (.pointer none)
  have hB := sto4_below B2 (Nat.le_refl _) (.bool false) (.int .u64 0) (.int .u64 0) (.pointer none)
  clear a0 a1 a2 a3 ff
  generalize World.setCell _ _ _ = W' at *
  have gg := cell_at k2
  have z0 : W'.cell? ⟨w.heap.size, 0, none⟩ = some (.bool false) := gg 0 _ rfl
  have z1 : W'.cell? ⟨w.heap.size, 1, none⟩ = some (.int .u64 0) := gg 1 _ rfl
  have z2 : W'.cell? ⟨w.heap.size, 2, none⟩ = some (.int .u64 0) := gg 2 _ rfl
  have z3 : W'.cell? ⟨w.heap.size, 3, none⟩ = some (.pointer none) := gg 3 _ rfl
  refine bodyPost_ret (v := .tuple #[.agg #[.bool false, .int .u64 0, .int .u64 0, .pointer none], .int .i64 3]) ?_ rfl ?_
  · simp [results, go_sem, z0, z1, z2, z3]
  · exact ⟨rfl, hB⟩
set_option maxRecDepth 20000 in
theorem parse_some (l : List Nat) (n d : Nat) (w : World) (hm : ML w) (hl : B8 l) (hs : l.length ≤ 20000) (h : readM (signM l).2 = some (n, d)) (hd : d ≠ 0) :
    Calls Tryz.prog 10 #[.string (bs l)] w fun e w' => ∃ v, e = .returned (.tuple #[v, .int .i64 0]) ∧ IsR w' v (lowM (signM l).1 n d) ∧ Below w.heap.size w w' := by
  obtain ⟨W0, eW0, hb0, k0⟩ := one_new w (.cells #[.bool false, .int .u64 0, .int .u64 0, .pointer none] 28)
  have EW : Hid (_ = W0) := eW0
  have hm0 := hm.below hb0
  clear eW0
  obtain ⟨s1, s2⟩ := b8_sign hl
  obtain ⟨z1, z2⟩ := read_len s1 h (by omega)
  have cP := prefix_any l W0 hl (by omega)
  have cR := fun (W : World) (h2 : ML W) => read_any (signM l).2 W h2 s1 (by omega)
  rw [h] at cR
  generalize (signM l).2 = t at *
  generalize (signM l).1 = neg at *
  have q1 : ((bs l).size : Int) ≤ 20000 := by rw [bs_size]; omega
  have cM := fun (W : World) (o1 : Option Addr) (c1 : Nat) (o2 : Option Addr) (c2 : Nat) (l1 : Lies W o1 c1 (ints .u32 (nl n))) (l2 : Lies W o2 c2 (ints .u32 (nl d))) => make_any neg (nl n) (nl d) o1 o2 c1 c2 W l1 l2 (small_nl _) (small_nl _) (by omega) (by omega) (by rw [val_nl]; exact hd)
  rw [val_nl, val_nl] at cM
  go_enter Tryz.func10, Tryz.ntmps10
  go_upto_region 1 with fail
  rw [EW.out]
  clear EW
  go_upto_region 4 with (go_at_call 32; refine cP.mono ?_; rintro e w1 ⟨rfl, hb1⟩)
  go_upto_region 5 with (go_at_call 33; refine (cR _ (hm0.below hb1)).mono ?_; rintro e w2 ⟨⟨o1, c1, o2, c2, rfl, r1, r2⟩, hb2⟩)
  have H2 := bt hb1 hb2
  go_upto_region 8 with (go_at_call 14; refine (cM _ o1 c1 o2 c2 r1 r2).mono ?_; rintro e w3 ⟨v3, rfl, R3, hb3⟩; obtain ⟨vb, vA, vL, vp, rfl⟩ := IsR.shape4 (p := lowM neg n d) R3)
  obtain ⟨W3, eW3, B3, k3⟩ := one_new w3 (.cells #[.bool vb, .int .u64 vA, .int .u64 vL, .pointer vp] 28)
  rw [eW3]
  have R4 : IsR W3 (.agg #[.bool vb, .int .u64 vA, .int .u64 vL, .pointer vp]) (lowM neg n d) := IsR.below (p := lowM neg n d) R3 B3
  have H3 := bt H2 (bt hb3 B3)
  have K2 := box_kept k0 H3 (in_heap k0)
  have B2 := bt hb0 H3
  have hne : w3.heap.size ≠ w.heap.size := by
    have h1 := in_heap k0
    have h2 := (bt H2 hb3).size
    omega
  have e0 := cell_at K2
  have a0 : W3.cell? ⟨w.heap.size, 0, none⟩ = some (.bool false) := e0 0 _ rfl
  have a1 : W3.cell? ⟨w.heap.size, 1, none⟩ = some (.int .u64 0) := e0 1 _ rfl
  have a2 : W3.cell? ⟨w.heap.size, 2, none⟩ = some (.int .u64 0) := e0 2 _ rfl
  have a3 : W3.cell? ⟨w.heap.size, 3, none⟩ = some (.pointer none) := e0 3 _ rfl
  have ff := nofreeze K2
  have f0 := cell_at k3
  have b0 : W3.cell? ⟨w3.heap.size, 0, none⟩ = some (.bool vb) := f0 0 _ rfl
  have b1 : W3.cell? ⟨w3.heap.size, 1, none⟩ = some (.int .u64 vA) := f0 1 _ rfl
  have b2 : W3.cell? ⟨w3.heap.size, 2, none⟩ = some (.int .u64 vL) := f0 2 _ rfl
  have b3 : W3.cell? ⟨w3.heap.size, 3, none⟩ = some (.pointer vp) := f0 3 _ rfl
  clear e0 f0 hb1 hb2 cP cR hm0 hm H2 k0 hb0 cM eW3 k3 B3 H3 hb3 R3 r1 r2 z1 z2
  go_wp2
  have k2 := sto4_box K2 (.bool vb) (.int .u64 vA) (.int .u64 vL) (.pointer vp)
  have hB := sto4_below B2 (Nat.le_refl _) (.bool vb) (.int .u64 vA) (.int .u64 vL) (.pointer vp)
  have hR := R4.offP (plain4 K2) (sto4_off W3 w.heap.size (.bool vb) (.int .u64 vA) (.int .u64 vL) (.pointer vp)).1 (sto4_off W3 w.heap.size (.bool vb) (.int .u64 vA) (.int .u64 vL) (.pointer vp)).2
  clear a0 a1 a2 a3 ff b0 b1 b2 b3
  generalize World.setCell _ _ _ = W' at *
  have gg := cell_at k2
  have z0 : W'.cell? ⟨w.heap.size, 0, none⟩ = some (.bool vb) := gg 0 _ rfl
  have z1 : W'.cell? ⟨w.heap.size, 1, none⟩ = some (.int .u64 vA) := gg 1 _ rfl
  have z2 : W'.cell? ⟨w.heap.size, 2, none⟩ = some (.int .u64 vL) := gg 2 _ rfl
  have z3 : W'.cell? ⟨w.heap.size, 3, none⟩ = some (.pointer vp) := gg 3 _ rfl
  refine bodyPost_ret (v := .tuple #[.agg #[.bool vb, .int .u64 vA, .int .u64 vL, .pointer vp], .int .i64 0]) ?_ rfl ?_
  · simp [results, go_sem, z0, z1, z2, z3]
  · exact ⟨_, rfl, hR, hB⟩
theorem tx1 : tx 1 = [49] := by unfold tx; rw [if_neg (by omega), dl_pos (by omega), show 1 / 10 = 0 from rfl, dl_zero]; rfl
theorem tx2 : tx 2 = [50] := by unfold tx; rw [if_neg (by omega), dl_pos (by omega), show 2 / 10 = 0 from rfl, dl_zero]; rfl
theorem aw_read : readM (signM [45, 48, 46, 53, 48]).2 = some (50, 100) := by decide +kernel
theorem aw_low : lowM (signM [45, 48, 46, 53, 48]).1 50 100 = ⟨true, 1, 2⟩ := by
  have e : Nat.gcd 50 100 = 50 := by decide +kernel
  unfold lowM
  rw [e]
  rfl
theorem aw_prn : bs (prn true 1 2) = ByteArray.mk #[45, 49, 47, 50] := by unfold prn; rw [tx1, tx2]; rfl
theorem aw_smt : bs (smtN true 1 2) = ByteArray.mk #[40, 45, 32, 40, 47, 32, 49, 32, 50, 41, 41] := by unfold smtN; rw [tx1, tx2]; rfl
set_option maxRecDepth 20000 in
theorem awake6 (w : World) (hm : ML w) : Calls Tryz.prog 7 #[] w fun e w' => e = .returned (.bool true) ∧ Below w.heap.size w w' := by
  have cA := parse_some [45, 48, 46, 53, 48] 50 100 w hm (by intro x hx; simp at hx; omega) (by decide) aw_read (by omega)
  rw [aw_low, show bs [45, 48, 46, 53, 48] = ByteArray.mk #[45, 48, 46, 53, 48] from rfl] at cA
  have cP := fun (W : World) (v : Value) (h : IsR W v ⟨true, 1, 2⟩) => print_any v ⟨true, 1, 2⟩ W h (by decide +kernel) (by decide +kernel)
  have cS := fun (W : World) (v : Value) (h : IsR W v ⟨true, 1, 2⟩) => smt_any v ⟨true, 1, 2⟩ W h (by decide +kernel) (by decide +kernel)
  rw [aw_prn] at cP
  rw [aw_smt] at cS
  go_enter Tryz.func7, Tryz.ntmps7
  go_upto_region 2 with (go_at_call 10; refine cA.mono ?_; rintro e w1 ⟨v1, rfl, R1, hb1⟩; obtain ⟨vb, vA, vL, vp, rfl⟩ := R1.shape4)
  obtain ⟨W1, eW1, B1, k1⟩ := one_new w1 (.cells #[.bool vb, .int .u64 vA, .int .u64 vL, .pointer vp] 28)
  rw [eW1]
  have R2 := R1.below B1
  have H1 := bt hb1 B1
  have e0 := cell_at k1
  have a0 : W1.cell? ⟨w1.heap.size, 0, none⟩ = some (.bool vb) := e0 0 _ rfl
  have a1 : W1.cell? ⟨w1.heap.size, 1, none⟩ = some (.int .u64 vA) := e0 1 _ rfl
  have a2 : W1.cell? ⟨w1.heap.size, 2, none⟩ = some (.int .u64 vL) := e0 2 _ rfl
  have a3 : W1.cell? ⟨w1.heap.size, 3, none⟩ = some (.pointer vp) := e0 3 _ rfl
  clear eW1 e0
  go_wp2_with (first
    | (go_at_call 25; refine (cP _ _ R2).mono ?_; rintro e w2 ⟨rfl, hb2⟩; have e0 := cell_at (box_kept k1 hb2 (in_heap k1)); have d0 : w2.cell? ⟨w1.heap.size, 0, none⟩ = some (.bool vb) := e0 0 _ rfl; have d1 : w2.cell? ⟨w1.heap.size, 1, none⟩ = some (.int .u64 vA) := e0 1 _ rfl; have d2 : w2.cell? ⟨w1.heap.size, 2, none⟩ = some (.int .u64 vL) := e0 2 _ rfl; have d3 : w2.cell? ⟨w1.heap.size, 3, none⟩ = some (.pointer vp) := e0 3 _ rfl; clear e0)
    | (go_at_call 26; refine (cS _ _ (R2.below hb2)).mono ?_; rintro e w3 ⟨rfl, hb3⟩))
  go_ret
  exact ⟨rfl, bt H1 (bt hb2 hb3)⟩
end Go.Proofs.YtefckmkcbgckfaaGreatDoor.PbL
