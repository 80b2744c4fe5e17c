/- For every input the law DigitsParses returns true: any text is read as the natural that its digits say, or refused as the document says. -/
import Derived.Test.YtbhmgafiookjnaaRows
import Derived.WalkKit
import Derived.ProofKit
import Derived.OpenShut
import Derived.ShutString
import Derived.Test.YtbhmgafiookjnaaAw4
import Derived.Test.YtbhmgafiookjnaaRParse
namespace Go.Proofs.Ytbhmgafiookjnaa.digitsParses
open Go.ChangeShapes Go.WideShapes Go.ChangeAt Go.RowKit
open Go.ChangeMaps (open_string shut_string)
set_option linter.unusedVariables false      -- a walk need not use every 'w<i>' (that an integer argument fits its kind)

theorem own : ownKnob Try.prog.godebug = none := by kernel_rfl

open Mem LimbNum Limb1 Limb2 Limb4 RefL NatL DigNum DigL StrL ParseL TextL Aw4 RParse

set_option maxRecDepth 20000 in
theorem law_big (s : ByteArray) (w : World) (hs : 20000 < s.size) :
    Calls Try.prog 7 #[.string s] w fun e w' => e = .returned (.bool true) ∧ Below w.heap.size w w' := by
  have cP := parse_big s w hs
  have hsi : (20000 : Int) < (s.size : Int) := by omega
  clear hs
  go_enter Try.func7, Try.ntmps7
  go_wp2_with (first
    | (go_at_call 32; refine cP.mono ?_; rintro e w2 ⟨rfl, hw⟩; have hw2 := hw.symm; clear hw; subst hw2)
    | (go_at_call 29; refine (awake4 _).mono ?_; rintro e w4 ⟨rfl, hb4⟩))
  all_goals go_ret
  exact ⟨rfl, hb4⟩
set_option maxRecDepth 20000 in
theorem law_mid_yes (s : ByteArray) (w : World) (hd : Digits s s.size) (h0 : 0 < s.size) (hs : s.size ≤ 20000) (h3 : 300 < s.size) :
    Calls Try.prog 7 #[.string s] w fun e w' => e = .returned (.bool true) ∧ Below w.heap.size w w' := by
  have cP := parse_yes s w hd h0 hs
  have hsi : (s.size : Int) ≤ 20000 := by omega
  have hsj : (300 : Int) < (s.size : Int) := by omega
  generalize nl (num s 0 s.size) = X at *
  clear hs hd h0 h3
  go_enter Try.func7, Try.ntmps7
  go_wp2_with (first
    | (go_at_call 32; refine cP.mono ?_; rintro e w2 ⟨o2, c2, rfl, hown2, hb2⟩)
    | (go_at_call 29; refine (awake4 _).mono ?_; rintro e w4 ⟨rfl, hb4⟩))
  all_goals go_ret
  exact ⟨rfl, bt hb2 hb4⟩
set_option maxRecDepth 20000 in
theorem law_mid_no (s : ByteArray) (w : World) (hd : s.size = 0 ∨ ¬ Digits s s.size) (hs : s.size ≤ 20000) (h3 : 300 < s.size) :
    Calls Try.prog 7 #[.string s] w fun e w' => e = .returned (.bool true) ∧ Below w.heap.size w w' := by
  have cP := parse_no s w hd hs
  have hsi : (s.size : Int) ≤ 20000 := by omega
  have hsj : (300 : Int) < (s.size : Int) := by omega
  clear hs hd h3
  go_enter Try.func7, Try.ntmps7
  go_wp2_with (first
    | (go_at_call 32; refine cP.mono ?_; rintro e w2 ⟨rfl, hw⟩; have hw2 := hw.symm; clear hw; subst hw2)
    | (go_at_call 29; refine (awake4 _).mono ?_; rintro e w4 ⟨rfl, hb4⟩))
  all_goals go_ret
  exact ⟨rfl, hb4⟩
theorem bad_place (s : ByteArray) (n : Nat) (h : ¬ Digits s n) : ∃ p, p < n ∧ Digits s p ∧ (byteAt s p < 48 ∨ 57 < byteAt s p) := by
  induction n with
  | zero => exact absurd (fun i hi => absurd hi (Nat.not_lt_zero _)) h
  | succ n ih =>
    by_cases h1 : Digits s n
    · refine ⟨n, by omega, h1, ?_⟩
      rcases Nat.lt_or_ge (byteAt s n) 48 with h2 | h2
      · exact .inl h2
      · rcases Nat.lt_or_ge 57 (byteAt s n) with h3 | h3
        · exact .inr h3
        · exact absurd (fun i hi => by
            rcases Nat.lt_or_ge i n with h4 | h4
            · exact h1 i h4
            · rw [show i = n by omega]; exact ⟨h2, h3⟩) h
    · obtain ⟨p, hp, r⟩ := ih h1
      exact ⟨p, by omega, r⟩
set_option maxRecDepth 20000 in
theorem law_few_no (s : ByteArray) (w : World) (hd : s.size = 0 ∨ ¬ Digits s s.size) (h3 : s.size ≤ 300) :
    Calls Try.prog 7 #[.string s] w fun e w' => e = .returned (.bool true) ∧ Below w.heap.size w w' := by
  have cP := parse_no s w hd (by omega)
  have cR : Calls Try.prog 33 #[.string s] w fun e w' => e = .returned (.tuple #[.slice none 0 0, .bool false]) ∧ Below w.heap.size w w' := by
    rcases Nat.eq_zero_or_pos s.size with h0 | h0
    · exact (rparse_none s w h0).mono fun e w' h => ⟨h.1, by rw [h.2]; exact Below.refl _ _⟩
    · obtain ⟨p, h1, h2, h4⟩ := bad_place s s.size (by rcases hd with h | h; omega; exact h)
      exact rparse_bad s p w h2 h1 h4 h3
  have hsi : (s.size : Int) ≤ 300 := by omega
  clear hd h3
  go_enter Try.func7, Try.ntmps7
  go_wp2_with (first
    | (go_at_call 32; refine cP.mono ?_; rintro e w2 ⟨rfl, hw⟩; have hw2 := hw.symm; clear hw; subst hw2)
    | (go_at_call 33; refine cR.mono ?_; rintro e w3 ⟨rfl, hb3⟩)
    | (go_at_call 29; refine (awake4 _).mono ?_; rintro e w4 ⟨rfl, hb4⟩))
  all_goals go_ret
  exact ⟨rfl, bt hb3 hb4⟩
set_option maxRecDepth 20000 in
theorem law_few_yes (s : ByteArray) (w : World) (hd : Digits s s.size) (h0 : 0 < s.size) (h3 : s.size ≤ 300) :
    Calls Try.prog 7 #[.string s] w fun e w' => e = .returned (.bool true) ∧ Below w.heap.size w w' := by
  have cP := parse_yes s w hd h0 (by omega)
  have cR := fun (W : World) => rparse_yes s W hd h0 h3
  have hlim := num_lt s 0 s.size (fun i _ hi => hd i (by omega))
  obtain ⟨X, eX⟩ : ∃ X, X = num s 0 s.size := ⟨_, rfl⟩
  rw [← eX] at cP cR hlim
  have hlb : (nb X).length ≤ 1200 := by
    obtain ⟨K, hK⟩ : ∃ K, 1200 = K := ⟨_, rfl⟩
    rw [hK]
    apply nb_lt
    have h2 : 10 ^ s.size ≤ (2 ^ 4) ^ s.size := Nat.pow_le_pow_left (by omega) _
    rw [← Nat.pow_mul] at h2
    have h4 : (2 : Nat) ^ (4 * s.size) ≤ 2 ^ K := Nat.pow_le_pow_right (by omega) (by omega)
    omega
  have cT := fun (W : World) (o : Option Addr) (c : Nat) (h : Lies W o c (bools (nb X))) => to_any (nb X) o c W h (by omega)
  rw [fromL_nb] at cT
  have cS := fun (W : World) (o1 o2 : Option Addr) (c1 c2 : Nat) (h1 : Lies W o1 c1 (ints .u32 (nl X))) (h2 : Lies W o2 c2 (ints .u32 (nl X))) => same_any (nl X) (nl X) o1 o2 c1 c2 W h1 h2
  simp only [decide_true] at cS
  have hsi : (s.size : Int) ≤ 300 := by omega
  clear hlim hlb eX hd h0 h3
  generalize nl X = NX at *
  generalize nb X = BX at *
  go_enter Try.func7, Try.ntmps7
  go_wp2_with (first
    | (go_at_call 32; refine cP.mono ?_; rintro e w2 ⟨o2, c2, rfl, hown2, hb2⟩)
    | (go_at_call 33; refine (cR _).mono ?_; rintro e w3 ⟨o3, c3, rfl, hown3, hb3⟩)
    | (go_at_call 29; refine (awake4 _).mono ?_; rintro e w4 ⟨rfl, hb4⟩)
    | (go_at_call 21; refine (cT _ _ _ (lies_of_owns (keep hown3 hb4))).mono ?_; rintro e w5 ⟨o5, c5, rfl, hown5, hb5⟩)
    | (go_at_call 14; refine (cS _ _ _ _ _ (lies_of_owns (keep (keep (keep hown2 hb3) hb4) hb5)) (lies_of_owns hown5)).mono ?_; rintro e w6 ⟨rfl, hb6⟩))
  all_goals go_ret
  exact ⟨rfl, bt (bt (bt (bt hb2 hb3) hb4) hb5) hb6⟩
theorem walk (a0 : ByteArray) (w0 : a0.size ≤ maxLen) (w : World) :
    Calls Try.prog 7 #[.string a0] w fun e w' => e = .returned (.bool true) ∧ Below w.heap.size w w' := by
  by_cases h1 : 20000 < a0.size
  · exact law_big a0 w h1
  · by_cases h2 : a0.size = 0 ∨ ¬ Digits a0 a0.size
    · by_cases h3 : 300 < a0.size
      · exact law_mid_no a0 w h2 (by omega) h3
      · exact law_few_no a0 w h2 (by omega)
    · have h4 : Digits a0 a0.size := Classical.byContradiction fun h => h2 (.inr h)
      have h5 : 0 < a0.size := by omega
      by_cases h3 : 300 < a0.size
      · exact law_mid_yes a0 w h4 h5 (by omega) h3
      · exact law_few_yes a0 w h4 h5 (by omega)

/-! ### THE ROW's STEP: WRITTEN OUT: LEAVE IT -/
set_option maxRecDepth 100000 in
theorem lifted (os : Os) (started : os.Started) (H : Type) (enc : TypeId × Value → H) :
    ReturnsInHanded {} Try.checked os 7 .any (Rows.digitsParsesSpec.pre6 enc Try.prog Try.f7 Rows.digitsParsesRow.domain false) (Rows.digitsParsesSpec.post enc Try.prog Try.f7 false true false false) := by
  refine returnsInHanded_of_change (C := Try.checked) own started (by kernel_rfl) Try.func7
    (ChangeSpec.witness6 (enc := enc) (C := Try.checked) false ⟨#[], #[.string ByteArray.empty], []⟩ 8 (by kernel_rfl) (by kernel_rfl) (by kernel_rfl) (by kernel_rfl)) ?_
  intro W base args ds gs before hval0 hW hcnd _
  have hval : ∀ (j : Nat) t v, Try.f7.params[j]? = some t → args[j]? = some v → Value.okWide Try.prog W .any base t v := hval0
  have hW' := hW
  obtain ⟨p, q, hA0, hV, rfl, hfz, hnd⟩ := hW
  have hA : DataW.TrodAll enc Try.prog W 0 (fun _ => true) true Try.f7.params.toList args.toList ds p := hA0
  rw [Try.params7] at hA hval
  obtain ⟨v0, vs0, d0, ds0, p0, q0, hargs, rfl, rfl, h0, r0⟩ := trodAll_cons hA
  obtain ⟨rfl, rfl, rfl⟩ := trodAll_nil r0
  obtain rfl : args = #[v0] := by cases args; simp_all
  obtain ⟨rfl, rfl⟩ := trodVars_none hV
  obtain ⟨a0, rfl, rfl, rfl, w0⟩ := open_string Try.underlying9 (hval 0 9 v0 rfl rfl) h0
  clear hA0 hval0
  simp only [List.append_nil] at hW'
  refine (walk a0 w0 W).mono fun e W' ⟨he, hg⟩ => ?_
  subst he
  exact ⟨_, rfl, _, _, _, [], [], [], hW', (trodAll_cons_mk (shut_bool Try.underlying4 _) trodAll_mk0), (trodAll_cons_mk (shut_string Try.underlying9 w0) trodAll_mk0), rfl, hg.frame _, fun h => by cases h⟩

theorem over : Rows.digitsParsesRow.holds Try.pinned (OpenSpec.ofChange Rows.digitsParsesSpec) :=
  OpenClaim.holds_of_wide 7 Try.f7 rfl rfl rfl rfl rfl rfl rfl ⟨rfl, rfl, rfl, rfl, rfl⟩ rfl rfl rfl rfl rfl (by kernel_rfl) Try.func7 (by kernel_rfl)
    (of_decide_eq_true (by kernel_rfl)) (by unfold Func.isWrapper; first | (rw [if_pos (by decide +kernel)]; kernel_rfl) | (rw [if_neg (by decide +kernel)]; exact ⟨rfl, rfl⟩))
    (fun os started H enc _ => lifted os started H enc)

/-- ████ THE STATEMENT ████ -/
theorem proved : Rows.DigitsParsesSaid :=
  over
end Go.Proofs.Ytbhmgafiookjnaa.digitsParses
namespace Go.Proofs.Ytbhmgafiookjnaa
/-- THE STATEMENT. -/
theorem digitsParses_holds : Rows.DigitsParsesSaid := digitsParses.proved
#print axioms digitsParses_holds
end Go.Proofs.Ytbhmgafiookjnaa
