/- For every input the law AttestWords returns true: a number of 64 bits, cut into fields and put together again, wrapped to every kind it fits, turned into zigzag and back, is the same; as limbs it is moved as a word is. No condition. -/
import Derived.Test.YtaaiogpdeahaaacRows
import Derived.WalkKit
import Derived.ProofKit
import Derived.OpenShut
import Derived.Test.YtaaiogpdeahaaacBitsL
import Derived.Test.YtaaiogpdeahaaacWords
import Derived.Test.YtaaiogpdeahaaacShiftL
namespace Go.Proofs.Ytaaiogpdeahaaac.attestWords
open Go.ChangeShapes Go.WideShapes Go.ChangeAt Go.RowKit
set_option linter.unusedVariables false      -- a walk need not use every 'w<i>' (that an integer argument fits its kind)

theorem own : ownKnob Try.prog.godebug = none := by kernel_rfl

open Mem LimbNum Limb1 Limb2 Limb4 ShiftL Words BitsL

theorem among_any (n m : Int) (h0 : 0 < m) (h1 : m ≤ 1000) : ∃ k : Nat, (k : Int) < m ∧ ∀ w : World,
    Calls Try.prog 23 #[.int .i64 n, .int .i64 m] w fun e w' => e = .returned (.int .i64 (k : Int)) ∧ w' = w := by
  have b1 := Int.tmod_lt_of_pos n h0
  have b2 : -m < n.tmod m := Int.lt_tmod_of_pos n h0
  have hne : m ≠ 0 := by omega
  generalize hr : n.tmod m = r at *
  by_cases hc : r < 0
  · refine ⟨(r + m).toNat, by omega, fun w => ?_⟩
    go_enter Try.func23, Try.ntmps23
    go_wp2
    go_ret
    exact ⟨ret_int (by omega), rfl⟩
  · refine ⟨r.toNat, by omega, fun w => ?_⟩
    go_enter Try.func23, Try.ntmps23
    go_wp2
    go_ret
    exact ⟨ret_int (by omega), rfl⟩
theorem low64 (N : Nat) (h : N < 18446744073709551616) : (nb N).length ≤ 64 := nb_lt 64 N h

set_option maxRecDepth 20000 in
set_option maxHeartbeats 2000000 in
theorem law_any (X K m : Nat) (at' n x : Int) (w : World) (hX : X < 18446744073709551616) (hK : K ≤ 64) (hm : m < 64) (hx : x = (if X < 9223372036854775808 then (X : Int) else (X : Int) - 18446744073709551616))
    (cA1 : ∀ w : World, Calls Try.prog 23 #[.int .i64 at', .int .i64 65] w fun e w' => e = .returned (.int .i64 (K : Int)) ∧ w' = w)
    (cA2 : ∀ w : World, Calls Try.prog 23 #[.int .i64 n, .int .i64 64] w fun e w' => e = .returned (.int .i64 (m : Int)) ∧ w' = w) :
    Calls Try.prog 7 #[.int .u64 (X : Int), .int .i64 at', .int .i64 n] w fun e w' => e = .returned (.bool true) ∧ Below w.heap.size w w' := by
  obtain ⟨L, H, cF1, cF2, cP⟩ := cut_join X K hX hK
  have ks : ∀ k : Int, 1 ≤ k → k ≤ 8 → Kind k X x := by
    intro k h1 h2
    rcases (show k = 1 ∨ k = 2 ∨ k = 3 ∨ k = 4 ∨ k = 5 ∨ k = 6 ∨ k = 7 ∨ k = 8 by omega) with rfl | rfl | rfl | rfl | rfl | rfl | rfl | rfl
    · exact kind1 X x hX hx
    · exact kind2 X x hX hx
    · exact kind3 X x hX hx
    · exact kind4 X x hX hx
    · exact kind5 X x hX hx
    · exact kind6 X x hX hx
    · exact kind7 X x hX hx
    · exact kind8 X x hX hx
  have cW := fun (W : World) => word_any X W hX
  have cSl := fun (W : World) (o : Option Addr) (c : Nat) (h : Lies W o c (ints .u32 (nl X))) => shl_any (nl X) (m : Int) o c W (by omega) (by omega) h (small_nl _) (by have := nl_lt 2 X (by omega); omega)
  have cSr := fun (W : World) (o : Option Addr) (c : Nat) (h : Lies W o c (ints .u32 (nl X))) => shr_any (nl X) (m : Int) o c W (by omega) (by omega) h (small_nl _) (by have := nl_lt 2 X (by omega); omega)
  rw [val_nl, Int.toNat_natCast] at cSl cSr
  have cL1 := fun (W : World) (o : Option Addr) (c : Nat) (h : Lies W o c (ints .u32 (nl (X * 2 ^ m)))) => low_any (nl (X * 2 ^ m)) o c W h (small_nl _)
  have cL2 := fun (W : World) (o : Option Addr) (c : Nat) (h : Lies W o c (ints .u32 (nl (X / 2 ^ m)))) => low_any (nl (X / 2 ^ m)) o c W h (small_nl _)
  have hdl := Nat.div_le_self X (2 ^ m)
  rw [val_nl] at cL1 cL2
  rw [Nat.mod_eq_of_lt (Nat.lt_of_le_of_lt hdl hX), decide_eq_true (low64 _ (Nat.lt_of_le_of_lt hdl hX))] at cL2
  have cM1 := fun (W : World) => move_up X m W hX hm
  have cM2 := fun (W : World) => move_down X m W hX hm
  obtain ⟨XI, eX⟩ : ∃ y : Int, y = (X : Int) := ⟨_, rfl⟩
  have hconv : wrap64 XI = x := by
    rw [hx, eX]
    unfold wrap64
    split <;> omega
  rw [← eX] at cF1 cF2 cP cW cM1 cM2
  rw [← eX]
  have hX0 : 0 ≤ XI := by omega
  have hX1 : XI < 18446744073709551616 := by omega
  have ks2 : ∀ k : Int, 1 ≤ k → k ≤ 8 → ∃ (V : Int) (b : Bool), (∀ w : World, Calls Try.prog 37 #[.int .i64 k, .int .u64 XI] w fun e w' => e = .returned (.tuple #[.int .u64 V, .bool true]) ∧ w' = w) ∧
    (∀ w : World, Calls Try.prog 38 #[.int .i64 k, .int .i64 x] w fun e w' => e = .returned (.tuple #[.bool b, .bool true]) ∧ w' = w) ∧ (b = true → k ≠ 8 → V = XI) ∧ (b = false → k ≠ 8 → k ≠ 4 → V ≠ XI) := by
    rw [eX]; exact ks
  have hKi : (K : Int) ≤ 64 := by omega
  have hmi : (m : Int) < 64 := by omega
  obtain ⟨UI, eU⟩ : ∃ y : Int, y = ((X * 2 ^ m % 18446744073709551616 : Nat) : Int) := ⟨_, rfl⟩
  obtain ⟨DI, eD⟩ : ∃ y : Int, y = ((X / 2 ^ m : Nat) : Int) := ⟨_, rfl⟩
  obtain ⟨KI, eK⟩ : ∃ y : Int, y = (K : Int) := ⟨_, rfl⟩
  obtain ⟨MI, eM⟩ : ∃ y : Int, y = (m : Int) := ⟨_, rfl⟩
  obtain ⟨NU, eNU⟩ : ∃ y, y = nl (X * 2 ^ m) := ⟨_, rfl⟩
  obtain ⟨ND, eND⟩ : ∃ y, y = nl (X / 2 ^ m) := ⟨_, rfl⟩
  obtain ⟨NX, eNX⟩ : ∃ y, y = nl X := ⟨_, rfl⟩
  obtain ⟨fb, efb⟩ : ∃ y, y = decide ((nb (X * 2 ^ m)).length ≤ 64) := ⟨_, rfl⟩
  rw [← eU] at cL1 cM1
  rw [← eD] at cL2 cM2
  rw [← eK] at cF1 cF2 cP cA1 hKi
  rw [← eM] at cSl cSr cM1 cM2 cA2 hmi
  rw [← eNU] at cSl cL1
  rw [← eND] at cSr cL2
  rw [← eNX] at cW cSl cSr
  rw [← efb] at cL1
  have hM0 : 0 ≤ MI := by omega
  have hK0 : 0 ≤ KI := by omega
  clear ks hx eX hdl hX hK hm eU eD eK eM eNU eND eNX efb
  have t1 : True := trivial
  go_enter Try.func7, Try.ntmps7
  go_wp2_with (first
    | (go_at_call 34; refine (zig3 _).mono ?_; rintro e w2 ⟨rfl, hw⟩; have hw2 := hw.symm; clear hw; subst hw2)
    | (go_at_call 33; refine (zag5 _).mono ?_; rintro e w2 ⟨rfl, hw⟩; have hw2 := hw.symm; clear hw; subst hw2)
    | (go_at_call 23; refine (cA1 _).mono ?_; rintro e w2 ⟨rfl, hw⟩; have hw2 := hw.symm; clear hw; subst hw2)
    | (go_at_call 35; have _t := t1; clear _t t1; refine (cF1 _).mono ?_; rintro e w2 ⟨rfl, hw⟩; have hw2 := hw.symm; clear hw; subst hw2)
    | (go_at_call 35; refine (cF2 _).mono ?_; rintro e w2 ⟨rfl, hw⟩; have hw2 := hw.symm; clear hw; subst hw2)
    | (go_at_call 36; refine (cP _).mono ?_; rintro e w2 ⟨rfl, hw⟩; have hw2 := hw.symm; clear hw; subst hw2))
  clear cA1 cF1 cF2 cP
  go_loop [14] (fun iv => ∃ k : Int, 1 ≤ k ∧ k ≤ 9 ∧ iv = .int .i64 k) (fun iv => (9 - intOf iv).toNat)
  case atStart => exact ⟨1, by omega, by omega, rfl⟩
  case round =>
    obtain ⟨k, hk1, hk9, rfl⟩ := hrel
    by_cases hk8 : k ≤ 8
    · obtain ⟨V, b, cWr, cFi, y1, y2⟩ := ks2 k hk1 hk8
      clear ks2 cA2 cW cSl cSr cL1 cL2 cM1 cM2
      cases b
      · clear y1
        by_cases h8 : k = 8
        · subst h8
          clear y2
          go_wp2_with (first
      | (go_at_call 37; refine (cWr _).mono ?_; rintro e w2 ⟨rfl, hw⟩; have hw2 := hw.symm; clear hw; subst hw2)
      | (go_at_call 38; refine (cFi _).mono ?_; rintro e w2 ⟨rfl, hw⟩; have hw2 := hw.symm; clear hw; subst hw2))
          go_round
          case rel => first | exact ⟨9, by omega, by omega, by rfl⟩ | exact ⟨5, by omega, by omega, by rfl⟩ | exact ⟨k + 1, by omega, by omega, by first | rfl | go_num⟩
          case measure => first | (simp [intOf]; done) | (simp [intOf]; omega)
        · by_cases h4 : k = 4
          · subst h4
            clear y2
            by_cases hv : V = XI
            · subst hv
              go_wp2_with (first
      | (go_at_call 37; refine (cWr _).mono ?_; rintro e w2 ⟨rfl, hw⟩; have hw2 := hw.symm; clear hw; subst hw2)
      | (go_at_call 38; refine (cFi _).mono ?_; rintro e w2 ⟨rfl, hw⟩; have hw2 := hw.symm; clear hw; subst hw2))
              go_round
              case rel => first | exact ⟨9, by omega, by omega, by rfl⟩ | exact ⟨5, by omega, by omega, by rfl⟩ | exact ⟨k + 1, by omega, by omega, by first | rfl | go_num⟩
              case measure => first | (simp [intOf]; done) | (simp [intOf]; omega)
            · have hvb : (V == XI) = false := by simp [hv]
              go_wp2_with (first
      | (go_at_call 37; refine (cWr _).mono ?_; rintro e w2 ⟨rfl, hw⟩; have hw2 := hw.symm; clear hw; subst hw2)
      | (go_at_call 38; refine (cFi _).mono ?_; rintro e w2 ⟨rfl, hw⟩; have hw2 := hw.symm; clear hw; subst hw2))
              go_round
              case rel => first | exact ⟨9, by omega, by omega, by rfl⟩ | exact ⟨5, by omega, by omega, by rfl⟩ | exact ⟨k + 1, by omega, by omega, by first | rfl | go_num⟩
              case measure => first | (simp [intOf]; done) | (simp [intOf]; omega)
          · have hv := y2 rfl h8 h4
            have hvb : (V == XI) = false := by simp [hv]
            have h8b : (k == 8) = false := by simp [h8]
            have h4b : (k == 4) = false := by simp [h4]
            clear y2
            go_wp2_with (first
      | (go_at_call 37; refine (cWr _).mono ?_; rintro e w2 ⟨rfl, hw⟩; have hw2 := hw.symm; clear hw; subst hw2)
      | (go_at_call 38; refine (cFi _).mono ?_; rintro e w2 ⟨rfl, hw⟩; have hw2 := hw.symm; clear hw; subst hw2))
            go_round
            case rel => first | exact ⟨9, by omega, by omega, by rfl⟩ | exact ⟨5, by omega, by omega, by rfl⟩ | exact ⟨k + 1, by omega, by omega, by first | rfl | go_num⟩
            case measure => first | (simp [intOf]; done) | (simp [intOf]; omega)
      · clear y2
        by_cases h8 : k = 8
        · subst h8
          clear y1
          go_wp2_with (first
      | (go_at_call 37; refine (cWr _).mono ?_; rintro e w2 ⟨rfl, hw⟩; have hw2 := hw.symm; clear hw; subst hw2)
      | (go_at_call 38; refine (cFi _).mono ?_; rintro e w2 ⟨rfl, hw⟩; have hw2 := hw.symm; clear hw; subst hw2))
          go_round
          case rel => first | exact ⟨9, by omega, by omega, by rfl⟩ | exact ⟨5, by omega, by omega, by rfl⟩ | exact ⟨k + 1, by omega, by omega, by first | rfl | go_num⟩
          case measure => first | (simp [intOf]; done) | (simp [intOf]; omega)
        · have hv := y1 rfl h8
          have h8b : (k == 8) = false := by simp [h8]
          subst hv
          clear y1
          go_wp2_with (first
      | (go_at_call 37; refine (cWr _).mono ?_; rintro e w2 ⟨rfl, hw⟩; have hw2 := hw.symm; clear hw; subst hw2)
      | (go_at_call 38; refine (cFi _).mono ?_; rintro e w2 ⟨rfl, hw⟩; have hw2 := hw.symm; clear hw; subst hw2))
          go_round
          case rel => first | exact ⟨9, by omega, by omega, by rfl⟩ | exact ⟨5, by omega, by omega, by rfl⟩ | exact ⟨k + 1, by omega, by omega, by first | rfl | go_num⟩
          case measure => first | (simp [intOf]; done) | (simp [intOf]; omega)
    · have hk : k = 9 := by omega
      subst hk
      clear ks2
      have u1 : True := trivial
      have u2 : True := trivial
      have u3 : True := trivial
      go_wp2_with (first
        | (go_at_call 23; refine (cA2 _).mono ?_; rintro e w2 ⟨rfl, hw⟩; have hw2 := hw.symm; clear hw; subst hw2)
        | (go_at_call 39; have _t := u1; clear _t u1; refine (cW _).mono ?_; rintro e w1 ⟨o1, p1, rfl, hown1, hb1⟩)
        | (go_at_call 24; refine (cSl _ _ _ (lies_of_owns hown1)).mono ?_; rintro e w2 ⟨o2, p2, rfl, hown2, hb2⟩; have H2 := bt hb1 hb2)
        | (go_at_call 40; have _t := u2; clear _t u2; refine (cL1 _ _ _ (lies_of_owns hown2)).mono ?_; rintro e w3 ⟨rfl, hw⟩; have hw2 := hw.symm; clear hw; subst hw2)
        | (go_at_call 39; refine (cW _).mono ?_; rintro e w4 ⟨o4, p4, rfl, hown4, hb4⟩)
        | (go_at_call 25; refine (cSr _ _ _ (lies_of_owns hown4)).mono ?_; rintro e w5 ⟨o5, p5, rfl, hown5, hb5⟩; have H5 := bt (bt H2 hb4) hb5)
        | (go_at_call 40; refine (cL2 _ _ _ (lies_of_owns hown5)).mono ?_; rintro e w3 ⟨rfl, hw⟩; have hw2 := hw.symm; clear hw; subst hw2)
        | (go_at_call 41; have _t := u3; clear _t u3; refine (cM1 _).mono ?_; rintro e w3 ⟨rfl, hw⟩; have hw2 := hw.symm; clear hw; subst hw2)
        | (go_at_call 41; refine (cM2 _).mono ?_; rintro e w3 ⟨rfl, hw⟩; have hw2 := hw.symm; clear hw; subst hw2))
      all_goals go_ret
      all_goals exact ⟨rfl, H5⟩

theorem walk (a0 : Int) (a1 : Int) (a2 : Int) (w0 : (Lit.int .u64 a0).wf = true) (w1 : (Lit.int .i64 a1).wf = true) (w2 : (Lit.int .i64 a2).wf = true) (w : World) :
    Calls Try.prog 7 #[.int .u64 a0, .int .i64 a1, .int .i64 a2] w fun e w' => e = .returned (.bool true) ∧ Below w.heap.size w w' := by
  have b0 := bounds_u64 w0
  obtain ⟨X, rfl⟩ := Int.eq_ofNat_of_zero_le b0.1
  obtain ⟨K, hK, cA1⟩ := among_any a1 65 (by omega) (by omega)
  obtain ⟨m, hm, cA2⟩ := among_any a2 64 (by omega) (by omega)
  exact law_any X K m a1 a2 _ w (by omega) (by omega) (by omega) rfl cA1 cA2

/-! ### THE ROW's STEP: WRITTEN OUT: LEAVE IT -/
set_option maxRecDepth 100000 in
theorem lifted (os : Os) (started : os.Started) (H : Type) (enc : TypeId × Value → H) :
    ReturnsInHanded {} Try.checked os 7 .any (Rows.attestWordsSpec.pre6 enc Try.prog Try.f7 Rows.attestWordsRow.domain false) (Rows.attestWordsSpec.post enc Try.prog Try.f7 false true false false) := by
  refine returnsInHanded_of_change (C := Try.checked) own started (by kernel_rfl) Try.func7
    (ChangeSpec.witness6 (enc := enc) (C := Try.checked) false ⟨#[], #[.int .u64 0, .int .i64 0, .int .i64 0], []⟩ 8 (by kernel_rfl) (by kernel_rfl) (by kernel_rfl) (by kernel_rfl)) ?_
  intro W base args ds gs before hval0 hW hcnd _
  have hval : ∀ (j : Nat) t v, Try.f7.params[j]? = some t → args[j]? = some v → Value.okWide Try.prog W .any base t v := hval0
  have hW' := hW
  obtain ⟨p, q, hA0, hV, rfl, hfz, hnd⟩ := hW
  have hA : DataW.TrodAll enc Try.prog W 0 (fun _ => true) true Try.f7.params.toList args.toList ds p := hA0
  rw [Try.params7] at hA hval
  obtain ⟨v0, vs0, d0, ds0, p0, q0, hargs, rfl, rfl, h0, r0⟩ := trodAll_cons hA
  obtain ⟨v1, vs1, d1, ds1, p1, q1, rfl, rfl, rfl, h1, r1⟩ := trodAll_cons r0
  obtain ⟨v2, vs2, d2, ds2, p2, q2, rfl, rfl, rfl, h2, r2⟩ := trodAll_cons r1
  obtain ⟨rfl, rfl, rfl⟩ := trodAll_nil r2
  obtain rfl : args = #[v0, v1, v2] := by cases args; simp_all
  obtain ⟨rfl, rfl⟩ := trodVars_none hV
  obtain ⟨a0, rfl, rfl, rfl, w0⟩ := open_int Try.underlying51 (hval 0 51 v0 rfl rfl) h0
  obtain ⟨a1, rfl, rfl, rfl, w1⟩ := open_int Try.underlying3 (hval 1 3 v1 rfl rfl) h1
  obtain ⟨a2, rfl, rfl, rfl, w2⟩ := open_int Try.underlying3 (hval 2 3 v2 rfl rfl) h2
  clear hA0 hval0
  simp only [List.append_nil] at hW'
  refine (walk a0 a1 a2 w0 w1 w2 W).mono fun e W' ⟨he, hg⟩ => ?_
  subst he
  exact ⟨_, rfl, _, _, _, [], [], [], hW', (trodAll_cons_mk (shut_bool Try.underlying4 _) trodAll_mk0), (trodAll_cons_mk (shut_int Try.underlying51 w0) (trodAll_cons_mk (shut_int Try.underlying3 w1) (trodAll_cons_mk (shut_int Try.underlying3 w2) trodAll_mk0))), rfl, hg.frame _, fun h => by cases h⟩

theorem over : Rows.attestWordsRow.holds Try.pinned (OpenSpec.ofChange Rows.attestWordsSpec) :=
  OpenClaim.holds_of_wide 7 Try.f7 rfl rfl rfl rfl rfl rfl rfl ⟨rfl, rfl, rfl, rfl, rfl⟩ rfl rfl rfl rfl rfl (by kernel_rfl) Try.func7 (by kernel_rfl)
    (of_decide_eq_true (by kernel_rfl)) (by unfold Func.isWrapper; first | (rw [if_pos (by decide +kernel)]; kernel_rfl) | (rw [if_neg (by decide +kernel)]; exact ⟨rfl, rfl⟩))
    (fun os started H enc _ => lifted os started H enc)

/-- ████ THE STATEMENT ████ -/
theorem proved : Rows.AttestWordsSaid :=
  over
end Go.Proofs.Ytaaiogpdeahaaac.attestWords
namespace Go.Proofs.Ytaaiogpdeahaaac
/-- THE STATEMENT. -/
theorem attestWords_holds : Rows.AttestWordsSaid := attestWords.proved
#print axioms attestWords_holds
end Go.Proofs.Ytaaiogpdeahaaac
