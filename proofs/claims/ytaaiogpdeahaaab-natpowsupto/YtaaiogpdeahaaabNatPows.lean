/- For every input the law NatPows returns true: powers are exact as far as the limits go, and refused beyond them. The list has at most 1048576 places. -/
import Derived.Test.YtaaiogpdeahaaabRows
import Derived.WalkKit
import Derived.ProofKit
import Derived.OpenShut
import Derived.ShutString
import Derived.ChangeOld
import Derived.Below
import Derived.Test.YtaaiogpdeahaaabDivOne
import Derived.Test.YtaaiogpdeahaaabPowL
import Derived.Test.YtaaiogpdeahaaabBitPow
import Derived.JoinedCond
namespace Go.Proofs.Ytaaiogpdeahaaab.natPows
open Go.ChangeShapes Go.WideShapes Go.ChangeAt Go.RowKit
open Go.ChangeMaps (open_string shut_string)
set_option linter.unusedVariables false

theorem own : ownKnob Try.prog.godebug = none := by kernel_rfl
theorem laidOut : laidOutB Try.prog = true := by kernel_rfl

/-- WHAT THE WALK IS TOLD OF A SLICE OF INTEGERS THAT CAME IN: it is nil; or it leads to a row of 'cap' cells, the numbers 'zs' (the first 'len' are its elements, the rest its spare room), each fitting its kind. -/
def IsRow (k : IntKind) (w : World) (a : Option Addr) (len cap : Nat) (zs : List Int) : Prop :=
  (a = none ∧ len = 0 ∧ cap = 0 ∧ zs = []) ∨
  ∃ x, a = some x ∧ len ≤ cap ∧ cap ≤ maxLen ∧ zs.length = cap ∧ (∀ i, i < zs.length → w.cell? (x.add i) = some (.int k (zs.getD i 0))) ∧ ∀ n ∈ zs, (Lit.int k n).wf = true

open Mem LimbNum Limb1 Limb2 Limb4 RefL NatL DivOne PowL BitPow

set_option maxRecDepth 20000 in
set_option maxHeartbeats 1500000 in
theorem law_no (A : List Nat) (n : Int) (ao : Option Addr) (cap1 : Nat) (w : World) (hl : Lies w ao cap1 (ints .u32 A)) (hA : Small A) (lA : A.length ≤ 1048576) (hn : (n < 0 ∨ 1000 < n) ∨ (0 < n ∧ n ≤ 1000 ∧ 100000 / n < (bitLen (val A) : Int))) :
    Calls Try.prog 4 #[.slice ao A.length cap1, .int .i64 n] w fun e w' => e = .returned (.bool true) ∧ Below w.heap.size w w' := by
  have cC := copy_any A ao cap1 w hl (by omega)
  have cP := fun (W : World) (o : Option Addr) (c : Nat) (h : Lies W o c (ints .u32 A)) => (show Calls Try.prog 20 #[.slice o A.length c, .int .i64 n] W fun e w' => e = .returned (.tuple #[.slice none 0 0, .bool false]) ∧ Below W.heap.size W w' from by
    rcases hn with hn | ⟨h0, h1, h2⟩
    · exact pow_out A n o c W hn
    · exact pow_big A n o c W h hA (by omega) h0 h1 h2)
  have cO := fun (W : World) (hb : Below w.heap.size w W) => of_any A ao cap1 W (hl.below hb (Nat.le_refl _)) hA (by omega)
  rw [← len_nb] at hn
  clear hl hA lA
  generalize nb (val A) = X at *
  rcases hn with (hn | hn) | ⟨h0, h1, h2⟩
  · go_enter Try.func4, Try.ntmps4
    go_wp2_with (first
      | (go_at_call 11; refine cC.mono ?_; rintro e w1 ⟨o1, p1, rfl, hown1, hb1⟩)
      | (go_at_call 20; refine (cP _ _ _ (lies_of_owns hown1)).mono ?_; rintro e w2 ⟨rfl, hb2⟩; have H2 := bt hb1 hb2)
      | (go_at_call 13; refine (cO _ H2).mono ?_; rintro e w3 ⟨o3, p3, rfl, hown3, hb3⟩; have H3 := bt H2 hb3)
      | (go_at_call 14; refine (awake3 _).mono ?_; rintro e w4 ⟨rfl, hb4⟩))
    all_goals go_ret
    all_goals exact ⟨rfl, bt H3 hb4⟩
  · have d1 : decide (n < 0) = false := by simp; omega
    go_enter Try.func4, Try.ntmps4
    go_wp2_with (first
      | (go_at_call 11; refine cC.mono ?_; rintro e w1 ⟨o1, p1, rfl, hown1, hb1⟩)
      | (go_at_call 20; refine (cP _ _ _ (lies_of_owns hown1)).mono ?_; rintro e w2 ⟨rfl, hb2⟩; have H2 := bt hb1 hb2)
      | (go_at_call 13; refine (cO _ H2).mono ?_; rintro e w3 ⟨o3, p3, rfl, hown3, hb3⟩; have H3 := bt H2 hb3)
      | (go_at_call 14; refine (awake3 _).mono ?_; rintro e w4 ⟨rfl, hb4⟩))
    all_goals go_ret
    all_goals exact ⟨rfl, bt H3 hb4⟩
  · have ht : (100000 : Int).tdiv n = 100000 / n := Int.tdiv_eq_ediv_of_nonneg (by omega)
    have hD0 : 0 ≤ (100000 : Int) / n := Int.ediv_nonneg (by omega) (by omega)
    have hD1 : (100000 : Int) / n ≤ 100000 := Int.ediv_le_self _ (by omega)
    generalize (100000 : Int) / n = D at *
    go_enter Try.func4, Try.ntmps4
    go_wp2_with (first
      | (go_at_call 11; refine cC.mono ?_; rintro e w1 ⟨o1, p1, rfl, hown1, hb1⟩)
      | (go_at_call 20; refine (cP _ _ _ (lies_of_owns hown1)).mono ?_; rintro e w2 ⟨rfl, hb2⟩; have H2 := bt hb1 hb2)
      | (go_at_call 13; refine (cO _ H2).mono ?_; rintro e w3 ⟨o3, p3, rfl, hown3, hb3⟩; have H3 := bt H2 hb3)
      | (go_at_call 14; refine (awake3 _).mono ?_; rintro e w4 ⟨rfl, hb4⟩))
    all_goals go_ret
    all_goals exact ⟨rfl, bt H3 hb4⟩

set_option maxRecDepth 20000 in
set_option maxHeartbeats 1500000 in
theorem law_yes (A : List Nat) (n : Nat) (ao : Option Addr) (cap1 : Nat) (w : World) (hl : Lies w ao cap1 (ints .u32 A)) (hA : Small A) (lA : A.length ≤ 1048576) (hn : n ≤ 1000) (hbt : bitLen (val A) * n ≤ 100000) :
    Calls Try.prog 4 #[.slice ao A.length cap1, .int .i64 (n : Int)] w fun e w' => e = .returned (.bool true) ∧ Below w.heap.size w w' := by
  have cC := copy_any A ao cap1 w hl (by omega)
  have cP := fun (W : World) (o : Option Addr) (c : Nat) (h : Lies W o c (ints .u32 A)) => (show Calls Try.prog 20 #[.slice o A.length c, .int .i64 (n : Int)] W fun e w' => ∃ ao' cap', e = .returned (.tuple #[.slice ao' (nl (val A ^ n)).length cap', .bool true]) ∧ w'.ownsRow W.heap.size 33 1 (.slice ao' (nl (val A ^ n)).length cap') (nl (val A ^ n)).length (ints .u32 (nl (val A ^ n))) ∧ Below W.heap.size W w' from by
    rcases Nat.eq_zero_or_pos n with rfl | h0
    · exact pow_zero A o c W
    · exact pow_core A n o c W h hA (by omega) h0 hn hbt)
  have cO := fun (W : World) (hb : Below w.heap.size w W) => of_any A ao cap1 W (hl.below hb (Nat.le_refl _)) hA (by omega)
  rw [← len_nb] at hbt
  have hb2 : n = 0 ∨ ((nb (val A)).length : Int) ≤ 100000 / (n : Int) := by
    rcases Nat.eq_zero_or_pos n with h0 | h0
    · exact .inl h0
    · right
      rw [Int.le_ediv_iff_mul_le (by omega)]
      have : (((nb (val A)).length * n : Nat) : Int) ≤ 100000 := by omega
      rwa [Int.natCast_mul] at this
  by_cases hbig : 40 < n ∧ 2 < (nb (val A)).length
  · obtain ⟨q1, q2⟩ := hbig
    have hb3 : ((nb (val A)).length : Int) ≤ 100000 / (n : Int) := by rcases hb2 with h | h; omega; exact h
    have ht : (100000 : Int).tdiv (n : Int) = 100000 / (n : Int) := Int.tdiv_eq_ediv_of_nonneg (by omega)
    have hD0 : 0 ≤ (100000 : Int) / (n : Int) := Int.ediv_nonneg (by omega) (by omega)
    have hD1 : (100000 : Int) / (n : Int) ≤ 100000 := Int.ediv_le_self _ (by omega)
    generalize (100000 : Int) / (n : Int) = D at *
    obtain ⟨x, ex⟩ : ∃ x : Int, x = (n : Int) := ⟨_, rfl⟩
    rw [← ex] at cP ht
    rw [← ex]
    have hx0 : 40 < x := by omega
    have hx1 : x ≤ 1000 := by omega
    clear hl hA lA hbt hb2 ex hn q1
    generalize nb (val A) = X at *
    generalize nl (val A ^ n) = NP at *
    have q3 : (2 : Int) < (X.length : Int) := by omega
    go_enter Try.func4, Try.ntmps4
    go_wp2_with (first
      | (go_at_call 11; refine cC.mono ?_; rintro e w1 ⟨o1, p1, rfl, hown1, hb1⟩)
      | (go_at_call 20; refine (cP _ _ _ (lies_of_owns hown1)).mono ?_; rintro e w2 ⟨o2, p2, rfl, hown2, hb2⟩; have H2 := bt hb1 hb2)
      | (go_at_call 13; refine (cO _ H2).mono ?_; rintro e w3 ⟨o3, p3, rfl, hown3, hb3⟩; have H3 := bt H2 hb3)
      | (go_at_call 14; refine (awake3 _).mono ?_; rintro e w4 ⟨rfl, hb4⟩))
    all_goals go_ret
    all_goals exact ⟨rfl, bt H3 hb4⟩
  · have hX : (nb (val A)).length ≤ 100000 ∨ n = 0 := by
      rcases Nat.eq_zero_or_pos n with h0 | h0
      · exact .inr h0
      · left
        have := Nat.le_mul_of_pos_right (nb (val A)).length h0
        omega
    have cR := fun (W : World) (o : Option Addr) (c : Nat) (h : Lies W o c (bools (nb (val A)))) => rpow_core (val A) n (val A ^ n) rfl o c W h hX hbt hn
    have hl3 := bpow_len (val A) n n (Nat.le_refl _) hbt
    have cT := fun (W : World) (o : Option Addr) (c : Nat) (h : Lies W o c (bools (nb (val A ^ n)))) => to_any (nb (val A ^ n)) o c W h (by omega)
    rw [fromL_nb] at cT
    have cS := fun (W : World) (o1 o2 : Option Addr) (c1 c2 : Nat) (h1 : Lies W o1 c1 (ints .u32 (nl (val A ^ n)))) (h2 : Lies W o2 c2 (ints .u32 (nl (val A ^ n)))) => same_any (nl (val A ^ n)) (nl (val A ^ n)) o1 o2 c1 c2 W h1 h2
    simp only [decide_true] at cS
    clear hl hA lA hbt hX hl3
    generalize nl (val A ^ n) = NP at *
    generalize nb (val A ^ n) = BP at *
    generalize nb (val A) = X at *
    rcases Nat.eq_zero_or_pos n with h0 | h0
    · subst h0
      clear hb2 hbig
      go_enter Try.func4, Try.ntmps4
      go_wp2_with (first
        | (go_at_call 11; refine cC.mono ?_; rintro e w1 ⟨o1, p1, rfl, hown1, hb1⟩)
        | (go_at_call 20; refine (cP _ _ _ (lies_of_owns hown1)).mono ?_; rintro e w2 ⟨o2, p2, rfl, hown2, hb2⟩; have H2 := bt hb1 hb2)
        | (go_at_call 13; refine (cO _ H2).mono ?_; rintro e w3 ⟨o3, p3, rfl, hown3, hb3⟩; have H3 := bt H2 hb3)
        | (go_at_call 14; refine (awake3 _).mono ?_; rintro e w4 ⟨rfl, hb4⟩; have H4 := bt H3 hb4; have r2 := keep (keep hown2 hb3) hb4)
        | (go_at_call 21; refine (cR _ _ _ (lies_of_owns (keep hown3 hb4))).mono ?_; rintro e w5 ⟨o5, p5, rfl, hown5, hb5⟩; have H5 := bt H4 hb5)
        | (go_at_call 16; refine (cT _ _ _ (lies_of_owns hown5)).mono ?_; rintro e w6 ⟨o6, p6, rfl, hown6, hb6⟩; have H6 := bt H5 hb6)
        | (go_at_call 15; refine (cS _ _ _ _ _ (lies_of_owns (keep (keep r2 hb5) hb6)) (lies_of_owns hown6)).mono ?_; rintro e w7 ⟨rfl, hb7⟩))
      all_goals go_ret
      all_goals exact ⟨rfl, bt H6 hb7⟩
    · have hb3 : (X.length : Int) ≤ 100000 / (n : Int) := by rcases hb2 with h | h; omega; exact h
      have ht : (100000 : Int).tdiv (n : Int) = 100000 / (n : Int) := Int.tdiv_eq_ediv_of_nonneg (by omega)
      have hD0 : 0 ≤ (100000 : Int) / (n : Int) := Int.ediv_nonneg (by omega) (by omega)
      have hD1 : (100000 : Int) / (n : Int) ≤ 100000 := Int.ediv_le_self _ (by omega)
      generalize (100000 : Int) / (n : Int) = D at *
      obtain ⟨x, ex⟩ : ∃ x : Int, x = (n : Int) := ⟨_, rfl⟩
      rw [← ex] at cP ht cR
      rw [← ex]
      have hx0 : 0 < x := by omega
      have hx1 : x ≤ 1000 := by omega
      by_cases h40 : x ≤ 40
      · clear hb2 hbig ex hn h0
        go_enter Try.func4, Try.ntmps4
        go_wp2_with (first
          | (go_at_call 11; refine cC.mono ?_; rintro e w1 ⟨o1, p1, rfl, hown1, hb1⟩)
          | (go_at_call 20; refine (cP _ _ _ (lies_of_owns hown1)).mono ?_; rintro e w2 ⟨o2, p2, rfl, hown2, hb2⟩; have H2 := bt hb1 hb2)
          | (go_at_call 13; refine (cO _ H2).mono ?_; rintro e w3 ⟨o3, p3, rfl, hown3, hb3⟩; have H3 := bt H2 hb3)
          | (go_at_call 14; refine (awake3 _).mono ?_; rintro e w4 ⟨rfl, hb4⟩; have H4 := bt H3 hb4; have r2 := keep (keep hown2 hb3) hb4)
          | (go_at_call 21; refine (cR _ _ _ (lies_of_owns (keep hown3 hb4))).mono ?_; rintro e w5 ⟨o5, p5, rfl, hown5, hb5⟩; have H5 := bt H4 hb5)
          | (go_at_call 16; refine (cT _ _ _ (lies_of_owns hown5)).mono ?_; rintro e w6 ⟨o6, p6, rfl, hown6, hb6⟩; have H6 := bt H5 hb6)
          | (go_at_call 15; refine (cS _ _ _ _ _ (lies_of_owns (keep (keep r2 hb5) hb6)) (lies_of_owns hown6)).mono ?_; rintro e w7 ⟨rfl, hb7⟩))
        all_goals go_ret
        all_goals exact ⟨rfl, bt H6 hb7⟩
      · have hx2 : 40 < x := by omega
        have hx3 : (X.length : Int) ≤ 2 := by omega
        clear hb2 hbig ex hn h0
        go_enter Try.func4, Try.ntmps4
        go_wp2_with (first
          | (go_at_call 11; refine cC.mono ?_; rintro e w1 ⟨o1, p1, rfl, hown1, hb1⟩)
          | (go_at_call 20; refine (cP _ _ _ (lies_of_owns hown1)).mono ?_; rintro e w2 ⟨o2, p2, rfl, hown2, hb2⟩; have H2 := bt hb1 hb2)
          | (go_at_call 13; refine (cO _ H2).mono ?_; rintro e w3 ⟨o3, p3, rfl, hown3, hb3⟩; have H3 := bt H2 hb3)
          | (go_at_call 14; refine (awake3 _).mono ?_; rintro e w4 ⟨rfl, hb4⟩; have H4 := bt H3 hb4; have r2 := keep (keep hown2 hb3) hb4)
          | (go_at_call 21; refine (cR _ _ _ (lies_of_owns (keep hown3 hb4))).mono ?_; rintro e w5 ⟨o5, p5, rfl, hown5, hb5⟩; have H5 := bt H4 hb5)
          | (go_at_call 16; refine (cT _ _ _ (lies_of_owns hown5)).mono ?_; rintro e w6 ⟨o6, p6, rfl, hown6, hb6⟩; have H6 := bt H5 hb6)
          | (go_at_call 15; refine (cS _ _ _ _ _ (lies_of_owns (keep (keep r2 hb5) hb6)) (lies_of_owns hown6)).mono ?_; rintro e w7 ⟨rfl, hb7⟩))
        all_goals go_ret
        all_goals exact ⟨rfl, bt H6 hb7⟩

theorem walk (a0 : Option Addr) (len0 cap0 : Nat) (z0 : List Int) (a1 : Int) (w : World) (w0 : IsRow .u32 w a0 len0 cap0 z0) (w1 : (Lit.int .i64 a1).wf = true) (u : cap0 ≤ 1048576) :
    Calls Try.prog 4 #[.slice a0 len0 cap0, .int .i64 a1] w fun e w' => e = .returned (.bool true) ∧ Below w.heap.size w w' := by
  obtain ⟨A, rfl, hl, hA⟩ := lies_of_row nonneg_u32 w0
  have sA : Small A := fun x hx => by have := (bounds_u32 (hA x hx)).2; omega
  have e1 := hl.1
  rw [ints_length] at e1
  by_cases h1 : a1 < 0 ∨ 1000 < a1
  · exact law_no A a1 a0 cap0 w hl sA (by omega) (.inl h1)
  · by_cases h2 : 0 < a1 ∧ 100000 / a1 < (bitLen (val A) : Int)
    · exact law_no A a1 a0 cap0 w hl sA (by omega) (.inr ⟨h2.1, by omega, h2.2⟩)
    · obtain ⟨n, rfl⟩ := Int.eq_ofNat_of_zero_le (show 0 ≤ a1 by omega)
      refine law_yes A n a0 cap0 w hl sA (by omega) (by omega) ?_
      rcases Nat.eq_zero_or_pos n with h0 | h0
      · rw [h0]; omega
      · have h3 : (bitLen (val A) : Int) ≤ 100000 / (n : Int) := by
          rcases Int.lt_or_le (100000 / (n : Int)) (bitLen (val A) : Int) with h | h
          · exact absurd ⟨by omega, h⟩ h2
          · exact h
        rw [Int.le_ediv_iff_mul_le (by omega), ← Int.natCast_mul] at h3
        omega

/-! ### THE ROW's STEP: WRITTEN OUT: LEAVE IT -/
set_option maxRecDepth 100000 in
theorem lifted (os : Os) (started : os.Started) (H : Type) (enc : TypeId × Value → H) (F : Stop.Interp) :
    ReturnsInHanded {} Try.checked os 4 .any ((Rows.OpenSpec.upto Rows.natPowsSpec).pre6 enc Try.prog Try.f4 Rows.natPowsUptoRow.domain false) (((Rows.OpenSpec.upto Rows.natPowsSpec).at F).post enc Try.prog Try.f4 false true false false) := by
  refine returnsInHanded_of_cond (C := Try.checked) (s := Rows.OpenSpec.upto Rows.natPowsSpec) (k := Rows.uptoSmall) rfl own started (by kernel_rfl) Try.func4
    (OpenSpec.witness (enc := enc) (C := Try.checked) (s := Rows.OpenSpec.upto Rows.natPowsSpec) (k := Rows.uptoSmall) rfl false ⟨#[], #[.slice none 0 0, .int .i64 0], []⟩ 8 (by kernel_rfl) (by kernel_rfl) (by kernel_rfl)
      (x := ([.nil, .lit (.int .i64 0)], [], [])) (by kernel_rfl) rfl (by kernel_rfl)) ?_
  intro W base args ds gs before hval0 hW hcnd hk _
  have hval : ∀ (j : Nat) t v, Try.f4.params[j]? = some t → args[j]? = some v → Value.okWide Try.prog W .any base t v := hval0
  have hW' := hW
  obtain ⟨p, q, hA0, hV, rfl, hfz, hnd⟩ := hW
  have hA : DataW.TrodAll enc Try.prog W 0 (fun _ => true) true Try.f4.params.toList args.toList ds p := hA0
  rw [Try.params4] at hA hval
  obtain ⟨v0, vs0, d0, ds0, p0, q0, hargs, rfl, rfl, h0, r0⟩ := trodAll_cons hA
  obtain ⟨v1, vs1, d1, ds1, p1, q1, rfl, rfl, rfl, h1, r1⟩ := trodAll_cons r0
  obtain ⟨rfl, rfl, rfl⟩ := trodAll_nil r1
  obtain rfl : args = #[v0, v1] := by cases args; simp_all
  obtain ⟨rfl, rfl⟩ := trodVars_none hV
  obtain ⟨a0, len0, cap0, rfl⟩ := okWide_slice Try.underlying22 (hval 0 22 v0 rfl rfl)
  have k0 := h0
  have lt0 : ∀ x ∈ p0, x.block < W.heap.size := by obtain ⟨m, hm⟩ := k0; exact DataW.trod_lt m _ _ _ hm
  obtain ⟨z0, w0, rz0⟩ : ∃ zs, IsRow .u32 W a0 len0 cap0 zs ∧ cap0 ≤ Rows.uptoBulk d0 := by
    obtain ⟨fuel, hf⟩ := h0
    rcases open_ints Try.underlying22 Try.underlying33 (by kernel_rfl) hf with ⟨hcs, _⟩ | ⟨x, l, c, zs, hcs, _, hl, hm, hz, hx, hcell, hwz⟩
    · simp [Value.cells] at hcs
      obtain ⟨rfl, rfl, rfl⟩ := hcs
      exact ⟨[], .inl ⟨rfl, rfl, rfl, rfl⟩, Nat.zero_le _⟩
    · simp [Value.cells] at hcs
      obtain ⟨rfl, rfl, rfl⟩ := hcs
      have hz2 : zs.length = cap0 := by simpa using hz
      simp only [Prod.mk.injEq] at hx
      obtain ⟨rfl, _⟩ := hx
      refine ⟨zs, .inr ⟨_, rfl, hl, hm, hz2, hcell, hwz⟩, ?_⟩
      simp only [Rows.uptoBulk, bulk_lits, List.length_take, List.length_drop]
      omega
  obtain ⟨a1, rfl, rfl, rfl, w1⟩ := open_int Try.underlying3 (hval 1 3 v1 rfl rfl) h1
  simp only [List.append_nil] at hk
  have hB : Rows.uptoBulkAll _ ≤ 1048576 := of_decide_eq_true hk
  simp only [Rows.uptoBulkAll] at hB
  have hU : cap0 ≤ 1048576 := by omega
  clear hA0 hval0
  refine (walk a0 len0 cap0 z0 a1 W w0 w1 hU).mono fun e W' ⟨he, bel⟩ => ?_
  subst he
  exact ⟨_, rfl, _, _, _, [], _, [], hW', trodAll_mk1 (shut_bool Try.underlying4 _), (trodAll_cons_mk (Below.trod laidOut (by kernel_rfl) (of_decide_eq_true (by kernel_rfl)) k0 bel lt0) (trodAll_cons_mk (shut_int Try.underlying3 w1) trodAll_mk0)), rfl, bel.frame _, fun h => by cases h⟩

theorem over : Rows.natPowsUptoRow.holds Try.pinned (Rows.OpenSpec.upto Rows.natPowsSpec) :=
  OpenClaim.holds_of_cond 4 Try.f4 rfl rfl rfl rfl rfl rfl rfl ⟨rfl, rfl, rfl, rfl, rfl⟩ rfl rfl rfl rfl rfl (by kernel_rfl) Try.func4 (by kernel_rfl)
    (of_decide_eq_true (by kernel_rfl)) (by unfold Func.isWrapper; first | (rw [if_pos (by decide +kernel)]; kernel_rfl) | (rw [if_neg (by decide +kernel)]; exact ⟨rfl, rfl⟩))
    (fun os started H enc _ F => lifted os started H enc F)

/-- ████ THE STATEMENT ████ -/
theorem proved : Rows.NatPowsUptoSaid := over
end Go.Proofs.Ytaaiogpdeahaaab.natPows
namespace Go.Proofs.Ytaaiogpdeahaaab
/-- THE STATEMENT. -/
theorem natPowsUpto_holds : Rows.NatPowsUptoSaid := natPows.proved
#print axioms natPowsUpto_holds
end Go.Proofs.Ytaaiogpdeahaaab
