/- For every input of at most 1048576 values the law LimbWords returns true: naturals and 64-bit words are turned into one another exactly, and it is told whether a natural fits. The condition: what is read is of bulk at most 1048576. -/
import Derived.Test.YtgboapmnimnojabRows
import Derived.WalkKit
import Derived.ProofKit
import Derived.OpenShut
import Derived.ShutString
import Derived.ChangeOld
import Derived.Below
import Derived.Test.YtgboapmnimnojabWords
import Derived.JoinedCond
namespace Go.Proofs.Ytgboapmnimnojab.limbWords
open Go.ChangeShapes Go.WideShapes Go.ChangeAt Go.RowKit
open Go.ChangeMaps (open_string shut_string)
set_option linter.unusedVariables false

theorem own : ownKnob Try.prog.godebug = none := by kernel_rfl
theorem laidOut : laidOutB Try.prog = true := by kernel_rfl

/-- WHAT THE WALK IS TOLD OF A SLICE OF INTEGERS THAT CAME IN: it is nil; or it leads to a row of 'cap' cells, the numbers 'zs' (the first 'len' are its elements, the rest its spare room), each fitting its kind. -/
def IsRow (k : IntKind) (w : World) (a : Option Addr) (len cap : Nat) (zs : List Int) : Prop :=
  (a = none ∧ len = 0 ∧ cap = 0 ∧ zs = []) ∨
  ∃ x, a = some x ∧ len ≤ cap ∧ cap ≤ maxLen ∧ zs.length = cap ∧ (∀ i, i < zs.length → w.cell? (x.add i) = some (.int k (zs.getD i 0))) ∧ ∀ n ∈ zs, (Lit.int k n).wf = true

open Mem LimbNum Limb1 Limb2 Limb3 Limb4 RefL Words

set_option maxRecDepth 20000 in
set_option maxHeartbeats 1000000 in
theorem law_any (A : List Nat) (U : Nat) (ao : Option Addr) (cap : Nat) (w : World) (hl : Lies w ao cap (ints .u32 A)) (hA : Small A) (hlen : A.length ≤ 1048576) (hU : U < 18446744073709551616) :
    Calls Try.prog 7 #[.slice ao A.length cap, .int .u64 (U : Int)] w fun e w' => e = .returned (.bool true) ∧ Below w.heap.size w w' := by
  have hnl : (nl U).length ≤ 2 := nl_lt 2 U (by omega)
  have cW := fun W : World => word_any U W hU
  have cCa := fun (W : World) (hb : Below w.heap.size w W) => copy_any A ao cap W (hl.below hb (Nat.le_refl _)) (by omega)
  have cLa := fun (W : World) (o : Option Addr) (cp : Nat) (h : Lies W o cp (ints .u32 A)) => low_any A o cp W h hA
  have e3 : decide ((nb (val A)).length ≤ 64) = decide (((nb (val A)).length : Int) ≤ 64) := by rw [Bool.eq_iff_iff]; simp; omega
  rw [e3] at cLa
  clear e3
  have cCw := fun (W : World) (o : Option Addr) (cp : Nat) (h : Lies W o cp (ints .u32 (nl U))) => copy_any (nl U) o cp W h (by omega)
  have cLw := fun (W : World) (o : Option Addr) (cp : Nat) (h : Lies W o cp (ints .u32 (nl U))) => low_any (nl U) o cp W h (small_nl U)
  have e1 : U % 18446744073709551616 = U := Nat.mod_eq_of_lt hU
  have e2 : decide ((nb U).length ≤ 64) = true := by simp only [decide_eq_true_eq]; exact nb_lt 64 U hU
  rw [val_nl, e1, e2] at cLw
  have cRW := fun W : World => rword_any U W hU
  have cTo := fun (W : World) (o : Option Addr) (cp : Nat) (h : Lies W o cp (bools (nb U))) => to_any (nb U) o cp W h (by have := nb_lt 64 U hU; omega)
  rw [fromL_nb] at cTo
  have cS := fun (W : World) (o1 o2 : Option Addr) (c1 c2 : Nat) (h1 : Lies W o1 c1 (ints .u32 (nl U))) (h2 : Lies W o2 c2 (ints .u32 (nl U))) => same_any (nl U) (nl U) o1 o2 c1 c2 W h1 h2
  simp only [decide_true] at cS
  have cOf := fun (W : World) (hb : Below w.heap.size w W) => of_any A ao cap W (hl.below hb (Nat.le_refl _)) hA (by omega)
  have cRL := fun (W : World) (o : Option Addr) (cp : Nat) (h : Lies W o cp (bools (nb (val A)))) => rlow_any (nb (val A)) o cp W h
  rw [nb_take, show (2 : Nat) ^ 64 = 18446744073709551616 by decide] at cRL
  have hb64 : (nb (val A)).length ≤ 33554432 := by
    have h1 := val_lt A hA
    rw [← pow32] at h1
    have := nb_lt _ _ h1
    omega
  have hV : val A % 18446744073709551616 < 18446744073709551616 := by omega
  generalize nb (val A) = NB at *
  generalize nl U = NL at *
  generalize nb U = NU at *
  generalize val A % 18446744073709551616 = V at *
  clear e1 e2 hA
  have t1 : True := trivial
  have t2 : True := trivial
  have t3 : True := trivial
  go_enter Try.func7, Try.ntmps7
  go_wp2_with (first
    | (go_at_call 32; refine (cW _).mono ?_; rintro e w1 ⟨ao1, cp1, rfl, hown1, hb1⟩)
    | (go_at_call 20; have _t := t1; clear _t t1; refine (cCa _ hb1).mono ?_; rintro e w2 ⟨ao2, cp2, rfl, hown2, hb2⟩)
    | (go_at_call 33; have _t := t2; clear _t t2; refine (cLa _ _ _ (lies_of_owns hown2)).mono ?_; rintro e w3 ⟨rfl, hw⟩; have hw2 := hw.symm; clear hw; subst hw2)
    | (go_at_call 20; refine (cCw _ _ _ ((lies_of_owns hown1).below hb2 (Nat.le_refl _))).mono ?_; rintro e w4 ⟨ao4, cp4, rfl, hown4, hb4⟩)
    | (go_at_call 33; refine (cLw _ _ _ (lies_of_owns hown4)).mono ?_; rintro e w3 ⟨rfl, hw⟩; have hw2 := hw.symm; clear hw; subst hw2)
    | (go_at_call 21; refine (awake _).mono ?_; rintro e w5 ⟨rfl, hb5⟩)
    | (go_at_call 34; refine (cRW _).mono ?_; rintro e w6 ⟨ao6, cp6, rfl, hown6, hb6⟩)
    | (go_at_call 24; refine (cTo _ _ _ (lies_of_owns hown6)).mono ?_; rintro e w7 ⟨ao7, cp7, rfl, hown7, hb7⟩; have hB17 : Below w1.heap.size w1 w7 := (((hb2.trans (hb4.mono hb2.size)).trans (hb5.mono (by have := hb2.size; have := hb4.size; omega))).trans (hb6.mono (by have := hb2.size; have := hb4.size; have := hb5.size; omega))).trans (hb7.mono (by have := hb2.size; have := hb4.size; have := hb5.size; have := hb6.size; omega)))
    | (go_at_call 22; refine (cS _ _ _ _ _ ((lies_of_owns hown1).below hB17 (Nat.le_refl _)) (lies_of_owns hown7)).mono ?_; rintro e w8 ⟨rfl, hb8⟩; have hB8 : Below w.heap.size w w8 := (hb1.trans (hB17.mono hb1.size)).trans (hb8.mono (by have := hb1.size; have := hB17.size; omega)))
    | (go_at_call 18; have _t := t3; clear _t t3; refine (cOf _ hB8).mono ?_; rintro e w9 ⟨ao9, cp9, rfl, hown9, hb9⟩; have hB9 : Below w.heap.size w w9 := hB8.trans (hb9.mono hB8.size))
    | (go_at_call 35; refine (cRL _ _ _ (lies_of_owns hown9)).mono ?_; rintro e w3 ⟨rfl, hw⟩; have hw2 := hw.symm; clear hw; subst hw2)
    | (go_at_call 18; refine (cOf _ hB9).mono ?_; rintro e w10 ⟨ao10, cp10, rfl, hown10, hb10⟩))
  all_goals go_ret
  all_goals exact ⟨rfl, hB9.trans (hb10.mono hB9.size)⟩

theorem walk (a0 : Option Addr) (len0 cap0 : Nat) (z0 : List Int) (a1 : Int) (w : World) (w0 : IsRow .u32 w a0 len0 cap0 z0) (w1 : (Lit.int .u64 a1).wf = true) (u : cap0 ≤ 1048576) :
    Calls Try.prog 7 #[.slice a0 len0 cap0, .int .u64 a1] w fun e w' => e = .returned (.bool true) ∧ Below w.heap.size w w' := by
  have b1 := bounds_u64 w1
  obtain ⟨U, rfl⟩ := Int.eq_ofNat_of_zero_le b1.1
  obtain ⟨A, rfl, hl, hA⟩ := lies_of_row nonneg_u32 w0
  have hlen := hl.1
  rw [ints_length] at hlen
  exact law_any A U a0 cap0 w hl (fun x hx => by have := (bounds_u32 (hA x hx)).2; omega) (by omega) (by omega)

/-! ### THE ROW's STEP: WRITTEN OUT: LEAVE IT -/
set_option maxRecDepth 100000 in
theorem lifted (os : Os) (started : os.Started) (H : Type) (enc : TypeId × Value → H) (F : Stop.Interp) :
    ReturnsInHanded {} Try.checked os 7 .any ((Rows.OpenSpec.upto Rows.limbWordsSpec).pre6 enc Try.prog Try.f7 Rows.limbWordsUptoRow.domain false) (((Rows.OpenSpec.upto Rows.limbWordsSpec).at F).post enc Try.prog Try.f7 false true false false) := by
  refine returnsInHanded_of_cond (C := Try.checked) (s := Rows.OpenSpec.upto Rows.limbWordsSpec) (k := Rows.uptoSmall) rfl own started (by kernel_rfl) Try.func7
    (OpenSpec.witness (enc := enc) (C := Try.checked) (s := Rows.OpenSpec.upto Rows.limbWordsSpec) (k := Rows.uptoSmall) rfl false ⟨#[], #[.slice none 0 0, .int .u64 0], []⟩ 8 (by kernel_rfl) (by kernel_rfl) (by kernel_rfl)
      (x := ([.nil, .lit (.int .u64 0)], [], [])) (by kernel_rfl) rfl (by kernel_rfl)) ?_
  intro W base args ds gs before hval0 hW hcnd hk _
  have hval : ∀ (j : Nat) t v, Try.f7.params[j]? = some t → args[j]? = some v → Value.okWide Try.prog W .any base t v := hval0
  have hW' := hW
  obtain ⟨p, q, hA0, hV, rfl, hfz, hnd⟩ := hW
  have hA : DataW.TrodAll enc Try.prog W 0 (fun _ => true) true Try.f7.params.toList args.toList ds p := hA0
  rw [Try.params7] at hA hval
  obtain ⟨v0, vs0, d0, ds0, p0, q0, hargs, rfl, rfl, h0, r0⟩ := trodAll_cons hA
  obtain ⟨v1, vs1, d1, ds1, p1, q1, rfl, rfl, rfl, h1, r1⟩ := trodAll_cons r0
  obtain ⟨rfl, rfl, rfl⟩ := trodAll_nil r1
  obtain rfl : args = #[v0, v1] := by cases args; simp_all
  obtain ⟨rfl, rfl⟩ := trodVars_none hV
  obtain ⟨a0, len0, cap0, rfl⟩ := okWide_slice Try.underlying36 (hval 0 36 v0 rfl rfl)
  have k0 := h0
  have lt0 : ∀ x ∈ p0, x.block < W.heap.size := by obtain ⟨m, hm⟩ := k0; exact DataW.trod_lt m _ _ _ hm
  obtain ⟨z0, w0, r0⟩ : ∃ zs, IsRow .u32 W a0 len0 cap0 zs ∧ cap0 ≤ Rows.uptoBulk d0 := by
    obtain ⟨fuel, hf⟩ := h0
    rcases open_ints Try.underlying36 Try.underlying61 (by kernel_rfl) hf with ⟨hcs, _⟩ | ⟨x, l, c, zs, hcs, _, hl, hm, hz, hx, hcell, hwz⟩
    · simp [Value.cells] at hcs
      obtain ⟨rfl, rfl, rfl⟩ := hcs
      exact ⟨[], .inl ⟨rfl, rfl, rfl, rfl⟩, Nat.zero_le _⟩
    · simp [Value.cells] at hcs
      obtain ⟨rfl, rfl, rfl⟩ := hcs
      have hz2 : zs.length = cap0 := by simpa using hz
      simp only [Prod.mk.injEq] at hx
      obtain ⟨rfl, _⟩ := hx
      refine ⟨zs, .inr ⟨_, rfl, hl, hm, hz2, hcell, hwz⟩, ?_⟩
      simp only [Rows.uptoBulk, bulk_lits, List.length_take, List.length_drop]
      omega
  obtain ⟨a1, rfl, rfl, rfl, w1⟩ := open_int Try.underlying22 (hval 1 22 v1 rfl rfl) h1
  simp only [List.append_nil] at hk
  have hB : Rows.uptoBulkAll _ ≤ 1048576 := of_decide_eq_true hk
  simp only [Rows.uptoBulkAll] at hB
  have hU : cap0 ≤ 1048576 := by omega
  clear hA0 hval0
  refine (walk a0 len0 cap0 z0 a1 W w0 w1 hU).mono fun e W' ⟨he, bel⟩ => ?_
  subst he
  exact ⟨_, rfl, _, _, _, [], _, [], hW', trodAll_mk1 (shut_bool Try.underlying4 _), (trodAll_cons_mk (Below.trod laidOut (by kernel_rfl) (of_decide_eq_true (by kernel_rfl)) k0 bel lt0) (trodAll_cons_mk (shut_int Try.underlying22 w1) trodAll_mk0)), rfl, bel.frame _, fun h => by cases h⟩

theorem over : Rows.limbWordsUptoRow.holds Try.pinned (Rows.OpenSpec.upto Rows.limbWordsSpec) :=
  OpenClaim.holds_of_cond 7 Try.f7 rfl rfl rfl rfl rfl rfl rfl ⟨rfl, rfl, rfl, rfl, rfl⟩ rfl rfl rfl rfl rfl (by kernel_rfl) Try.func7 (by kernel_rfl)
    (of_decide_eq_true (by kernel_rfl)) (by unfold Func.isWrapper; first | (rw [if_pos (by decide +kernel)]; kernel_rfl) | (rw [if_neg (by decide +kernel)]; exact ⟨rfl, rfl⟩))
    (fun os started H enc _ F => lifted os started H enc F)

/-- ████ THE STATEMENT ████ -/
theorem proved : Rows.LimbWordsUptoSaid := over
end Go.Proofs.Ytgboapmnimnojab.limbWords
namespace Go.Proofs.Ytgboapmnimnojab
/-- THE STATEMENT. -/
theorem limbWordsUpto_holds : Rows.LimbWordsUptoSaid := limbWords.proved
#print axioms limbWordsUpto_holds
end Go.Proofs.Ytgboapmnimnojab
