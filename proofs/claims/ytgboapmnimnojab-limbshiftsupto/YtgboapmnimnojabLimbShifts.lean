/- For every input of at most 1048576 values the law LimbShifts returns true: a natural moved by any count of bits is the exact product or quotient by that power of two, and counts outside the limit are refused. The condition: what is read is of bulk at most 1048576. -/
import Derived.Test.YtgboapmnimnojabRows
import Derived.WalkKit
import Derived.ProofKit
import Derived.OpenShut
import Derived.ShutString
import Derived.ChangeOld
import Derived.Below
import Derived.Test.YtgboapmnimnojabShiftL
import Derived.Test.YtgboapmnimnojabRefH
import Derived.JoinedCond
namespace Go.Proofs.Ytgboapmnimnojab.limbShifts
open Go.ChangeShapes Go.WideShapes Go.ChangeAt Go.RowKit
open Go.ChangeMaps (open_string shut_string)
set_option linter.unusedVariables false

theorem own : ownKnob Try.prog.godebug = none := by kernel_rfl
theorem laidOut : laidOutB Try.prog = true := by kernel_rfl

/-- WHAT THE WALK IS TOLD OF A SLICE OF INTEGERS THAT CAME IN: it is nil; or it leads to a row of 'cap' cells, the numbers 'zs' (the first 'len' are its elements, the rest its spare room), each fitting its kind. -/
def IsRow (k : IntKind) (w : World) (a : Option Addr) (len cap : Nat) (zs : List Int) : Prop :=
  (a = none ∧ len = 0 ∧ cap = 0 ∧ zs = []) ∨
  ∃ x, a = some x ∧ len ≤ cap ∧ cap ≤ maxLen ∧ zs.length = cap ∧ (∀ i, i < zs.length → w.cell? (x.add i) = some (.int k (zs.getD i 0))) ∧ ∀ n ∈ zs, (Lit.int k n).wf = true

open Mem LimbNum Limb1 Limb2 Limb3 Limb4 RefL ShiftL RefH

theorem len_le (A : List Nat) (hA : Small A) (n : Nat) (h : A.length ≤ n) : (nb (val A)).length ≤ 32 * n := by
  have h1 := val_lt A hA
  rw [← pow32] at h1
  have := nb_lt _ _ h1
  omega
theorem shl_len (A : List Nat) (hA : Small A) (m M : Nat) (h : A.length ≤ m) : (nb (val A * 2 ^ M)).length ≤ 32 * m + M := by
  have h1 := val_lt A hA
  have h2 : (4294967296 : Nat) ^ A.length ≤ 4294967296 ^ m := Nat.pow_le_pow_right (by omega) h
  apply nb_lt
  rw [Nat.pow_add, pow32]
  exact Nat.mul_lt_mul_of_pos_right (by omega) (Nat.two_pow_pos M)

set_option maxRecDepth 20000 in
set_option maxHeartbeats 2000000 in
theorem law_out (A : List Nat) (n : Int) (ao : Option Addr) (cap : Nat) (w : World) (hl : Lies w ao cap (ints .u32 A)) (hlen : A.length ≤ 1048576) (hn : n < 0 ∨ 100000 < n) :
    Calls Try.prog 6 #[.slice ao A.length cap, .int .i64 n] w fun e w' => e = .returned (.bool true) ∧ Below w.heap.size w w' := by
  have cC := fun (W : World) (hb : Below w.heap.size w W) => copy_any A ao cap W (hl.below hb (Nat.le_refl _)) (by omega)
  have cL := fun (W : World) (o : Option Addr) (cp : Nat) => shl_no A n o cp W hn
  have cR := fun (W : World) (o : Option Addr) (cp : Nat) => shr_no A n o cp W hn
  have t1 : True := trivial
  rcases hn with hn | hn
  · go_enter Try.func6, Try.ntmps6
    go_wp2_with (first
      | (go_at_call 20; have _t := t1; clear _t t1; refine (cC _ (Below.refl _ _)).mono ?_; rintro e w1 ⟨ao1, cp1, rfl, hown1, hb1⟩)
      | (go_at_call 28; refine (cL _ _ _).mono ?_; rintro e w2 ⟨rfl, hw⟩; have hw2 := hw.symm; clear hw; subst hw2)
      | (go_at_call 20; refine (cC _ hb1).mono ?_; rintro e w3 ⟨ao3, cp3, rfl, hown3, hb3⟩)
      | (go_at_call 29; refine (cR _ _ _).mono ?_; rintro e w2 ⟨rfl, hw⟩; have hw2 := hw.symm; clear hw; subst hw2)
      | (go_at_call 21; refine (awake _).mono ?_; rintro e w5 ⟨rfl, hb5⟩))
    all_goals go_ret
    all_goals exact ⟨rfl, bt (bt hb1 hb3) hb5⟩
  · have hn0 : 0 ≤ n := by omega
    go_enter Try.func6, Try.ntmps6
    go_wp2_with (first
      | (go_at_call 20; have _t := t1; clear _t t1; refine (cC _ (Below.refl _ _)).mono ?_; rintro e w1 ⟨ao1, cp1, rfl, hown1, hb1⟩)
      | (go_at_call 28; refine (cL _ _ _).mono ?_; rintro e w2 ⟨rfl, hw⟩; have hw2 := hw.symm; clear hw; subst hw2)
      | (go_at_call 20; refine (cC _ hb1).mono ?_; rintro e w3 ⟨ao3, cp3, rfl, hown3, hb3⟩)
      | (go_at_call 29; refine (cR _ _ _).mono ?_; rintro e w2 ⟨rfl, hw⟩; have hw2 := hw.symm; clear hw; subst hw2)
      | (go_at_call 21; refine (awake _).mono ?_; rintro e w5 ⟨rfl, hb5⟩))
    all_goals go_ret
    all_goals exact ⟨rfl, bt (bt hb1 hb3) hb5⟩

set_option maxRecDepth 20000 in
set_option maxHeartbeats 2000000 in
theorem law_in (A : List Nat) (n : Int) (ao : Option Addr) (cap : Nat) (w : World) (hl : Lies w ao cap (ints .u32 A)) (hA : Small A) (hlen : A.length ≤ 1048576) (h0 : 0 ≤ n) (h1 : n ≤ 100000) :
    Calls Try.prog 6 #[.slice ao A.length cap, .int .i64 n] w fun e w' => e = .returned (.bool true) ∧ Below w.heap.size w w' := by
  have n1 := len_le A hA 1048576 hlen
  have n2 := shl_len A hA 1048576 n.toNat hlen
  have hnn : n = (n.toNat : Int) := by omega
  have cC := fun (W : World) (hb : Below w.heap.size w W) => copy_any A ao cap W (hl.below hb (Nat.le_refl _)) (by omega)
  have cO := fun (W : World) (hb : Below w.heap.size w W) => of_any A ao cap W (hl.below hb (Nat.le_refl _)) hA (by omega)
  have cL := fun (W : World) (o : Option Addr) (cp : Nat) (h : Lies W o cp (ints .u32 A)) => shl_any A n o cp W h0 h1 h hA (by omega)
  have cR := fun (W : World) (o : Option Addr) (cp : Nat) (h : Lies W o cp (ints .u32 A)) => shr_any A n o cp W h0 h1 h hA (by omega)
  have cRL := fun (W : World) (o : Option Addr) (cp : Nat) (h : Lies W o cp (bools (nb (val A)))) => rshl_core (nb (val A)) n n.toNat (val A * 2 ^ n.toNat) (by unfold Hid; rw [fromL_nb]) hnn h1 o cp W h (by omega)
  have cRR := fun (W : World) (o : Option Addr) (cp : Nat) (h : Lies W o cp (bools (nb (val A)))) => rshr_any (nb (val A)) n n.toNat hnn o cp W h (by omega)
  have cTL := fun (W : World) (o : Option Addr) (cp : Nat) (h : Lies W o cp (bools (nb (val A * 2 ^ n.toNat)))) => to_any (nb (val A * 2 ^ n.toNat)) o cp W h (by omega)
  rw [fromL_nb] at cTL
  have cTR := fun (W : World) (o : Option Addr) (cp : Nat) (h : Lies W o cp (bools ((nb (val A)).drop n.toNat))) => to_any ((nb (val A)).drop n.toNat) o cp W h (by rw [List.length_drop]; omega)
  rw [fromL_cutoff, fromL_nb] at cTR
  have cSL := fun (W : World) (o1 o2 : Option Addr) (c1 c2 : Nat) (h1 : Lies W o1 c1 (ints .u32 (nl (val A * 2 ^ n.toNat)))) (h2 : Lies W o2 c2 (ints .u32 (nl (val A * 2 ^ n.toNat)))) => same_any (nl (val A * 2 ^ n.toNat)) (nl (val A * 2 ^ n.toNat)) o1 o2 c1 c2 W h1 h2
  have cSR := fun (W : World) (o1 o2 : Option Addr) (c1 c2 : Nat) (h1 : Lies W o1 c1 (ints .u32 (nl (val A / 2 ^ n.toNat)))) (h2 : Lies W o2 c2 (ints .u32 (nl (val A / 2 ^ n.toNat)))) => same_any (nl (val A / 2 ^ n.toNat)) (nl (val A / 2 ^ n.toNat)) o1 o2 c1 c2 W h1 h2
  simp only [decide_true] at cSL cSR
  generalize nl (val A * 2 ^ n.toNat) = NL at *
  generalize nl (val A / 2 ^ n.toNat) = NR at *
  generalize nb (val A * 2 ^ n.toNat) = BL at *
  generalize (nb (val A)).drop n.toNat = BR at *
  generalize nb (val A) = NA at *
  clear hA n1 n2 hnn
  have t1 : True := trivial
  have t2 : True := trivial
  have t3 : True := trivial
  have t4 : True := trivial
  go_enter Try.func6, Try.ntmps6
  go_wp2_with (first
    | (go_at_call 20; have _t := t1; clear _t t1; refine (cC _ (Below.refl _ _)).mono ?_; rintro e w1 ⟨ao1, cp1, rfl, hown1, hb1⟩)
    | (go_at_call 28; refine (cL _ _ _ (lies_of_owns hown1)).mono ?_; rintro e w2 ⟨ao2, cp2, rfl, hown2, hb2⟩)
    | (go_at_call 20; refine (cC _ (bt hb1 hb2)).mono ?_; rintro e w3 ⟨ao3, cp3, rfl, hown3, hb3⟩)
    | (go_at_call 29; refine (cR _ _ _ (lies_of_owns hown3)).mono ?_; rintro e w4 ⟨ao4, cp4, rfl, hown4, hb4⟩)
    | (go_at_call 21; refine (awake _).mono ?_; rintro e w5 ⟨rfl, hb5⟩; have H5 := bt (bt (bt (bt hb1 hb2) hb3) hb4) hb5; have L5 := bt (bt hb3 hb4) hb5)
    | (go_at_call 18; have _t := t2; clear _t t2; refine (cO _ H5).mono ?_; rintro e w6 ⟨ao6, cp6, rfl, hown6, hb6⟩)
    | (go_at_call 30; refine (cRL _ _ _ (lies_of_owns hown6)).mono ?_; rintro e w7 ⟨ao7, cp7, rfl, hown7, hb7⟩)
    | (go_at_call 24; have _t := t3; clear _t t3; refine (cTL _ _ _ (lies_of_owns hown7)).mono ?_; rintro e w8 ⟨ao8, cp8, rfl, hown8, hb8⟩; have E8 := bt (bt hb6 hb7) hb8)
    | (go_at_call 22; have _t := t4; clear _t t4; refine (cSL _ _ _ _ _ ((lies_of_owns hown2).below (bt L5 E8) (Nat.le_refl _)) (lies_of_owns hown8)).mono ?_; rintro e w9 ⟨rfl, hb9⟩; have H9 := bt (bt H5 E8) hb9; have R9 := bt (bt hb5 E8) hb9)
    | (go_at_call 18; refine (cO _ H9).mono ?_; rintro e w10 ⟨ao10, cp10, rfl, hown10, hb10⟩)
    | (go_at_call 31; refine (cRR _ _ _ (lies_of_owns hown10)).mono ?_; rintro e w11 ⟨ao11, cp11, rfl, hl11, hw⟩; have hw2 := hw.symm; clear hw; subst hw2)
    | (go_at_call 24; refine (cTR _ _ _ hl11).mono ?_; rintro e w12 ⟨ao12, cp12, rfl, hown12, hb12⟩)
    | (go_at_call 22; refine (cSR _ _ _ _ _ ((lies_of_owns hown4).below (bt (bt R9 hb10) hb12) (Nat.le_refl _)) (lies_of_owns hown12)).mono ?_; rintro e w13 ⟨rfl, hb13⟩))
  all_goals go_ret
  all_goals exact ⟨rfl, bt (bt (bt H9 hb10) hb12) hb13⟩

theorem walk (a0 : Option Addr) (len0 cap0 : Nat) (z0 : List Int) (a1 : Int) (w : World) (w0 : IsRow .u32 w a0 len0 cap0 z0) (w1 : (Lit.int .i64 a1).wf = true) (u : cap0 ≤ 1048576) :
    Calls Try.prog 6 #[.slice a0 len0 cap0, .int .i64 a1] w fun e w' => e = .returned (.bool true) ∧ Below w.heap.size w w' := by
  obtain ⟨A, rfl, hl, hA⟩ := lies_of_row nonneg_u32 w0
  have hlen := hl.1
  rw [ints_length] at hlen
  by_cases h : a1 < 0 ∨ 100000 < a1
  · exact law_out A a1 a0 cap0 w hl (by omega) h
  · exact law_in A a1 a0 cap0 w hl (fun x hx => by have := (bounds_u32 (hA x hx)).2; omega) (by omega) (by omega) (by omega)

/-! ### THE ROW's STEP: WRITTEN OUT: LEAVE IT -/
set_option maxRecDepth 100000 in
theorem lifted (os : Os) (started : os.Started) (H : Type) (enc : TypeId × Value → H) (F : Stop.Interp) :
    ReturnsInHanded {} Try.checked os 6 .any ((Rows.OpenSpec.upto Rows.limbShiftsSpec).pre6 enc Try.prog Try.f6 Rows.limbShiftsUptoRow.domain false) (((Rows.OpenSpec.upto Rows.limbShiftsSpec).at F).post enc Try.prog Try.f6 false true false false) := by
  refine returnsInHanded_of_cond (C := Try.checked) (s := Rows.OpenSpec.upto Rows.limbShiftsSpec) (k := Rows.uptoSmall) rfl own started (by kernel_rfl) Try.func6
    (OpenSpec.witness (enc := enc) (C := Try.checked) (s := Rows.OpenSpec.upto Rows.limbShiftsSpec) (k := Rows.uptoSmall) rfl false ⟨#[], #[.slice none 0 0, .int .i64 0], []⟩ 8 (by kernel_rfl) (by kernel_rfl) (by kernel_rfl)
      (x := ([.nil, .lit (.int .i64 0)], [], [])) (by kernel_rfl) rfl (by kernel_rfl)) ?_
  intro W base args ds gs before hval0 hW hcnd hk _
  have hval : ∀ (j : Nat) t v, Try.f6.params[j]? = some t → args[j]? = some v → Value.okWide Try.prog W .any base t v := hval0
  have hW' := hW
  obtain ⟨p, q, hA0, hV, rfl, hfz, hnd⟩ := hW
  have hA : DataW.TrodAll enc Try.prog W 0 (fun _ => true) true Try.f6.params.toList args.toList ds p := hA0
  rw [Try.params6] at hA hval
  obtain ⟨v0, vs0, d0, ds0, p0, q0, hargs, rfl, rfl, h0, r0⟩ := trodAll_cons hA
  obtain ⟨v1, vs1, d1, ds1, p1, q1, rfl, rfl, rfl, h1, r1⟩ := trodAll_cons r0
  obtain ⟨rfl, rfl, rfl⟩ := trodAll_nil r1
  obtain rfl : args = #[v0, v1] := by cases args; simp_all
  obtain ⟨rfl, rfl⟩ := trodVars_none hV
  obtain ⟨a0, len0, cap0, rfl⟩ := okWide_slice Try.underlying36 (hval 0 36 v0 rfl rfl)
  have k0 := h0
  have lt0 : ∀ x ∈ p0, x.block < W.heap.size := by obtain ⟨m, hm⟩ := k0; exact DataW.trod_lt m _ _ _ hm
  obtain ⟨z0, w0, r0⟩ : ∃ zs, IsRow .u32 W a0 len0 cap0 zs ∧ cap0 ≤ Rows.uptoBulk d0 := by
    obtain ⟨fuel, hf⟩ := h0
    rcases open_ints Try.underlying36 Try.underlying61 (by kernel_rfl) hf with ⟨hcs, _⟩ | ⟨x, l, c, zs, hcs, _, hl, hm, hz, hx, hcell, hwz⟩
    · simp [Value.cells] at hcs
      obtain ⟨rfl, rfl, rfl⟩ := hcs
      exact ⟨[], .inl ⟨rfl, rfl, rfl, rfl⟩, Nat.zero_le _⟩
    · simp [Value.cells] at hcs
      obtain ⟨rfl, rfl, rfl⟩ := hcs
      have hz2 : zs.length = cap0 := by simpa using hz
      simp only [Prod.mk.injEq] at hx
      obtain ⟨rfl, _⟩ := hx
      refine ⟨zs, .inr ⟨_, rfl, hl, hm, hz2, hcell, hwz⟩, ?_⟩
      simp only [Rows.uptoBulk, bulk_lits, List.length_take, List.length_drop]
      omega
  obtain ⟨a1, rfl, rfl, rfl, w1⟩ := open_int Try.underlying3 (hval 1 3 v1 rfl rfl) h1
  simp only [List.append_nil] at hk
  have hB : Rows.uptoBulkAll _ ≤ 1048576 := of_decide_eq_true hk
  simp only [Rows.uptoBulkAll] at hB
  have hU : cap0 ≤ 1048576 := by omega
  clear hA0 hval0
  refine (walk a0 len0 cap0 z0 a1 W w0 w1 hU).mono fun e W' ⟨he, bel⟩ => ?_
  subst he
  exact ⟨_, rfl, _, _, _, [], _, [], hW', trodAll_mk1 (shut_bool Try.underlying4 _), (trodAll_cons_mk (Below.trod laidOut (by kernel_rfl) (of_decide_eq_true (by kernel_rfl)) k0 bel lt0) (trodAll_cons_mk (shut_int Try.underlying3 w1) trodAll_mk0)), rfl, bel.frame _, fun h => by cases h⟩

theorem over : Rows.limbShiftsUptoRow.holds Try.pinned (Rows.OpenSpec.upto Rows.limbShiftsSpec) :=
  OpenClaim.holds_of_cond 6 Try.f6 rfl rfl rfl rfl rfl rfl rfl ⟨rfl, rfl, rfl, rfl, rfl⟩ rfl rfl rfl rfl rfl (by kernel_rfl) Try.func6 (by kernel_rfl)
    (of_decide_eq_true (by kernel_rfl)) (by unfold Func.isWrapper; first | (rw [if_pos (by decide +kernel)]; kernel_rfl) | (rw [if_neg (by decide +kernel)]; exact ⟨rfl, rfl⟩))
    (fun os started H enc _ F => lifted os started H enc F)

/-- ████ THE STATEMENT ████ -/
theorem proved : Rows.LimbShiftsUptoSaid := over
end Go.Proofs.Ytgboapmnimnojab.limbShifts
namespace Go.Proofs.Ytgboapmnimnojab
/-- THE STATEMENT. -/
theorem limbShiftsUpto_holds : Rows.LimbShiftsUptoSaid := limbShifts.proved
#print axioms limbShiftsUpto_holds
end Go.Proofs.Ytgboapmnimnojab
