/- For every input the law NatMuls returns true: products of naturals are exact. No condition. -/
import Derived.Test.YtaaiogpdeahaaaaRows
import Derived.WalkKit
import Derived.ProofKit
import Derived.OpenShut
import Derived.ShutString
import Derived.ChangeOld
import Derived.Below
import Derived.Test.YtaaiogpdeahaaaaDivOne
import Derived.Test.YtaaiogpdeahaaaaBitMul
import Derived.Test.YtaaiogpdeahaaaaFew3
namespace Go.Proofs.Ytaaiogpdeahaaaa.natMuls
open Go.ChangeShapes Go.WideShapes Go.ChangeAt Go.RowKit
open Go.ChangeMaps (open_string shut_string)
set_option linter.unusedVariables false

theorem own : ownKnob Try.prog.godebug = none := by kernel_rfl
theorem laidOut : laidOutB Try.prog = true := by kernel_rfl

/-- WHAT THE WALK IS TOLD OF A SLICE OF INTEGERS THAT CAME IN: it is nil; or it leads to a row of 'cap' cells, the numbers 'zs' (the first 'len' are its elements, the rest its spare room), each fitting its kind. -/
def IsRow (k : IntKind) (w : World) (a : Option Addr) (len cap : Nat) (zs : List Int) : Prop :=
  (a = none ∧ len = 0 ∧ cap = 0 ∧ zs = []) ∨
  ∃ x, a = some x ∧ len ≤ cap ∧ cap ≤ maxLen ∧ zs.length = cap ∧ (∀ i, i < zs.length → w.cell? (x.add i) = some (.int k (zs.getD i 0))) ∧ ∀ n ∈ zs, (Lit.int k n).wf = true

open Mem LimbNum Limb1 Limb2 Limb4 RefL NatL DivOne BitMul Few3

set_option maxRecDepth 20000 in
set_option maxHeartbeats 1500000 in
theorem law_any (A B : List Nat) (ao bo : Option Addr) (cap1 cap2 : Nat) (w : World) (hl : Lies w ao cap1 (ints .u32 A)) (hl2 : Lies w bo cap2 (ints .u32 B)) (hA : Small A) (hB : Small B) :
    Calls Try.prog 5 #[.slice ao A.length cap1, .slice bo B.length cap2] w fun e w' => e = .returned (.bool true) ∧ Below w.heap.size w w' := by
  have cF1 := few_any A 60 (by omega) ao cap1 w hl
  have cF2 := fun (W : World) (hb : Below w.heap.size w W) => few_any B 60 (by omega) bo cap2 W (hl2.below hb (Nat.le_refl _))
  have sA := small_take A 60 hA
  have sB := small_take B 60 hB
  have lA : (A.take 60).length ≤ 60 := by simp; omega
  have lB : (B.take 60).length ≤ 60 := by simp; omega
  clear hl hl2 hA hB
  generalize A.take 60 = P at *
  generalize B.take 60 = Q at *
  have cC1 := fun (W : World) (o : Option Addr) (c : Nat) (h : Lies W o c (ints .u32 P)) => copy_any P o c W h (by omega)
  have cC2 := fun (W : World) (o : Option Addr) (c : Nat) (h : Lies W o c (ints .u32 Q)) => copy_any Q o c W h (by omega)
  have cM := fun (W : World) (o1 o2 : Option Addr) (c1 c2 : Nat) (h1 : Lies W o1 c1 (ints .u32 P)) (h2 : Lies W o2 c2 (ints .u32 Q)) => mul_any P Q o1 o2 c1 c2 W h1 h2 sA sB (by omega)
  have cO1 := fun (W : World) (o : Option Addr) (c : Nat) (h : Lies W o c (ints .u32 P)) => of_any P o c W h sA (by omega)
  have cO2 := fun (W : World) (o : Option Addr) (c : Nat) (h : Lies W o c (ints .u32 Q)) => of_any Q o c W h sB (by omega)
  have b1 := bits_le P 60 sA lA
  have b2 := bits_le Q 60 sB lB
  have cR := fun (W : World) (o1 o2 : Option Addr) (c1 c2 : Nat) (h1 : Lies W o1 c1 (bools (nb (val P)))) (h2 : Lies W o2 c2 (bools (nb (val Q)))) => rmul_core (nb (val P)) (nb (val Q)) (val P * val Q) (by unfold Hid; rw [fromL_nb, fromL_nb]) o1 o2 c1 c2 W h1 h2 (by omega) (by omega)
  have b3 := prod_len (nb (val P)) (nb (val Q)) (nb (val Q)).length
  rw [List.take_length, fromL_nb, fromL_nb] at b3
  have cT := fun (W : World) (o : Option Addr) (c : Nat) (h : Lies W o c (bools (nb (val P * val Q)))) => to_any (nb (val P * val Q)) o c W h (by omega)
  rw [fromL_nb] at cT
  have cS := fun (W : World) (o1 o2 : Option Addr) (c1 c2 : Nat) (h1 : Lies W o1 c1 (ints .u32 (nl (val P * val Q)))) (h2 : Lies W o2 c2 (ints .u32 (nl (val P * val Q)))) => same_any (nl (val P * val Q)) (nl (val P * val Q)) o1 o2 c1 c2 W h1 h2
  simp only [decide_true] at cS
  clear b1 b2 b3 sA sB lA lB
  generalize nl (val P * val Q) = NM at *
  generalize nb (val P * val Q) = NB at *
  generalize nb (val P) = BP at *
  generalize nb (val Q) = BQ at *
  have t1 : True := trivial
  have t2 : True := trivial
  have t3 : True := trivial
  go_enter Try.func5, Try.ntmps5
  go_wp2_with (first
    | (go_at_call 21; have _t := t1; clear _t t1; refine cF1.mono ?_; rintro e w1 ⟨o1, p1, rfl, hown1, hb1⟩)
    | (go_at_call 21; refine (cF2 _ hb1).mono ?_; rintro e w2 ⟨o2, p2, rfl, hown2, hb2⟩; have h2 := keep hown1 hb2)
    | (go_at_call 22; refine (awake3 _).mono ?_; rintro e w3 ⟨rfl, hb3⟩; have H3 := bt (bt hb1 hb2) hb3; have x3 := keep h2 hb3; have y3 := keep hown2 hb3)
    | (go_at_call 9; have _t := t2; clear _t t2; refine (cC1 _ _ _ (lies_of_owns x3)).mono ?_; rintro e w4 ⟨o4, p4, rfl, hown4, hb4⟩)
    | (go_at_call 9; refine (cC2 _ _ _ (lies_of_owns (keep y3 hb4))).mono ?_; rintro e w5 ⟨o5, p5, rfl, hown5, hb5⟩)
    | (go_at_call 23; refine (cM _ _ _ _ _ (lies_of_owns (keep hown4 hb5)) (lies_of_owns hown5)).mono ?_; rintro e w6 ⟨o6, p6, rfl, hown6, hb6⟩; have d6 := bt (bt hb4 hb5) hb6; have H6 := bt H3 d6; have x6 := keep x3 d6; have y6 := keep y3 d6)
    | (go_at_call 10; have _t := t3; clear _t t3; refine (cO1 _ _ _ (lies_of_owns x6)).mono ?_; rintro e w7 ⟨o7, p7, rfl, hown7, hb7⟩)
    | (go_at_call 10; refine (cO2 _ _ _ (lies_of_owns (keep y6 hb7))).mono ?_; rintro e w8 ⟨o8, p8, rfl, hown8, hb8⟩)
    | (go_at_call 24; refine (cR _ _ _ _ _ (lies_of_owns (keep hown7 hb8)) (lies_of_owns hown8)).mono ?_; rintro e w9 ⟨o9, p9, rfl, hown9, hb9⟩)
    | (go_at_call 14; refine (cT _ _ _ (lies_of_owns hown9)).mono ?_; rintro e w10 ⟨o10, p10, rfl, hown10, hb10⟩; have d10 := bt (bt (bt hb7 hb8) hb9) hb10)
    | (go_at_call 12; refine (cS _ _ _ _ _ (lies_of_owns (keep hown6 d10)) (lies_of_owns hown10)).mono ?_; rintro e w11 ⟨rfl, hb11⟩))
  all_goals go_ret
  all_goals exact ⟨rfl, bt (bt H6 d10) hb11⟩

theorem walk (a0 : Option Addr) (len0 cap0 : Nat) (z0 : List Int) (a1 : Option Addr) (len1 cap1 : Nat) (z1 : List Int) (w : World) (w0 : IsRow .u32 w a0 len0 cap0 z0) (w1 : IsRow .u32 w a1 len1 cap1 z1) :
    Calls Try.prog 5 #[.slice a0 len0 cap0, .slice a1 len1 cap1] w fun e w' => e = .returned (.bool true) ∧ Below w.heap.size w w' := by
  obtain ⟨A, rfl, hl, hA⟩ := lies_of_row nonneg_u32 w0
  obtain ⟨B, rfl, hl2, hB⟩ := lies_of_row nonneg_u32 w1
  have sA : Small A := fun x hx => by have := (bounds_u32 (hA x hx)).2; omega
  have sB : Small B := fun x hx => by have := (bounds_u32 (hB x hx)).2; omega
  exact law_any A B a0 a1 cap0 cap1 w hl hl2 sA sB

/-! ### THE ROW's STEP: WRITTEN OUT: LEAVE IT -/
set_option maxRecDepth 100000 in
theorem lifted (os : Os) (started : os.Started) (H : Type) (enc : TypeId × Value → H) :
    ReturnsInHanded {} Try.checked os 5 .any (Rows.natMulsSpec.pre6 enc Try.prog Try.f5 Rows.natMulsRow.domain false) (Rows.natMulsSpec.post enc Try.prog Try.f5 false true false false) := by
  refine returnsInHanded_of_change (C := Try.checked) own started (by kernel_rfl) Try.func5
    (ChangeSpec.witness6 (enc := enc) (C := Try.checked) false ⟨#[], #[.slice none 0 0, .slice none 0 0], []⟩ 8 (by kernel_rfl) (by kernel_rfl) (by kernel_rfl) (by kernel_rfl)) ?_
  intro W base args ds gs before hval0 hW hcnd _
  have hval : ∀ (j : Nat) t v, Try.f5.params[j]? = some t → args[j]? = some v → Value.okWide Try.prog W .any base t v := hval0
  have hW' := hW
  obtain ⟨p, q, hA0, hV, rfl, hfz, hnd⟩ := hW
  have hA : DataW.TrodAll enc Try.prog W 0 (fun _ => true) true Try.f5.params.toList args.toList ds p := hA0
  rw [Try.params5] at hA hval
  obtain ⟨v0, vs0, d0, ds0, p0, q0, hargs, rfl, rfl, h0, r0⟩ := trodAll_cons hA
  obtain ⟨v1, vs1, d1, ds1, p1, q1, rfl, rfl, rfl, h1, r1⟩ := trodAll_cons r0
  obtain ⟨rfl, rfl, rfl⟩ := trodAll_nil r1
  obtain rfl : args = #[v0, v1] := by cases args; simp_all
  obtain ⟨rfl, rfl⟩ := trodVars_none hV
  obtain ⟨a0, len0, cap0, rfl⟩ := okWide_slice Try.underlying22 (hval 0 22 v0 rfl rfl)
  have k0 := h0
  have lt0 : ∀ x ∈ p0, x.block < W.heap.size := by obtain ⟨m, hm⟩ := k0; exact DataW.trod_lt m _ _ _ hm
  obtain ⟨z0, w0⟩ : ∃ zs, IsRow .u32 W a0 len0 cap0 zs := by
    obtain ⟨fuel, hf⟩ := h0
    rcases open_ints Try.underlying22 Try.underlying34 (by kernel_rfl) hf with ⟨hcs, _⟩ | ⟨x, l, c, zs, hcs, _, hl, hm, hz, _, hcell, hwz⟩
    · simp [Value.cells] at hcs
      obtain ⟨rfl, rfl, rfl⟩ := hcs
      exact ⟨[], .inl ⟨rfl, rfl, rfl, rfl⟩⟩
    · simp [Value.cells] at hcs
      obtain ⟨rfl, rfl, rfl⟩ := hcs
      exact ⟨zs, .inr ⟨_, rfl, hl, hm, by simpa using hz, hcell, hwz⟩⟩
  obtain ⟨a1, len1, cap1, rfl⟩ := okWide_slice Try.underlying22 (hval 1 22 v1 rfl rfl)
  have k1 := h1
  have lt1 : ∀ x ∈ p1, x.block < W.heap.size := by obtain ⟨m, hm⟩ := k1; exact DataW.trod_lt m _ _ _ hm
  obtain ⟨z1, w1⟩ : ∃ zs, IsRow .u32 W a1 len1 cap1 zs := by
    obtain ⟨fuel, hf⟩ := h1
    rcases open_ints Try.underlying22 Try.underlying34 (by kernel_rfl) hf with ⟨hcs, _⟩ | ⟨x, l, c, zs, hcs, _, hl, hm, hz, _, hcell, hwz⟩
    · simp [Value.cells] at hcs
      obtain ⟨rfl, rfl, rfl⟩ := hcs
      exact ⟨[], .inl ⟨rfl, rfl, rfl, rfl⟩⟩
    · simp [Value.cells] at hcs
      obtain ⟨rfl, rfl, rfl⟩ := hcs
      exact ⟨zs, .inr ⟨_, rfl, hl, hm, by simpa using hz, hcell, hwz⟩⟩
  clear hA0 hval0
  refine (walk a0 len0 cap0 z0 a1 len1 cap1 z1 W w0 w1).mono fun e W' ⟨he, bel⟩ => ?_
  subst he
  exact ⟨_, rfl, _, _, _, [], _, [], hW', trodAll_mk1 (shut_bool Try.underlying4 _), (trodAll_cons_mk (Below.trod laidOut (by kernel_rfl) (of_decide_eq_true (by kernel_rfl)) k0 bel lt0) (trodAll_cons_mk (Below.trod laidOut (by kernel_rfl) (of_decide_eq_true (by kernel_rfl)) k1 bel lt1) trodAll_mk0)), rfl, bel.frame _, fun h => by cases h⟩

theorem over : Rows.natMulsRow.holds Try.pinned (OpenSpec.ofChange Rows.natMulsSpec) :=
  OpenClaim.holds_of_wide 5 Try.f5 rfl rfl rfl rfl rfl rfl rfl ⟨rfl, rfl, rfl, rfl, rfl⟩ rfl rfl rfl rfl rfl (by kernel_rfl) Try.func5 (by kernel_rfl)
    (of_decide_eq_true (by kernel_rfl)) (by unfold Func.isWrapper; first | (rw [if_pos (by decide +kernel)]; kernel_rfl) | (rw [if_neg (by decide +kernel)]; exact ⟨rfl, rfl⟩))
    (fun os started H enc _ => lifted os started H enc)

/-- ████ THE STATEMENT ████ -/
theorem proved : Rows.NatMulsSaid := over
end Go.Proofs.Ytaaiogpdeahaaaa.natMuls
namespace Go.Proofs.Ytaaiogpdeahaaaa
/-- THE STATEMENT. -/
theorem natMuls_holds : Rows.NatMulsSaid := natMuls.proved
#print axioms natMuls_holds
end Go.Proofs.Ytaaiogpdeahaaaa
