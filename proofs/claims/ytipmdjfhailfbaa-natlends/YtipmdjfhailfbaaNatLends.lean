/- For every input the law NatLends returns true: no call changes the lists that it is given, and answers share no memory. No condition but the form's own. -/
import Derived.Test.YtipmdjfhailfbaaRows
import Derived.WalkKit
import Derived.ProofKit
import Derived.OpenShut
import Derived.ShutString
import Derived.ChangeOld
import Derived.Below
import Derived.Test.YtipmdjfhailfbaaLendNum
import Derived.Test.YtipmdjfhailfbaaCopyG
import Derived.Test.YtipmdjfhailfbaaLcmL
import Derived.Test.YtipmdjfhailfbaaDivOne
import Derived.SizedLaws
namespace Go.Proofs.Ytipmdjfhailfbaa.natLends
open Go.ChangeShapes Go.WideShapes Go.ChangeAt Go.RowKit
open Go.ChangeMaps (open_string shut_string)
set_option linter.unusedVariables false

theorem own : ownKnob Try.prog.godebug = none := by kernel_rfl
theorem laidOut : laidOutB Try.prog = true := by kernel_rfl

/-- WHAT THE WALK IS TOLD OF A SLICE OF INTEGERS THAT CAME IN: it is nil; or it leads to a row of 'cap' cells, the numbers 'zs' (the first 'len' are its elements, the rest its spare room), each fitting its kind. -/
def IsRow (k : IntKind) (w : World) (a : Option Addr) (len cap : Nat) (zs : List Int) : Prop :=
  (a = none ∧ len = 0 ∧ cap = 0 ∧ zs = []) ∨
  ∃ x, a = some x ∧ len ≤ cap ∧ cap ≤ maxLen ∧ zs.length = cap ∧ (∀ i, i < zs.length → w.cell? (x.add i) = some (.int k (zs.getD i 0))) ∧ ∀ n ∈ zs, (Lit.int k n).wf = true

open Mem LimbNum Limb1 Limb2 Limb3 Limb4 NatL DivOne DivMod DivAll GcdA LcmL CopyG LendNum

/-- What DivMod answers, the divisor nought or not: two rows of their own. -/
def Got2 (W : World) (e : Ending) (w' : World) : Prop := ∃ (o1 o2 : Option Addr) (c1 c2 : Nat) (D1 D2 : List Nat) (b : Bool), e = .returned (.tuple #[.slice o1 (ints .u32 D1).length c1, .slice o2 (ints .u32 D2).length c2, .bool b]) ∧
  w'.ownsRow W.heap.size 33 1 (.slice o1 (ints .u32 D1).length c1) (ints .u32 D1).length (ints .u32 D1) ∧ w'.ownsRow W.heap.size 33 1 (.slice o2 (ints .u32 D2).length c2) (ints .u32 D2).length (ints .u32 D2) ∧ Below W.heap.size W w'
theorem div_got (A B : List Nat) (o1 o2 : Option Addr) (c1 c2 : Nat) (W : World) (h1 : Lies W o1 c1 (ints .u32 A)) (h2 : Lies W o2 c2 (ints .u32 B)) (hA : Small A) (hB : Small B) (lA : A.length ≤ 35184372087808) (lB : B.length ≤ 35184372087808) :
    Calls Try.prog 16 #[.slice o1 A.length c1, .slice o2 B.length c2] W (Got2 W) := by
  by_cases h : val B = 0
  · refine (divmod_zero A B o1 o2 c1 c2 W h1 h2 hA hB h).mono ?_
    rintro e w' ⟨rfl, rfl⟩
    exact ⟨none, none, 0, 0, [], [], false, rfl, World.ownsRow_nil _ _ _ _, World.ownsRow_nil _ _ _ _, Below.refl _ _⟩
  · refine (divmod_any A B o1 o2 c1 c2 W h1 h2 hA hB h (by omega) (by omega)).mono ?_
    rintro e w' ⟨p1, q1, p2, q2, rfl, k1, k2, k3⟩
    exact ⟨p1, p2, q1, q2, nl (val A / val B), nl (val A % val B), true, by rw [ints_length, ints_length], by rw [ints_length]; exact k1, by rw [ints_length]; exact k2, k3⟩
theorem mul_len (A B : List Nat) (hA : Small A) (hB : Small B) : (nl (val A * val B)).length ≤ A.length + B.length := by
  apply nl_lt
  rw [Nat.pow_add]
  exact Nat.mul_lt_mul'' (val_lt A hA) (val_lt B hB)
set_option maxRecDepth 20000 in
set_option maxHeartbeats 4000000 in
theorem law_any (A B : List Nat) (ao bo : Option Addr) (cap1 cap2 : Nat) (w : World) (hl : Lies w ao cap1 (ints .u32 A)) (hl2 : Lies w bo cap2 (ints .u32 B)) (hA : Small A) (hB : Small B) (r0 : A.length * 4 ≤ 140737488351232) (r1 : B.length * 4 ≤ 140737488351232) :
    Calls Try.prog 4 #[.slice ao A.length cap1, .slice bo B.length cap2] w fun e w' => e = .returned (.bool true) ∧ Below w.heap.size w w' := by
  have cA := fun (W : World) (hb : Below w.heap.size w W) => copy_any A ao cap1 W (hl.below hb (Nat.le_refl _)) (by omega)
  have cB := fun (W : World) (hb : Below w.heap.size w W) => copy_any B bo cap2 W (hl2.below hb (Nat.le_refl _)) (by omega)
  have ml := mul_len A B hA hB
  have cM := fun (W : World) (o1 o2 : Option Addr) (c1 c2 : Nat) (h1 : Lies W o1 c1 (ints .u32 A)) (h2 : Lies W o2 c2 (ints .u32 B)) => mul_any A B o1 o2 c1 c2 W h1 h2 hA hB (by omega)
  have cD := fun (W : World) (o1 o2 : Option Addr) (c1 c2 : Nat) (h1 : Lies W o1 c1 (ints .u32 A)) (h2 : Lies W o2 c2 (ints .u32 B)) => div_got A B o1 o2 c1 c2 W h1 h2 hA hB (by omega) (by omega)
  have cG := fun (W : World) (o1 o2 : Option Addr) (c1 c2 : Nat) (h1 : Lies W o1 c1 (ints .u32 A)) (h2 : Lies W o2 c2 (ints .u32 B)) => gcd_any A B o1 o2 c1 c2 W h1 h2 hA hB (by omega) (by omega)
  have cL := fun (W : World) (o1 o2 : Option Addr) (c1 c2 : Nat) (h1 : Lies W o1 c1 (ints .u32 A)) (h2 : Lies W o2 c2 (ints .u32 B)) => lcm_any A B o1 o2 c1 c2 W h1 h2 hA hB (by omega) (by omega)
  have cSA := fun (W : World) (o1 o2 : Option Addr) (c1 c2 : Nat) (h1 : Lies W o1 c1 (ints .u32 A)) (h2 : Lies W o2 c2 (ints .u32 A)) => same_any A A o1 o2 c1 c2 W h1 h2
  have cSB := fun (W : World) (o1 o2 : Option Addr) (c1 c2 : Nat) (h1 : Lies W o1 c1 (ints .u32 B)) (h2 : Lies W o2 c2 (ints .u32 B)) => same_any B B o1 o2 c1 c2 W h1 h2
  have cCopy := fun (W : World) (o1 : Option Addr) (c1 : Nat) (h1 : Lies W o1 c1 (ints .u32 (nl (val A * val B)))) => copy_great (nl (val A * val B)) o1 c1 W h1 (by omega)
  have cSS := fun (W : World) (o1 o2 : Option Addr) (c1 c2 : Nat) (h1 : Lies W o1 c1 (ints .u32 (nl (val A * val B)))) (h2 : Lies W o2 c2 (ints .u32 (nl (val A * val B)))) => same_any (nl (val A * val B)) (nl (val A * val B)) o1 o2 c1 c2 W h1 h2
  simp only [decide_true] at cSA cSB cSS
  clear hA hB ml r0 r1
  generalize nl (val A * val B) = NS at *
  generalize nl (Nat.gcd (val A) (val B)) = NG at *
  generalize nl (val A / Nat.gcd (val A) (val B) * val B) = NL at *
  have t1 : True := trivial
  have t5 : True := trivial
  have t6 : True := trivial
  go_enter Try.func4, Try.ntmps4
  go_wp2_with (first
    | (go_at_call 7; have _t := t1; clear _t t1; refine (cA _ (Below.refl _ _)).mono ?_; rintro e w1 ⟨ox, cx, rfl, X1, hb1⟩)
    | (go_at_call 7; have _t := t5; clear _t t5; refine (cB _ hb1).mono ?_; rintro e w2 ⟨oy, cy, rfl, Y2, hb2⟩; have H2 := bt hb1 hb2; have X2 := keep X1 hb2)
    | (go_at_call 15; refine (cM _ _ _ _ _ (lies_of_owns X2) (lies_of_owns Y2)).mono ?_; rintro e w7 ⟨os, cs, rfl, hownS, hb7⟩; have X7 := keep X2 hb7; have Y7 := keep Y2 hb7; have H7 := bt H2 hb7)
    | (go_at_call 16; refine (cD _ _ _ _ _ (lies_of_owns X7) (lies_of_owns Y7)).mono ?_; rintro e w8 ⟨oq, or', cq, cr, DQ, DR, bd, rfl, hownQ, hownR, hb8⟩; have C8 := hb8)
    | (go_at_call 6; refine (cG _ _ _ _ _ (lies_of_owns (keep X7 C8)) (lies_of_owns (keep Y7 C8))).mono ?_; rintro e w9 ⟨og, cg, rfl, hownG, hb9⟩; have C9 := bt C8 hb9)
    | (go_at_call 8; refine (cL _ _ _ _ _ (lies_of_owns (keep X7 C9)) (lies_of_owns (keep Y7 C9))).mono ?_; rintro e w10 ⟨ol, cl, rfl, hownL, hb10⟩; have C10 := bt C9 hb10)
    | (go_at_call 10; refine (awake3 _).mono ?_; rintro e w12 ⟨rfl, hb12⟩; have C12 := bt C10 hb12)
    | (go_at_call 11; have _t := t6; clear _t t6; refine (cSA _ _ _ _ _ (lies_of_owns (keep X7 C12)) (hl.below (bt H7 C12) (Nat.le_refl _))).mono ?_; rintro e w13 ⟨rfl, hb13⟩; have C13 := bt C12 hb13)
    | (go_at_call 11; refine (cSB _ _ _ _ _ (lies_of_owns (keep Y7 C13)) (hl2.below (bt H7 C13) (Nat.le_refl _))).mono ?_; rintro e w14 ⟨rfl, hb14⟩; have C14 := bt C13 hb14)
    | (go_at_call 7; refine (cCopy _ _ _ (lies_of_owns (keep hownS C14))).mono ?_; rintro e w15 ⟨ot, ct, rfl, hownT, hb15⟩))
  have s8 := hb8.size
  have s9 := hb9.size
  have s10 := hb10.size
  have s12 := hb12.size
  have s13 := hb13.size
  have s14 := hb14.size
  have s15 := hb15.size
  have B15 := bt C14 hb15
  have mQ := (lies_of_owns hownQ).size
  have mR := (lies_of_owns hownR).size
  have mG := (lies_of_owns hownG).size
  have mL := (lies_of_owns hownL).size
  rw [ints_length] at mG mL
  have hG : Lent w7 (w15.alloc (.cells #[.slice oq (ints .u32 DQ).length cq, .slice or' (ints .u32 DR).length cr, .slice og NG.length cg, .slice ol NL.length cl] 22)) w7.heap.size w14.heap.size w15.heap.size w14.heap.size NS.length (.slice ot NS.length ct) 33 (ints .u32 NS) := by
    refine ⟨B15.alloc (by omega) _, hownT.alloc _, fun k hk => ?_⟩
    have f10 : Below w10.heap.size w10 w15 := bt (bt (bt hb12 hb13) hb14) hb15
    have f9 : Below w9.heap.size w9 w15 := bt hb10 f10
    have f8 : Below w8.heap.size w8 w15 := bt hb9 f9
    match k, hk with
    | 0, _ => exact ⟨oq, (ints .u32 DQ).length, cq, by simp, mQ, ((wri_of_owns hownQ (Nat.le_refl _) (Nat.le_refl _)).below (f8.alloc (by omega) _)).mono (by omega)⟩
    | 1, _ => exact ⟨or', (ints .u32 DR).length, cr, by simp, mR, ((wri_of_owns hownR (Nat.le_refl _) (Nat.le_refl _)).below (f8.alloc (by omega) _)).mono (by omega)⟩
    | 2, _ => exact ⟨og, NG.length, cg, by simp, mG, ((wri_of_owns hownG (by omega) (Nat.le_refl _)).below (f9.alloc (by omega) _)).mono (by omega)⟩
    | 3, _ => exact ⟨ol, NL.length, cl, by simp, mL, ((wri_of_owns hownL (by omega) (Nat.le_refl _)).below (f10.alloc (by omega) _)).mono (by omega)⟩
  clear cM cD cG cL cCopy cA cB mQ mR mG mL hownQ hownR hownG hownL hownT
  go_loopw [59] (fun iv wr => ∃ k : Nat, k ≤ 4 ∧ iv = .int .i64 (k : Int) ∧ Lent w7 wr w7.heap.size w14.heap.size w15.heap.size w14.heap.size NS.length (.slice ot NS.length ct) 33 (ints .u32 NS))
    (fun iv _ => 4 - (intOf iv).toNat)
  case atStart => exact ⟨0, Nat.zero_le _, rfl, hG⟩
  case round =>
    clear hG
    obtain ⟨k, hk, rfl, hG⟩ := hrel
    by_cases hlt : k < 4
    · obtain ⟨o, nn, c, hcell, hnm, hw⟩ := hG.rows k hlt
      have q1 : (k : Int) < 4 := by omega
      unfold maxLen at hnm
      go_wp2
      go_loopw [65] (fun jv wr2 => ∃ j : Nat, j ≤ nn ∧ jv = .int .i64 (j : Int) ∧ Wri wr2 o nn w7.heap.size w14.heap.size ∧ Lent w7 wr2 w7.heap.size w14.heap.size w15.heap.size w14.heap.size NS.length (.slice ot NS.length ct) 33 (ints .u32 NS))
        (fun jv _ => nn - (intOf jv).toNat)
      case atStart => exact ⟨0, Nat.zero_le _, rfl, hw, hG⟩
      case round =>
        clear hG hw hcell
        obtain ⟨j, hj, rfl, hw, hG⟩ := hrel
        by_cases hjn : j < nn
        · obtain ⟨g, e1, hg1, hg2, hc⟩ := hw (by omega)
          obtain ⟨⟨v, hv⟩, hf⟩ := hc j hjn
          have hG2 := hG.set (i := j) hg1 hg2 s15 (Nat.le_refl _) (.int .u32 7)
          have hw2 := hw.set ⟨g, j, none⟩ (.int .u32 7)
          have q2 : (j : Int) < (nn : Int) := by omega
          subst e1
          clear hc hw hG
          go_wp2
          go_roundw
          case rel => exact ⟨j + 1, by omega, by go_num, hw2, hG2⟩
          case measure => simp [intOf]; omega
        · have ej : j = nn := by omega
          subst ej
          clear hw
          go_wp2
          go_roundw
          case rel => exact ⟨k + 1, by omega, by go_num, hG⟩
          case measure => simp [intOf]; omega
    · have ek : k = 4 := by omega
      subst ek
      have hb := hG.below
      have hT := hG.own
      have X := keep X7 hb
      have Y := keep Y7 hb
      have S := keep hownS hb
      have t6 : True := trivial
      have t7 : True := trivial
      go_wp2_with (first
        | (go_at_call 11; have _t := t6; clear _t t6; refine (cSA _ _ _ _ _ (lies_of_owns X) (hl.below (bt H7 hb) (Nat.le_refl _))).mono ?_; rintro e w17 ⟨rfl, hb17⟩)
        | (go_at_call 11; have _t := t7; clear _t t7; refine (cSB _ _ _ _ _ (lies_of_owns (keep Y hb17)) (hl2.below (bt (bt H7 hb) hb17) (Nat.le_refl _))).mono ?_; rintro e w18 ⟨rfl, hb18⟩)
        | (go_at_call 11; refine (cSS _ _ _ _ _ (lies_of_owns (keep (keep S hb17) hb18)) (lies_of_owns (keep (keep hT hb17) hb18))).mono ?_; rintro e w19 ⟨rfl, hb19⟩))
      all_goals go_ret
      exact ⟨rfl, bt (bt (bt (bt H7 hb) hb17) hb18) hb19⟩
theorem walk (a0 : Option Addr) (len0 cap0 : Nat) (z0 : List Int) (a1 : Option Addr) (len1 cap1 : Nat) (z1 : List Int) (w : World) (w0 : IsRow .u32 w a0 len0 cap0 z0) (w1 : IsRow .u32 w a1 len1 cap1 z1) (r0 : cap0 * 4 ≤ 140737488351232) (r1 : cap1 * 4 ≤ 140737488351232) :
    Calls Try.prog 4 #[.slice a0 len0 cap0, .slice a1 len1 cap1] w fun e w' => e = .returned (.bool true) ∧ Below w.heap.size w w' := by
  obtain ⟨A, rfl, hl, hA⟩ := lies_of_row nonneg_u32 w0
  obtain ⟨B, rfl, hl2, hB⟩ := lies_of_row nonneg_u32 w1
  have sA : Small A := fun x hx => by have := (bounds_u32 (hA x hx)).2; omega
  have sB : Small B := fun x hx => by have := (bounds_u32 (hB x hx)).2; omega
  have q0 := hl.1
  have q1 := hl2.1
  rw [ints_length] at q0 q1
  exact law_any A B a0 a1 cap0 cap1 w hl hl2 sA sB (by omega) (by omega)

/-! ### THE ROW's STEP: WRITTEN OUT: LEAVE IT -/
set_option maxRecDepth 100000 in
theorem lifted (os : Os) (started : os.Started) (H : Type) (enc : TypeId × Value → H) :
    ReturnsInHanded {} Try.checked os 4 .any (Rows.natLendsSpec.pre6 enc Try.prog Try.f4 Rows.natLendsRow.domain false) (Rows.natLendsSpec.post enc Try.prog Try.f4 false true false false) := by
  refine returnsInHanded_of_change_sized (C := Try.checked) own started (by kernel_rfl) Try.func4
    (ChangeSpec.witness6 (enc := enc) (C := Try.checked) false ⟨#[], #[.slice none 0 0, .slice none 0 0], []⟩ 8 (by kernel_rfl) (by kernel_rfl) (by kernel_rfl) (by kernel_rfl)) ?_
  intro W base args ds gs before hval0 hW hcnd hsz0 _
  have hval : ∀ (j : Nat) t v, Try.f4.params[j]? = some t → args[j]? = some v → Value.okWide Try.prog W .any base t v := hval0
  have hW' := hW
  obtain ⟨p, q, hA0, hV, rfl, hfz, hnd⟩ := hW
  have hA : DataW.TrodAll enc Try.prog W 0 (fun _ => true) true Try.f4.params.toList args.toList ds p := hA0
  have hsz : (DataW.weightsEach Try.prog (Try.f4.params.toList ++ Rows.natLendsSpec.plain.varTypes Try.prog) (ds ++ gs)).all (· ≤ reachBytes) = true := hsz0
  rw [Try.params4] at hA hval hsz
  obtain ⟨v0, vs0, d0, ds0, p0, q0, hargs, rfl, rfl, h0, r0⟩ := trodAll_cons hA
  obtain ⟨v1, vs1, d1, ds1, p1, q1, rfl, rfl, rfl, h1, r1⟩ := trodAll_cons r0
  obtain ⟨rfl, rfl, rfl⟩ := trodAll_nil r1
  obtain rfl : args = #[v0, v1] := by cases args; simp_all
  obtain ⟨rfl, rfl⟩ := trodVars_none hV
  obtain ⟨a0, len0, cap0, rfl⟩ := okWide_slice Try.underlying22 (hval 0 22 v0 rfl rfl)
  have k0 := h0
  have lt0 : ∀ x ∈ p0, x.block < W.heap.size := by obtain ⟨m, hm⟩ := k0; exact DataW.trod_lt m _ _ _ hm
  obtain ⟨z0, w0, rz0⟩ : ∃ zs, IsRow .u32 W a0 len0 cap0 zs ∧ cap0 * 4 ≤ 140737488351232 := by
    obtain ⟨fuel, hf⟩ := h0
    rcases open_ints Try.underlying22 Try.underlying33 (by kernel_rfl) hf with ⟨hcs, _⟩ | ⟨x, l, c, zs, hcs, _, hl, hm, hz, hx, hcell, hwz⟩
    · simp [Value.cells] at hcs
      obtain ⟨rfl, rfl, rfl⟩ := hcs
      exact ⟨[], .inl ⟨rfl, rfl, rfl, rfl⟩, by decide⟩
    · simp [Value.cells] at hcs
      obtain ⟨rfl, rfl, rfl⟩ := hcs
      have hz2 : zs.length = cap0 := by simpa using hz
      simp only [Prod.mk.injEq] at hx
      obtain ⟨rfl, _⟩ := hx
      have hre := sized_slice hsz (j := 0) (t := 22) (e := 33) rfl rfl Try.underlying22
      rw [show Try.prog.bytesOf 33 = 4 by kernel_rfl] at hre
      simp only [lits, List.length_map, List.length_take, List.length_drop, reachBytes] at hre
      exact ⟨zs, .inr ⟨_, rfl, hl, hm, hz2, hcell, hwz⟩, by omega⟩
  obtain ⟨a1, len1, cap1, rfl⟩ := okWide_slice Try.underlying22 (hval 1 22 v1 rfl rfl)
  have k1 := h1
  have lt1 : ∀ x ∈ p1, x.block < W.heap.size := by obtain ⟨m, hm⟩ := k1; exact DataW.trod_lt m _ _ _ hm
  obtain ⟨z1, w1, rz1⟩ : ∃ zs, IsRow .u32 W a1 len1 cap1 zs ∧ cap1 * 4 ≤ 140737488351232 := by
    obtain ⟨fuel, hf⟩ := h1
    rcases open_ints Try.underlying22 Try.underlying33 (by kernel_rfl) hf with ⟨hcs, _⟩ | ⟨x, l, c, zs, hcs, _, hl, hm, hz, hx, hcell, hwz⟩
    · simp [Value.cells] at hcs
      obtain ⟨rfl, rfl, rfl⟩ := hcs
      exact ⟨[], .inl ⟨rfl, rfl, rfl, rfl⟩, by decide⟩
    · simp [Value.cells] at hcs
      obtain ⟨rfl, rfl, rfl⟩ := hcs
      have hz2 : zs.length = cap1 := by simpa using hz
      simp only [Prod.mk.injEq] at hx
      obtain ⟨rfl, _⟩ := hx
      have hre := sized_slice hsz (j := 1) (t := 22) (e := 33) rfl rfl Try.underlying22
      rw [show Try.prog.bytesOf 33 = 4 by kernel_rfl] at hre
      simp only [lits, List.length_map, List.length_take, List.length_drop, reachBytes] at hre
      exact ⟨zs, .inr ⟨_, rfl, hl, hm, hz2, hcell, hwz⟩, by omega⟩
  clear hA0 hval0
  refine (walk a0 len0 cap0 z0 a1 len1 cap1 z1 W w0 w1 rz0 rz1).mono fun e W' ⟨he, bel⟩ => ?_
  subst he
  exact ⟨_, rfl, _, _, _, [], _, [], hW', trodAll_mk1 (shut_bool Try.underlying4 _), (trodAll_cons_mk (Below.trod laidOut (by kernel_rfl) (of_decide_eq_true (by kernel_rfl)) k0 bel lt0) (trodAll_cons_mk (Below.trod laidOut (by kernel_rfl) (of_decide_eq_true (by kernel_rfl)) k1 bel lt1) trodAll_mk0)), rfl, bel.frame _, fun h => by cases h⟩

theorem over : Rows.natLendsRow.holds Try.pinned (OpenSpec.ofChange Rows.natLendsSpec) :=
  OpenClaim.holds_of_wide 4 Try.f4 rfl rfl rfl rfl rfl rfl rfl ⟨rfl, rfl, rfl, rfl, rfl⟩ rfl rfl rfl rfl rfl (by kernel_rfl) Try.func4 (by kernel_rfl)
    (of_decide_eq_true (by kernel_rfl)) (by unfold Func.isWrapper; first | (rw [if_pos (by decide +kernel)]; kernel_rfl) | (rw [if_neg (by decide +kernel)]; exact ⟨rfl, rfl⟩))
    (fun os started H enc _ => lifted os started H enc)

/-- ████ THE STATEMENT ████ -/
theorem proved : Rows.NatLendsSaid := over
end Go.Proofs.Ytipmdjfhailfbaa.natLends
namespace Go.Proofs.Ytipmdjfhailfbaa
/-- THE STATEMENT. -/
theorem natLends_holds : Rows.NatLendsSaid := natLends.proved
#print axioms natLends_holds
end Go.Proofs.Ytipmdjfhailfbaa
