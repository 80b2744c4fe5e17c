/- For every input the law BitsVars returns true: a number written in groups of seven bits is read back with its length, and any bytes whatever are read or refused as the document says. No condition. -/
import Derived.Test.YtgboapmnimnojabRows
import Derived.WalkKit
import Derived.ProofKit
import Derived.OpenShut
import Derived.ShutString
import Derived.ChangeOld
import Derived.Below
import Derived.Test.YtgboapmnimnojabUnvRef
import Derived.SizedLaws
namespace Go.Proofs.Ytgboapmnimnojab.bitsVars
open Go.ChangeShapes Go.WideShapes Go.ChangeAt Go.RowKit
open Go.ChangeMaps (open_string shut_string)
set_option linter.unusedVariables false

theorem own : ownKnob Try.prog.godebug = none := by kernel_rfl
theorem laidOut : laidOutB Try.prog = true := by kernel_rfl

/-- WHAT THE WALK IS TOLD OF A SLICE OF INTEGERS THAT CAME IN: it is nil; or it leads to a row of 'cap' cells, the numbers 'zs' (the first 'len' are its elements, the rest its spare room), each fitting its kind. -/
def IsRow (k : IntKind) (w : World) (a : Option Addr) (len cap : Nat) (zs : List Int) : Prop :=
  (a = none ∧ len = 0 ∧ cap = 0 ∧ zs = []) ∨
  ∃ x, a = some x ∧ len ≤ cap ∧ cap ≤ maxLen ∧ zs.length = cap ∧ (∀ i, i < zs.length → w.cell? (x.add i) = some (.int k (zs.getD i 0))) ∧ ∀ n ∈ zs, (Lit.int k n).wf = true

open Mem VarNum Var UnvRef

set_option maxRecDepth 20000 in
set_option maxHeartbeats 1000000 in
theorem law_some (U : Nat) (l : List Nat) (ad : Addr) (cap : Nat) (w : World) (hU : U < 18446744073709551616) (hl : Lies w (some ad) cap (ints .u8 l)) (hl8 : ∀ c ∈ l, c < 256) (hcap : cap ≤ 140737488351232) :
    Calls Try.prog 3 #[.int .u64 (U : Int), .slice (some ad) l.length cap] w fun e w' => e = .returned (.bool true) ∧ Below w.heap.size w w' := by
  obtain ⟨i0, hi, hz0, hz1, hz2⟩ := info_parts info8
  have hlen := hl.1
  rw [ints_length] at hlen
  have hvl := vb_ten U hU
  have hvp := vb_pos U
  have cV := fun W : World => varint_any U W hU
  have cR := fun W : World => rvarint_any U W hU
  have cU : ∀ (W : World) (ao : Option Addr) (cp : Nat), Lies W ao cp (ints .u8 (vb U ++ [200, 7])) → Calls Try.prog 9 #[.slice ao ((vb U).length + 2) cp] W fun e w' => e = .returned (.tuple #[.int .u64 (U : Int), .int .i64 ((vb U).length : Int)]) ∧ w' = W := by
    intro W ao cp h
    have hb := uv_back U [200, 7] 0 0 (by simpa using hU) (.inl rfl)
    have := unvar_any (vb U ++ [200, 7]) U (vb U).length ao cp W h (by intro c hc; simp only [List.mem_append] at hc; rcases hc with hc | hc; exact vb_byte U c hc; simp at hc; omega) (by simpa using hb)
    rw [List.length_append] at this
    exact this
  obtain ⟨RU, RN, hR⟩ : ∃ RU RN, uvGo 0 0 l = (RU, RN) := ⟨_, _, rfl⟩
  have cB : ∀ (W : World) (ao : Option Addr) (cp : Nat), Lies W ao cp (ints .u8 l) → Calls Try.prog 9 #[.slice ao l.length cp] W fun e w' => e = .returned (.tuple #[.int .u64 (RU : Int), .int .i64 (RN : Int)]) ∧ w' = W := fun W ao cp h => unvar_any l RU RN ao cp W h hl8 hR
  have cC : ∀ (W : World), Below w.heap.size w W → Calls Try.prog 10 #[.slice (some ad) l.length cap] W fun e w' => e = .returned (.tuple #[.int .u64 (RU : Int), .int .i64 (RN : Int)]) ∧ Below W.heap.size W w' := fun W h => runvar_any l RU RN (some ad) cap W (hl.below h (Nat.le_refl _)) hl8 hR
  have cS : ∀ (W : World) (ao1 ao2 : Option Addr) (cp1 cp2 : Nat), Lies W ao1 cp1 (ints .u8 (vb U)) → Lies W ao2 cp2 (ints .u8 (vb U)) → Calls Try.prog 12 #[.slice ao1 (vb U).length cp1, .slice ao2 (vb U).length cp2] W fun e w' => e = .returned (.bool true) ∧ Below W.heap.size W w' := by
    intro W ao1 ao2 cp1 cp2 h1 h2
    have := same_any (vb U) (vb U) ao1 ao2 cp1 cp2 W h1 h2
    simpa using this
  clear hR hl8
  generalize vb U = V at *
  have t1 : True := trivial
  go_enter Try.func3, Try.ntmps3
  go_wp2_with (first
    | (go_at_call 8; refine (cV _).mono ?_; rintro e w1 ⟨ao1, cp1, rfl, hown1, hb1⟩; obtain ⟨g1, rfl, hg1⟩ := owns_head hown1 (by omega))
    | (at_builtin; refine wpList_append_own _ rfl (.tmp 15) (.tmp 16) 23 rfl w1.heap.size 5 i0 (.int .u8 0) 1 1 Try.underlying23 hi hz0 hz1 hz2 rfl (by decide) _ 0 [] rfl (World.ownsRow_lit w1 #[] 0 (Nat.le_refl _) (by decide) rfl) ⟨g1, 0, none⟩ V.length cp1 (ints .u8 V) rfl (by rw [ints_length]; omega) ((lies_of_owns hown1).alloc _).src (ints_one _ _) (by unfold maxLen; omega) (by omega) (by simp) ?_; intro v2 w2 hown2 hgr2 _)
    | (at_builtin; refine wpList_append_own _ rfl (.tmp 17) (.tmp 18) 23 rfl w1.heap.size 5 i0 (.int .u8 0) 1 1 Try.underlying23 hi hz0 hz1 hz2 rfl (by decide) _ _ _ rfl (hown2.alloc _) ⟨w2.heap.size, 0, none⟩ 2 2 [.int .u8 200, .int .u8 7] rfl rfl (cells2 w2 _ _ _) (by intro u hu; simp at hu; rcases hu with rfl | rfl <;> rfl) (by unfold maxLen; omega) (by omega) (by have := hgr2.size; simp at this; simp; omega) ?_; intro v3 w3 hown3 hgr3 _; have hown4 : w3.ownsRow w1.heap.size 5 1 v3 (V.length + 2) (ints .u8 (V ++ [200, 7])) := by simpa [ints] using hown3))
  have hB13 : Below w1.heap.size w1 w3 := by
    have h1 := (Below.refl w1.heap.size w1).alloc (Nat.le_refl _) (.cells #[] 5)
    have h2 := h1.grown hgr2 (by simp) (fun j hj => by cases hj; exact Nat.le_refl _)
    have h3 := h2.alloc h2.size (.cells #[.int .u8 200, .int .u8 7] 5)
    exact h3.grown hgr3 (by have := h2.size; simp; omega) (fun j hj => (hown2.lt j hj).1)
  have hB3 : Below w.heap.size w w3 := hb1.trans (hB13.mono hb1.size)
  obtain ⟨ao3, cp3, rfl⟩ := owns_shape hown4
  refine (cU _ _ _ (lies_of_owns hown4)).mono ?_
  rintro e w4 ⟨rfl, hw⟩
  have hw2 := hw.symm
  clear hw
  subst hw2
  have hs3 := hB3.size
  clear hown2 hown3 hown4 hgr2 hgr3 cU
  go_wp2_with (at_builtin; refine wpList_append_own _ rfl (.tmp 24) (.tmp 25) 23 rfl w3.heap.size 5 i0 (.int .u8 0) 1 1 Try.underlying23 hi hz0 hz1 hz2 rfl (by decide) _ 0 [] rfl (World.ownsRow_lit w3 #[] 0 (Nat.le_refl _) (by decide) rfl) ad l.length cap (ints .u8 l) rfl (by rw [ints_length]; omega) ((hl.below hB3 (Nat.le_refl _)).alloc _).src (ints_one _ _) (by unfold maxLen; omega) (by omega) (by simp) ?_; intro v6 w6 hown5 hgr6 _)
  have hown6 : w6.ownsRow w3.heap.size 5 1 v6 l.length (ints .u8 l) := by simpa using hown5
  have hB36 : Below w3.heap.size w3 w6 := ((Below.refl w3.heap.size w3).alloc (Nat.le_refl _) _).grown hgr6 (by simp) (fun j hj => by cases hj; exact Nat.le_refl _)
  have hB6 : Below w.heap.size w w6 := hB3.trans (hB36.mono hB3.size)
  have hB16 : Below w1.heap.size w1 w6 := hB13.trans (hB36.mono hB13.size)
  obtain ⟨ao6, cp6, rfl⟩ := owns_shape hown6
  refine (cB _ _ _ (lies_of_owns hown6)).mono ?_
  rintro e w7 ⟨rfl, hw⟩
  have hw2 := hw.symm
  clear hw
  subst hw2
  clear hown5 hgr6 cB hown6
  go_wp2_with (first
    | (go_at_call 10; refine (cC _ hB6).mono ?_; rintro e w7 ⟨rfl, hb7⟩)
    | (go_at_call 11; refine (awake _).mono ?_; rintro e w8 ⟨rfl, hw⟩; have hw2 := hw.symm; clear hw; subst hw2)
    | (go_at_call 13; refine (cR _).mono ?_; rintro e w9 ⟨ao9, cp9, rfl, hown9, hb9⟩)
    | (go_at_call 12; refine (cS _ _ _ _ _ ((lies_of_owns hown1).below (hB16.trans ((hb7.trans (hb9.mono hb7.size)).mono hB16.size)) (Nat.le_refl _)) (lies_of_owns hown9)).mono ?_; rintro e w10 ⟨rfl, hb10⟩))
  all_goals go_ret
  all_goals exact ⟨rfl, hB6.trans (((hb7.trans (hb9.mono hb7.size)).trans (hb10.mono (by have := hb7.size; have := hb9.size; omega))).mono hB6.size)⟩

set_option maxRecDepth 20000 in
set_option maxHeartbeats 1000000 in
theorem law_none (U : Nat) (w : World) (hU : U < 18446744073709551616) :
    Calls Try.prog 3 #[.int .u64 (U : Int), .slice none 0 0] w fun e w' => e = .returned (.bool true) ∧ Below w.heap.size w w' := by
  obtain ⟨i0, hi, hz0, hz1, hz2⟩ := info_parts info8
  have hl : ∀ W : World, Lies W none 0 (ints .u8 []) := fun W => ⟨by simp [ints], by decide, fun _ => rfl, fun hp => by simp [ints] at hp⟩
  have hvl := vb_ten U hU
  have hvp := vb_pos U
  have cV := fun W : World => varint_any U W hU
  have cR := fun W : World => rvarint_any U W hU
  have cU : ∀ (W : World) (ao : Option Addr) (cp : Nat), Lies W ao cp (ints .u8 (vb U ++ [200, 7])) → Calls Try.prog 9 #[.slice ao ((vb U).length + 2) cp] W fun e w' => e = .returned (.tuple #[.int .u64 (U : Int), .int .i64 ((vb U).length : Int)]) ∧ w' = W := by
    intro W ao cp h
    have hb := uv_back U [200, 7] 0 0 (by simpa using hU) (.inl rfl)
    have := unvar_any (vb U ++ [200, 7]) U (vb U).length ao cp W h (by intro c hc; simp only [List.mem_append] at hc; rcases hc with hc | hc; exact vb_byte U c hc; simp at hc; omega) (by simpa using hb)
    rw [List.length_append] at this
    exact this
  obtain ⟨RU, RN, hR⟩ : ∃ RU RN, uvGo 0 0 [] = (RU, RN) := ⟨_, _, rfl⟩
  have cB : ∀ (W : World) (ao : Option Addr) (cp : Nat), Lies W ao cp (ints .u8 []) → Calls Try.prog 9 #[.slice ao 0 cp] W fun e w' => e = .returned (.tuple #[.int .u64 (RU : Int), .int .i64 (RN : Int)]) ∧ w' = W := fun W ao cp h => unvar_any [] RU RN ao cp W h (by simp) hR
  have cC : ∀ (W : World), Below w.heap.size w W → Calls Try.prog 10 #[.slice none 0 0] W fun e w' => e = .returned (.tuple #[.int .u64 (RU : Int), .int .i64 (RN : Int)]) ∧ Below W.heap.size W w' := fun W _ => runvar_any [] RU RN none 0 W (hl W) (by simp) hR
  have cS : ∀ (W : World) (ao1 ao2 : Option Addr) (cp1 cp2 : Nat), Lies W ao1 cp1 (ints .u8 (vb U)) → Lies W ao2 cp2 (ints .u8 (vb U)) → Calls Try.prog 12 #[.slice ao1 (vb U).length cp1, .slice ao2 (vb U).length cp2] W fun e w' => e = .returned (.bool true) ∧ Below W.heap.size W w' := by
    intro W ao1 ao2 cp1 cp2 h1 h2
    have := same_any (vb U) (vb U) ao1 ao2 cp1 cp2 W h1 h2
    simpa using this
  clear hR
  generalize vb U = V at *
  have t1 : True := trivial
  go_enter Try.func3, Try.ntmps3
  go_wp2_with (first
    | (go_at_call 8; refine (cV _).mono ?_; rintro e w1 ⟨ao1, cp1, rfl, hown1, hb1⟩; obtain ⟨g1, rfl, hg1⟩ := owns_head hown1 (by omega))
    | (at_builtin; refine wpList_append_own _ rfl (.tmp 15) (.tmp 16) 23 rfl w1.heap.size 5 i0 (.int .u8 0) 1 1 Try.underlying23 hi hz0 hz1 hz2 rfl (by decide) _ 0 [] rfl (World.ownsRow_lit w1 #[] 0 (Nat.le_refl _) (by decide) rfl) ⟨g1, 0, none⟩ V.length cp1 (ints .u8 V) rfl (by rw [ints_length]; omega) ((lies_of_owns hown1).alloc _).src (ints_one _ _) (by unfold maxLen; omega) (by omega) (by simp) ?_; intro v2 w2 hown2 hgr2 _)
    | (at_builtin; refine wpList_append_own _ rfl (.tmp 17) (.tmp 18) 23 rfl w1.heap.size 5 i0 (.int .u8 0) 1 1 Try.underlying23 hi hz0 hz1 hz2 rfl (by decide) _ _ _ rfl (hown2.alloc _) ⟨w2.heap.size, 0, none⟩ 2 2 [.int .u8 200, .int .u8 7] rfl rfl (cells2 w2 _ _ _) (by intro u hu; simp at hu; rcases hu with rfl | rfl <;> rfl) (by unfold maxLen; omega) (by omega) (by have := hgr2.size; simp at this; simp; omega) ?_; intro v3 w3 hown3 hgr3 _; have hown4 : w3.ownsRow w1.heap.size 5 1 v3 (V.length + 2) (ints .u8 (V ++ [200, 7])) := by simpa [ints] using hown3))
  have hB13 : Below w1.heap.size w1 w3 := by
    have h1 := (Below.refl w1.heap.size w1).alloc (Nat.le_refl _) (.cells #[] 5)
    have h2 := h1.grown hgr2 (by simp) (fun j hj => by cases hj; exact Nat.le_refl _)
    have h3 := h2.alloc h2.size (.cells #[.int .u8 200, .int .u8 7] 5)
    exact h3.grown hgr3 (by have := h2.size; simp; omega) (fun j hj => (hown2.lt j hj).1)
  have hB3 : Below w.heap.size w w3 := hb1.trans (hB13.mono hb1.size)
  obtain ⟨ao3, cp3, rfl⟩ := owns_shape hown4
  refine (cU _ _ _ (lies_of_owns hown4)).mono ?_
  rintro e w4 ⟨rfl, hw⟩
  have hw2 := hw.symm
  clear hw
  subst hw2
  have hs3 := hB3.size
  clear hown2 hown3 hown4 hgr2 hgr3 cU
  have hown6 : (w3.alloc (.cells #[] 5)).ownsRow w3.heap.size 5 1 (.slice (some ⟨w3.heap.size, 0, none⟩) 0 0) 0 [] := World.ownsRow_lit w3 #[] 0 (Nat.le_refl _) (by decide) rfl
  go_wp2_with (at_builtin; refine wpList_append_own_none rfl (.tmp 24) (.tmp 25) 23 rfl w3.heap.size 5 i0 1 Try.underlying23 hi _ 0 [] rfl hown6 rfl ?_)
  generalize hw6 : w3.alloc (.cells #[] 5) = w6 at *
  have hB36 : Below w3.heap.size w3 w6 := by rw [← hw6]; exact (Below.refl w3.heap.size w3).alloc (Nat.le_refl _) _
  have hB6 : Below w.heap.size w w6 := hB3.trans (hB36.mono hB3.size)
  have hB16 : Below w1.heap.size w1 w6 := hB13.trans (hB36.mono hB13.size)
  refine (cB _ _ _ (lies_of_owns hown6)).mono ?_
  rintro e w7 ⟨rfl, hw⟩
  have hw2 := hw.symm
  clear hw
  subst hw2
  clear hw6 cB hown6
  go_wp2_with (first
    | (go_at_call 10; refine (cC _ hB6).mono ?_; rintro e w7 ⟨rfl, hb7⟩)
    | (go_at_call 11; refine (awake _).mono ?_; rintro e w8 ⟨rfl, hw⟩; have hw2 := hw.symm; clear hw; subst hw2)
    | (go_at_call 13; refine (cR _).mono ?_; rintro e w9 ⟨ao9, cp9, rfl, hown9, hb9⟩)
    | (go_at_call 12; refine (cS _ _ _ _ _ ((lies_of_owns hown1).below (hB16.trans ((hb7.trans (hb9.mono hb7.size)).mono hB16.size)) (Nat.le_refl _)) (lies_of_owns hown9)).mono ?_; rintro e w10 ⟨rfl, hb10⟩))
  all_goals go_ret
  all_goals exact ⟨rfl, hB6.trans (((hb7.trans (hb9.mono hb7.size)).trans (hb10.mono (by have := hb7.size; have := hb9.size; omega))).mono hB6.size)⟩

theorem walk (a0 : Int) (a1 : Option Addr) (len1 cap1 : Nat) (z1 : List Int) (w : World) (w0 : (Lit.int .u64 a0).wf = true) (w1 : IsRow .u8 w a1 len1 cap1 z1) (r1 : cap1 * 1 ≤ 140737488351232) :
    Calls Try.prog 3 #[.int .u64 a0, .slice a1 len1 cap1] w fun e w' => e = .returned (.bool true) ∧ Below w.heap.size w w' := by
  have b0 := bounds_u64 w0
  obtain ⟨U, rfl⟩ := Int.eq_ofNat_of_zero_le b0.1
  obtain ⟨l, rfl, hl, hl8⟩ := lies_of_row nonneg_u8 w1
  cases a1 with
  | none =>
    have h0 := hl.2.2.1 rfl
    have h1 := hl.1
    rw [ints_length] at h1
    obtain rfl : cap1 = 0 := h0
    obtain rfl : l = [] := List.length_eq_zero_iff.1 (by omega)
    exact law_none U w (by omega)
  | some ad => exact law_some U l ad cap1 w (by omega) hl (fun c hc => by have := (bounds_u8 (hl8 c hc)).2; omega) (by omega)

/-! ### THE ROW's STEP: WRITTEN OUT: LEAVE IT -/
set_option maxRecDepth 100000 in
theorem lifted (os : Os) (started : os.Started) (H : Type) (enc : TypeId × Value → H) :
    ReturnsInHanded {} Try.checked os 3 .any (Rows.bitsVarsSpec.pre6 enc Try.prog Try.f3 Rows.bitsVarsRow.domain false) (Rows.bitsVarsSpec.post enc Try.prog Try.f3 false true false false) := by
  refine returnsInHanded_of_change_sized (C := Try.checked) own started (by kernel_rfl) Try.func3
    (ChangeSpec.witness6 (enc := enc) (C := Try.checked) false ⟨#[], #[.int .u64 0, .slice none 0 0], []⟩ 8 (by kernel_rfl) (by kernel_rfl) (by kernel_rfl) (by kernel_rfl)) ?_
  intro W base args ds gs before hval0 hW hcnd hsz0 _
  have hval : ∀ (j : Nat) t v, Try.f3.params[j]? = some t → args[j]? = some v → Value.okWide Try.prog W .any base t v := hval0
  have hW' := hW
  obtain ⟨p, q, hA0, hV, rfl, hfz, hnd⟩ := hW
  have hA : DataW.TrodAll enc Try.prog W 0 (fun _ => true) true Try.f3.params.toList args.toList ds p := hA0
  have hsz : (DataW.weightsEach Try.prog (Try.f3.params.toList ++ Rows.bitsVarsSpec.plain.varTypes Try.prog) (ds ++ gs)).all (· ≤ reachBytes) = true := hsz0
  rw [Try.params3] at hA hval hsz
  obtain ⟨v0, vs0, d0, ds0, p0, q0, hargs, rfl, rfl, h0, r0⟩ := trodAll_cons hA
  obtain ⟨v1, vs1, d1, ds1, p1, q1, rfl, rfl, rfl, h1, r1⟩ := trodAll_cons r0
  obtain ⟨rfl, rfl, rfl⟩ := trodAll_nil r1
  obtain rfl : args = #[v0, v1] := by cases args; simp_all
  obtain ⟨rfl, rfl⟩ := trodVars_none hV
  obtain ⟨a0, rfl, rfl, rfl, w0⟩ := open_int Try.underlying22 (hval 0 22 v0 rfl rfl) h0
  obtain ⟨a1, len1, cap1, rfl⟩ := okWide_slice Try.underlying23 (hval 1 23 v1 rfl rfl)
  have k1 := h1
  have lt1 : ∀ x ∈ p1, x.block < W.heap.size := by obtain ⟨m, hm⟩ := k1; exact DataW.trod_lt m _ _ _ hm
  obtain ⟨z1, w1, r1⟩ : ∃ zs, IsRow .u8 W a1 len1 cap1 zs ∧ cap1 * 1 ≤ 140737488351232 := by
    obtain ⟨fuel, hf⟩ := h1
    rcases open_ints Try.underlying23 Try.underlying5 (by kernel_rfl) hf with ⟨hcs, _⟩ | ⟨x, l, c, zs, hcs, _, hl, hm, hz, hx, hcell, hwz⟩
    · simp [Value.cells] at hcs
      obtain ⟨rfl, rfl, rfl⟩ := hcs
      exact ⟨[], .inl ⟨rfl, rfl, rfl, rfl⟩, by decide⟩
    · simp [Value.cells] at hcs
      obtain ⟨rfl, rfl, rfl⟩ := hcs
      have hz2 : zs.length = cap1 := by simpa using hz
      simp only [Prod.mk.injEq] at hx
      obtain ⟨rfl, _⟩ := hx
      have hre := sized_slice hsz (j := 1) (t := 23) (e := 5) rfl rfl Try.underlying23
      rw [show Try.prog.bytesOf 5 = 1 by kernel_rfl] at hre
      simp only [lits, List.length_map, List.length_take, List.length_drop, reachBytes] at hre
      exact ⟨zs, .inr ⟨_, rfl, hl, hm, hz2, hcell, hwz⟩, by omega⟩
  clear hA0 hval0
  refine (walk a0 a1 len1 cap1 z1 W w0 w1 r1).mono fun e W' ⟨he, bel⟩ => ?_
  subst he
  exact ⟨_, rfl, _, _, _, [], _, [], hW', trodAll_mk1 (shut_bool Try.underlying4 _), (trodAll_cons_mk (shut_int Try.underlying22 w0) (trodAll_cons_mk (Below.trod laidOut (by kernel_rfl) (of_decide_eq_true (by kernel_rfl)) k1 bel lt1) trodAll_mk0)), rfl, bel.frame _, fun h => by cases h⟩

theorem over : Rows.bitsVarsRow.holds Try.pinned (OpenSpec.ofChange Rows.bitsVarsSpec) :=
  OpenClaim.holds_of_wide 3 Try.f3 rfl rfl rfl rfl rfl rfl rfl ⟨rfl, rfl, rfl, rfl, rfl⟩ rfl rfl rfl rfl rfl (by kernel_rfl) Try.func3 (by kernel_rfl)
    (of_decide_eq_true (by kernel_rfl)) (by unfold Func.isWrapper; first | (rw [if_pos (by decide +kernel)]; kernel_rfl) | (rw [if_neg (by decide +kernel)]; exact ⟨rfl, rfl⟩))
    (fun os started H enc _ => lifted os started H enc)

/-- ████ THE STATEMENT ████ -/
theorem proved : Rows.BitsVarsSaid := over
end Go.Proofs.Ytgboapmnimnojab.bitsVars
namespace Go.Proofs.Ytgboapmnimnojab
/-- THE STATEMENT. -/
theorem bitsVars_holds : Rows.BitsVarsSaid := bitsVars.proved
#print axioms bitsVars_holds
end Go.Proofs.Ytgboapmnimnojab
