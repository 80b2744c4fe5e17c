/- For every input of at most 1048576 values the law BitsPacks returns true: rows of numbers are packed and unpacked without loss, and any bytes whatever are taken apart or refused as the document says. The condition: what is read is of bulk at most 1048576. -/
import Derived.Test.YtgboapmnimnojabRows
import Derived.WalkKit
import Derived.ProofKit
import Derived.OpenShut
import Derived.ShutString
import Derived.ChangeOld
import Derived.Below
import Derived.Test.YtgboapmnimnojabPkL
import Derived.Test.YtgboapmnimnojabAppL
import Derived.JoinedCond
namespace Go.Proofs.Ytgboapmnimnojab.bitsPacks
open Go.ChangeShapes Go.WideShapes Go.ChangeAt Go.RowKit
open Go.ChangeMaps (open_string shut_string)
set_option linter.unusedVariables false

theorem own : ownKnob Try.prog.godebug = none := by kernel_rfl
theorem laidOut : laidOutB Try.prog = true := by kernel_rfl

/-- WHAT THE WALK IS TOLD OF A SLICE OF INTEGERS THAT CAME IN: it is nil; or it leads to a row of 'cap' cells, the numbers 'zs' (the first 'len' are its elements, the rest its spare room), each fitting its kind. -/
def IsRow (k : IntKind) (w : World) (a : Option Addr) (len cap : Nat) (zs : List Int) : Prop :=
  (a = none ∧ len = 0 ∧ cap = 0 ∧ zs = []) ∨
  ∃ x, a = some x ∧ len ≤ cap ∧ cap ≤ maxLen ∧ zs.length = cap ∧ (∀ i, i < zs.length → w.cell? (x.add i) = some (.int k (zs.getD i 0))) ∧ ∀ n ∈ zs, (Lit.int k n).wf = true

open Mem VarNum Var UnvRef PkL AppL

/-- What Unpack hands back, as a row and whether. -/
theorem out_flat {R : Option (List Nat)} {base : Nat} {w' : World} {v : Value} {b : Bool} (h : Out R base w' v b) : ∃ o c, v = .slice o (R.getD []).length c ∧ b = R.isSome ∧ Lies w' o c (ints .u64 (R.getD [])) := by
  rcases h with ⟨rfl, rfl, rfl⟩ | ⟨X, o, c, rfl, rfl, rfl, h⟩
  · exact ⟨none, 0, rfl, rfl, lies_nil _ _ (by decide) (fun _ => rfl) _⟩
  · exact ⟨o, c, rfl, rfl, lies_of_owns h⟩
/-- Unpacked: the row Y, and the answer t. -/
def Flat (Y : List Nat) (t : Bool) (W : World) (e : Ending) (w' : World) : Prop := ∃ o c, e = .returned (.tuple #[.slice o Y.length c, .bool t]) ∧ Lies w' o c (ints .u64 Y) ∧ Below W.heap.size W w'

set_option maxRecDepth 20000 in
set_option maxHeartbeats 2000000 in
theorem law_any (L l : List Nat) (R : Option (List Nat)) (hR : Run R [] l) (ao bo : Option Addr) (cap1 cap2 : Nat) (w : World) (hl : Lies w ao cap1 (ints .u64 L)) (hl2 : Lies w bo cap2 (ints .u8 l)) (hL : ∀ u ∈ L, u < 18446744073709551616) (hl8 : ∀ c ∈ l, c < 256) (hlen : L.length ≤ 1048576) (hlen2 : l.length ≤ 1048576) :
    Calls Try.prog 4 #[.slice ao L.length cap1, .slice bo l.length cap2] w fun e w' => e = .returned (.bool true) ∧ Below w.heap.size w w' := by
  obtain ⟨i0, hi, hz0, hz1, hz2⟩ := info_parts info64
  obtain ⟨j0, hj, hy0, hy1, hy2⟩ := info_parts info8
  have hpl := pk_len L hL
  have cP := fun (W : World) (o : Option Addr) (c : Nat) (h : Lies W o c (ints .u64 L)) => pack_any L o c W h hL hlen
  have cU : ∀ (W : World) (o : Option Addr) (c : Nat), Lies W o c (ints .u8 (pk L)) → Calls Try.prog 15 #[.slice o (pk L).length c] W (Flat L true W) := fun W o c h => (unpack_any (pk L) (some L) (run_all L hL) o c W h (pk_byte L) (by omega)).mono (by rintro e w' ⟨v, b, rfl, ho, hb⟩; obtain ⟨o, c, rfl, rfl, hl⟩ := out_flat ho; exact ⟨o, c, rfl, hl, hb⟩)
  have cB : ∀ (W : World) (o : Option Addr) (c : Nat), Lies W o c (ints .u8 l) → Calls Try.prog 15 #[.slice o l.length c] W (Flat (R.getD []) R.isSome W) := fun W o c h => (unpack_any l R hR o c W h hl8 (by omega)).mono (by rintro e w' ⟨v, b, rfl, ho, hb⟩; obtain ⟨o, c, rfl, rfl, hl⟩ := out_flat ho; exact ⟨o, c, rfl, hl, hb⟩)
  have cR : ∀ (W : World), Below w.heap.size w W → Calls Try.prog 16 #[.slice bo l.length cap2] W (Flat (R.getD []) R.isSome W) := fun W hb => (runpack_any l R hR bo cap2 W (hl2.below hb (Nat.le_refl _)) hl8 (by omega)).mono (by rintro e w' ⟨v, b, rfl, ho, hb⟩; obtain ⟨o, c, rfl, rfl, hl⟩ := out_flat ho; exact ⟨o, c, rfl, hl, hb⟩)
  generalize R.getD [] = Y at cB cR
  generalize R.isSome = t at cB cR
  have cS := fun (W : World) (o1 o2 : Option Addr) (c1 c2 : Nat) (h1 : Lies W o1 c1 (ints .u8 (pk L))) (h2 : Lies W o2 c2 (ints .u8 (pk L))) => same_any (pk L) (pk L) o1 o2 c1 c2 W h1 h2
  have cN := fun (X : List Nat) (W : World) (o1 o2 : Option Addr) (c1 c2 : Nat) (h1 : Lies W o1 c1 (ints .u64 X)) (h2 : Lies W o2 c2 (ints .u64 X)) => same64_any X X o1 o2 c1 c2 W h1 h2
  simp only [decide_true] at cS cN
  clear hR hl8
  go_enter Try.func4, Try.ntmps4
  go_wp2_with (at_builtin; refine wpList_append_lies _ rfl (.tmp 15) (.tmp 16) 30 rfl w.heap.size 22 i0 (.int .u64 0) 8 Try.underlying30 hi hz0 hz1 hz2 rfl _ 0 [] rfl (World.ownsRow_lit w #[] 0 (Nat.le_refl _) (by decide) rfl) ao L.length cap1 (ints .u64 L) rfl (ints_length _ _) (hl.alloc _) (ints_one _ _) (by unfold maxLen; omega) (by omega) (by simp) ?_; intro v1 w1 hown1' hgr1)
  have hown1 : w1.ownsRow w.heap.size 22 1 v1 L.length (ints .u64 L) := by simpa using hown1'
  have hb1 : Below w.heap.size w w1 := ((Below.refl w.heap.size w).alloc (Nat.le_refl _) _).grown hgr1 (by simp) (fun j hj => by cases hj; exact Nat.le_refl _)
  obtain ⟨o1, c1, rfl⟩ := owns_shape hown1
  refine (cP _ _ _ (lies_of_owns hown1)).mono ?_
  rintro e w2 ⟨o2, c2, rfl, hown2, hb2⟩
  have H2 := bt hb1 hb2
  clear hown1' hgr1 hown1 cP hb1 hb2
  go_wp2
  generalize hbase : w2.heap.size = base
  have hs2 := H2.size
  go_loopw [6, 22] (fun v i wr => ∃ (k : Nat) (F : List Nat), k ≤ L.length ∧ i = .int .i64 k ∧ Hid (F = pk (L.take k)) ∧ F.length ≤ 10 * k ∧ wr.ownsRow base 5 1 v F.length (ints .u8 F) ∧ Below base w2 wr)
    (fun _ i _ => L.length - (intOf i).toNat)
  case atStart =>
    subst hbase
    exact ⟨0, [], Nat.zero_le _, rfl, rfl, by simp, World.ownsRow_lit w2 #[] 0 (Nat.le_refl _) (by decide) rfl, (Below.refl _ _).alloc (Nat.le_refl _) _⟩
  case round =>
    obtain ⟨k, F, hk, rfl, HF, hFl, hown, hb⟩ := hrel
    have hs := hb.size
    have HW : Below w.heap.size w wr := H2.trans (hb.mono (by omega))
    by_cases hlt : k < L.length
    · have g1 := hl.below HW (Nat.le_refl _)
      obtain ⟨b1, off1, rfl, _, hc1⟩ := g1.2.2.2 (by rw [ints_length]; omega)
      have d1 := hc1 k (by rw [ints_length]; omega)
      rw [ints_get _ _ _ hlt] at d1
      have hx : L.getD k 0 < 18446744073709551616 := by
        have : L.getD k 0 = L[k] := by simp [hlt]
        rw [this]; exact hL _ (List.getElem_mem hlt)
      have HN : Hid (F ++ vb (L.getD k 0) = pk (L.take (k + 1))) := by unfold Hid; rw [pk_take L k hlt, HF.out]
      have c3 := rvarint_any (L.getD k 0) wr hx
      have hvl := vb_ten _ hx
      generalize vb (L.getD k 0) = V at c3 HN hvl
      generalize L.getD k 0 = x at c3 d1 hx
      clear hc1 g1 HF cU cB cR cS cN hown2 hpl hl2 hL
      go_wp2_with (first
        | (go_at_call 13; refine c3.mono ?_; rintro e w3 ⟨o3, cp3, rfl, hown3, hb3⟩; have hown4 := owns_keep hown hb3; have hs3 := hb3.size)
        | (at_builtin; refine wpList_append_lies _ rfl (.tmp 26) (.tmp 28) 23 rfl base 5 j0 (.int .u8 0) 1 Try.underlying23 hj hy0 hy1 hy2 rfl _ F.length (ints .u8 F) rfl hown4 o3 V.length cp3 (ints .u8 V) rfl (ints_length _ _) (lies_of_owns hown3) (ints_one _ _) (by unfold maxLen; omega) (by omega) (by omega) ?_; intro v4 w4 hown5 hgr4))
      have hb4 : Below base w2 w4 := (hb.trans (hb3.mono (by omega))).grown hgr4 (by omega) (fun j hj => (hown4.lt j hj).1)
      go_roundw
      case rel => exact ⟨k + 1, F ++ V, by omega, by go_num, HN, by simp; omega, by simpa [ints] using hown5, hb4⟩
      case measure => simp [intOf]; omega
    · have ek : L.take k = L := List.take_of_length_le (by omega)
      have hFp : F = pk L := by rw [HF.out, ek]
      subst hFp
      obtain ⟨ao2, cap2', e2⟩ := owns_shape hown
      rw [e2] at hown ⊢
      clear HF ek
      have hlp := (lies_of_owns hown2).below hb (by omega)
      have hlw := lies_of_owns hown
      clear hown2 hown
      generalize pk L = P at *
      go_wp2_with (at_builtin; refine wpList_append_lies _ rfl (.tmp 32) (.tmp 33) 23 rfl wr.heap.size 5 j0 (.int .u8 0) 1 Try.underlying23 hj hy0 hy1 hy2 rfl _ 0 [] rfl (World.ownsRow_lit wr #[] 0 (Nat.le_refl _) (by decide) rfl) o2 P.length c2 (ints .u8 P) rfl (ints_length _ _) (hlp.alloc _) (ints_one _ _) (by unfold maxLen; omega) (by omega) (by simp) ?_; intro v4 w4 hown4' hgr4)
      have hown4 : w4.ownsRow wr.heap.size 5 1 v4 P.length (ints .u8 P) := by simpa using hown4'
      have hb4 : Below wr.heap.size wr w4 := ((Below.refl wr.heap.size wr).alloc (Nat.le_refl _) _).grown hgr4 (by simp) (fun j hj => by cases hj; exact Nat.le_refl _)
      obtain ⟨o4, c4, rfl⟩ := owns_shape hown4
      refine (cU _ _ _ (lies_of_owns hown4)).mono ?_
      rintro e w5 ⟨o5, c5, rfl, hl5, hb5⟩
      have hr5 := bt hb4 hb5
      have H5 := bt HW hr5
      have hl5b := (hl2.below H5 (Nat.le_refl _))
      clear hown4' hgr4 hown4 cU hb4 hb5
      go_wp2_with (at_builtin; refine wpList_append_lies _ rfl (.tmp 39) (.tmp 40) 23 rfl w5.heap.size 5 j0 (.int .u8 0) 1 Try.underlying23 hj hy0 hy1 hy2 rfl _ 0 [] rfl (World.ownsRow_lit w5 #[] 0 (Nat.le_refl _) (by decide) rfl) bo l.length cap2 (ints .u8 l) rfl (ints_length _ _) (hl5b.alloc _) (ints_one _ _) (by unfold maxLen; omega) (by omega) (by simp) ?_; intro v6 w6 hown6' hgr6)
      have hown6 : w6.ownsRow w5.heap.size 5 1 v6 l.length (ints .u8 l) := by simpa using hown6'
      have hb6 : Below w5.heap.size w5 w6 := ((Below.refl w5.heap.size w5).alloc (Nat.le_refl _) _).grown hgr6 (by simp) (fun j hj => by cases hj; exact Nat.le_refl _)
      obtain ⟨o6, c6, rfl⟩ := owns_shape hown6
      refine (cB _ _ _ (lies_of_owns hown6)).mono ?_
      rintro e w7 ⟨o7, c7, rfl, hl7, hb7⟩
      have h57 := bt hb6 hb7
      have H7 := bt H5 h57
      clear hown6' hgr6 hown6 cB hb6 hb7 hl5b
      clear hj hy0 hy1 hy2 hi hz0 hz1 hz2
      have tok : True := trivial
      go_wp2_with (first
        | (go_at_call 16; refine (cR _ H7).mono ?_; rintro e w8 ⟨o8, c8, rfl, hl8, hb8⟩; have h58 := bt h57 hb8; have hr8 := bt hr5 h58; have H8 := bt HW hr8)
        | (go_at_call 11; refine (awake _).mono ?_; rintro e w9 ⟨rfl, hw⟩; have hw2 := hw.symm; clear hw; subst hw2)
        | (go_at_call 12; refine (cS _ _ _ _ _ (hlp.below hr8 (Nat.le_refl _)) (hlw.below hr8 (Nat.le_refl _))).mono ?_; rintro e w9 ⟨rfl, hb9⟩; have h59 := bt h58 hb9; have H9 := bt H8 hb9; have h89 := bt hb8 hb9)
        | (clear tok; go_at_call 17; refine (cN L _ _ _ _ _ (hl5.below h59 (Nat.le_refl _)) (hl.below H9 (Nat.le_refl _))).mono ?_; rintro e w10 ⟨rfl, hb10⟩; have H10 := bt H9 hb10; have h8t := bt hb9 hb10; have h7t := bt h89 hb10)
        | (go_at_call 17; refine (cN Y _ _ _ _ _ (hl7.below h7t (Nat.le_refl _)) (hl8.below h8t (Nat.le_refl _))).mono ?_; rintro e w11 ⟨rfl, hb11⟩; have H11 := bt H10 hb11))
      all_goals go_ret
      all_goals exact ⟨rfl, H11⟩

theorem walk (a0 : Option Addr) (len0 cap0 : Nat) (z0 : List Int) (a1 : Option Addr) (len1 cap1 : Nat) (z1 : List Int) (w : World) (w0 : IsRow .u64 w a0 len0 cap0 z0) (w1 : IsRow .u8 w a1 len1 cap1 z1) (u : cap0 + cap1 ≤ 1048576) :
    Calls Try.prog 4 #[.slice a0 len0 cap0, .slice a1 len1 cap1] w fun e w' => e = .returned (.bool true) ∧ Below w.heap.size w w' := by
  obtain ⟨L, rfl, hl, hL⟩ := lies_of_row nonneg_u64 w0
  obtain ⟨l, rfl, hl2, hb8⟩ := lies_of_row nonneg_u8 w1
  have hlen := hl.1
  have hlen2 := hl2.1
  rw [ints_length] at hlen hlen2
  exact law_any L l _ ⟨l.length, Nat.le_refl _, rfl⟩ a0 a1 cap0 cap1 w hl hl2 (fun x hx => by have := (bounds_u64 (hL x hx)).2; omega) (fun x hx => by have := (bounds_u8 (hb8 x hx)).2; omega) (by omega) (by omega)

/-! ### THE ROW's STEP: WRITTEN OUT: LEAVE IT -/
set_option maxRecDepth 100000 in
theorem lifted (os : Os) (started : os.Started) (H : Type) (enc : TypeId × Value → H) (F : Stop.Interp) :
    ReturnsInHanded {} Try.checked os 4 .any ((Rows.OpenSpec.upto Rows.bitsPacksSpec).pre6 enc Try.prog Try.f4 Rows.bitsPacksUptoRow.domain false) (((Rows.OpenSpec.upto Rows.bitsPacksSpec).at F).post enc Try.prog Try.f4 false true false false) := by
  refine returnsInHanded_of_cond (C := Try.checked) (s := Rows.OpenSpec.upto Rows.bitsPacksSpec) (k := Rows.uptoSmall) rfl own started (by kernel_rfl) Try.func4
    (OpenSpec.witness (enc := enc) (C := Try.checked) (s := Rows.OpenSpec.upto Rows.bitsPacksSpec) (k := Rows.uptoSmall) rfl false ⟨#[], #[.slice none 0 0, .slice none 0 0], []⟩ 8 (by kernel_rfl) (by kernel_rfl) (by kernel_rfl)
      (x := ([.nil, .nil], [], [])) (by kernel_rfl) rfl (by kernel_rfl)) ?_
  intro W base args ds gs before hval0 hW hcnd hk _
  have hval : ∀ (j : Nat) t v, Try.f4.params[j]? = some t → args[j]? = some v → Value.okWide Try.prog W .any base t v := hval0
  have hW' := hW
  obtain ⟨p, q, hA0, hV, rfl, hfz, hnd⟩ := hW
  have hA : DataW.TrodAll enc Try.prog W 0 (fun _ => true) true Try.f4.params.toList args.toList ds p := hA0
  rw [Try.params4] at hA hval
  obtain ⟨v0, vs0, d0, ds0, p0, q0, hargs, rfl, rfl, h0, r0⟩ := trodAll_cons hA
  obtain ⟨v1, vs1, d1, ds1, p1, q1, rfl, rfl, rfl, h1, r1⟩ := trodAll_cons r0
  obtain ⟨rfl, rfl, rfl⟩ := trodAll_nil r1
  obtain rfl : args = #[v0, v1] := by cases args; simp_all
  obtain ⟨rfl, rfl⟩ := trodVars_none hV
  obtain ⟨a0, len0, cap0, rfl⟩ := okWide_slice Try.underlying30 (hval 0 30 v0 rfl rfl)
  have k0 := h0
  have lt0 : ∀ x ∈ p0, x.block < W.heap.size := by obtain ⟨m, hm⟩ := k0; exact DataW.trod_lt m _ _ _ hm
  obtain ⟨z0, w0, rz0⟩ : ∃ zs, IsRow .u64 W a0 len0 cap0 zs ∧ cap0 ≤ Rows.uptoBulk d0 := by
    obtain ⟨fuel, hf⟩ := h0
    rcases open_ints Try.underlying30 Try.underlying22 (by kernel_rfl) hf with ⟨hcs, _⟩ | ⟨x, l, c, zs, hcs, _, hl, hm, hz, hx, hcell, hwz⟩
    · simp [Value.cells] at hcs
      obtain ⟨rfl, rfl, rfl⟩ := hcs
      exact ⟨[], .inl ⟨rfl, rfl, rfl, rfl⟩, Nat.zero_le _⟩
    · simp [Value.cells] at hcs
      obtain ⟨rfl, rfl, rfl⟩ := hcs
      have hz2 : zs.length = cap0 := by simpa using hz
      simp only [Prod.mk.injEq] at hx
      obtain ⟨rfl, _⟩ := hx
      refine ⟨zs, .inr ⟨_, rfl, hl, hm, hz2, hcell, hwz⟩, ?_⟩
      simp only [Rows.uptoBulk, bulk_lits, List.length_take, List.length_drop]
      omega
  obtain ⟨a1, len1, cap1, rfl⟩ := okWide_slice Try.underlying23 (hval 1 23 v1 rfl rfl)
  have k1 := h1
  have lt1 : ∀ x ∈ p1, x.block < W.heap.size := by obtain ⟨m, hm⟩ := k1; exact DataW.trod_lt m _ _ _ hm
  obtain ⟨z1, w1, rz1⟩ : ∃ zs, IsRow .u8 W a1 len1 cap1 zs ∧ cap1 ≤ Rows.uptoBulk d1 := by
    obtain ⟨fuel, hf⟩ := h1
    rcases open_ints Try.underlying23 Try.underlying5 (by kernel_rfl) hf with ⟨hcs, _⟩ | ⟨x, l, c, zs, hcs, _, hl, hm, hz, hx, hcell, hwz⟩
    · simp [Value.cells] at hcs
      obtain ⟨rfl, rfl, rfl⟩ := hcs
      exact ⟨[], .inl ⟨rfl, rfl, rfl, rfl⟩, Nat.zero_le _⟩
    · simp [Value.cells] at hcs
      obtain ⟨rfl, rfl, rfl⟩ := hcs
      have hz2 : zs.length = cap1 := by simpa using hz
      simp only [Prod.mk.injEq] at hx
      obtain ⟨rfl, _⟩ := hx
      refine ⟨zs, .inr ⟨_, rfl, hl, hm, hz2, hcell, hwz⟩, ?_⟩
      simp only [Rows.uptoBulk, bulk_lits, List.length_take, List.length_drop]
      omega
  simp only [List.append_nil] at hk
  have hB : Rows.uptoBulkAll _ ≤ 1048576 := of_decide_eq_true hk
  simp only [Rows.uptoBulkAll] at hB
  have hU : cap0 + cap1 ≤ 1048576 := by omega
  clear hA0 hval0
  refine (walk a0 len0 cap0 z0 a1 len1 cap1 z1 W w0 w1 hU).mono fun e W' ⟨he, bel⟩ => ?_
  subst he
  exact ⟨_, rfl, _, _, _, [], _, [], hW', trodAll_mk1 (shut_bool Try.underlying4 _), (trodAll_cons_mk (Below.trod laidOut (by kernel_rfl) (of_decide_eq_true (by kernel_rfl)) k0 bel lt0) (trodAll_cons_mk (Below.trod laidOut (by kernel_rfl) (of_decide_eq_true (by kernel_rfl)) k1 bel lt1) trodAll_mk0)), rfl, bel.frame _, fun h => by cases h⟩

theorem over : Rows.bitsPacksUptoRow.holds Try.pinned (Rows.OpenSpec.upto Rows.bitsPacksSpec) :=
  OpenClaim.holds_of_cond 4 Try.f4 rfl rfl rfl rfl rfl rfl rfl ⟨rfl, rfl, rfl, rfl, rfl⟩ rfl rfl rfl rfl rfl (by kernel_rfl) Try.func4 (by kernel_rfl)
    (of_decide_eq_true (by kernel_rfl)) (by unfold Func.isWrapper; first | (rw [if_pos (by decide +kernel)]; kernel_rfl) | (rw [if_neg (by decide +kernel)]; exact ⟨rfl, rfl⟩))
    (fun os started H enc _ F => lifted os started H enc F)

/-- ████ THE STATEMENT ████ -/
theorem proved : Rows.BitsPacksUptoSaid := over
end Go.Proofs.Ytgboapmnimnojab.bitsPacks
namespace Go.Proofs.Ytgboapmnimnojab
/-- THE STATEMENT. -/
theorem bitsPacksUpto_holds : Rows.BitsPacksUptoSaid := bitsPacks.proved
#print axioms bitsPacksUpto_holds
end Go.Proofs.Ytgboapmnimnojab
