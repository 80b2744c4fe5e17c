/- For every input the law LimbLends returns true: no call changes the lists that it is given, nor the room behind them, and no two answers share memory. -/
import Derived.Test.YtbhmgafiookjnaaRows
import Derived.WalkKit
import Derived.ProofKit
import Derived.OpenShut
import Derived.ShutString
import Derived.ChangeOld
import Derived.Below
import Derived.Test.YtbhmgafiookjnaaLendNum
import Derived.Test.YtbhmgafiookjnaaCopyL
import Derived.Test.YtbhmgafiookjnaaAddL
import Derived.Test.YtbhmgafiookjnaaShiftL
import Derived.Test.YtbhmgafiookjnaaAppL
import Derived.SizedLaws
namespace Go.Proofs.Ytbhmgafiookjnaa.limbLends
open Go.ChangeShapes Go.WideShapes Go.ChangeAt Go.RowKit
open Go.ChangeMaps (open_string shut_string)
set_option linter.unusedVariables false

theorem own : ownKnob Try.prog.godebug = none := by kernel_rfl
theorem laidOut : laidOutB Try.prog = true := by kernel_rfl

/-- WHAT THE WALK IS TOLD OF A SLICE OF INTEGERS THAT CAME IN: it is nil; or it leads to a row of 'cap' cells, the numbers 'zs' (the first 'len' are its elements, the rest its spare room), each fitting its kind. -/
def IsRow (k : IntKind) (w : World) (a : Option Addr) (len cap : Nat) (zs : List Int) : Prop :=
  (a = none ∧ len = 0 ∧ cap = 0 ∧ zs = []) ∨
  ∃ x, a = some x ∧ len ≤ cap ∧ cap ≤ maxLen ∧ zs.length = cap ∧ (∀ i, i < zs.length → w.cell? (x.add i) = some (.int k (zs.getD i 0))) ∧ ∀ n ∈ zs, (Lit.int k n).wf = true

open Mem LimbNum Limb1 Limb2 Limb3 Limb4 CopyL AddL ShiftL AppL LendNum

/-- An answer: a row of its own, or none, and a Boolean. -/
def Got (W : World) (e : Ending) (w' : World) : Prop := ∃ o c D b, e = .returned (.tuple #[.slice o (ints .u32 D).length c, .bool b]) ∧ w'.ownsRow W.heap.size 23 1 (.slice o (ints .u32 D).length c) (ints .u32 D).length (ints .u32 D) ∧ Below W.heap.size W w'
theorem got_some {W : World} {e : Ending} {w' : World} {L : List Nat} (h : ∃ o c, e = .returned (.tuple #[.slice o L.length c, .bool true]) ∧ w'.ownsRow W.heap.size 23 1 (.slice o L.length c) L.length (ints .u32 L) ∧ Below W.heap.size W w') : Got W e w' := by
  obtain ⟨o, c, rfl, h1, h2⟩ := h
  exact ⟨o, c, L, true, by rw [ints_length], by rw [ints_length]; exact h1, h2⟩
theorem got_none {W : World} {e : Ending} {w' : World} (h : e = .returned (.tuple #[.slice none 0 0, .bool false])) (hb : Below W.heap.size W w') : Got W e w' :=
  ⟨none, 0, [], false, h, World.ownsRow_nil _ _ _ _, hb⟩
theorem sub_got (A B : List Nat) (o1 o2 : Option Addr) (c1 c2 : Nat) (W : World) (h1 : Lies W o1 c1 (ints .u32 A)) (h2 : Lies W o2 c2 (ints .u32 B)) (hA : Small A) (hB : Small B) (hl : A.length ≤ 70368744177664) :
    Calls Try.prog 10 #[.slice o1 A.length c1, .slice o2 B.length c2] W (Got W) := by
  rcases Nat.lt_or_ge (val A) (val B) with h | h
  · exact (sub_no A B o1 o2 c1 c2 W h1 h2 hA hB h).mono fun e w' h => got_none h.1 h.2
  · exact (sub_yes A B o1 o2 c1 c2 W h1 h2 hA hB h hl).mono fun e w' h => got_some h
theorem shl_got (A : List Nat) (n : Int) (o : Option Addr) (c : Nat) (W : World) (h : Lies W o c (ints .u32 A)) (hA : Small A) (hl : A.length ≤ 35184372088832) :
    Calls Try.prog 11 #[.slice o A.length c, .int .i64 n] W (Got W) := by
  by_cases h1 : n < 0 ∨ 100000 < n
  · exact (shl_no A n o c W h1).mono fun e w' h => got_none h.1 (by rw [h.2]; exact Below.refl _ _)
  · exact (shl_any A n o c W (by omega) (by omega) h hA hl).mono fun e w' h => got_some h
theorem shr_got (A : List Nat) (n : Int) (o : Option Addr) (c : Nat) (W : World) (h : Lies W o c (ints .u32 A)) (hA : Small A) (hl : A.length ≤ 35184372088832) :
    Calls Try.prog 12 #[.slice o A.length c, .int .i64 n] W (Got W) := by
  by_cases h1 : n < 0 ∨ 100000 < n
  · exact (shr_no A n o c W h1).mono fun e w' h => got_none h.1 (by rw [h.2]; exact Below.refl _ _)
  · exact (shr_any A n o c W (by omega) (by omega) h hA hl).mono fun e w' h => got_some h
theorem lit2 (W : World) : Lies (W.alloc (.cells #[.int .u32 7, .int .u32 8] 23)) (some ⟨W.heap.size, 0, none⟩) 2 [.int .u32 7, .int .u32 8] := by
  have := lit_lies W [7, 8] 2 rfl (by decide)
  simpa [ints] using this
theorem lit1 (W : World) : Lies (W.alloc (.cells #[.int .u32 9] 23)) (some ⟨W.heap.size, 0, none⟩) 1 [.int .u32 9] := by
  have := lit_lies W [9] 1 rfl (by decide)
  simpa [ints] using this
theorem part {w : World} {base : Nat} {o : Option Addr} {A : List Nat} {n m c : Nat} {xs : List Value} (hn : A.length = n) (h : w.ownsRow base 23 1 (.slice o m c) m (ints .u32 A ++ xs)) (hm : n ≤ m) : Lies w o c (ints .u32 A) := by
  have h1 := lies_of_owns (owns_take h n hm)
  rwa [List.take_left' (by rw [ints_length]; exact hn)] at h1

set_option maxRecDepth 20000 in
set_option maxHeartbeats 4000000 in
theorem law_any (A B : List Nat) (n : Int) (ao bo : Option Addr) (cap1 cap2 : Nat) (w : World) (hl : Lies w ao cap1 (ints .u32 A)) (hl2 : Lies w bo cap2 (ints .u32 B)) (hA : Small A) (hB : Small B) (r0 : A.length * 4 ≤ 140737488351232) (r1 : B.length * 4 ≤ 140737488351232) :
    Calls Try.prog 3 #[.slice ao A.length cap1, .slice bo B.length cap2, .int .i64 n] w fun e w' => e = .returned (.bool true) ∧ Below w.heap.size w w' := by
  obtain ⟨i0, hi, hz0, hz1, hz2⟩ := info_parts info32
  have cAdd := fun (W : World) (o1 o2 : Option Addr) (c1 c2 : Nat) (h1 : Lies W o1 c1 (ints .u32 A)) (h2 : Lies W o2 c2 (ints .u32 B)) => add_any A B o1 o2 c1 c2 W h1 h2 hA hB (by omega) (by omega)
  have hsl : (nl (val A + val B)).length ≤ 35184372087810 := by
    have h1 := nl_lt (max A.length B.length + 1) (val A + val B) (by
      have h1 := val_lt A hA
      have h2 := val_lt B hB
      have h3 : 4294967296 ^ A.length ≤ 4294967296 ^ (max A.length B.length) := Nat.pow_le_pow_right (by omega) (by omega)
      have h4 : 4294967296 ^ B.length ≤ 4294967296 ^ (max A.length B.length) := Nat.pow_le_pow_right (by omega) (by omega)
      rw [Nat.pow_succ]; omega)
    omega
  have cNorm := fun (W : World) (o1 : Option Addr) (c1 : Nat) (h1 : Lies W o1 c1 (ints .u32 A)) => norm_any A o1 c1 W h1 hA (by omega)
  have cSub := fun (W : World) (o1 o2 : Option Addr) (c1 c2 : Nat) (h1 : Lies W o1 c1 (ints .u32 A)) (h2 : Lies W o2 c2 (ints .u32 B)) => sub_got A B o1 o2 c1 c2 W h1 h2 hA hB (by omega)
  have cShl := fun (W : World) (o1 : Option Addr) (c1 : Nat) (h1 : Lies W o1 c1 (ints .u32 A)) => shl_got A n o1 c1 W h1 hA (by omega)
  have cShr := fun (W : World) (o1 : Option Addr) (c1 : Nat) (h1 : Lies W o1 c1 (ints .u32 A)) => shr_got A n o1 c1 W h1 hA (by omega)
  have cSA := fun (W : World) (o1 o2 : Option Addr) (c1 c2 : Nat) (h1 : Lies W o1 c1 (ints .u32 A)) (h2 : Lies W o2 c2 (ints .u32 A)) => same_any A A o1 o2 c1 c2 W h1 h2
  have cSB := fun (W : World) (o1 o2 : Option Addr) (c1 c2 : Nat) (h1 : Lies W o1 c1 (ints .u32 B)) (h2 : Lies W o2 c2 (ints .u32 B)) => same_any B B o1 o2 c1 c2 W h1 h2
  have cCopy := fun (W : World) (o1 : Option Addr) (c1 : Nat) (h1 : Lies W o1 c1 (ints .u32 (nl (val A + val B)))) => copy_any (nl (val A + val B)) o1 c1 W h1 (by omega)
  have cSS := fun (W : World) (o1 o2 : Option Addr) (c1 c2 : Nat) (h1 : Lies W o1 c1 (ints .u32 (nl (val A + val B)))) (h2 : Lies W o2 c2 (ints .u32 (nl (val A + val B)))) => same_any (nl (val A + val B)) (nl (val A + val B)) o1 o2 c1 c2 W h1 h2
  simp only [decide_true] at cSA cSB cSS
  have hnm := Nat.le_trans (nl_len A hA) (by omega : A.length ≤ 35184372087808)
  clear hA hB
  generalize nl (val A + val B) = NS at *
  generalize nl (val A) = NM at *
  obtain ⟨na, ena⟩ : ∃ k, A.length = k := ⟨_, rfl⟩
  obtain ⟨nb', enb⟩ : ∃ k, B.length = k := ⟨_, rfl⟩
  have EA : Hid (A.length = na) := ena
  have EB : Hid (B.length = nb') := enb
  rw [ena] at r0 cAdd cNorm cSub cShl cShr cSA ⊢
  rw [enb] at r1 cAdd cSub cSB ⊢
  clear ena enb
  have t1 : True := trivial
  have t2 : True := trivial
  have t3 : True := trivial
  have t4 : True := trivial
  go_enter Try.func3, Try.ntmps3
  go_wp2_with (first
    | (at_make; have _t := t1; clear _t t1; refine wpList_make_own _ rfl _ _ 22 rfl w.heap.size 23 i0 (.int .u32 0) 1 Try.underlying22 hi hz0 hz1 .i64 .i64 ((na : Int) + 2) (na + 2) rfl rfl (by omega) (by rw [hz2]; omega) (by unfold maxLen; omega) (Nat.le_refl _) ?_; intro w1 hown1 hgr1; have hb1 : Below w.heap.size w w1 := (Below.refl _ _).grown hgr1 (Nat.le_refl _) (by simp); have hs1 := hb1.size)
    | (at_builtin; have _t := t2; clear _t t2; refine wpList_append_lies _ rfl (.tmp 24) (.tmp 25) 22 rfl w.heap.size 23 i0 (.int .u32 0) 4 Try.underlying22 hi hz0 hz1 hz2 rfl _ 0 [] rfl hown1 ao na cap1 (ints .u32 A) rfl (by rw [ints_length, EA.out]) (hl.below hb1 (Nat.le_refl _)) (ints_one _ _) (by unfold maxLen; omega) (by omega) (by omega) ?_; intro v2 w2 hown2 hgr2; have hb2 : Below w.heap.size w w2 := hb1.grown hgr2 (by omega) (fun j hj => (hown1.lt j hj).1); have hs2 := hb2.size)
    | (at_builtin; have _t := t3; clear _t t3; refine wpList_append_lies _ rfl (.tmp 26) (.tmp 27) 22 rfl w.heap.size 23 i0 (.int .u32 0) 4 Try.underlying22 hi hz0 hz1 hz2 rfl _ (0 + na) ([] ++ ints .u32 A) rfl (hown2.alloc _) (some ⟨w2.heap.size, 0, none⟩) 2 2 [.int .u32 7, .int .u32 8] rfl rfl (lit2 _) (by intro u hu; simp at hu; rcases hu with rfl | rfl <;> rfl) (by unfold maxLen; omega) (by omega) (by simp; omega) ?_; intro v3 w3 hown3 hgr3; have hb3 : Below w.heap.size w w3 := (hb2.alloc (by omega) _).grown hgr3 (by simp; omega) (fun j hj => (hown2.lt j hj).1); have hs3 := hb3.size; rw [List.nil_append, Nat.zero_add] at hown3; obtain ⟨gx, cx, rfl, hcx, hgx0, hgx1⟩ := own_parts hown3 (by omega))
    | (at_make; refine wpList_make_own _ rfl _ _ 22 rfl w3.heap.size 23 i0 (.int .u32 0) 1 Try.underlying22 hi hz0 hz1 .i64 .i64 ((nb' : Int) + 2) (nb' + 2) rfl rfl (by omega) (by rw [hz2]; omega) (by unfold maxLen; omega) (Nat.le_refl _) ?_; intro w4 hown4 hgr4; have hb4 : Below w3.heap.size w3 w4 := (Below.refl _ _).grown hgr4 (Nat.le_refl _) (by simp); have hs4 := hb4.size)
    | (at_builtin; have _t := t4; clear _t t4; refine wpList_append_lies _ rfl (.tmp 36) (.tmp 37) 22 rfl w3.heap.size 23 i0 (.int .u32 0) 4 Try.underlying22 hi hz0 hz1 hz2 rfl _ 0 [] rfl hown4 bo nb' cap2 (ints .u32 B) rfl (by rw [ints_length, EB.out]) (hl2.below (bt hb3 hb4) (Nat.le_refl _)) (ints_one _ _) (by unfold maxLen; omega) (by omega) (by omega) ?_; intro v5 w5 hown5 hgr5; have hb5 : Below w3.heap.size w3 w5 := hb4.grown hgr5 (by omega) (fun j hj => (hown4.lt j hj).1); have hs5 := hb5.size)
    | (at_builtin; refine wpList_append_lies _ rfl (.tmp 38) (.tmp 39) 22 rfl w3.heap.size 23 i0 (.int .u32 0) 4 Try.underlying22 hi hz0 hz1 hz2 rfl _ (0 + nb') ([] ++ ints .u32 B) rfl (hown5.alloc _) (some ⟨w5.heap.size, 0, none⟩) 1 1 [.int .u32 9] rfl rfl (lit1 _) (by intro u hu; simp at hu; subst hu; rfl) (by unfold maxLen; omega) (by omega) (by simp; omega) ?_; intro v6 w6 hown6 hgr6; have hb6 : Below w3.heap.size w3 w6 := (hb5.alloc (by omega) _).grown hgr6 (by simp; omega) (fun j hj => (hown5.lt j hj).1); have hs6 := hb6.size; rw [List.nil_append, Nat.zero_add] at hown6; obtain ⟨gy, cy, rfl, hcy, hgy0, hgy1⟩ := own_parts hown6 (by omega); have X6 := keep hown3 hb6)
    | (go_at_call 8; refine (cAdd _ _ _ _ _ (part EA.out X6 (by omega)) (part EB.out hown6 (by omega))).mono ?_; rintro e w7 ⟨os, cs, rfl, hownS, hb7⟩; have X7 := keep X6 hb7; have Y7 := keep hown6 hb7; have H7 := bt (bt hb3 hb6) hb7)
    | (go_at_call 9; refine (cNorm _ _ _ (part EA.out X7 (by omega))).mono ?_; rintro e w8 ⟨om, cm, rfl, hownM, hb8⟩; have C8 := hb8)
    | (go_at_call 10; refine (cSub _ _ _ _ _ (part EA.out (keep X7 C8) (by omega)) (part EB.out (keep Y7 C8) (by omega))).mono ?_; rintro e w9 ⟨od, cd, D, bd, rfl, hownD, hb9⟩; have C9 := bt C8 hb9)
    | (go_at_call 11; refine (cShl _ _ _ (part EA.out (keep X7 C9) (by omega))).mono ?_; rintro e w10 ⟨ol, cl, DL, bl, rfl, hownL, hb10⟩; have C10 := bt C9 hb10)
    | (go_at_call 12; refine (cShr _ _ _ (part EA.out (keep X7 C10) (by omega))).mono ?_; rintro e w11 ⟨or', cr, DR, br, rfl, hownR, hb11⟩; have C11 := bt C10 hb11)
    | (go_at_call 13; refine (awake _).mono ?_; rintro e w12 ⟨rfl, hb12⟩; have C12 := bt C11 hb12; have t5 : True := trivial)
    | (go_at_call 14; have _t := t5; clear _t t5; refine (cSA _ _ _ _ _ (part EA.out (keep X7 C12) (by omega)) (hl.below (bt H7 C12) (Nat.le_refl _))).mono ?_; rintro e w13 ⟨rfl, hb13⟩; have C13 := bt C12 hb13)
    | (go_at_call 14; refine (cSB _ _ _ _ _ (part EB.out (keep Y7 C13) (by omega)) (hl2.below (bt H7 C13) (Nat.le_refl _))).mono ?_; rintro e w14 ⟨rfl, hb14⟩; have C14 := bt C13 hb14; have X14 := keep X7 C14; have Y14 := keep Y7 C14; have d7 : w14.cell? ⟨gx, na, none⟩ = some (.int .u32 7) := (by rw [X14.cellAt na (by omega), List.getElem?_append_right (by rw [ints_length, EA.out]; omega), ints_length, EA.out, Nat.sub_self]; rfl); have d9 : w14.cell? ⟨gy, nb', none⟩ = some (.int .u32 9) := (by rw [Y14.cellAt nb' (by omega), List.getElem?_append_right (by rw [ints_length, EB.out]; omega), ints_length, EB.out, Nat.sub_self]; rfl))
    | (go_at_call 15; refine (cCopy _ _ _ (lies_of_owns (keep hownS C14))).mono ?_; rintro e w15 ⟨ot, ct, rfl, hownT, hb15⟩))
  have s8 := hb8.size
  have s9 := hb9.size
  have s10 := hb10.size
  have s11 := hb11.size
  have s12 := hb12.size
  have s13 := hb13.size
  have s14 := hb14.size
  have s15 := hb15.size
  have B15 := bt C14 hb15
  have mM := (lies_of_owns hownM).size
  have mD := (lies_of_owns hownD).size
  have mL := (lies_of_owns hownL).size
  have mR := (lies_of_owns hownR).size
  rw [ints_length] at mM
  have hG : Lent w7 (w15.alloc (.cells #[.slice om NM.length cm, .slice od (ints .u32 D).length cd, .slice ol (ints .u32 DL).length cl, .slice or' (ints .u32 DR).length cr] 22)) w7.heap.size w14.heap.size w15.heap.size w14.heap.size NS.length (.slice ot NS.length ct) 23 (ints .u32 NS) := by
    refine ⟨B15.alloc (by omega) _, hownT.alloc _, fun k hk => ?_⟩
    have f11 : Below w11.heap.size w11 w15 := bt (bt (bt hb12 hb13) hb14) hb15
    have f10 : Below w10.heap.size w10 w15 := bt hb11 f11
    have f9 : Below w9.heap.size w9 w15 := bt hb10 f10
    have f8 : Below w8.heap.size w8 w15 := bt hb9 f9
    match k, hk with
    | 0, _ => exact ⟨om, NM.length, cm, by simp, mM, ((wri_of_owns hownM (Nat.le_refl _) (Nat.le_refl _)).below (f8.alloc (by omega) _)).mono (by omega)⟩
    | 1, _ => exact ⟨od, (ints .u32 D).length, cd, by simp, mD, ((wri_of_owns hownD (by omega) (Nat.le_refl _)).below (f9.alloc (by omega) _)).mono (by omega)⟩
    | 2, _ => exact ⟨ol, (ints .u32 DL).length, cl, by simp, mL, ((wri_of_owns hownL (by omega) (Nat.le_refl _)).below (f10.alloc (by omega) _)).mono (by omega)⟩
    | 3, _ => exact ⟨or', (ints .u32 DR).length, cr, by simp, mR, ((wri_of_owns hownR (by omega) (Nat.le_refl _)).below (f11.alloc (by omega) _)).mono (by omega)⟩
  clear cAdd cNorm cSub cShl cShr cCopy mM mD mL mR hownM hownD hownL hownR hownT X14 Y14 d7 d9
  go_loopw [114] (fun iv wr => ∃ k : Nat, k ≤ 4 ∧ iv = .int .i64 (k : Int) ∧ Lent w7 wr w7.heap.size w14.heap.size w15.heap.size w14.heap.size NS.length (.slice ot NS.length ct) 23 (ints .u32 NS))
    (fun iv _ => 4 - (intOf iv).toNat)
  case atStart => exact ⟨0, Nat.zero_le _, rfl, hG⟩
  case round =>
    clear hG
    obtain ⟨k, hk, rfl, hG⟩ := hrel
    by_cases hlt : k < 4
    · obtain ⟨o, nn, c, hcell, hnm, hw⟩ := hG.rows k hlt
      have q1 : (k : Int) < 4 := by omega
      unfold maxLen at hnm
      go_wp2
      go_loopw [120] (fun jv wr2 => ∃ j : Nat, j ≤ nn ∧ jv = .int .i64 (j : Int) ∧ Wri wr2 o nn w7.heap.size w14.heap.size ∧ Lent w7 wr2 w7.heap.size w14.heap.size w15.heap.size w14.heap.size NS.length (.slice ot NS.length ct) 23 (ints .u32 NS))
        (fun jv _ => nn - (intOf jv).toNat)
      case atStart => exact ⟨0, Nat.zero_le _, rfl, hw, hG⟩
      case round =>
        clear hG hw hcell
        obtain ⟨j, hj, rfl, hw, hG⟩ := hrel
        by_cases hjn : j < nn
        · obtain ⟨g, e1, hg1, hg2, hc⟩ := hw (by omega)
          obtain ⟨⟨v, hv⟩, hf⟩ := hc j hjn
          have hG2 := hG.set (i := j) hg1 hg2 s15 (Nat.le_refl _) (.int .u32 5)
          have hw2 := hw.set ⟨g, j, none⟩ (.int .u32 5)
          have q2 : (j : Int) < (nn : Int) := by omega
          subst e1
          clear hc hw hG
          go_wp2
          go_roundw
          case rel => exact ⟨j + 1, by omega, by go_num, hw2, hG2⟩
          case measure => simp [intOf]; omega
        · have ej : j = nn := by omega
          subst ej
          clear hw
          go_wp2
          go_roundw
          case rel => exact ⟨k + 1, by omega, by go_num, hG⟩
          case measure => simp [intOf]; omega
    · have ek : k = 4 := by omega
      subst ek
      have hb := hG.below
      have hT := hG.own
      have X := keep X7 hb
      have Y := keep Y7 hb
      have S := keep hownS hb
      have t6 : True := trivial
      have t7 : True := trivial
      go_wp2_with (first
        | (go_at_call 14; have _t := t6; clear _t t6; refine (cSA _ _ _ _ _ (part EA.out X (by omega)) (hl.below (bt H7 hb) (Nat.le_refl _))).mono ?_; rintro e w17 ⟨rfl, hb17⟩)
        | (go_at_call 14; have _t := t7; clear _t t7; refine (cSB _ _ _ _ _ (part EB.out (keep Y hb17) (by omega)) (hl2.below (bt (bt H7 hb) hb17) (Nat.le_refl _))).mono ?_; rintro e w18 ⟨rfl, hb18⟩)
        | (go_at_call 14; refine (cSS _ _ _ _ _ (lies_of_owns (keep (keep S hb17) hb18)) (lies_of_owns (keep (keep hT hb17) hb18))).mono ?_; rintro e w19 ⟨rfl, hb19⟩))
      all_goals go_ret
      exact ⟨rfl, bt (bt (bt (bt H7 hb) hb17) hb18) hb19⟩
theorem walk (a0 : Option Addr) (len0 cap0 : Nat) (z0 : List Int) (a1 : Option Addr) (len1 cap1 : Nat) (z1 : List Int) (a2 : Int) (w : World) (w0 : IsRow .u32 w a0 len0 cap0 z0) (w1 : IsRow .u32 w a1 len1 cap1 z1) (w2 : (Lit.int .i64 a2).wf = true) (r0 : cap0 * 4 ≤ 140737488351232) (r1 : cap1 * 4 ≤ 140737488351232) :
    Calls Try.prog 3 #[.slice a0 len0 cap0, .slice a1 len1 cap1, .int .i64 a2] w fun e w' => e = .returned (.bool true) ∧ Below w.heap.size w w' := by
  obtain ⟨A, rfl, hl, hA⟩ := lies_of_row nonneg_u32 w0
  obtain ⟨B, rfl, hl2, hB⟩ := lies_of_row nonneg_u32 w1
  have sA : Small A := fun x hx => by have := (bounds_u32 (hA x hx)).2; omega
  have sB : Small B := fun x hx => by have := (bounds_u32 (hB x hx)).2; omega
  have q0 := hl.1
  have q1 := hl2.1
  rw [ints_length] at q0 q1
  exact law_any A B a2 a0 a1 cap0 cap1 w hl hl2 sA sB (by omega) (by omega)

/-! ### THE ROW's STEP: WRITTEN OUT: LEAVE IT -/
set_option maxRecDepth 100000 in
theorem lifted (os : Os) (started : os.Started) (H : Type) (enc : TypeId × Value → H) :
    ReturnsInHanded {} Try.checked os 3 .any (Rows.limbLendsSpec.pre6 enc Try.prog Try.f3 Rows.limbLendsRow.domain false) (Rows.limbLendsSpec.post enc Try.prog Try.f3 false true false false) := by
  refine returnsInHanded_of_change_sized (C := Try.checked) own started (by kernel_rfl) Try.func3
    (ChangeSpec.witness6 (enc := enc) (C := Try.checked) false ⟨#[], #[.slice none 0 0, .slice none 0 0, .int .i64 0], []⟩ 8 (by kernel_rfl) (by kernel_rfl) (by kernel_rfl) (by kernel_rfl)) ?_
  intro W base args ds gs before hval0 hW hcnd hsz0 _
  have hval : ∀ (j : Nat) t v, Try.f3.params[j]? = some t → args[j]? = some v → Value.okWide Try.prog W .any base t v := hval0
  have hW' := hW
  obtain ⟨p, q, hA0, hV, rfl, hfz, hnd⟩ := hW
  have hA : DataW.TrodAll enc Try.prog W 0 (fun _ => true) true Try.f3.params.toList args.toList ds p := hA0
  have hsz : (DataW.weightsEach Try.prog (Try.f3.params.toList ++ Rows.limbLendsSpec.plain.varTypes Try.prog) (ds ++ gs)).all (· ≤ reachBytes) = true := hsz0
  rw [Try.params3] at hA hval hsz
  obtain ⟨v0, vs0, d0, ds0, p0, q0, hargs, rfl, rfl, h0, r0⟩ := trodAll_cons hA
  obtain ⟨v1, vs1, d1, ds1, p1, q1, rfl, rfl, rfl, h1, r1⟩ := trodAll_cons r0
  obtain ⟨v2, vs2, d2, ds2, p2, q2, rfl, rfl, rfl, h2, r2⟩ := trodAll_cons r1
  obtain ⟨rfl, rfl, rfl⟩ := trodAll_nil r2
  obtain rfl : args = #[v0, v1, v2] := by cases args; simp_all
  obtain ⟨rfl, rfl⟩ := trodVars_none hV
  obtain ⟨a0, len0, cap0, rfl⟩ := okWide_slice Try.underlying22 (hval 0 22 v0 rfl rfl)
  have k0 := h0
  have lt0 : ∀ x ∈ p0, x.block < W.heap.size := by obtain ⟨m, hm⟩ := k0; exact DataW.trod_lt m _ _ _ hm
  obtain ⟨z0, w0, rz0⟩ : ∃ zs, IsRow .u32 W a0 len0 cap0 zs ∧ cap0 * 4 ≤ 140737488351232 := by
    obtain ⟨fuel, hf⟩ := h0
    rcases open_ints Try.underlying22 Try.underlying23 (by kernel_rfl) hf with ⟨hcs, _⟩ | ⟨x, l, c, zs, hcs, _, hl, hm, hz, hx, hcell, hwz⟩
    · simp [Value.cells] at hcs
      obtain ⟨rfl, rfl, rfl⟩ := hcs
      exact ⟨[], .inl ⟨rfl, rfl, rfl, rfl⟩, by decide⟩
    · simp [Value.cells] at hcs
      obtain ⟨rfl, rfl, rfl⟩ := hcs
      have hz2 : zs.length = cap0 := by simpa using hz
      simp only [Prod.mk.injEq] at hx
      obtain ⟨rfl, _⟩ := hx
      have hre := sized_slice hsz (j := 0) (t := 22) (e := 23) rfl rfl Try.underlying22
      rw [show Try.prog.bytesOf 23 = 4 by kernel_rfl] at hre
      simp only [lits, List.length_map, List.length_take, List.length_drop, reachBytes] at hre
      exact ⟨zs, .inr ⟨_, rfl, hl, hm, hz2, hcell, hwz⟩, by omega⟩
  obtain ⟨a1, len1, cap1, rfl⟩ := okWide_slice Try.underlying22 (hval 1 22 v1 rfl rfl)
  have k1 := h1
  have lt1 : ∀ x ∈ p1, x.block < W.heap.size := by obtain ⟨m, hm⟩ := k1; exact DataW.trod_lt m _ _ _ hm
  obtain ⟨z1, w1, rz1⟩ : ∃ zs, IsRow .u32 W a1 len1 cap1 zs ∧ cap1 * 4 ≤ 140737488351232 := by
    obtain ⟨fuel, hf⟩ := h1
    rcases open_ints Try.underlying22 Try.underlying23 (by kernel_rfl) hf with ⟨hcs, _⟩ | ⟨x, l, c, zs, hcs, _, hl, hm, hz, hx, hcell, hwz⟩
    · simp [Value.cells] at hcs
      obtain ⟨rfl, rfl, rfl⟩ := hcs
      exact ⟨[], .inl ⟨rfl, rfl, rfl, rfl⟩, by decide⟩
    · simp [Value.cells] at hcs
      obtain ⟨rfl, rfl, rfl⟩ := hcs
      have hz2 : zs.length = cap1 := by simpa using hz
      simp only [Prod.mk.injEq] at hx
      obtain ⟨rfl, _⟩ := hx
      have hre := sized_slice hsz (j := 1) (t := 22) (e := 23) rfl rfl Try.underlying22
      rw [show Try.prog.bytesOf 23 = 4 by kernel_rfl] at hre
      simp only [lits, List.length_map, List.length_take, List.length_drop, reachBytes] at hre
      exact ⟨zs, .inr ⟨_, rfl, hl, hm, hz2, hcell, hwz⟩, by omega⟩
  obtain ⟨a2, rfl, rfl, rfl, w2⟩ := open_int Try.underlying3 (hval 2 3 v2 rfl rfl) h2
  clear hA0 hval0
  refine (walk a0 len0 cap0 z0 a1 len1 cap1 z1 a2 W w0 w1 w2 rz0 rz1).mono fun e W' ⟨he, bel⟩ => ?_
  subst he
  exact ⟨_, rfl, _, _, _, [], _, [], hW', trodAll_mk1 (shut_bool Try.underlying4 _), (trodAll_cons_mk (Below.trod laidOut (by kernel_rfl) (of_decide_eq_true (by kernel_rfl)) k0 bel lt0) (trodAll_cons_mk (Below.trod laidOut (by kernel_rfl) (of_decide_eq_true (by kernel_rfl)) k1 bel lt1) (trodAll_cons_mk (shut_int Try.underlying3 w2) trodAll_mk0))), rfl, bel.frame _, fun h => by cases h⟩

theorem over : Rows.limbLendsRow.holds Try.pinned (OpenSpec.ofChange Rows.limbLendsSpec) :=
  OpenClaim.holds_of_wide 3 Try.f3 rfl rfl rfl rfl rfl rfl rfl ⟨rfl, rfl, rfl, rfl, rfl⟩ rfl rfl rfl rfl rfl (by kernel_rfl) Try.func3 (by kernel_rfl)
    (of_decide_eq_true (by kernel_rfl)) (by unfold Func.isWrapper; first | (rw [if_pos (by decide +kernel)]; kernel_rfl) | (rw [if_neg (by decide +kernel)]; exact ⟨rfl, rfl⟩))
    (fun os started H enc _ => lifted os started H enc)

/-- ████ THE STATEMENT ████ -/
theorem proved : Rows.LimbLendsSaid := over
end Go.Proofs.Ytbhmgafiookjnaa.limbLends
namespace Go.Proofs.Ytbhmgafiookjnaa
/-- THE STATEMENT. -/
theorem limbLends_holds : Rows.LimbLendsSaid := limbLends.proved
#print axioms limbLends_holds
end Go.Proofs.Ytbhmgafiookjnaa
