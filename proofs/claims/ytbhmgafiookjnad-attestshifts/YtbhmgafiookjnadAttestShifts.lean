/- For every input the law AttestShifts returns true: moving a natural is multiplying or dividing by a power of two, and bytes, packed rows and digits of it are all read back. -/
import Derived.Test.YtbhmgafiookjnadRows
import Derived.WalkKit
import Derived.ProofKit
import Derived.OpenShut
import Derived.ShutString
import Derived.ChangeOld
import Derived.Below
import Derived.Test.YtbhmgafiookjnadTopL
import Derived.Test.YtbhmgafiookjnadPkL
import Derived.Test.YtbhmgafiookjnadByL
import Derived.Test.YtbhmgafiookjnadDivAll
import Derived.Test.YtbhmgafiookjnadShiftL
import Derived.Test.YtbhmgafiookjnadAddL
import Derived.Test.YtbhmgafiookjnadParseL
import Derived.Test.YtbhmgafiookjnadTextL
import Derived.Test.YtbhmgafiookjnadTensL
namespace Go.Proofs.Ytbhmgafiookjnad.attestShifts
open Go.ChangeShapes Go.WideShapes Go.ChangeAt Go.RowKit
open Go.ChangeMaps (open_string shut_string)
set_option linter.unusedVariables false

theorem own : ownKnob Try.prog.godebug = none := by kernel_rfl
theorem laidOut : laidOutB Try.prog = true := by kernel_rfl

/-- WHAT THE WALK IS TOLD OF A SLICE OF INTEGERS THAT CAME IN: it is nil; or it leads to a row of 'cap' cells, the numbers 'zs' (the first 'len' are its elements, the rest its spare room), each fitting its kind. -/
def IsRow (k : IntKind) (w : World) (a : Option Addr) (len cap : Nat) (zs : List Int) : Prop :=
  (a = none ∧ len = 0 ∧ cap = 0 ∧ zs = []) ∨
  ∃ x, a = some x ∧ len ≤ cap ∧ cap ≤ maxLen ∧ zs.length = cap ∧ (∀ i, i < zs.length → w.cell? (x.add i) = some (.int k (zs.getD i 0))) ∧ ∀ n ∈ zs, (Lit.int k n).wf = true

open Mem LimbNum Limb1 Limb2 Limb3 Limb4 NatNum NatL AppL DivAll DigNum DigL StrL ParseL TextL TensL VarNum
open ByNum (ny)
open TopL (cmp_self)

theorem lit_own (W : World) (x : Nat) (hx : x < 4294967296) : Lies (W.alloc (.cells #[.int .u32 (x : Int)] 48)) (some ⟨W.heap.size, 0, none⟩) 1 (ints .u32 [x]) := lit_lies W [x] 1 rfl (by decide)
theorem small_one (x : Nat) (hx : x < 4294967296) : Small [x] := by intro y hy; simp at hy; omega
theorem bits2 : bitLen (val [2]) = 2 := by decide
/-- A power of two, of a list written out. -/
theorem pow_two (m : Nat) (hm : m < 400) (W : World) :
    Calls Try.prog 16 #[.slice (some ⟨W.heap.size, 0, none⟩) 1 1, .int .i64 (m : Int)] (W.alloc (.cells #[.int .u32 2] 48)) fun e w' => ∃ o c, e = .returned (.tuple #[.slice o (nl (2 ^ m)).length c, .bool true]) ∧ w'.ownsRow W.heap.size 48 1 (.slice o (nl (2 ^ m)).length c) (nl (2 ^ m)).length (ints .u32 (nl (2 ^ m))) ∧ Below W.heap.size W w' := by
  have h := pow_all [2] m (some ⟨W.heap.size, 0, none⟩) 1 (W.alloc (.cells #[.int .u32 2] 48)) (lit_lies W [2] 1 rfl (by decide)) (small_one 2 (by omega)) (by decide) (by omega) (by rw [bits2]; omega)
  rw [show val [2] = 2 by decide] at h
  refine h.mono ?_
  rintro e w' ⟨o, c, rfl, ho, hb⟩
  exact ⟨o, c, rfl, owns_base ho (by simp), bt ((Below.refl _ _).alloc (Nat.le_refl _) _) hb⟩
theorem same_lit (W : World) (o : Option Addr) (c : Nat) (h : Lies W o c (ints .u32 [1024])) :
    Calls Try.prog 17 #[.slice o 1 c, .slice (some ⟨W.heap.size, 0, none⟩) 1 1] (W.alloc (.cells #[.int .u32 1024] 48)) fun e w' => e = .returned (.bool true) ∧ Below W.heap.size W w' := by
  have h2 := TopL.same_any [1024] o (some ⟨W.heap.size, 0, none⟩) c 1 (W.alloc (.cells #[.int .u32 1024] 48)) (h.alloc _) (lit_lies W [1024] 1 rfl (by decide)) (small_one 1024 (by omega))
  refine h2.mono ?_
  rintro e w' ⟨rfl, hb⟩
  exact ⟨rfl, bt ((Below.refl _ _).alloc (Nat.le_refl _) _) hb⟩
theorem len_two (m : Nat) (hm : m < 400) : (nl (2 ^ m)).length ≤ 13 := by
  obtain ⟨K, hK⟩ : ∃ K, 13 = K := ⟨_, rfl⟩
  rw [hK]
  apply nl_lt
  rw [← pow32]
  exact Nat.pow_lt_pow_right (by omega) (by omega)
theorem big_lt (P : List Nat) (m : Nat) (hP : Small P) (hl : P.length ≤ 20) (hm : m < 400) : val P * 2 ^ m < 4294967296 ^ 33 := by
  have h1 := val_lt P hP
  have h2 : 4294967296 ^ P.length ≤ 4294967296 ^ 20 := Nat.pow_le_pow_right (by omega) hl
  have h3 : 2 ^ m < 4294967296 ^ 13 := by
    obtain ⟨K, hK⟩ : ∃ K, 13 = K := ⟨_, rfl⟩
    rw [hK, ← pow32]; exact Nat.pow_lt_pow_right (by omega) (by omega)
  have h4 : val P * 2 ^ m < 4294967296 ^ 20 * 4294967296 ^ 13 := Nat.mul_lt_mul'' (Nat.lt_of_lt_of_le h1 h2) h3
  rwa [← Nat.pow_add] at h4
theorem rest_bits (V m : Nat) : bitLen (V % 2 ^ m) ≤ m := by
  rw [← len_nb]
  exact nb_lt m _ (Nat.mod_lt _ (Nat.pow_pos (by omega)))
theorem back_sum (V m : Nat) : V / 2 ^ m * 2 ^ m + V % 2 ^ m = V := by
  have := Nat.div_add_mod V (2 ^ m)
  rw [Nat.mul_comm]; exact this
theorem ny_short (N : Nat) (h : N < 4294967296 ^ 33) : (ny N).length ≤ 133 := by
  obtain ⟨K, hK⟩ : ∃ K, 33 = K := ⟨_, rfl⟩
  rw [hK] at h
  have h1 : (nb N).length ≤ 32 * K := nb_lt _ _ (by rw [pow32]; exact h)
  have h2 := ByNum.ny_len N
  omega
theorem tx_short (N : Nat) (h : N < 4294967296 ^ 33) : (tx N).length ≤ 330 := by
  have h1 := small_ten 33
  unfold tx
  by_cases h0 : N = 0
  · rw [if_pos h0]; decide
  · rw [if_neg h0]; exact dl_len_le N 330 (by omega)
theorem ints_push (k : IntKind) (Y : List Nat) (i : Nat) (h : i < Y.length) : ints k (Y.take i) ++ [.int k ((Y.getD i 0 : Nat) : Int)] = ints k (Y.take (i + 1)) := by
  rw [List.take_add_one, List.getElem?_eq_getElem h, ints_append, List.getD_eq_getElem?_getD, List.getElem?_eq_getElem h]; rfl
theorem take_len (Y : List Nat) (i : Nat) (h : i ≤ Y.length) : (Y.take i).length = i := by rw [List.length_take]; omega
theorem info64 : (Try.prog.info? 25).map (fun i => (i.zero, i.size, i.bytes)) = some (some (.int .u64 0), 1, 8) := by kernel_rfl
theorem unpack_back (Y : List Nat) (h8 : ByNum.Byte Y) (hl : Y.length ≤ 200) (W : World) (o : Option Addr) (c : Nat) (h : Lies W o c (ints .u8 (pk Y))) :
    Calls Try.prog 28 #[.slice o (pk Y).length c] W fun e w' => ∃ o' c', e = .returned (.tuple #[.slice o' Y.length c', .bool true]) ∧ w'.ownsRow W.heap.size 25 1 (.slice o' Y.length c') Y.length (ints .u64 Y) ∧ Below W.heap.size W w' := by
  have h64 : ∀ u ∈ Y, u < 18446744073709551616 := fun u hu => by have := h8 u hu; omega
  have hpl := pk_len Y h64
  refine (PkL.unpack_any (pk Y) (some Y) (run_all Y h64) o c W h (pk_byte Y) (by omega)).mono ?_
  rintro e w' ⟨v, b, rfl, ho, hb⟩
  rcases ho with ⟨h1, _, _⟩ | ⟨X, o', c', h1, rfl, rfl, ho⟩
  · simp at h1
  · simp only [Option.some.injEq] at h1
    subst h1
    exact ⟨o', c', rfl, ho, hb⟩

set_option maxRecDepth 20000 in
set_option maxHeartbeats 4000000 in
theorem law_any (A : List Nat) (n : Int) (m : Nat) (hm : (m : Int) < 400) (cA : ∀ w : World, Calls Try.prog 19 #[.int .i64 n, .int .i64 400] w fun e w' => e = .returned (.int .i64 (m : Int)) ∧ w' = w) (ao : Option Addr) (cap : Nat) (w : World) (hl : Lies w ao cap (ints .u32 A)) (hA : Small A) :
    Calls Try.prog 5 #[.slice ao A.length cap, .int .i64 n] w fun e w' => e = .returned (.bool true) ∧ Below w.heap.size w w' := by
  obtain ⟨i8, hi8, hz80, hz81, hz82⟩ := info_parts TextL.info8
  obtain ⟨i64, hi64, hz640, hz641, hz642⟩ := info_parts info64
  have hm2 : m < 400 := by omega
  have cP10 := fun W : World => pow_two 10 (by omega) W
  rw [show nl (2 ^ 10) = [1024] from DivOne.nl_one 1024 (by omega) (by omega)] at cP10
  simp only [List.length_cons, List.length_nil] at cP10
  have cF := fun {W : World} (h : Below w.heap.size w W) => TopL.few_any A 20 (by omega) ao cap W (hl.below h (Nat.le_refl _))
  have hP := TopL.small_take A 20 hA
  have hPl : (A.take 20).length ≤ 20 := by rw [List.length_take]; omega
  have hPt : (A.take 20).take 20 = A.take 20 := List.take_of_length_le hPl
  have cG := fun (W : World) (o : Option Addr) (c : Nat) (h : Lies W o c (ints .u32 (A.take 20))) => TopL.few_any (A.take 20) 20 (by omega) o c W h
  rw [hPt] at cG
  clear hPt
  generalize A.take 20 = P at *
  have cP := fun W : World => pow_two m hm2 W
  have hl2 := len_two m hm2
  have hbig := big_lt P m hP hPl hm2
  have cU := fun (W : World) (o : Option Addr) (c : Nat) (h : Lies W o c (ints .u32 P)) => ShiftL.shl_any P (m : Int) o c W (by omega) (by omega) h hP (by omega)
  have cD := fun (W : World) (o : Option Addr) (c : Nat) (h : Lies W o c (ints .u32 P)) => ShiftL.shr_any P (m : Int) o c W (by omega) (by omega) h hP (by omega)
  have hp2 : 2 ^ m ≠ 0 := by have := Nat.pow_pos (n := m) (show 0 < 2 by omega); omega
  have cQ := fun (W : World) (o1 o2 : Option Addr) (c1 c2 : Nat) (h1 : Lies W o1 c1 (ints .u32 P)) (h2 : Lies W o2 c2 (ints .u32 (nl (2 ^ m)))) => divmod_any P (nl (2 ^ m)) o1 o2 c1 c2 W h1 h2 hP (small_nl _) (by rw [val_nl]; exact hp2) (by omega) (by omega)
  have cM := fun (W : World) (o1 o2 : Option Addr) (c1 c2 : Nat) (h1 : Lies W o1 c1 (ints .u32 P)) (h2 : Lies W o2 c2 (ints .u32 (nl (2 ^ m)))) => mul_any P (nl (2 ^ m)) o1 o2 c1 c2 W h1 h2 hP (small_nl _) (by omega)
  rw [val_nl] at cQ cM
  rw [Int.toNat_natCast] at cU cD
  have hdl : (nl (val P / 2 ^ m)).length ≤ 20 := Nat.le_trans (nl_mono _ _ (Nat.div_le_self _ _)) (Nat.le_trans (nl_len P hP) hPl)
  have hrl : (nl (val P % 2 ^ m)).length ≤ 20 := Nat.le_trans (nl_mono _ _ (Nat.mod_le _ _)) (Nat.le_trans (nl_len P hP) hPl)
  have hbl : (nl (val P / 2 ^ m * 2 ^ m)).length ≤ 20 := Nat.le_trans (nl_mono _ _ (by have := back_sum (val P) m; omega)) (Nat.le_trans (nl_len P hP) hPl)
  have cUD := fun (W : World) (o : Option Addr) (c : Nat) (h : Lies W o c (ints .u32 (nl (val P / 2 ^ m)))) => ShiftL.shl_any (nl (val P / 2 ^ m)) (m : Int) o c W (by omega) (by omega) h (small_nl _) (by omega)
  rw [Int.toNat_natCast, val_nl] at cUD
  have cAD := fun (W : World) (o1 o2 : Option Addr) (c1 c2 : Nat) (h1 : Lies W o1 c1 (ints .u32 (nl (val P / 2 ^ m * 2 ^ m)))) (h2 : Lies W o2 c2 (ints .u32 (nl (val P % 2 ^ m)))) => AddL.add_any (nl (val P / 2 ^ m * 2 ^ m)) (nl (val P % 2 ^ m)) o1 o2 c1 c2 W h1 h2 (small_nl _) (small_nl _) (by omega) (by omega)
  rw [val_nl, val_nl, back_sum] at cAD
  have cC := fun (W : World) (o1 o2 : Option Addr) (c1 c2 : Nat) (h1 : Lies W o1 c1 (ints .u32 (nl (val P)))) (h2 : Lies W o2 c2 (ints .u32 P)) => cmp_any (nl (val P)) P o1 o2 c1 c2 W h1 h2 (small_nl _) hP
  rw [val_nl, cmp_self] at cC
  have cSU := fun (W : World) (o1 o2 : Option Addr) (c1 c2 : Nat) (h1 : Lies W o1 c1 (ints .u32 (nl (val P * 2 ^ m)))) (h2 : Lies W o2 c2 (ints .u32 (nl (val P * 2 ^ m)))) => TopL.same_any (nl (val P * 2 ^ m)) o1 o2 c1 c2 W h1 h2 (small_nl _)
  have cSD := fun (W : World) (o1 o2 : Option Addr) (c1 c2 : Nat) (h1 : Lies W o1 c1 (ints .u32 (nl (val P / 2 ^ m)))) (h2 : Lies W o2 c2 (ints .u32 (nl (val P / 2 ^ m)))) => TopL.same_any (nl (val P / 2 ^ m)) o1 o2 c1 c2 W h1 h2 (small_nl _)
  have cB := fun (W : World) (o : Option Addr) (c : Nat) (h : Lies W o c (ints .u32 (nl (val P % 2 ^ m)))) => bits_any (nl (val P % 2 ^ m)) o c W h (small_nl _) (by omega)
  rw [val_nl] at cB
  have hrb := rest_bits (val P) m
  obtain ⟨N, eN⟩ : ∃ N, N = val P * 2 ^ m := ⟨_, rfl⟩
  rw [← eN] at cU cM cSU hbig
  have hul := nl_lt 33 N hbig
  have cY := fun (W : World) (o : Option Addr) (c : Nat) (h : Lies W o c (ints .u32 (nl N))) => ByL.pack_any (nl N) o c W h (small_nl _) (by omega)
  rw [val_nl] at cY
  have cX := fun (W : World) (o : Option Addr) (c : Nat) (h : Lies W o c (ints .u32 (nl N))) => text_any (nl N) o c W h (small_nl _) (by omega)
  rw [val_nl] at cX
  have htl := tx_short N hbig
  have htp := tx_pos N
  have cZ := fun W : World => parse_yes (bs (tx N)) W (digits_bs _ (dg_tx N)) (by rw [bs_size]; exact htp) (by rw [bs_size]; omega)
  rw [num_all _ (dg_tx N), dv_tx] at cZ
  have hyl := ny_short N hbig
  have hy8 := ByNum.byte_ny N
  have cK := fun (W : World) (o : Option Addr) (c : Nat) (h : Lies W o c (ints .u64 (ny N))) => PkL.pack_any (ny N) o c W h (fun u hu => by have := hy8 u hu; omega) (by omega)
  have cV := fun (W : World) (o : Option Addr) (c : Nat) (h : Lies W o c (ints .u8 (pk (ny N)))) => unpack_back (ny N) hy8 (by omega) W o c h
  have cW := fun (W : World) (o : Option Addr) (c : Nat) (h : Lies W o c (ints .u8 (ny N))) => ByL.unpack_any (ny N) o c W h hy8 (by omega)
  rw [ByNum.bv_ny] at cW
  obtain ⟨x, ex⟩ : ∃ x : Int, x = (m : Int) := ⟨_, rfl⟩
  rw [← ex] at cA cP cU cD cUD
  have x0 : 0 ≤ x := by omega
  have x1 : x < 400 := by omega
  obtain ⟨bl, ebl⟩ : ∃ b : Int, b = (bitLen (val P % 2 ^ m) : Int) := ⟨_, rfl⟩
  rw [← ebl] at cB
  have hbx : bl ≤ x := by omega
  clear hl hA hP hm hm2 hp2 hdl hrl hbl hul hbig htl htp ex ebl hrb hl2
  generalize nl (val P / 2 ^ m * 2 ^ m) = NB at *
  generalize nl (val P / 2 ^ m) = ND at *
  generalize nl (val P % 2 ^ m) = NR at *
  generalize nl (val P) = NV at *
  generalize nl (2 ^ m) = NT at *
  clear eN
  generalize nl N = NU at *
  generalize bs (tx N) = S at *
  generalize ny N = Y at *
  have t1 : True := trivial
  have t2 : True := trivial
  have t3 : True := trivial
  have t4 : True := trivial
  have t5 : True := trivial
  have t6 : True := trivial
  have t7 : True := trivial
  have t8 : True := trivial
  have t9 : True := trivial
  have t10 : True := trivial
  have t11 : True := trivial
  have t12 : True := trivial
  have t13 : True := trivial
  have t14 : True := trivial
  have t15 : True := trivial
  have t16 : True := trivial
  have t17 : True := trivial
  have t18 : True := trivial
  have t19 : True := trivial
  have t20 : True := trivial
  have t21 : True := trivial
  go_enter Try.func5, Try.ntmps5
  go_wp2_with (first
    | (go_at_call 16; have _t := t1; clear _t t1; refine (cP10 _).mono ?_; rintro e w1 ⟨o_p, p_p, rfl, R_p_1, hb1⟩; have H1 := hb1)
    | (go_at_call 17; have _t := t2; clear _t t2; refine (same_lit _ _ _ (lies_of_owns R_p_1)).mono ?_; rintro e w2 ⟨rfl, hb2⟩; have H2 := bt H1 hb2)
    | (go_at_call 18; have _t := t3; clear _t t3; refine (cF H2).mono ?_; rintro e w3 ⟨o_a, p_a, rfl, R_a_3, hb3⟩; have H3 := bt H2 hb3)
    | (go_at_call 19; have _t := t4; clear _t t4; refine (cA _).mono ?_; rintro e w4 ⟨rfl, hw⟩; have hw2 := hw.symm; clear hw; subst hw2; have H4 := H3; have R_a_4 := R_a_3; clear R_a_3)
    | (go_at_call 16; have _t := t5; clear _t t5; refine (cP _).mono ?_; rintro e w5 ⟨o_two, p_two, rfl, R_two_5, hb5⟩; have H5 := bt H4 hb5; have R_a_5 := keep R_a_4 hb5; clear R_a_4)
    | (go_at_call 18; have _t := t6; clear _t t6; refine (cG _ _ _ (lies_of_owns R_a_5)).mono ?_; rintro e w6 ⟨o_f1, p_f1, rfl, R_f1_6, hb6⟩; have H6 := bt H5 hb6; have R_a_6 := keep R_a_5 hb6; clear R_a_5; have R_two_6 := keep R_two_5 hb6; clear R_two_5)
    | (go_at_call 20; have _t := t7; clear _t t7; refine (cU _ _ _ (lies_of_owns R_f1_6)).mono ?_; rintro e w7 ⟨o_up, p_up, rfl, R_up_7, hb7⟩; have H7 := bt H6 hb7; have R_a_7 := keep R_a_6 hb7; clear R_a_6; have R_two_7 := keep R_two_6 hb7; clear R_two_6)
    | (go_at_call 18; have _t := t8; clear _t t8; refine (cG _ _ _ (lies_of_owns R_a_7)).mono ?_; rintro e w8 ⟨o_f2, p_f2, rfl, R_f2_8, hb8⟩; have H8 := bt H7 hb8; have R_a_8 := keep R_a_7 hb8; clear R_a_7; have R_two_8 := keep R_two_7 hb8; clear R_two_7; have R_up_8 := keep R_up_7 hb8; clear R_up_7)
    | (go_at_call 21; have _t := t9; clear _t t9; refine (cD _ _ _ (lies_of_owns R_f2_8)).mono ?_; rintro e w9 ⟨o_down, p_down, rfl, R_down_9, hb9⟩; have H9 := bt H8 hb9; have R_a_9 := keep R_a_8 hb9; clear R_a_8; have R_two_9 := keep R_two_8 hb9; clear R_two_8; have R_up_9 := keep R_up_8 hb9; clear R_up_8)
    | (go_at_call 18; have _t := t10; clear _t t10; refine (cG _ _ _ (lies_of_owns R_a_9)).mono ?_; rintro e w10 ⟨o_f3, p_f3, rfl, R_f3_10, hb10⟩; have H10 := bt H9 hb10; have R_a_10 := keep R_a_9 hb10; clear R_a_9; have R_two_10 := keep R_two_9 hb10; clear R_two_9; have R_up_10 := keep R_up_9 hb10; clear R_up_9; have R_down_10 := keep R_down_9 hb10; clear R_down_9)
    | (go_at_call 22; have _t := t11; clear _t t11; refine (cQ _ _ _ _ _ (lies_of_owns R_f3_10) (lies_of_owns R_two_10)).mono ?_; rintro e w11 ⟨o_q, p_q, o_rest, p_rest, rfl, R_q_11, R_rest_11, hb11⟩; have H11 := bt H10 hb11; have R_a_11 := keep R_a_10 hb11; clear R_a_10; have R_two_11 := keep R_two_10 hb11; clear R_two_10; have R_up_11 := keep R_up_10 hb11; clear R_up_10; have R_down_11 := keep R_down_10 hb11; clear R_down_10)
    | (go_at_call 18; have _t := t12; clear _t t12; refine (cG _ _ _ (lies_of_owns R_a_11)).mono ?_; rintro e w12 ⟨o_f4, p_f4, rfl, R_f4_12, hb12⟩; have H12 := bt H11 hb12; have R_a_12 := keep R_a_11 hb12; clear R_a_11; have R_two_12 := keep R_two_11 hb12; clear R_two_11; have R_up_12 := keep R_up_11 hb12; clear R_up_11; have R_down_12 := keep R_down_11 hb12; clear R_down_11; have R_q_12 := keep R_q_11 hb12; clear R_q_11; have R_rest_12 := keep R_rest_11 hb12; clear R_rest_11)
    | (go_at_call 23; have _t := t13; clear _t t13; refine (cM _ _ _ _ _ (lies_of_owns R_f4_12) (lies_of_owns R_two_12)).mono ?_; rintro e w13 ⟨o_mul, p_mul, rfl, R_mul_13, hb13⟩; have H13 := bt H12 hb13; have R_a_13 := keep R_a_12 hb13; clear R_a_12; have R_up_13 := keep R_up_12 hb13; clear R_up_12; have R_down_13 := keep R_down_12 hb13; clear R_down_12; have R_q_13 := keep R_q_12 hb13; clear R_q_12; have R_rest_13 := keep R_rest_12 hb13; clear R_rest_12)
    | (go_at_call 17; have _t := t14; clear _t t14; refine (cSU _ _ _ _ _ (lies_of_owns R_up_13) (lies_of_owns R_mul_13)).mono ?_; rintro e w14 ⟨rfl, hb14⟩; have H14 := bt H13 hb14; have R_a_14 := keep R_a_13 hb14; clear R_a_13; have R_up_14 := keep R_up_13 hb14; clear R_up_13; have R_down_14 := keep R_down_13 hb14; clear R_down_13; have R_q_14 := keep R_q_13 hb14; clear R_q_13; have R_rest_14 := keep R_rest_13 hb14; clear R_rest_13)
    | (go_at_call 17; have _t := t15; clear _t t15; refine (cSD _ _ _ _ _ (lies_of_owns R_down_14) (lies_of_owns R_q_14)).mono ?_; rintro e w15 ⟨rfl, hb15⟩; have H15 := bt H14 hb15; have R_a_15 := keep R_a_14 hb15; clear R_a_14; have R_up_15 := keep R_up_14 hb15; clear R_up_14; have R_down_15 := keep R_down_14 hb15; clear R_down_14; have R_rest_15 := keep R_rest_14 hb15; clear R_rest_14)
    | (go_at_call 24; have _t := t16; clear _t t16; refine (cB _ _ _ (lies_of_owns R_rest_15)).mono ?_; rintro e w16 ⟨rfl, hw⟩; have hw2 := hw.symm; clear hw; subst hw2; have H16 := H15; have R_a_16 := R_a_15; clear R_a_15; have R_up_16 := R_up_15; clear R_up_15; have R_down_16 := R_down_15; clear R_down_15; have R_rest_16 := R_rest_15; clear R_rest_15)
    | (go_at_call 20; have _t := t17; clear _t t17; refine (cUD _ _ _ (lies_of_owns R_down_16)).mono ?_; rintro e w17 ⟨o_back, p_back, rfl, R_back_17, hb17⟩; have H17 := bt H16 hb17; have R_a_17 := keep R_a_16 hb17; clear R_a_16; have R_up_17 := keep R_up_16 hb17; clear R_up_16; have R_rest_17 := keep R_rest_16 hb17; clear R_rest_16)
    | (go_at_call 26; have _t := t18; clear _t t18; refine (cAD _ _ _ _ _ (lies_of_owns R_back_17) (lies_of_owns R_rest_17)).mono ?_; rintro e w18 ⟨o_sum, p_sum, rfl, R_sum_18, hb18⟩; have H18 := bt H17 hb18; have R_a_18 := keep R_a_17 hb18; clear R_a_17; have R_up_18 := keep R_up_17 hb18; clear R_up_17)
    | (go_at_call 18; have _t := t19; clear _t t19; refine (cG _ _ _ (lies_of_owns R_a_18)).mono ?_; rintro e w19 ⟨o_f5, p_f5, rfl, R_f5_19, hb19⟩; have H19 := bt H18 hb19; have R_up_19 := keep R_up_18 hb19; clear R_up_18; have R_sum_19 := keep R_sum_18 hb19; clear R_sum_18)
    | (go_at_call 25; have _t := t20; clear _t t20; refine (cC _ _ _ _ _ (lies_of_owns R_sum_19) (lies_of_owns R_f5_19)).mono ?_; rintro e w20 ⟨rfl, hb20⟩; have H20 := bt H19 hb20; have R_up_20 := keep R_up_19 hb20; clear R_up_19)
    | (go_at_call 27; have _t := t21; clear _t t21; refine (cY _ _ _ (lies_of_owns R_up_20)).mono ?_; rintro e w21 ⟨o_y, p_y, rfl, R_y_21, hb21⟩; have H21 := bt H20 hb21; have R_up_21 := keep R_up_20 hb21; clear R_up_20))
  have S21 := H21.size
  clear cP10 cF cG cP cU cD cQ cM cUD cAD cC cSD cB cY
  go_loopw [17, 127] (fun v i wr => ∃ k : Nat, k ≤ Y.length ∧ i = .int .i64 (k : Int) ∧ wr.ownsRow w21.heap.size 25 1 v k (ints .u64 (Y.take k)) ∧ Below w21.heap.size w21 wr)
    (fun _ i _ => Y.length - (intOf i).toNat)
  case atStart => exact ⟨0, Nat.zero_le _, rfl, World.ownsRow_nil _ _ _ _, Below.refl _ _⟩
  case round =>
    obtain ⟨k, hk, rfl, hown, hb⟩ := hrel
    have hs := hb.size
    by_cases hlt : k < Y.length
    · have g1 := lies_of_owns (keep R_y_21 hb)
      obtain ⟨b1, off1, e1, _, hc1⟩ := g1.2.2.2 (by rw [ints_length]; omega)
      have d1 := hc1 k (by rw [ints_length]; omega)
      rw [ints_get _ _ _ hlt] at d1
      have hx8 := hy8 _ (getD_in Y k hlt)
      have hpush := ints_push .u64 Y k hlt
      obtain ⟨X, eX⟩ : ∃ X : Int, X = ((Y.getD k 0 : Nat) : Int) := ⟨_, rfl⟩
      rw [← eX] at d1 hpush
      have X0 : 0 ≤ X := by omega
      have X1 : X < 256 := by omega
      have hq : Lies (wr.alloc (.cells #[.int .u64 X] 25)) (some ⟨wr.heap.size, 0, none⟩) 1 [.int .u64 X] := by
        have := lies_of_owns (World.ownsRow_lit (base := wr.heap.size) (e := 25) (size := 1) wr #[.int .u64 X] 1 (Nat.le_refl _) (by decide) rfl)
        simpa using this
      subst e1
      have HP : Hid (ints .u64 (Y.take k) ++ [.int .u64 X] = ints .u64 (Y.take (k + 1))) := hpush
      clear hc1 g1 eX hx8 hpush
      go_wp2_with (at_builtin; refine wpList_append_lies _ rfl (.tmp 131) (.tmp 134) 57 rfl w21.heap.size 25 i64 (.int .u64 0) 8 Try.underlying57 hi64 hz640 hz641 hz642 rfl _ k (ints .u64 (Y.take k)) rfl (hown.alloc _) (some ⟨wr.heap.size, 0, none⟩) 1 1 [.int .u64 X] rfl rfl hq (by intro u hu; simp at hu; subst hu; rfl) (by unfold maxLen; omega) (by omega) (by simp; omega) ?_; intro v4 w4 hown4 hgr4)
      rw [HP.out] at hown4
      have hb4 : Below w21.heap.size w21 w4 := (hb.alloc (by omega) _).grown hgr4 (by simp; omega) (fun j hj => (hown.lt j hj).1)
      go_roundw
      case rel => exact ⟨k + 1, by omega, by go_num, hown4, hb4⟩
      case measure => simp [intOf]; omega
    · have ek : k = Y.length := by omega
      subst ek
      rw [List.take_of_length_le (Nat.le_refl _)] at hown
      obtain ⟨o22, c22, rfl⟩ := owns_shape hown
      have R_up := keep R_up_21 hb
      clear R_y_21 hlt
      go_wp2_with (first
        | (go_at_call 29; refine (cK _ _ _ (lies_of_owns hown)).mono ?_; rintro e w23 ⟨o23, c23, rfl, hown23, hb23⟩)
        | (go_at_call 28; refine (cV _ _ _ (lies_of_owns hown23)).mono ?_; rintro e w24 ⟨o24, c24, rfl, hown24, hb24⟩))
      have R_up2 := keep (keep R_up hb23) hb24
      have H24 := bt (bt (bt H21 hb) hb23) hb24
      clear hown23 hown R_up
      go_loopw [22, 145] (fun v i wr2 => ∃ k : Nat, k ≤ Y.length ∧ i = .int .i64 (k : Int) ∧ wr2.ownsRow w24.heap.size 5 1 v k (ints .u8 (Y.take k)) ∧ Below w24.heap.size w24 wr2)
        (fun _ i _ => Y.length - (intOf i).toNat)
      case atStart => exact ⟨0, Nat.zero_le _, rfl, World.ownsRow_nil _ _ _ _, Below.refl _ _⟩
      case round =>
        obtain ⟨k, hk, rfl, hown, hb⟩ := hrel
        have hs := hb.size
        by_cases hlt : k < Y.length
        · have g1 := lies_of_owns (keep hown24 hb)
          obtain ⟨b1, off1, e1, _, hc1⟩ := g1.2.2.2 (by rw [ints_length]; omega)
          have d1 := hc1 k (by rw [ints_length]; omega)
          rw [ints_get _ _ _ hlt] at d1
          have hx8 := hy8 _ (getD_in Y k hlt)
          have hpush := ints_push .u8 Y k hlt
          obtain ⟨X, eX⟩ : ∃ X : Int, X = ((Y.getD k 0 : Nat) : Int) := ⟨_, rfl⟩
          rw [← eX] at d1 hpush
          have X0 : 0 ≤ X := by omega
          have X1 : X < 256 := by omega
          have hq : Lies (wr.alloc (.cells #[.int .u8 X] 5)) (some ⟨wr.heap.size, 0, none⟩) 1 [.int .u8 X] := by
            have := lies_of_owns (World.ownsRow_lit (base := wr.heap.size) (e := 5) (size := 1) wr #[.int .u8 X] 1 (Nat.le_refl _) (by decide) rfl)
            simpa using this
          subst e1
          have HP : Hid (ints .u8 (Y.take k) ++ [.int .u8 X] = ints .u8 (Y.take (k + 1))) := hpush
          clear hc1 g1 eX hx8 hpush
          go_wp2_with (at_builtin; refine wpList_append_lies _ rfl (.tmp 149) (.tmp 152) 58 rfl w24.heap.size 5 i8 (.int .u8 0) 1 Try.underlying58 hi8 hz80 hz81 hz82 rfl _ k (ints .u8 (Y.take k)) rfl (hown.alloc _) (some ⟨wr.heap.size, 0, none⟩) 1 1 [.int .u8 X] rfl rfl hq (by intro u hu; simp at hu; subst hu; rfl) (by unfold maxLen; omega) (by omega) (by simp; omega) ?_; intro v4 w4 hown4 hgr4)
          rw [HP.out] at hown4
          have hb4 : Below w24.heap.size w24 w4 := (hb.alloc (by omega) _).grown hgr4 (by simp; omega) (fun j hj => (hown.lt j hj).1)
          go_roundw
          case rel => exact ⟨k + 1, by omega, by go_num, hown4, hb4⟩
          case measure => simp [intOf]; omega
        · have ek : k = Y.length := by omega
          subst ek
          rw [List.take_of_length_le (Nat.le_refl _)] at hown
          obtain ⟨o25, c25, rfl⟩ := owns_shape hown
          have R_up := keep R_up2 hb
          have H25 := bt H24 hb
          have tz : True := trivial
          clear hown24 hlt
          go_wp2_with (first
            | (go_at_call 31; refine (cX _ _ _ (lies_of_owns R_up)).mono ?_; rintro e w26 ⟨rfl, hb26⟩; have U26 := keep R_up hb26; have B26 := keep hown hb26)
            | (go_at_call 30; refine (cZ _).mono ?_; rintro e w27 ⟨o27, c27, rfl, hown27, hb27⟩; have U27 := keep U26 hb27; have B27 := keep B26 hb27)
            | (go_at_call 32; refine (cW _ _ _ (lies_of_owns B27)).mono ?_; rintro e w28 ⟨o28, c28, rfl, hown28, hb28⟩; have U28 := keep U27 hb28; have T28 := keep hown27 hb28)
            | (go_at_call 17; have _t := tz; clear _t tz; refine (cSU _ _ _ _ _ (lies_of_owns hown28) (lies_of_owns U28)).mono ?_; rintro e w29 ⟨rfl, hb29⟩; have U29 := keep U28 hb29; have T29 := keep T28 hb29)
            | (go_at_call 17; refine (cSU _ _ _ _ _ (lies_of_owns T29) (lies_of_owns U29)).mono ?_; rintro e w30 ⟨rfl, hb30⟩))
          all_goals go_ret
          exact ⟨by first | rfl | simp, bt (bt (bt (bt (bt H25 hb26) hb27) hb28) hb29) hb30⟩

theorem walk (a0 : Option Addr) (len0 cap0 : Nat) (z0 : List Int) (a1 : Int) (w : World) (w0 : IsRow .u32 w a0 len0 cap0 z0) (w1 : (Lit.int .i64 a1).wf = true) :
    Calls Try.prog 5 #[.slice a0 len0 cap0, .int .i64 a1] w fun e w' => e = .returned (.bool true) ∧ Below w.heap.size w w' := by
  obtain ⟨A, rfl, hl, hA⟩ := lies_of_row nonneg_u32 w0
  have sA : Small A := fun x hx => by have := (bounds_u32 (hA x hx)).2; omega
  obtain ⟨m, hm, cA⟩ := TopL.among_any a1 400 (by omega) (by omega)
  exact law_any A a1 m hm cA a0 cap0 w hl sA

/-! ### THE ROW's STEP: WRITTEN OUT: LEAVE IT -/
set_option maxRecDepth 100000 in
theorem lifted (os : Os) (started : os.Started) (H : Type) (enc : TypeId × Value → H) :
    ReturnsInHanded {} Try.checked os 5 .any (Rows.attestShiftsSpec.pre6 enc Try.prog Try.f5 Rows.attestShiftsRow.domain false) (Rows.attestShiftsSpec.post enc Try.prog Try.f5 false true false false) := by
  refine returnsInHanded_of_change (C := Try.checked) own started (by kernel_rfl) Try.func5
    (ChangeSpec.witness6 (enc := enc) (C := Try.checked) false ⟨#[], #[.slice none 0 0, .int .i64 0], []⟩ 8 (by kernel_rfl) (by kernel_rfl) (by kernel_rfl) (by kernel_rfl)) ?_
  intro W base args ds gs before hval0 hW hcnd _
  have hval : ∀ (j : Nat) t v, Try.f5.params[j]? = some t → args[j]? = some v → Value.okWide Try.prog W .any base t v := hval0
  have hW' := hW
  obtain ⟨p, q, hA0, hV, rfl, hfz, hnd⟩ := hW
  have hA : DataW.TrodAll enc Try.prog W 0 (fun _ => true) true Try.f5.params.toList args.toList ds p := hA0
  rw [Try.params5] at hA hval
  obtain ⟨v0, vs0, d0, ds0, p0, q0, hargs, rfl, rfl, h0, r0⟩ := trodAll_cons hA
  obtain ⟨v1, vs1, d1, ds1, p1, q1, rfl, rfl, rfl, h1, r1⟩ := trodAll_cons r0
  obtain ⟨rfl, rfl, rfl⟩ := trodAll_nil r1
  obtain rfl : args = #[v0, v1] := by cases args; simp_all
  obtain ⟨rfl, rfl⟩ := trodVars_none hV
  obtain ⟨a0, len0, cap0, rfl⟩ := okWide_slice Try.underlying22 (hval 0 22 v0 rfl rfl)
  have k0 := h0
  have lt0 : ∀ x ∈ p0, x.block < W.heap.size := by obtain ⟨m, hm⟩ := k0; exact DataW.trod_lt m _ _ _ hm
  obtain ⟨z0, w0⟩ : ∃ zs, IsRow .u32 W a0 len0 cap0 zs := by
    obtain ⟨fuel, hf⟩ := h0
    rcases open_ints Try.underlying22 Try.underlying48 (by kernel_rfl) hf with ⟨hcs, _⟩ | ⟨x, l, c, zs, hcs, _, hl, hm, hz, _, hcell, hwz⟩
    · simp [Value.cells] at hcs
      obtain ⟨rfl, rfl, rfl⟩ := hcs
      exact ⟨[], .inl ⟨rfl, rfl, rfl, rfl⟩⟩
    · simp [Value.cells] at hcs
      obtain ⟨rfl, rfl, rfl⟩ := hcs
      exact ⟨zs, .inr ⟨_, rfl, hl, hm, by simpa using hz, hcell, hwz⟩⟩
  obtain ⟨a1, rfl, rfl, rfl, w1⟩ := open_int Try.underlying3 (hval 1 3 v1 rfl rfl) h1
  clear hA0 hval0
  refine (walk a0 len0 cap0 z0 a1 W w0 w1).mono fun e W' ⟨he, bel⟩ => ?_
  subst he
  exact ⟨_, rfl, _, _, _, [], _, [], hW', trodAll_mk1 (shut_bool Try.underlying4 _), (trodAll_cons_mk (Below.trod laidOut (by kernel_rfl) (of_decide_eq_true (by kernel_rfl)) k0 bel lt0) (trodAll_cons_mk (shut_int Try.underlying3 w1) trodAll_mk0)), rfl, bel.frame _, fun h => by cases h⟩

theorem over : Rows.attestShiftsRow.holds Try.pinned (OpenSpec.ofChange Rows.attestShiftsSpec) :=
  OpenClaim.holds_of_wide 5 Try.f5 rfl rfl rfl rfl rfl rfl rfl ⟨rfl, rfl, rfl, rfl, rfl⟩ rfl rfl rfl rfl rfl (by kernel_rfl) Try.func5 (by kernel_rfl)
    (of_decide_eq_true (by kernel_rfl)) (by unfold Func.isWrapper; first | (rw [if_pos (by decide +kernel)]; kernel_rfl) | (rw [if_neg (by decide +kernel)]; exact ⟨rfl, rfl⟩))
    (fun os started H enc _ => lifted os started H enc)

/-- ████ THE STATEMENT ████ -/
theorem proved : Rows.AttestShiftsSaid := over
end Go.Proofs.Ytbhmgafiookjnad.attestShifts
namespace Go.Proofs.Ytbhmgafiookjnad
/-- THE STATEMENT. -/
theorem attestShifts_holds : Rows.AttestShiftsSaid := attestShifts.proved
#print axioms attestShifts_holds
end Go.Proofs.Ytbhmgafiookjnad
