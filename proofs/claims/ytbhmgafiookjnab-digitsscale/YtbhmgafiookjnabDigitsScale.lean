/- For every input the law DigitsScale returns true: a number times a power of ten is its digits with that many noughts behind them. -/
import Derived.Test.YtbhmgafiookjnabRows
import Derived.WalkKit
import Derived.ProofKit
import Derived.OpenShut
import Derived.ShutString
import Derived.ChangeOld
import Derived.Below
import Derived.Test.YtbhmgafiookjnabAw4
import Derived.Test.YtbhmgafiookjnabTensAll
import Derived.Test.YtbhmgafiookjnabFew4
namespace Go.Proofs.Ytbhmgafiookjnab.digitsScale
open Go.ChangeShapes Go.WideShapes Go.ChangeAt Go.RowKit
open Go.ChangeMaps (open_string shut_string)
set_option linter.unusedVariables false

theorem own : ownKnob Try.prog.godebug = none := by kernel_rfl
theorem laidOut : laidOutB Try.prog = true := by kernel_rfl

/-- WHAT THE WALK IS TOLD OF A SLICE OF INTEGERS THAT CAME IN: it is nil; or it leads to a row of 'cap' cells, the numbers 'zs' (the first 'len' are its elements, the rest its spare room), each fitting its kind. -/
def IsRow (k : IntKind) (w : World) (a : Option Addr) (len cap : Nat) (zs : List Int) : Prop :=
  (a = none ∧ len = 0 ∧ cap = 0 ∧ zs = []) ∨
  ∃ x, a = some x ∧ len ≤ cap ∧ cap ≤ maxLen ∧ zs.length = cap ∧ (∀ i, i < zs.length → w.cell? (x.add i) = some (.int k (zs.getD i 0))) ∧ ∀ n ∈ zs, (Lit.int k n).wf = true

open Mem LimbNum Limb1 Limb2 Limb4 NatNum NatL DigNum DigL StrL ParseL TextL Aw4 TensL TensAll Few4

theorem dl_shift (V k : Nat) (h : V ≠ 0) : dl (V * 10 ^ k) = dl V ++ List.replicate k 48 := by
  induction k with
  | zero => simp
  | succ k ih =>
    have hp : 0 < V * 10 ^ k := Nat.mul_pos (by omega) (Nat.pow_pos (by omega))
    have e : V * 10 ^ (k + 1) = (V * 10 ^ k) * 10 := by rw [Nat.pow_succ, Nat.mul_assoc]
    rw [e, dl_pos (by omega), Nat.mul_div_cancel _ (by omega), ih, Nat.mul_mod_left, List.append_assoc, ← List.replicate_succ']
theorem tx_shift (V k : Nat) (h : V ≠ 0) : tx (V * 10 ^ k) = tx V ++ List.replicate k 48 := by
  have hp : 0 < V * 10 ^ k := Nat.mul_pos (by omega) (Nat.pow_pos (by omega))
  unfold tx
  rw [if_neg (by omega), if_neg h, dl_shift V k h]
theorem tx_not (V : Nat) (h : V ≠ 0) : ((bs (tx V)).toList == [48]) = false := by
  rw [beq_eq_false_iff_ne]
  intro e
  rw [bs, ByteArray.toList_mk] at e
  have e1 : bs (tx V) = bs [48] := by rw [bs, e]; rfl
  have e2 := bs_inj (b8_dg (dg_tx V)) (by intro x hx; simp at hx; omega) e1
  have := dv_tx V
  rw [e2] at this
  exact h (by rw [← this]; decide)
theorem tx_len (V : Nat) (m : Nat) (h : V < 10 ^ m) (hm : 1 ≤ m) : (tx V).length ≤ m := by
  unfold tx
  by_cases h0 : V = 0
  · rw [if_pos h0]; simpa using hm
  · rw [if_neg h0]; exact dl_len_le V m h

set_option maxRecDepth 20000 in
set_option maxHeartbeats 1000000 in
theorem law_up (A : List Nat) (n : Int) (m : Nat) (hr : n.tmod 200 = (m : Int)) (hm : m < 200) (ao : Option Addr) (cap : Nat) (w : World) (hl : Lies w ao cap (ints .u32 A)) (hA : Small A) :
    Calls Try.prog 5 #[.slice ao A.length cap, .int .i64 n] w fun e w' => e = .returned (.bool true) ∧ Below w.heap.size w w' := by
  have cF := few_any A 50 (by omega) ao cap w hl
  have hP := small_take A 50 hA
  have hPl : (A.take 50).length ≤ 50 := by rw [List.length_take]; omega
  generalize A.take 50 = P at *
  have cT := fun W : World => tens_any m W (by omega)
  have hl2 := limbs10 m 126 (by omega)
  have cC := fun (W : World) (o : Option Addr) (c : Nat) (h : Lies W o c (ints .u32 P)) => copy_any P o c W h (by omega)
  have cX := fun (W : World) (o : Option Addr) (c : Nat) (h : Lies W o c (ints .u32 P)) => text_any P o c W h hP (by omega)
  have cM := fun (W : World) (o1 o2 : Option Addr) (c1 c2 : Nat) (h1 : Lies W o1 c1 (ints .u32 P)) (h2 : Lies W o2 c2 (ints .u32 (nl (10 ^ m)))) => mul_any P (nl (10 ^ m)) o1 o2 c1 c2 W h1 h2 hP (small_nl _) (by omega)
  rw [val_nl] at cM
  have hlm : (nl (val P * 10 ^ m)).length ≤ 176 := by
    apply nl_lt
    have h1 := val_lt P hP
    have h2 : 4294967296 ^ P.length ≤ 4294967296 ^ 50 := Nat.pow_le_pow_right (by omega) hPl
    have h3 : 10 ^ m < 4294967296 ^ 126 := by
      have := val_lt (nl (10 ^ m)) (small_nl _)
      rw [val_nl] at this
      exact Nat.lt_of_lt_of_le this (Nat.pow_le_pow_right (by omega) hl2)
    have h4 : val P * 10 ^ m < 4294967296 ^ 50 * 4294967296 ^ 126 := Nat.mul_lt_mul'' (Nat.lt_of_lt_of_le h1 h2) h3
    rwa [← Nat.pow_add] at h4
  have cY := fun (W : World) (o : Option Addr) (c : Nat) (h : Lies W o c (ints .u32 (nl (val P * 10 ^ m)))) => text_any (nl (val P * 10 ^ m)) o c W h (small_nl _) (by omega)
  rw [val_nl] at cY
  have hVl : val P < 10 ^ 500 := by
    have h1 := val_lt P hP
    have h2 : 4294967296 ^ P.length ≤ 4294967296 ^ 50 := Nat.pow_le_pow_right (by omega) hPl
    have h3 := small_ten 50
    omega
  obtain ⟨V, eV⟩ : ∃ V, V = val P := ⟨_, rfl⟩
  rw [← eV] at cX cM cY hlm hVl
  have hsl := tx_len V 500 hVl (by omega)
  clear hVl hlm hl hA eV hP
  generalize nl (V * 10 ^ m) = NM at *
  generalize nl (10 ^ m) = NT at *
  obtain ⟨x, ex⟩ : ∃ x : Int, x = (m : Int) := ⟨_, rfl⟩
  rw [← ex] at cT hr
  have x0 : 0 ≤ x := by omega
  have x1 : x < 200 := by omega
  have t1 : True := trivial
  have t2 : True := trivial
  by_cases hV : V = 0
  · have e48 : bs (tx 0) = ByteArray.mk #[48] := rfl
    subst hV
    rw [Nat.zero_mul] at cY
    rw [e48] at cX cY
    clear hsl e48 ex
    go_enter Try.func5, Try.ntmps5
    go_wp2_with (first
      | (go_at_call 14; refine cF.mono ?_; rintro e w1 ⟨o1, c1, rfl, hown1, hb1⟩)
      | (go_at_call 9; refine (cT _).mono ?_; rintro e w2 ⟨o2, c2, rfl, hown2, hb2⟩)
      | (go_at_call 10; refine (awake4 _).mono ?_; rintro e w3 ⟨rfl, hb3⟩)
      | (go_at_call 16; have _t := t1; clear _t t1; refine (cC _ _ _ (lies_of_owns (keep (keep hown1 hb2) hb3))).mono ?_; rintro e w4 ⟨o4, c4, rfl, hown4, hb4⟩)
      | (go_at_call 15; have _t := t2; clear _t t2; refine (cX _ _ _ (lies_of_owns hown4)).mono ?_; rintro e w5 ⟨rfl, hb5⟩)
      | (go_at_call 16; refine (cC _ _ _ (lies_of_owns (keep (keep (keep (keep hown1 hb2) hb3) hb4) hb5))).mono ?_; rintro e w6 ⟨o6, c6, rfl, hown6, hb6⟩)
      | (go_at_call 20; refine (cM _ _ _ _ _ (lies_of_owns hown6) (lies_of_owns (keep (keep (keep (keep hown2 hb3) hb4) hb5) hb6))).mono ?_; rintro e w7 ⟨o7, c7, rfl, hown7, hb7⟩)
      | (go_at_call 15; refine (cY _ _ _ (lies_of_owns hown7)).mono ?_; rintro e w8 ⟨rfl, hb8⟩))
    all_goals go_ret
    exact ⟨rfl, bt (bt (bt (bt (bt (bt (bt hb1 hb2) hb3) hb4) hb5) hb6) hb7) hb8⟩
  · have hsh := tx_shift V m hV
    have hno := tx_not V hV
    have hno2 : ¬ (bs (tx V)).toList = [48] := by rw [beq_eq_false_iff_ne] at hno; exact hno
    have hx0 : decide (x < 0) = false := by simp; omega
    rw [hsh] at cY
    generalize tx V = T at *
    have hsz : (bs T).size ≤ 500 := by rw [bs_size]; exact hsl
    have EX : Hid (x = (m : Int)) := ex
    clear hsh hV ex
    go_enter Try.func5, Try.ntmps5
    go_wp2_with (first
      | (go_at_call 14; refine cF.mono ?_; rintro e w1 ⟨o1, c1, rfl, hown1, hb1⟩)
      | (go_at_call 9; refine (cT _).mono ?_; rintro e w2 ⟨o2, c2, rfl, hown2, hb2⟩)
      | (go_at_call 10; refine (awake4 _).mono ?_; rintro e w3 ⟨rfl, hb3⟩)
      | (go_at_call 16; have _t := t1; clear _t t1; refine (cC _ _ _ (lies_of_owns (keep (keep hown1 hb2) hb3))).mono ?_; rintro e w4 ⟨o4, c4, rfl, hown4, hb4⟩)
      | (go_at_call 15; have _t := t2; clear _t t2; refine (cX _ _ _ (lies_of_owns hown4)).mono ?_; rintro e w5 ⟨rfl, hb5⟩)
      | (go_at_call 16; refine (cC _ _ _ (lies_of_owns (keep (keep (keep (keep hown1 hb2) hb3) hb4) hb5))).mono ?_; rintro e w6 ⟨o6, c6, rfl, hown6, hb6⟩)
      | (go_at_call 20; refine (cM _ _ _ _ _ (lies_of_owns hown6) (lies_of_owns (keep (keep (keep (keep hown2 hb3) hb4) hb5) hb6))).mono ?_; rintro e w7 ⟨o7, c7, rfl, hown7, hb7⟩)
      | (go_at_call 15; refine (cY _ _ _ (lies_of_owns hown7)).mono ?_; rintro e w8 ⟨rfl, hb8⟩))
    go_loop [7, 9] (fun sv iv => ∃ i : Nat, i ≤ m ∧ iv = .int .i64 (i : Int) ∧ sv = .string (bs (T ++ List.replicate i 48))) (fun _ iv => m - (intOf iv).toNat)
    case atStart => exact ⟨0, Nat.zero_le _, rfl, by simp⟩
    case round =>
      obtain ⟨i, hi, rfl, rfl⟩ := hrel
      have hsz2 : (bs (T ++ List.replicate i 48)).size ≤ 700 := by rw [bs_size]; simp; omega
      by_cases him : i < m
      · have hap : bs (T ++ List.replicate (i + 1) 48) = bs (T ++ List.replicate i 48) ++ ByteArray.mk #[48] := by
          rw [List.replicate_succ', ← List.append_assoc, bs_append (T ++ List.replicate i 48)]; rfl
        have HA : Hid (bs (T ++ List.replicate (i + 1) 48) = bs (T ++ List.replicate i 48) ++ ByteArray.mk #[48]) := hap
        have q1 : (i : Int) < x := by rw [EX.out]; omega
        clear hap
        go_wp2
        go_round
        case rel => exact ⟨i + 1, by omega, by go_num, congrArg Value.string HA.out.symm⟩
        case measure => simp [intOf]; omega
      · have ei : i = m := by omega
        subst ei
        have q1 : ¬ (i : Int) < x := by rw [EX.out]; omega
        go_wp2
        go_ret
        exact ⟨by first | (congr 2; simp; done) | simp | rfl, bt (bt (bt (bt (bt (bt (bt hb1 hb2) hb3) hb4) hb5) hb6) hb7) hb8⟩

set_option maxRecDepth 20000 in
set_option maxHeartbeats 1000000 in
theorem law_down (A : List Nat) (n : Int) (m : Nat) (hr : n.tmod 200 = -(m : Int)) (hm0 : 0 < m) (hm : m < 200) (ao : Option Addr) (cap : Nat) (w : World) (hl : Lies w ao cap (ints .u32 A)) (hA : Small A) :
    Calls Try.prog 5 #[.slice ao A.length cap, .int .i64 n] w fun e w' => e = .returned (.bool true) ∧ Below w.heap.size w w' := by
  have cF := few_any A 50 (by omega) ao cap w hl
  have hP := small_take A 50 hA
  have hPl : (A.take 50).length ≤ 50 := by rw [List.length_take]; omega
  generalize A.take 50 = P at *
  have cT := fun W : World => tens_any m W (by omega)
  have hl2 := limbs10 m 126 (by omega)
  have cC := fun (W : World) (o : Option Addr) (c : Nat) (h : Lies W o c (ints .u32 P)) => copy_any P o c W h (by omega)
  have cX := fun (W : World) (o : Option Addr) (c : Nat) (h : Lies W o c (ints .u32 P)) => text_any P o c W h hP (by omega)
  have cM := fun (W : World) (o1 o2 : Option Addr) (c1 c2 : Nat) (h1 : Lies W o1 c1 (ints .u32 P)) (h2 : Lies W o2 c2 (ints .u32 (nl (10 ^ m)))) => mul_any P (nl (10 ^ m)) o1 o2 c1 c2 W h1 h2 hP (small_nl _) (by omega)
  rw [val_nl] at cM
  have hlm : (nl (val P * 10 ^ m)).length ≤ 176 := by
    apply nl_lt
    have h1 := val_lt P hP
    have h2 : 4294967296 ^ P.length ≤ 4294967296 ^ 50 := Nat.pow_le_pow_right (by omega) hPl
    have h3 : 10 ^ m < 4294967296 ^ 126 := by
      have := val_lt (nl (10 ^ m)) (small_nl _)
      rw [val_nl] at this
      exact Nat.lt_of_lt_of_le this (Nat.pow_le_pow_right (by omega) hl2)
    have h4 : val P * 10 ^ m < 4294967296 ^ 50 * 4294967296 ^ 126 := Nat.mul_lt_mul'' (Nat.lt_of_lt_of_le h1 h2) h3
    rwa [← Nat.pow_add] at h4
  have cY := fun (W : World) (o : Option Addr) (c : Nat) (h : Lies W o c (ints .u32 (nl (val P * 10 ^ m)))) => text_any (nl (val P * 10 ^ m)) o c W h (small_nl _) (by omega)
  rw [val_nl] at cY
  have hVl : val P < 10 ^ 500 := by
    have h1 := val_lt P hP
    have h2 : 4294967296 ^ P.length ≤ 4294967296 ^ 50 := Nat.pow_le_pow_right (by omega) hPl
    have h3 := small_ten 50
    omega
  obtain ⟨V, eV⟩ : ∃ V, V = val P := ⟨_, rfl⟩
  rw [← eV] at cX cM cY hlm hVl
  have hsl := tx_len V 500 hVl (by omega)
  clear hVl hlm hl hA eV hP
  generalize nl (V * 10 ^ m) = NM at *
  generalize nl (10 ^ m) = NT at *
  obtain ⟨x, ex⟩ : ∃ x : Int, x = (m : Int) := ⟨_, rfl⟩
  rw [← ex] at cT hr
  have x0 : 0 < x := by omega
  have x1 : x < 200 := by omega
  have t1 : True := trivial
  have t2 : True := trivial
  by_cases hV : V = 0
  · have e48 : bs (tx 0) = ByteArray.mk #[48] := rfl
    subst hV
    rw [Nat.zero_mul] at cY
    rw [e48] at cX cY
    clear hsl e48 ex
    go_enter Try.func5, Try.ntmps5
    go_wp2_with (first
      | (go_at_call 14; refine cF.mono ?_; rintro e w1 ⟨o1, c1, rfl, hown1, hb1⟩)
      | (go_at_call 9; refine (cT _).mono ?_; rintro e w2 ⟨o2, c2, rfl, hown2, hb2⟩)
      | (go_at_call 10; refine (awake4 _).mono ?_; rintro e w3 ⟨rfl, hb3⟩)
      | (go_at_call 16; have _t := t1; clear _t t1; refine (cC _ _ _ (lies_of_owns (keep (keep hown1 hb2) hb3))).mono ?_; rintro e w4 ⟨o4, c4, rfl, hown4, hb4⟩)
      | (go_at_call 15; have _t := t2; clear _t t2; refine (cX _ _ _ (lies_of_owns hown4)).mono ?_; rintro e w5 ⟨rfl, hb5⟩)
      | (go_at_call 16; refine (cC _ _ _ (lies_of_owns (keep (keep (keep (keep hown1 hb2) hb3) hb4) hb5))).mono ?_; rintro e w6 ⟨o6, c6, rfl, hown6, hb6⟩)
      | (go_at_call 20; refine (cM _ _ _ _ _ (lies_of_owns hown6) (lies_of_owns (keep (keep (keep (keep hown2 hb3) hb4) hb5) hb6))).mono ?_; rintro e w7 ⟨o7, c7, rfl, hown7, hb7⟩)
      | (go_at_call 15; refine (cY _ _ _ (lies_of_owns hown7)).mono ?_; rintro e w8 ⟨rfl, hb8⟩))
    all_goals go_ret
    exact ⟨rfl, bt (bt (bt (bt (bt (bt (bt hb1 hb2) hb3) hb4) hb5) hb6) hb7) hb8⟩
  · have hsh := tx_shift V m hV
    have hno := tx_not V hV
    have hno2 : ¬ (bs (tx V)).toList = [48] := by rw [beq_eq_false_iff_ne] at hno; exact hno
    have hx0 : decide (-x < 0) = true := by simp; omega
    rw [hsh] at cY
    generalize tx V = T at *
    have hsz : (bs T).size ≤ 500 := by rw [bs_size]; exact hsl
    have EX : Hid (x = (m : Int)) := ex
    clear hsh hV ex
    go_enter Try.func5, Try.ntmps5
    go_wp2_with (first
      | (go_at_call 14; refine cF.mono ?_; rintro e w1 ⟨o1, c1, rfl, hown1, hb1⟩)
      | (go_at_call 9; refine (cT _).mono ?_; rintro e w2 ⟨o2, c2, rfl, hown2, hb2⟩)
      | (go_at_call 10; refine (awake4 _).mono ?_; rintro e w3 ⟨rfl, hb3⟩)
      | (go_at_call 16; have _t := t1; clear _t t1; refine (cC _ _ _ (lies_of_owns (keep (keep hown1 hb2) hb3))).mono ?_; rintro e w4 ⟨o4, c4, rfl, hown4, hb4⟩)
      | (go_at_call 15; have _t := t2; clear _t t2; refine (cX _ _ _ (lies_of_owns hown4)).mono ?_; rintro e w5 ⟨rfl, hb5⟩)
      | (go_at_call 16; refine (cC _ _ _ (lies_of_owns (keep (keep (keep (keep hown1 hb2) hb3) hb4) hb5))).mono ?_; rintro e w6 ⟨o6, c6, rfl, hown6, hb6⟩)
      | (go_at_call 20; refine (cM _ _ _ _ _ (lies_of_owns hown6) (lies_of_owns (keep (keep (keep (keep hown2 hb3) hb4) hb5) hb6))).mono ?_; rintro e w7 ⟨o7, c7, rfl, hown7, hb7⟩)
      | (go_at_call 15; refine (cY _ _ _ (lies_of_owns hown7)).mono ?_; rintro e w8 ⟨rfl, hb8⟩))
    go_loop [7, 9] (fun sv iv => ∃ i : Nat, i ≤ m ∧ iv = .int .i64 (i : Int) ∧ sv = .string (bs (T ++ List.replicate i 48))) (fun _ iv => m - (intOf iv).toNat)
    case atStart => exact ⟨0, Nat.zero_le _, rfl, by simp⟩
    case round =>
      obtain ⟨i, hi, rfl, rfl⟩ := hrel
      have hsz2 : (bs (T ++ List.replicate i 48)).size ≤ 700 := by rw [bs_size]; simp; omega
      by_cases him : i < m
      · have hap : bs (T ++ List.replicate (i + 1) 48) = bs (T ++ List.replicate i 48) ++ ByteArray.mk #[48] := by
          rw [List.replicate_succ', ← List.append_assoc, bs_append (T ++ List.replicate i 48)]; rfl
        have HA : Hid (bs (T ++ List.replicate (i + 1) 48) = bs (T ++ List.replicate i 48) ++ ByteArray.mk #[48]) := hap
        have q1 : (i : Int) < x := by rw [EX.out]; omega
        clear hap
        go_wp2
        go_round
        case rel => exact ⟨i + 1, by omega, by go_num, congrArg Value.string HA.out.symm⟩
        case measure => simp [intOf]; omega
      · have ei : i = m := by omega
        subst ei
        have q1 : ¬ (i : Int) < x := by rw [EX.out]; omega
        go_wp2
        go_ret
        exact ⟨by first | (congr 2; simp; done) | simp | rfl, bt (bt (bt (bt (bt (bt (bt hb1 hb2) hb3) hb4) hb5) hb6) hb7) hb8⟩
theorem walk0 (A : List Nat) (n : Int) (ao : Option Addr) (cap : Nat) (w : World) (hl : Lies w ao cap (ints .u32 A)) (hA : Small A) :
    Calls Try.prog 5 #[.slice ao A.length cap, .int .i64 n] w fun e w' => e = .returned (.bool true) ∧ Below w.heap.size w w' := by
  have b1 := Int.tmod_lt_of_pos n (show (0 : Int) < 200 by omega)
  have b2 : -200 < n.tmod 200 := Int.lt_tmod_of_pos n (by omega)
  by_cases h : 0 ≤ n.tmod 200
  · exact law_up A n (n.tmod 200).toNat (by omega) (by omega) ao cap w hl hA
  · exact law_down A n (-(n.tmod 200)).toNat (by omega) (by omega) (by omega) ao cap w hl hA
theorem walk (a0 : Option Addr) (len0 cap0 : Nat) (z0 : List Int) (a1 : Int) (w : World) (w0 : IsRow .u32 w a0 len0 cap0 z0) (w1 : (Lit.int .i64 a1).wf = true) :
    Calls Try.prog 5 #[.slice a0 len0 cap0, .int .i64 a1] w fun e w' => e = .returned (.bool true) ∧ Below w.heap.size w w' := by
  obtain ⟨A, rfl, hl, hA⟩ := lies_of_row nonneg_u32 w0
  have sA : Small A := fun x hx => by have := (bounds_u32 (hA x hx)).2; omega
  exact walk0 A a1 a0 cap0 w hl sA

/-! ### THE ROW's STEP: WRITTEN OUT: LEAVE IT -/
set_option maxRecDepth 100000 in
theorem lifted (os : Os) (started : os.Started) (H : Type) (enc : TypeId × Value → H) :
    ReturnsInHanded {} Try.checked os 5 .any (Rows.digitsScaleSpec.pre6 enc Try.prog Try.f5 Rows.digitsScaleRow.domain false) (Rows.digitsScaleSpec.post enc Try.prog Try.f5 false true false false) := by
  refine returnsInHanded_of_change (C := Try.checked) own started (by kernel_rfl) Try.func5
    (ChangeSpec.witness6 (enc := enc) (C := Try.checked) false ⟨#[], #[.slice none 0 0, .int .i64 0], []⟩ 8 (by kernel_rfl) (by kernel_rfl) (by kernel_rfl) (by kernel_rfl)) ?_
  intro W base args ds gs before hval0 hW hcnd _
  have hval : ∀ (j : Nat) t v, Try.f5.params[j]? = some t → args[j]? = some v → Value.okWide Try.prog W .any base t v := hval0
  have hW' := hW
  obtain ⟨p, q, hA0, hV, rfl, hfz, hnd⟩ := hW
  have hA : DataW.TrodAll enc Try.prog W 0 (fun _ => true) true Try.f5.params.toList args.toList ds p := hA0
  rw [Try.params5] at hA hval
  obtain ⟨v0, vs0, d0, ds0, p0, q0, hargs, rfl, rfl, h0, r0⟩ := trodAll_cons hA
  obtain ⟨v1, vs1, d1, ds1, p1, q1, rfl, rfl, rfl, h1, r1⟩ := trodAll_cons r0
  obtain ⟨rfl, rfl, rfl⟩ := trodAll_nil r1
  obtain rfl : args = #[v0, v1] := by cases args; simp_all
  obtain ⟨rfl, rfl⟩ := trodVars_none hV
  obtain ⟨a0, len0, cap0, rfl⟩ := okWide_slice Try.underlying22 (hval 0 22 v0 rfl rfl)
  have k0 := h0
  have lt0 : ∀ x ∈ p0, x.block < W.heap.size := by obtain ⟨m, hm⟩ := k0; exact DataW.trod_lt m _ _ _ hm
  obtain ⟨z0, w0⟩ : ∃ zs, IsRow .u32 W a0 len0 cap0 zs := by
    obtain ⟨fuel, hf⟩ := h0
    rcases open_ints Try.underlying22 Try.underlying80 (by kernel_rfl) hf with ⟨hcs, _⟩ | ⟨x, l, c, zs, hcs, _, hl, hm, hz, _, hcell, hwz⟩
    · simp [Value.cells] at hcs
      obtain ⟨rfl, rfl, rfl⟩ := hcs
      exact ⟨[], .inl ⟨rfl, rfl, rfl, rfl⟩⟩
    · simp [Value.cells] at hcs
      obtain ⟨rfl, rfl, rfl⟩ := hcs
      exact ⟨zs, .inr ⟨_, rfl, hl, hm, by simpa using hz, hcell, hwz⟩⟩
  obtain ⟨a1, rfl, rfl, rfl, w1⟩ := open_int Try.underlying3 (hval 1 3 v1 rfl rfl) h1
  clear hA0 hval0
  refine (walk a0 len0 cap0 z0 a1 W w0 w1).mono fun e W' ⟨he, bel⟩ => ?_
  subst he
  exact ⟨_, rfl, _, _, _, [], _, [], hW', trodAll_mk1 (shut_bool Try.underlying4 _), (trodAll_cons_mk (Below.trod laidOut (by kernel_rfl) (of_decide_eq_true (by kernel_rfl)) k0 bel lt0) (trodAll_cons_mk (shut_int Try.underlying3 w1) trodAll_mk0)), rfl, bel.frame _, fun h => by cases h⟩

theorem over : Rows.digitsScaleRow.holds Try.pinned (OpenSpec.ofChange Rows.digitsScaleSpec) :=
  OpenClaim.holds_of_wide 5 Try.f5 rfl rfl rfl rfl rfl rfl rfl ⟨rfl, rfl, rfl, rfl, rfl⟩ rfl rfl rfl rfl rfl (by kernel_rfl) Try.func5 (by kernel_rfl)
    (of_decide_eq_true (by kernel_rfl)) (by unfold Func.isWrapper; first | (rw [if_pos (by decide +kernel)]; kernel_rfl) | (rw [if_neg (by decide +kernel)]; exact ⟨rfl, rfl⟩))
    (fun os started H enc _ => lifted os started H enc)

/-- ████ THE STATEMENT ████ -/
theorem proved : Rows.DigitsScaleSaid := over
end Go.Proofs.Ytbhmgafiookjnab.digitsScale
namespace Go.Proofs.Ytbhmgafiookjnab
/-- THE STATEMENT. -/
theorem digitsScale_holds : Rows.DigitsScaleSaid := digitsScale.proved
#print axioms digitsScale_holds
end Go.Proofs.Ytbhmgafiookjnab
