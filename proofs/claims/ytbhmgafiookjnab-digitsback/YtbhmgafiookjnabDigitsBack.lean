/- For every input the law DigitsBack returns true: what is written in digits is read back as the same number, with noughts in front, too. -/
import Derived.Test.YtbhmgafiookjnabRows
import Derived.WalkKit
import Derived.ProofKit
import Derived.OpenShut
import Derived.ShutString
import Derived.ChangeOld
import Derived.Below
import Derived.Test.YtbhmgafiookjnabAw4
import Derived.Test.YtbhmgafiookjnabPadL
import Derived.Test.YtbhmgafiookjnabFew4
namespace Go.Proofs.Ytbhmgafiookjnab.digitsBack
open Go.ChangeShapes Go.WideShapes Go.ChangeAt Go.RowKit
open Go.ChangeMaps (open_string shut_string)
set_option linter.unusedVariables false

theorem own : ownKnob Try.prog.godebug = none := by kernel_rfl
theorem laidOut : laidOutB Try.prog = true := by kernel_rfl

/-- WHAT THE WALK IS TOLD OF A SLICE OF INTEGERS THAT CAME IN: it is nil; or it leads to a row of 'cap' cells, the numbers 'zs' (the first 'len' are its elements, the rest its spare room), each fitting its kind. -/
def IsRow (k : IntKind) (w : World) (a : Option Addr) (len cap : Nat) (zs : List Int) : Prop :=
  (a = none ∧ len = 0 ∧ cap = 0 ∧ zs = []) ∨
  ∃ x, a = some x ∧ len ≤ cap ∧ cap ≤ maxLen ∧ zs.length = cap ∧ (∀ i, i < zs.length → w.cell? (x.add i) = some (.int k (zs.getD i 0))) ∧ ∀ n ∈ zs, (Lit.int k n).wf = true

open Mem LimbNum Limb1 Limb2 Limb4 NatNum NatL DigNum DigL StrL ParseL TextL Aw4 TensL PadL Few4

theorem parse_list (l : List Nat) (V : Nat) (w : World) (hd : DG l) (h0 : 0 < l.length) (h1 : l.length ≤ 20000) (hv : dv l = V) :
    Calls Try.prog 17 #[.string (bs l)] w fun e w' => ∃ o c, e = .returned (.tuple #[.slice o (nl V).length c, .int .i64 0]) ∧
      w'.ownsRow w.heap.size 80 1 (.slice o (nl V).length c) (nl V).length (ints .u32 (nl V)) ∧ Below w.heap.size w w' := by
  have h := parse_yes (bs l) w (digits_bs l hd) (by rw [bs_size]; exact h0) (by rw [bs_size]; exact h1)
  rw [num_all l hd, hv] at h
  exact h
theorem tx_len (V : Nat) (m : Nat) (h : V < 10 ^ m) (hm : 1 ≤ m) : (tx V).length ≤ m := by
  unfold tx
  by_cases h0 : V = 0
  · rw [if_pos h0]; simpa using hm
  · rw [if_neg h0]; exact dl_len_le V m h
theorem cmp_self (V : Nat) : cmpV V V = 0 := by unfold cmpV; simp
theorem dg_zeros (k : Nat) : DG (List.replicate k 48) := fun d hd => by have := (List.mem_replicate.1 hd).2; omega
theorem dg_app {a b : List Nat} (h : DG a) (k : DG b) : DG (a ++ b) := fun d hd => by
  rcases List.mem_append.1 hd with h1 | h1
  · exact h d h1
  · exact k d h1
theorem tx_500 (P : List Nat) (hP : Small P) (hPl : P.length ≤ 500) : (tx (val P)).length ≤ 5000 := by
  obtain ⟨K, hK⟩ : ∃ K, 500 = K := ⟨_, rfl⟩
  have h1 := val_lt P hP
  have h2 : 4294967296 ^ P.length ≤ 4294967296 ^ K := Nat.pow_le_pow_right (by omega) (by omega)
  have h3 := small_ten K
  rw [show 5000 = 10 * K by omega]
  exact tx_len _ _ (by omega) (by omega)

set_option maxRecDepth 20000 in
set_option maxHeartbeats 1000000 in
theorem law_low (A : List Nat) (n : Int) (hn : n < 0) (ao : Option Addr) (cap : Nat) (w : World) (hl : Lies w ao cap (ints .u32 A)) (hA : Small A) :
    Calls Try.prog 4 #[.slice ao A.length cap, .int .i64 n] w fun e w' => e = .returned (.bool true) ∧ Below w.heap.size w w' := by
  have cF := few_any A 500 (by omega) ao cap w hl
  have hP := small_take A 500 hA
  have hPl : (A.take 500).length ≤ 500 := by rw [List.length_take]; omega
  generalize A.take 500 = P at *
  have cC := fun (W : World) (o : Option Addr) (c : Nat) (h : Lies W o c (ints .u32 P)) => copy_any P o c W h (by omega)
  have cX := fun (W : World) (o : Option Addr) (c : Nat) (h : Lies W o c (ints .u32 P)) => text_any P o c W h hP (by omega)
  have hlt := tx_500 P hP hPl
  have hl0 := tx_pos (val P)
  have cS := fun W : World => parse_list (tx (val P)) (val P) W (dg_tx _) hl0 (by omega) (dv_tx _)
  have cK := fun (W : World) (o1 o2 : Option Addr) (c1 c2 : Nat) (h1 : Lies W o1 c1 (ints .u32 (nl (val P)))) (h2 : Lies W o2 c2 (ints .u32 P)) => cmp_any (nl (val P)) P o1 o2 c1 c2 W h1 h2 (small_nl _) hP
  rw [val_nl, cmp_self] at cK
  have cP := fun (W : World) (o : Option Addr) (c : Nat) => pad_low P n o c W hn
  clear hlt hl0 hl hA hP
  generalize nl (val P) = NV at *
  generalize bs (tx (val P)) = S at *
  have t1 : True := trivial
  have t2 : True := trivial
  have t3 : True := trivial
  go_enter Try.func4, Try.ntmps4
  go_wp2_with (first
    | (go_at_call 14; refine cF.mono ?_; rintro e w1 ⟨o1, c1, rfl, hown1, hb1⟩)
    | (go_at_call 16; have _t := t1; clear _t t1; refine (cC _ _ _ (lies_of_owns hown1)).mono ?_; rintro e w2 ⟨o2, c2, rfl, hown2, hb2⟩; have k2 := keep hown1 hb2)
    | (go_at_call 15; refine (cX _ _ _ (lies_of_owns hown2)).mono ?_; rintro e w3 ⟨rfl, hb3⟩; have k3 := keep k2 hb3)
    | (go_at_call 17; have _t := t2; clear _t t2; refine (cS _).mono ?_; rintro e w4 ⟨o4, c4, rfl, hown4, hb4⟩; have k4 := keep k3 hb4)
    | (go_at_call 16; have _t := t3; clear _t t3; refine (cC _ _ _ (lies_of_owns k4)).mono ?_; rintro e w6 ⟨o6, c6, rfl, hown6, hb6⟩; have k6 := keep k4 hb6; have l6 := keep hown4 hb6)
    | (go_at_call 18; refine (cP _ _ _).mono ?_; rintro e w7 ⟨rfl, hw⟩; have hw2 := hw.symm; clear hw; subst hw2; have k7 := k6; have l7 := l6)
    | (go_at_call 10; refine (awake4 _).mono ?_; rintro e w8 ⟨rfl, hb8⟩; have k8 := keep k7 hb8; have l8 := keep l7 hb8)
    | (go_at_call 16; refine (cC _ _ _ (lies_of_owns k8)).mono ?_; rintro e w9 ⟨o9, c9, rfl, hown9, hb9⟩; have l9 := keep l8 hb9)
    | (go_at_call 19; refine (cK _ _ _ _ _ (lies_of_owns l9) (lies_of_owns hown9)).mono ?_; rintro e w10 ⟨rfl, hb10⟩; have l10 := keep l9 hb10))
  all_goals go_ret
  exact ⟨rfl, (bt (bt (bt (bt (bt (bt (bt hb1 hb2) hb3) hb4) hb6) hb8) hb9) hb10)⟩

set_option maxRecDepth 20000 in
set_option maxHeartbeats 1000000 in
theorem law_high (A : List Nat) (n : Int) (hn : 20000 < n) (ao : Option Addr) (cap : Nat) (w : World) (hl : Lies w ao cap (ints .u32 A)) (hA : Small A) :
    Calls Try.prog 4 #[.slice ao A.length cap, .int .i64 n] w fun e w' => e = .returned (.bool true) ∧ Below w.heap.size w w' := by
  have cF := few_any A 500 (by omega) ao cap w hl
  have hP := small_take A 500 hA
  have hPl : (A.take 500).length ≤ 500 := by rw [List.length_take]; omega
  generalize A.take 500 = P at *
  have cC := fun (W : World) (o : Option Addr) (c : Nat) (h : Lies W o c (ints .u32 P)) => copy_any P o c W h (by omega)
  have cX := fun (W : World) (o : Option Addr) (c : Nat) (h : Lies W o c (ints .u32 P)) => text_any P o c W h hP (by omega)
  have hlt := tx_500 P hP hPl
  have hl0 := tx_pos (val P)
  have cS := fun W : World => parse_list (tx (val P)) (val P) W (dg_tx _) hl0 (by omega) (dv_tx _)
  have cK := fun (W : World) (o1 o2 : Option Addr) (c1 c2 : Nat) (h1 : Lies W o1 c1 (ints .u32 (nl (val P)))) (h2 : Lies W o2 c2 (ints .u32 P)) => cmp_any (nl (val P)) P o1 o2 c1 c2 W h1 h2 (small_nl _) hP
  rw [val_nl, cmp_self] at cK
  have cP := fun (W : World) (o : Option Addr) (c : Nat) => pad_high P n o c W hn
  clear hlt hl0 hl hA hP
  generalize nl (val P) = NV at *
  generalize bs (tx (val P)) = S at *
  have t1 : True := trivial
  have t2 : True := trivial
  have t3 : True := trivial
  go_enter Try.func4, Try.ntmps4
  go_wp2_with (first
    | (go_at_call 14; refine cF.mono ?_; rintro e w1 ⟨o1, c1, rfl, hown1, hb1⟩)
    | (go_at_call 16; have _t := t1; clear _t t1; refine (cC _ _ _ (lies_of_owns hown1)).mono ?_; rintro e w2 ⟨o2, c2, rfl, hown2, hb2⟩; have k2 := keep hown1 hb2)
    | (go_at_call 15; refine (cX _ _ _ (lies_of_owns hown2)).mono ?_; rintro e w3 ⟨rfl, hb3⟩; have k3 := keep k2 hb3)
    | (go_at_call 17; have _t := t2; clear _t t2; refine (cS _).mono ?_; rintro e w4 ⟨o4, c4, rfl, hown4, hb4⟩; have k4 := keep k3 hb4)
    | (go_at_call 16; have _t := t3; clear _t t3; refine (cC _ _ _ (lies_of_owns k4)).mono ?_; rintro e w6 ⟨o6, c6, rfl, hown6, hb6⟩; have k6 := keep k4 hb6; have l6 := keep hown4 hb6)
    | (go_at_call 18; refine (cP _ _ _).mono ?_; rintro e w7 ⟨rfl, hw⟩; have hw2 := hw.symm; clear hw; subst hw2; have k7 := k6; have l7 := l6)
    | (go_at_call 10; refine (awake4 _).mono ?_; rintro e w8 ⟨rfl, hb8⟩; have k8 := keep k7 hb8; have l8 := keep l7 hb8)
    | (go_at_call 16; refine (cC _ _ _ (lies_of_owns k8)).mono ?_; rintro e w9 ⟨o9, c9, rfl, hown9, hb9⟩; have l9 := keep l8 hb9)
    | (go_at_call 19; refine (cK _ _ _ _ _ (lies_of_owns l9) (lies_of_owns hown9)).mono ?_; rintro e w10 ⟨rfl, hb10⟩; have l10 := keep l9 hb10))
  all_goals go_ret
  exact ⟨rfl, (bt (bt (bt (bt (bt (bt (bt hb1 hb2) hb3) hb4) hb6) hb8) hb9) hb10)⟩

set_option maxRecDepth 20000 in
set_option maxHeartbeats 1000000 in
theorem law_in (A : List Nat) (n : Nat) (hn : n ≤ 20000) (ao : Option Addr) (cap : Nat) (w : World) (hl : Lies w ao cap (ints .u32 A)) (hA : Small A) :
    Calls Try.prog 4 #[.slice ao A.length cap, .int .i64 (n : Int)] w fun e w' => e = .returned (.bool true) ∧ Below w.heap.size w w' := by
  have cF := few_any A 500 (by omega) ao cap w hl
  have hP := small_take A 500 hA
  have hPl : (A.take 500).length ≤ 500 := by rw [List.length_take]; omega
  generalize A.take 500 = P at *
  have cC := fun (W : World) (o : Option Addr) (c : Nat) (h : Lies W o c (ints .u32 P)) => copy_any P o c W h (by omega)
  have cX := fun (W : World) (o : Option Addr) (c : Nat) (h : Lies W o c (ints .u32 P)) => text_any P o c W h hP (by omega)
  have hlt := tx_500 P hP hPl
  have hl0 := tx_pos (val P)
  have cS := fun W : World => parse_list (tx (val P)) (val P) W (dg_tx _) hl0 (by omega) (dv_tx _)
  have cK := fun (W : World) (o1 o2 : Option Addr) (c1 c2 : Nat) (h1 : Lies W o1 c1 (ints .u32 (nl (val P)))) (h2 : Lies W o2 c2 (ints .u32 P)) => cmp_any (nl (val P)) P o1 o2 c1 c2 W h1 h2 (small_nl _) hP
  rw [val_nl, cmp_self] at cK
  have cP := fun (W : World) (o : Option Addr) (c : Nat) (h : Lies W o c (ints .u32 P)) => pad_any P n o c W h hP (by omega) hn
  have cQ := fun W : World => parse_list (List.replicate (n - (tx (val P)).length) 48 ++ tx (val P)) (val P) W (dg_app (dg_zeros _) (dg_tx _)) (by simp; omega) (by simp; omega) (by rw [dv_append, dv_noughts _ (fun d hd => (List.mem_replicate.1 hd).2), dv_tx]; omega)
  have cE := fun (W : World) (o1 o2 : Option Addr) (c1 c2 : Nat) (h1 : Lies W o1 c1 (ints .u32 (nl (val P)))) (h2 : Lies W o2 c2 (ints .u32 (nl (val P)))) => same_any (nl (val P)) (nl (val P)) o1 o2 c1 c2 W h1 h2
  simp only [decide_true] at cE
  clear hlt hl0 hl hA hP
  generalize nl (val P) = NV at *
  generalize bs (tx (val P)) = S at *
  generalize bs (List.replicate (n - (tx (val P)).length) 48 ++ tx (val P)) = S2 at *
  obtain ⟨x, ex⟩ : ∃ x : Int, x = (n : Int) := ⟨_, rfl⟩
  rw [← ex] at cP ⊢
  have x0 : 0 ≤ x := by omega
  have x1 : x ≤ 20000 := by omega
  clear ex hn
  have t1 : True := trivial
  have t2 : True := trivial
  have t3 : True := trivial
  go_enter Try.func4, Try.ntmps4
  go_wp2_with (first
    | (go_at_call 14; refine cF.mono ?_; rintro e w1 ⟨o1, c1, rfl, hown1, hb1⟩)
    | (go_at_call 16; have _t := t1; clear _t t1; refine (cC _ _ _ (lies_of_owns hown1)).mono ?_; rintro e w2 ⟨o2, c2, rfl, hown2, hb2⟩; have k2 := keep hown1 hb2)
    | (go_at_call 15; refine (cX _ _ _ (lies_of_owns hown2)).mono ?_; rintro e w3 ⟨rfl, hb3⟩; have k3 := keep k2 hb3)
    | (go_at_call 17; have _t := t2; clear _t t2; refine (cS _).mono ?_; rintro e w4 ⟨o4, c4, rfl, hown4, hb4⟩; have k4 := keep k3 hb4)
    | (go_at_call 16; have _t := t3; clear _t t3; refine (cC _ _ _ (lies_of_owns k4)).mono ?_; rintro e w6 ⟨o6, c6, rfl, hown6, hb6⟩; have k6 := keep k4 hb6; have l6 := keep hown4 hb6)
    | (go_at_call 18; refine (cP _ _ _ (lies_of_owns hown6)).mono ?_; rintro e w7 ⟨rfl, hb7⟩; have k7 := (keep k6 hb7); have l7 := (keep l6 hb7))
    | (go_at_call 10; refine (awake4 _).mono ?_; rintro e w8 ⟨rfl, hb8⟩; have k8 := keep k7 hb8; have l8 := keep l7 hb8)
    | (go_at_call 16; refine (cC _ _ _ (lies_of_owns k8)).mono ?_; rintro e w9 ⟨o9, c9, rfl, hown9, hb9⟩; have l9 := keep l8 hb9)
    | (go_at_call 19; refine (cK _ _ _ _ _ (lies_of_owns l9) (lies_of_owns hown9)).mono ?_; rintro e w10 ⟨rfl, hb10⟩; have l10 := keep l9 hb10)
    | (go_at_call 17; refine (cQ _).mono ?_; rintro e w11 ⟨o11, c11, rfl, hown11, hb11⟩; have l11 := keep l10 hb11)
    | (go_at_call 11; refine (cE _ _ _ _ _ (lies_of_owns hown11) (lies_of_owns l11)).mono ?_; rintro e w12 ⟨rfl, hb12⟩))
  all_goals go_ret
  exact ⟨rfl, (bt (bt (bt (bt (bt (bt (bt (bt (bt (bt hb1 hb2) hb3) hb4) hb6) hb7) hb8) hb9) hb10) hb11) hb12)⟩
theorem walk (a0 : Option Addr) (len0 cap0 : Nat) (z0 : List Int) (a1 : Int) (w : World) (w0 : IsRow .u32 w a0 len0 cap0 z0) (w1 : (Lit.int .i64 a1).wf = true) :
    Calls Try.prog 4 #[.slice a0 len0 cap0, .int .i64 a1] w fun e w' => e = .returned (.bool true) ∧ Below w.heap.size w w' := by
  obtain ⟨A, rfl, hl, hA⟩ := lies_of_row nonneg_u32 w0
  have sA : Small A := fun x hx => by have := (bounds_u32 (hA x hx)).2; omega
  by_cases h1 : a1 < 0
  · exact law_low A a1 h1 a0 cap0 w hl sA
  · by_cases h2 : 20000 < a1
    · exact law_high A a1 h2 a0 cap0 w hl sA
    · obtain ⟨n, rfl⟩ : ∃ n : Nat, a1 = (n : Int) := ⟨a1.toNat, by omega⟩
      exact law_in A n (by omega) a0 cap0 w hl sA

/-! ### THE ROW's STEP: WRITTEN OUT: LEAVE IT -/
set_option maxRecDepth 100000 in
theorem lifted (os : Os) (started : os.Started) (H : Type) (enc : TypeId × Value → H) :
    ReturnsInHanded {} Try.checked os 4 .any (Rows.digitsBackSpec.pre6 enc Try.prog Try.f4 Rows.digitsBackRow.domain false) (Rows.digitsBackSpec.post enc Try.prog Try.f4 false true false false) := by
  refine returnsInHanded_of_change (C := Try.checked) own started (by kernel_rfl) Try.func4
    (ChangeSpec.witness6 (enc := enc) (C := Try.checked) false ⟨#[], #[.slice none 0 0, .int .i64 0], []⟩ 8 (by kernel_rfl) (by kernel_rfl) (by kernel_rfl) (by kernel_rfl)) ?_
  intro W base args ds gs before hval0 hW hcnd _
  have hval : ∀ (j : Nat) t v, Try.f4.params[j]? = some t → args[j]? = some v → Value.okWide Try.prog W .any base t v := hval0
  have hW' := hW
  obtain ⟨p, q, hA0, hV, rfl, hfz, hnd⟩ := hW
  have hA : DataW.TrodAll enc Try.prog W 0 (fun _ => true) true Try.f4.params.toList args.toList ds p := hA0
  rw [Try.params4] at hA hval
  obtain ⟨v0, vs0, d0, ds0, p0, q0, hargs, rfl, rfl, h0, r0⟩ := trodAll_cons hA
  obtain ⟨v1, vs1, d1, ds1, p1, q1, rfl, rfl, rfl, h1, r1⟩ := trodAll_cons r0
  obtain ⟨rfl, rfl, rfl⟩ := trodAll_nil r1
  obtain rfl : args = #[v0, v1] := by cases args; simp_all
  obtain ⟨rfl, rfl⟩ := trodVars_none hV
  obtain ⟨a0, len0, cap0, rfl⟩ := okWide_slice Try.underlying22 (hval 0 22 v0 rfl rfl)
  have k0 := h0
  have lt0 : ∀ x ∈ p0, x.block < W.heap.size := by obtain ⟨m, hm⟩ := k0; exact DataW.trod_lt m _ _ _ hm
  obtain ⟨z0, w0⟩ : ∃ zs, IsRow .u32 W a0 len0 cap0 zs := by
    obtain ⟨fuel, hf⟩ := h0
    rcases open_ints Try.underlying22 Try.underlying80 (by kernel_rfl) hf with ⟨hcs, _⟩ | ⟨x, l, c, zs, hcs, _, hl, hm, hz, _, hcell, hwz⟩
    · simp [Value.cells] at hcs
      obtain ⟨rfl, rfl, rfl⟩ := hcs
      exact ⟨[], .inl ⟨rfl, rfl, rfl, rfl⟩⟩
    · simp [Value.cells] at hcs
      obtain ⟨rfl, rfl, rfl⟩ := hcs
      exact ⟨zs, .inr ⟨_, rfl, hl, hm, by simpa using hz, hcell, hwz⟩⟩
  obtain ⟨a1, rfl, rfl, rfl, w1⟩ := open_int Try.underlying3 (hval 1 3 v1 rfl rfl) h1
  clear hA0 hval0
  refine (walk a0 len0 cap0 z0 a1 W w0 w1).mono fun e W' ⟨he, bel⟩ => ?_
  subst he
  exact ⟨_, rfl, _, _, _, [], _, [], hW', trodAll_mk1 (shut_bool Try.underlying4 _), (trodAll_cons_mk (Below.trod laidOut (by kernel_rfl) (of_decide_eq_true (by kernel_rfl)) k0 bel lt0) (trodAll_cons_mk (shut_int Try.underlying3 w1) trodAll_mk0)), rfl, bel.frame _, fun h => by cases h⟩

theorem over : Rows.digitsBackRow.holds Try.pinned (OpenSpec.ofChange Rows.digitsBackSpec) :=
  OpenClaim.holds_of_wide 4 Try.f4 rfl rfl rfl rfl rfl rfl rfl ⟨rfl, rfl, rfl, rfl, rfl⟩ rfl rfl rfl rfl rfl (by kernel_rfl) Try.func4 (by kernel_rfl)
    (of_decide_eq_true (by kernel_rfl)) (by unfold Func.isWrapper; first | (rw [if_pos (by decide +kernel)]; kernel_rfl) | (rw [if_neg (by decide +kernel)]; exact ⟨rfl, rfl⟩))
    (fun os started H enc _ => lifted os started H enc)

/-- ████ THE STATEMENT ████ -/
theorem proved : Rows.DigitsBackSaid := over
end Go.Proofs.Ytbhmgafiookjnab.digitsBack
namespace Go.Proofs.Ytbhmgafiookjnab
/-- THE STATEMENT. -/
theorem digitsBack_holds : Rows.DigitsBackSaid := digitsBack.proved
#print axioms digitsBack_holds
end Go.Proofs.Ytbhmgafiookjnab
