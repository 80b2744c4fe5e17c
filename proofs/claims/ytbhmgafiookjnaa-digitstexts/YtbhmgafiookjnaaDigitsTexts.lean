/- For every input the law DigitsTexts returns true: a natural's decimal text is right, and padded to any length with noughts in front. -/
import Derived.Test.YtbhmgafiookjnaaRows
import Derived.WalkKit
import Derived.ProofKit
import Derived.OpenShut
import Derived.ShutString
import Derived.ChangeOld
import Derived.Below
import Derived.Test.YtbhmgafiookjnaaAw4
import Derived.Test.YtbhmgafiookjnaaPadL
import Derived.Test.YtbhmgafiookjnaaFew4
import Derived.Test.YtbhmgafiookjnaaRText
namespace Go.Proofs.Ytbhmgafiookjnaa.digitsTexts
open Go.ChangeShapes Go.WideShapes Go.ChangeAt Go.RowKit
open Go.ChangeMaps (open_string shut_string)
set_option linter.unusedVariables false

theorem own : ownKnob Try.prog.godebug = none := by kernel_rfl
theorem laidOut : laidOutB Try.prog = true := by kernel_rfl

/-- WHAT THE WALK IS TOLD OF A SLICE OF INTEGERS THAT CAME IN: it is nil; or it leads to a row of 'cap' cells, the numbers 'zs' (the first 'len' are its elements, the rest its spare room), each fitting its kind. -/
def IsRow (k : IntKind) (w : World) (a : Option Addr) (len cap : Nat) (zs : List Int) : Prop :=
  (a = none ∧ len = 0 ∧ cap = 0 ∧ zs = []) ∨
  ∃ x, a = some x ∧ len ≤ cap ∧ cap ≤ maxLen ∧ zs.length = cap ∧ (∀ i, i < zs.length → w.cell? (x.add i) = some (.int k (zs.getD i 0))) ∧ ∀ n ∈ zs, (Lit.int k n).wf = true

open Mem LimbNum Limb1 Limb2 Limb4 NatNum NatL RefL DigNum DigL StrL ParseL TextL Aw4 PadL Few4 RText

theorem tx_len (V : Nat) (m : Nat) (h : V < 10 ^ m) (hm : 1 ≤ m) : (tx V).length ≤ m := by
  unfold tx
  by_cases h0 : V = 0
  · rw [if_pos h0]; simpa using hm
  · rw [if_neg h0]; exact dl_len_le V m h
theorem tx_20 (P : List Nat) (hP : Small P) (hPl : P.length ≤ 20) : (tx (val P)).length ≤ 200 := by
  have h1 := val_lt P hP
  have h2 : 4294967296 ^ P.length ≤ 4294967296 ^ 20 := Nat.pow_le_pow_right (by omega) hPl
  have h3 := small_ten 20
  exact tx_len _ 200 (by omega) (by omega)

set_option maxRecDepth 20000 in
set_option maxHeartbeats 1000000 in
theorem law_low (A : List Nat) (n : Int) (hn : n < 0) (ao : Option Addr) (cap : Nat) (w : World) (hl : Lies w ao cap (ints .u32 A)) (hA : Small A) :
    Calls Try.prog 6 #[.slice ao A.length cap, .int .i64 n] w fun e w' => e = .returned (.bool true) ∧ Below w.heap.size w w' := by
  have cF := few_any A 20 (by omega) ao cap w hl
  have hP := small_take A 20 hA
  have hPl : (A.take 20).length ≤ 20 := by rw [List.length_take]; omega
  generalize A.take 20 = P at *
  have cC := fun (W : World) (o : Option Addr) (c : Nat) (h : Lies W o c (ints .u32 P)) => copy_any P o c W h (by omega)
  have cO := fun (W : World) (o : Option Addr) (c : Nat) (h : Lies W o c (ints .u32 P)) => of_any P o c W h hP (by omega)
  have cX := fun (W : World) (o : Option Addr) (c : Nat) (h : Lies W o c (ints .u32 P)) => text_any P o c W h hP (by omega)
  have cN := fun (W : World) (o : Option Addr) (c : Nat) (h : Lies W o c (ints .u32 P)) => count_any P o c W h hP (by omega)
  have hbl := bits_le P 20 hP hPl
  have cR := fun (W : World) (o : Option Addr) (c : Nat) (h : Lies W o c (bools (nb (val P)))) => rtext_any (val P) o c W h (by omega)
  have hlt := tx_20 P hP hPl
  have cP := fun (W : World) (o : Option Addr) (c : Nat) => pad_low P n o c W hn
  have hs := bs_size (tx (val P))
  rw [← hs] at cN
  clear hl hA hP hbl
  generalize nb (val P) = BV at *
  generalize tx (val P) = T at *
  generalize bs T = S at *
  clear hs hlt
  have t1 : True := trivial
  have t2 : True := trivial
  go_enter Try.func6, Try.ntmps6
  go_wp2_with (first
    | (go_at_call 26; refine cF.mono ?_; rintro e w1 ⟨o1, c1, rfl, hown1, hb1⟩)
    | (go_at_call 19; refine (cO _ _ _ (lies_of_owns hown1)).mono ?_; rintro e w2 ⟨o2, c2, rfl, hown2, hb2⟩; have k2 := keep hown1 hb2)
    | (go_at_call 27; refine (cR _ _ _ (lies_of_owns hown2)).mono ?_; rintro e w3 ⟨rfl, hb3⟩; have k3 := keep k2 hb3)
    | (go_at_call 15; have _t := t1; clear _t t1; refine (cC _ _ _ (lies_of_owns k3)).mono ?_; rintro e w4 ⟨o4, c4, rfl, hown4, hb4⟩; have k4 := keep k3 hb4)
    | (go_at_call 28; refine (cP _ _ _).mono ?_; rintro e w5 ⟨rfl, hw⟩; have hw2 := hw.symm; clear hw; subst hw2; have k5 := k4)
    | (go_at_call 29; refine (awake4 _).mono ?_; rintro e w6 ⟨rfl, hb6⟩; have k6 := keep k5 hb6)
    | (go_at_call 15; have _t := t2; clear _t t2; refine (cC _ _ _ (lies_of_owns k6)).mono ?_; rintro e w7 ⟨o7, c7, rfl, hown7, hb7⟩; have k7 := keep k6 hb7)
    | (go_at_call 30; refine (cX _ _ _ (lies_of_owns hown7)).mono ?_; rintro e w8 ⟨rfl, hb8⟩; have k8 := keep k7 hb8)
    | (go_at_call 15; refine (cC _ _ _ (lies_of_owns k8)).mono ?_; rintro e w9 ⟨o9, c9, rfl, hown9, hb9⟩)
    | (go_at_call 31; refine (cN _ _ _ (lies_of_owns hown9)).mono ?_; rintro e w10 ⟨rfl, hb10⟩))
  all_goals go_ret
  exact ⟨rfl, (bt (bt (bt (bt (bt (bt (bt (bt hb1 hb2) hb3) hb4) hb6) hb7) hb8) hb9) hb10)⟩

set_option maxRecDepth 20000 in
set_option maxHeartbeats 1000000 in
theorem law_high (A : List Nat) (n : Int) (hn : 20000 < n) (ao : Option Addr) (cap : Nat) (w : World) (hl : Lies w ao cap (ints .u32 A)) (hA : Small A) :
    Calls Try.prog 6 #[.slice ao A.length cap, .int .i64 n] w fun e w' => e = .returned (.bool true) ∧ Below w.heap.size w w' := by
  have cF := few_any A 20 (by omega) ao cap w hl
  have hP := small_take A 20 hA
  have hPl : (A.take 20).length ≤ 20 := by rw [List.length_take]; omega
  generalize A.take 20 = P at *
  have cC := fun (W : World) (o : Option Addr) (c : Nat) (h : Lies W o c (ints .u32 P)) => copy_any P o c W h (by omega)
  have cO := fun (W : World) (o : Option Addr) (c : Nat) (h : Lies W o c (ints .u32 P)) => of_any P o c W h hP (by omega)
  have cX := fun (W : World) (o : Option Addr) (c : Nat) (h : Lies W o c (ints .u32 P)) => text_any P o c W h hP (by omega)
  have cN := fun (W : World) (o : Option Addr) (c : Nat) (h : Lies W o c (ints .u32 P)) => count_any P o c W h hP (by omega)
  have hbl := bits_le P 20 hP hPl
  have cR := fun (W : World) (o : Option Addr) (c : Nat) (h : Lies W o c (bools (nb (val P)))) => rtext_any (val P) o c W h (by omega)
  have hlt := tx_20 P hP hPl
  have cP := fun (W : World) (o : Option Addr) (c : Nat) => pad_high P n o c W hn
  have hs := bs_size (tx (val P))
  rw [← hs] at cN
  clear hl hA hP hbl
  generalize nb (val P) = BV at *
  generalize tx (val P) = T at *
  generalize bs T = S at *
  clear hs hlt
  have t1 : True := trivial
  have t2 : True := trivial
  go_enter Try.func6, Try.ntmps6
  go_wp2_with (first
    | (go_at_call 26; refine cF.mono ?_; rintro e w1 ⟨o1, c1, rfl, hown1, hb1⟩)
    | (go_at_call 19; refine (cO _ _ _ (lies_of_owns hown1)).mono ?_; rintro e w2 ⟨o2, c2, rfl, hown2, hb2⟩; have k2 := keep hown1 hb2)
    | (go_at_call 27; refine (cR _ _ _ (lies_of_owns hown2)).mono ?_; rintro e w3 ⟨rfl, hb3⟩; have k3 := keep k2 hb3)
    | (go_at_call 15; have _t := t1; clear _t t1; refine (cC _ _ _ (lies_of_owns k3)).mono ?_; rintro e w4 ⟨o4, c4, rfl, hown4, hb4⟩; have k4 := keep k3 hb4)
    | (go_at_call 28; refine (cP _ _ _).mono ?_; rintro e w5 ⟨rfl, hw⟩; have hw2 := hw.symm; clear hw; subst hw2; have k5 := k4)
    | (go_at_call 29; refine (awake4 _).mono ?_; rintro e w6 ⟨rfl, hb6⟩; have k6 := keep k5 hb6)
    | (go_at_call 15; have _t := t2; clear _t t2; refine (cC _ _ _ (lies_of_owns k6)).mono ?_; rintro e w7 ⟨o7, c7, rfl, hown7, hb7⟩; have k7 := keep k6 hb7)
    | (go_at_call 30; refine (cX _ _ _ (lies_of_owns hown7)).mono ?_; rintro e w8 ⟨rfl, hb8⟩; have k8 := keep k7 hb8)
    | (go_at_call 15; refine (cC _ _ _ (lies_of_owns k8)).mono ?_; rintro e w9 ⟨o9, c9, rfl, hown9, hb9⟩)
    | (go_at_call 31; refine (cN _ _ _ (lies_of_owns hown9)).mono ?_; rintro e w10 ⟨rfl, hb10⟩))
  all_goals go_ret
  exact ⟨rfl, (bt (bt (bt (bt (bt (bt (bt (bt hb1 hb2) hb3) hb4) hb6) hb7) hb8) hb9) hb10)⟩

set_option maxRecDepth 20000 in
set_option maxHeartbeats 1000000 in
theorem law_in (A : List Nat) (n : Nat) (hn : n ≤ 20000) (ao : Option Addr) (cap : Nat) (w : World) (hl : Lies w ao cap (ints .u32 A)) (hA : Small A) :
    Calls Try.prog 6 #[.slice ao A.length cap, .int .i64 (n : Int)] w fun e w' => e = .returned (.bool true) ∧ Below w.heap.size w w' := by
  have cF := few_any A 20 (by omega) ao cap w hl
  have hP := small_take A 20 hA
  have hPl : (A.take 20).length ≤ 20 := by rw [List.length_take]; omega
  generalize A.take 20 = P at *
  have cC := fun (W : World) (o : Option Addr) (c : Nat) (h : Lies W o c (ints .u32 P)) => copy_any P o c W h (by omega)
  have cO := fun (W : World) (o : Option Addr) (c : Nat) (h : Lies W o c (ints .u32 P)) => of_any P o c W h hP (by omega)
  have cX := fun (W : World) (o : Option Addr) (c : Nat) (h : Lies W o c (ints .u32 P)) => text_any P o c W h hP (by omega)
  have cN := fun (W : World) (o : Option Addr) (c : Nat) (h : Lies W o c (ints .u32 P)) => count_any P o c W h hP (by omega)
  have hbl := bits_le P 20 hP hPl
  have cR := fun (W : World) (o : Option Addr) (c : Nat) (h : Lies W o c (bools (nb (val P)))) => rtext_any (val P) o c W h (by omega)
  have hlt := tx_20 P hP hPl
  have cP := fun (W : World) (o : Option Addr) (c : Nat) (h : Lies W o c (ints .u32 P)) => pad_any P n o c W h hP (by omega) hn
  have hT8 : B8 (tx (val P)) := b8_dg (dg_tx _)
  have hs := bs_size (tx (val P))
  rw [← hs] at cN
  clear hl hA hP hbl
  generalize nb (val P) = BV at *
  generalize tx (val P) = T at *
  obtain ⟨x, ex⟩ : ∃ x : Int, x = (n : Int) := ⟨_, rfl⟩
  rw [← ex] at cP ⊢
  have x0 : 0 ≤ x := by omega
  have x1 : x ≤ 20000 := by omega
  obtain ⟨k, ek⟩ : ∃ k, k = n - T.length := ⟨_, rfl⟩
  rw [← ek] at cP
  have hsP := bs_size (List.replicate k 48 ++ T)
  rw [List.length_append, List.length_replicate] at hsP
  have hmax : max x ((bs T).size : Int) = ((bs (List.replicate k 48 ++ T)).size : Int) := by rw [hsP, hs]; omega
  have hex : (bs (List.replicate k 48 ++ T)).extract k (k + T.length) = bs T := by rw [extract_bs, List.take_of_length_le (by simp), List.drop_left' (by simp)]
  have hby : ∀ i, i < k → byteAt (bs (List.replicate k 48 ++ T)) i = 48 := by
    intro i hi
    have h8 : B8 (List.replicate k 48 ++ T) := fun y hy => by
      rcases List.mem_append.1 hy with h1 | h1
      · have := (List.mem_replicate.1 h1).2; omega
      · exact hT8 y h1
    rw [byte_bs _ h8, List.getD_eq_getElem?_getD, List.getElem?_append_left (by simpa using hi)]
    simp [hi]
  have hk : k ≤ 20000 := by omega
  have hTl : T.length ≤ 200 := hlt
  generalize bs (List.replicate k 48 ++ T) = S2 at *
  have hsz : S2.size = k + (bs T).size := by rw [hsP, hs]
  rw [← hs] at hex hTl
  generalize bs T = S at *
  have d1 : decide (x < 0) = false := by simp; omega
  have d2 : decide (20000 < x) = false := by simp; omega
  have HBY : Hid (∀ i, i < k → byteAt S2 i = 48) := hby
  clear ex hn ek hs hsP hT8 hlt hby
  have t1 : True := trivial
  have t2 : True := trivial
  go_enter Try.func6, Try.ntmps6
  go_wp2_with (first
    | (go_at_call 26; refine cF.mono ?_; rintro e w1 ⟨o1, c1, rfl, hown1, hb1⟩)
    | (go_at_call 19; refine (cO _ _ _ (lies_of_owns hown1)).mono ?_; rintro e w2 ⟨o2, c2, rfl, hown2, hb2⟩; have k2 := keep hown1 hb2)
    | (go_at_call 27; refine (cR _ _ _ (lies_of_owns hown2)).mono ?_; rintro e w3 ⟨rfl, hb3⟩; have k3 := keep k2 hb3)
    | (go_at_call 15; have _t := t1; clear _t t1; refine (cC _ _ _ (lies_of_owns k3)).mono ?_; rintro e w4 ⟨o4, c4, rfl, hown4, hb4⟩; have k4 := keep k3 hb4)
    | (go_at_call 28; refine (cP _ _ _ (lies_of_owns hown4)).mono ?_; rintro e w5 ⟨rfl, hb5⟩; have k5 := (keep k4 hb5))
    | (go_at_call 29; refine (awake4 _).mono ?_; rintro e w6 ⟨rfl, hb6⟩; have k6 := keep k5 hb6)
    | (go_at_call 15; have _t := t2; clear _t t2; refine (cC _ _ _ (lies_of_owns k6)).mono ?_; rintro e w7 ⟨o7, c7, rfl, hown7, hb7⟩; have k7 := keep k6 hb7)
    | (go_at_call 30; refine (cX _ _ _ (lies_of_owns hown7)).mono ?_; rintro e w8 ⟨rfl, hb8⟩; have k8 := keep k7 hb8)
    | (go_at_call 15; refine (cC _ _ _ (lies_of_owns k8)).mono ?_; rintro e w9 ⟨o9, c9, rfl, hown9, hb9⟩)
    | (go_at_call 31; refine (cN _ _ _ (lies_of_owns hown9)).mono ?_; rintro e w10 ⟨rfl, hb10⟩))
  have HF := (bt (bt (bt (bt (bt (bt (bt (bt (bt hb1 hb2) hb3) hb4) hb5) hb6) hb7) hb8) hb9) hb10)
  go_loop [8] (fun iv => ∃ i : Nat, i ≤ k ∧ iv = .int .i64 (i : Int)) (fun iv => k - (intOf iv).toNat)
  case atStart => exact ⟨0, Nat.zero_le _, rfl⟩
  case round =>
    obtain ⟨i, hi, rfl⟩ := hrel
    by_cases hik : i < k
    · have he := byte_is S2 i (by omega)
      have h48 := HBY.out i hik
      rw [h48] at he
      have q1 : (i : Int) < (k : Int) := by omega
      have q2 : (i : Int) < (S2.size : Int) := by omega
      clear hmax hex HBY h48
      go_wp2
      go_round
      case rel => exact ⟨i + 1, by omega, by go_num⟩
      case measure => simp [intOf]; omega
    · have ei : i = k := by omega
      subst ei
      clear hmax hex HBY
      go_wp2
      go_ret
      exact ⟨rfl, HF⟩
theorem walk (a0 : Option Addr) (len0 cap0 : Nat) (z0 : List Int) (a1 : Int) (w : World) (w0 : IsRow .u32 w a0 len0 cap0 z0) (w1 : (Lit.int .i64 a1).wf = true) :
    Calls Try.prog 6 #[.slice a0 len0 cap0, .int .i64 a1] w fun e w' => e = .returned (.bool true) ∧ Below w.heap.size w w' := by
  obtain ⟨A, rfl, hl, hA⟩ := lies_of_row nonneg_u32 w0
  have sA : Small A := fun x hx => by have := (bounds_u32 (hA x hx)).2; omega
  by_cases h1 : a1 < 0
  · exact law_low A a1 h1 a0 cap0 w hl sA
  · by_cases h2 : 20000 < a1
    · exact law_high A a1 h2 a0 cap0 w hl sA
    · obtain ⟨n, rfl⟩ : ∃ n : Nat, a1 = (n : Int) := ⟨a1.toNat, by omega⟩
      exact law_in A n (by omega) a0 cap0 w hl sA

/-! ### THE ROW's STEP: WRITTEN OUT: LEAVE IT -/
set_option maxRecDepth 100000 in
theorem lifted (os : Os) (started : os.Started) (H : Type) (enc : TypeId × Value → H) :
    ReturnsInHanded {} Try.checked os 6 .any (Rows.digitsTextsSpec.pre6 enc Try.prog Try.f6 Rows.digitsTextsRow.domain false) (Rows.digitsTextsSpec.post enc Try.prog Try.f6 false true false false) := by
  refine returnsInHanded_of_change (C := Try.checked) own started (by kernel_rfl) Try.func6
    (ChangeSpec.witness6 (enc := enc) (C := Try.checked) false ⟨#[], #[.slice none 0 0, .int .i64 0], []⟩ 8 (by kernel_rfl) (by kernel_rfl) (by kernel_rfl) (by kernel_rfl)) ?_
  intro W base args ds gs before hval0 hW hcnd _
  have hval : ∀ (j : Nat) t v, Try.f6.params[j]? = some t → args[j]? = some v → Value.okWide Try.prog W .any base t v := hval0
  have hW' := hW
  obtain ⟨p, q, hA0, hV, rfl, hfz, hnd⟩ := hW
  have hA : DataW.TrodAll enc Try.prog W 0 (fun _ => true) true Try.f6.params.toList args.toList ds p := hA0
  rw [Try.params6] at hA hval
  obtain ⟨v0, vs0, d0, ds0, p0, q0, hargs, rfl, rfl, h0, r0⟩ := trodAll_cons hA
  obtain ⟨v1, vs1, d1, ds1, p1, q1, rfl, rfl, rfl, h1, r1⟩ := trodAll_cons r0
  obtain ⟨rfl, rfl, rfl⟩ := trodAll_nil r1
  obtain rfl : args = #[v0, v1] := by cases args; simp_all
  obtain ⟨rfl, rfl⟩ := trodVars_none hV
  obtain ⟨a0, len0, cap0, rfl⟩ := okWide_slice Try.underlying22 (hval 0 22 v0 rfl rfl)
  have k0 := h0
  have lt0 : ∀ x ∈ p0, x.block < W.heap.size := by obtain ⟨m, hm⟩ := k0; exact DataW.trod_lt m _ _ _ hm
  obtain ⟨z0, w0⟩ : ∃ zs, IsRow .u32 W a0 len0 cap0 zs := by
    obtain ⟨fuel, hf⟩ := h0
    rcases open_ints Try.underlying22 Try.underlying23 (by kernel_rfl) hf with ⟨hcs, _⟩ | ⟨x, l, c, zs, hcs, _, hl, hm, hz, _, hcell, hwz⟩
    · simp [Value.cells] at hcs
      obtain ⟨rfl, rfl, rfl⟩ := hcs
      exact ⟨[], .inl ⟨rfl, rfl, rfl, rfl⟩⟩
    · simp [Value.cells] at hcs
      obtain ⟨rfl, rfl, rfl⟩ := hcs
      exact ⟨zs, .inr ⟨_, rfl, hl, hm, by simpa using hz, hcell, hwz⟩⟩
  obtain ⟨a1, rfl, rfl, rfl, w1⟩ := open_int Try.underlying3 (hval 1 3 v1 rfl rfl) h1
  clear hA0 hval0
  refine (walk a0 len0 cap0 z0 a1 W w0 w1).mono fun e W' ⟨he, bel⟩ => ?_
  subst he
  exact ⟨_, rfl, _, _, _, [], _, [], hW', trodAll_mk1 (shut_bool Try.underlying4 _), (trodAll_cons_mk (Below.trod laidOut (by kernel_rfl) (of_decide_eq_true (by kernel_rfl)) k0 bel lt0) (trodAll_cons_mk (shut_int Try.underlying3 w1) trodAll_mk0)), rfl, bel.frame _, fun h => by cases h⟩

theorem over : Rows.digitsTextsRow.holds Try.pinned (OpenSpec.ofChange Rows.digitsTextsSpec) :=
  OpenClaim.holds_of_wide 6 Try.f6 rfl rfl rfl rfl rfl rfl rfl ⟨rfl, rfl, rfl, rfl, rfl⟩ rfl rfl rfl rfl rfl (by kernel_rfl) Try.func6 (by kernel_rfl)
    (of_decide_eq_true (by kernel_rfl)) (by unfold Func.isWrapper; first | (rw [if_pos (by decide +kernel)]; kernel_rfl) | (rw [if_neg (by decide +kernel)]; exact ⟨rfl, rfl⟩))
    (fun os started H enc _ => lifted os started H enc)

/-- ████ THE STATEMENT ████ -/
theorem proved : Rows.DigitsTextsSaid := over
end Go.Proofs.Ytbhmgafiookjnaa.digitsTexts
namespace Go.Proofs.Ytbhmgafiookjnaa
/-- THE STATEMENT. -/
theorem digitsTexts_holds : Rows.DigitsTextsSaid := digitsTexts.proved
#print axioms digitsTexts_holds
end Go.Proofs.Ytbhmgafiookjnaa
