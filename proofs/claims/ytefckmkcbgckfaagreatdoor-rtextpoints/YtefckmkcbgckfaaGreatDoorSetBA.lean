/- What the padded text is, and the count of digits. -/
import Derived.Test.YtefckmkcbgckfaaGreatDoorSetAZ
import Derived.Test.YtefckmkcbgckfaaGreatDoorSetAJ
import Derived.Test.YtefckmkcbgckfaaGreatDoorSetAB
namespace Go.Proofs.YtefckmkcbgckfaaGreatDoor.PadL
open Go.RowKit Mem LimbNum Limb1 Limb2 Limb4 DigNum StrL TextL OutL

theorem repeat_zeros (c : Nat) : Lib.repeatL [48] c = (List.replicate c 48).map UInt8.ofNat := by
  induction c with
  | zero => rfl
  | succ c ih => rw [Lib.repeatL, ih, List.replicate_succ]; rfl
theorem repeat_any (c : Nat) (w : World) (hc : c ≤ 20000) :
    Calls Tryz.prog 75 #[.string (ByteArray.mk #[48]), .int .i64 (c : Int)] w fun e w' => e = .returned (.string (bs (List.replicate c 48))) ∧ Below w.heap.size w w' := by
  have h := Tryz.strings_Repeat (ByteArray.mk #[48]) c w (by omega) (by rw [show (ByteArray.mk #[48]).size = 1 from rfl]; omega)
  rw [show (ByteArray.mk #[48]).data.toList = [48] from rfl, repeat_zeros] at h
  exact h
set_option maxRecDepth 20000 in
theorem pad_low (A : List Nat) (n : Int) (ao : Option Addr) (cap : Nat) (w : World) (h : n < 0) :
    Calls Tryz.prog 53 #[.slice ao A.length cap, .int .i64 n] w fun e w' => e = .returned (.tuple #[.string (ByteArray.mk #[]), .int .i64 1]) ∧ w' = w := by
  have cO := outside_low n w h
  go_enter Tryz.func53, Tryz.ntmps53
  go_wp2_with (go_at_call 72; refine cO.mono ?_; rintro e w2 ⟨rfl, hw⟩; have hw2 := hw.symm; clear hw; subst hw2)
  go_ret2
  exact ⟨rfl, rfl⟩
set_option maxRecDepth 20000 in
theorem pad_high (A : List Nat) (n : Int) (ao : Option Addr) (cap : Nat) (w : World) (h : 20000 < n) :
    Calls Tryz.prog 53 #[.slice ao A.length cap, .int .i64 n] w fun e w' => e = .returned (.tuple #[.string (ByteArray.mk #[]), .int .i64 2]) ∧ w' = w := by
  have cO := outside_high n w h
  go_enter Tryz.func53, Tryz.ntmps53
  go_wp2_with (go_at_call 72; refine cO.mono ?_; rintro e w2 ⟨rfl, hw⟩; have hw2 := hw.symm; clear hw; subst hw2)
  go_ret2
  exact ⟨rfl, rfl⟩
set_option maxRecDepth 20000 in
theorem pad_more (A : List Nat) (x : Int) (S R : ByteArray) (ao : Option Addr) (cap : Nat) (w : World) (x0 : 0 ≤ x) (x1 : x ≤ 20000) (hR : R.size ≤ 20000) (hS : S.size ≤ 1000001)
    (cO : Calls Tryz.prog 72 #[.int .i64 x] w fun e w' => e = .returned (.int .i64 0) ∧ w' = w)
    (cT : Calls Tryz.prog 55 #[.slice ao A.length cap] w fun e w' => e = .returned (.string S) ∧ Below w.heap.size w w')
    (cR : ∀ W : World, Calls Tryz.prog 75 #[.string (ByteArray.mk #[48]), .int .i64 (max (x - (S.size : Int)) 0)] W fun e w' => e = .returned (.string R) ∧ Below W.heap.size W w') :
    Calls Tryz.prog 53 #[.slice ao A.length cap, .int .i64 x] w fun e w' => e = .returned (.tuple #[.string (R ++ S), .int .i64 0]) ∧ Below w.heap.size w w' := by
  go_enter Tryz.func53, Tryz.ntmps53
  go_wp2_with (first
    | (go_at_call 72; refine cO.mono ?_; rintro e w2 ⟨rfl, hw⟩; have hw2 := hw.symm; clear hw; subst hw2)
    | (go_at_call 55; refine cT.mono ?_; rintro e w1 ⟨rfl, hb1⟩)
    | (go_at_call 75; refine (cR _).mono ?_; rintro e w3 ⟨rfl, hb3⟩))
  go_ret2
  exact ⟨rfl, bt hb1 hb3⟩
/-- Pad: noughts in front of the digits until there are n. -/
theorem pad_any (A : List Nat) (n : Nat) (ao : Option Addr) (cap : Nat) (w : World) (h : Lies w ao cap (ints .u32 A)) (hA : Small A) (hl : A.length ≤ 100000) (hn : n ≤ 20000) :
    Calls Tryz.prog 53 #[.slice ao A.length cap, .int .i64 (n : Int)] w fun e w' => e = .returned (.tuple #[.string (bs (List.replicate (n - (tx (val A)).length) 48 ++ tx (val A))), .int .i64 0]) ∧ Below w.heap.size w w' := by
  have cO := outside_in (n : Int) w (by omega) (by omega)
  have cT := text_any A ao cap w h hA (by omega)
  have hlen : (tx (val A)).length ≤ 1000001 := by
    unfold tx
    by_cases h0 : val A = 0
    · rw [if_pos h0]; decide
    · rw [if_neg h0]
      have h1 := val_lt A hA
      have h2 := small_ten A.length
      have h3 := dl_len_le (val A) (10 * A.length) (by omega)
      omega
  have hs := bs_size (tx (val A))
  rw [bs_append]
  generalize tx (val A) = T at *
  have cR := fun W : World => repeat_any (n - T.length) W (by omega)
  have hsR := bs_size (List.replicate (n - T.length) 48)
  rw [List.length_replicate] at hsR
  rw [show ((n - T.length : Nat) : Int) = max ((n : Int) - ((bs T).size : Int)) 0 by omega] at cR
  exact pad_more A n (bs T) _ ao cap w (by omega) (by omega) (by omega) (by omega) cO cT cR
end Go.Proofs.YtefckmkcbgckfaaGreatDoor.PadL
