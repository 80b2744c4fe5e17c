/- rtext's texts of a number, the program's and the reference's; The reference's texts of a number. -/
import Derived.Test.YtefckmkcbgckfaaGreatDoorSetAE
import Derived.Test.YtefckmkcbgckfaaGreatDoorSetAG
import Derived.Test.YtefckmkcbgckfaaGreatDoorSetAJ
import Derived.Test.YtefckmkcbgckfaaGreatDoorSetAQ
import Derived.Test.YtefckmkcbgckfaaGreatDoorSetAX
/- rtext's texts of a number, the program's and the reference's. -/
namespace Go.Proofs.YtefckmkcbgckfaaGreatDoor.PtL
open Go.RowKit Mem LimbNum Limb1 DigNum DigL StrL TxN TextL RText RatL RatM RatN RatW RefR NmL QNum MulW MulL

theorem tx_len (n : Nat) (h : (nl n).length ≤ 1000000) : (tx n).length ≤ 10000001 := by
  unfold tx
  by_cases h0 : n = 0
  · rw [if_pos h0]; decide
  · rw [if_neg h0]
    have h1 := val_lt (nl n) (small_nl n)
    rw [val_nl] at h1
    have h2 := small_ten (nl n).length
    have h3 := dl_len_le n (10 * (nl n).length) (by omega)
    omega
theorem sign_text (b : Bool) (w : World) : Calls Tryz.prog 54 #[.bool b] w fun e w' => e = .returned (.string (bs (if b then [45] else []))) ∧ w' = w := by
  cases b
  · go_enter Tryz.func54, Tryz.ntmps54
    go_wp2
    go_ret
    exact ⟨rfl, rfl⟩
  · go_enter Tryz.func54, Tryz.ntmps54
    go_wp2
    go_ret
    exact ⟨rfl, rfl⟩
set_option maxRecDepth 20000 in
theorem print_str (b x1 : Bool) (A L : Int) (q : Option Addr) (ok : Bool) (S T G : ByteArray) (l1 l2 : Nat) (w : World) (hS : S.size ≤ 10000001) (hT : T.size ≤ 10000001) (hG : G.size ≤ 1)
    (cP : ∀ W, Below w.heap.size w W → Calls Tryz.prog 19 #[.agg #[.bool b, .int .u64 A, .int .u64 L, .pointer q]] W fun e w' => ∃ o1 c1 o2 c2, e = .returned (.tuple #[.bool x1, .slice o1 l1 c1, .slice o2 l2 c2]) ∧ (∀ V, Below w'.heap.size w' V → Calls Tryz.prog 55 #[.slice o1 l1 c1] V fun e v' => e = .returned (.string S) ∧ Below V.heap.size V v') ∧ (∀ V, Below w'.heap.size w' V → Calls Tryz.prog 55 #[.slice o2 l2 c2] V fun e v' => e = .returned (.string T) ∧ Below V.heap.size V v') ∧ Below W.heap.size W w')
    (cW : ∀ W, Below w.heap.size w W → Calls Tryz.prog 56 #[.agg #[.bool b, .int .u64 A, .int .u64 L, .pointer q]] W fun e w' => e = .returned (.bool ok) ∧ Below W.heap.size W w')
    (cG : ∀ W, Calls Tryz.prog 54 #[.bool x1] W fun e w' => e = .returned (.string G) ∧ w' = W) :
    Calls Tryz.prog 25 #[.agg #[.bool b, .int .u64 A, .int .u64 L, .pointer q]] w fun e w' => e = .returned (.string (G ++ (if ok then S else S ++ (ByteArray.mk #[47] ++ T)))) ∧ Below w.heap.size w w' := by
  obtain ⟨W0, eW0, hb0, k0⟩ := one_new w (.cells #[.bool b, .int .u64 A, .int .u64 L, .pointer q] 28)
  have e0 := cell_at k0
  have a0 : W0.cell? ⟨w.heap.size, 0, none⟩ = some (.bool b) := e0 0 _ rfl
  have a1 : W0.cell? ⟨w.heap.size, 1, none⟩ = some (.int .u64 A) := e0 1 _ rfl
  have a2 : W0.cell? ⟨w.heap.size, 2, none⟩ = some (.int .u64 L) := e0 2 _ rfl
  have a3 : W0.cell? ⟨w.heap.size, 3, none⟩ = some (.pointer q) := e0 3 _ rfl
  have EW : Hid (_ = W0) := eW0
  have cP0 := cP W0 hb0
  clear eW0 e0 cP
  go_enter Tryz.func25, Tryz.ntmps25
  go_upto_region 1 with fail
  rw [EW.out]
  clear EW
  go_upto_region 2 with (go_at_call 19; refine cP0.mono ?_; rintro e w1 ⟨o1, c1, o2, c2, rfl, t1, t2, hb1⟩)
  have T1 : True := trivial
  go_upto_region 3 with (go_at_call 55; refine (t1 _ (Below.refl _ _)).mono ?_; rintro e w2 ⟨rfl, hb2⟩)
  have H2 := bt hb1 hb2
  have d := cell_at (box_kept k0 H2 (in_heap k0))
  have d0 : w2.cell? ⟨w.heap.size, 0, none⟩ = some (.bool b) := d 0 _ rfl
  have d1 : w2.cell? ⟨w.heap.size, 1, none⟩ = some (.int .u64 A) := d 1 _ rfl
  have d2 : w2.cell? ⟨w.heap.size, 2, none⟩ = some (.int .u64 L) := d 2 _ rfl
  have d3 : w2.cell? ⟨w.heap.size, 3, none⟩ = some (.pointer q) := d 3 _ rfl
  clear d a0 a1 a2 a3 cP0 t1
  have cW2 := cW w2 (bt hb0 H2)
  cases ok
  · go_wp2_with (first
      | (go_at_call 56; refine cW2.mono ?_; rintro e w3 ⟨rfl, hb3⟩)
      | (go_at_call 55; refine (t2 _ (bt hb2 hb3)).mono ?_; rintro e w4 ⟨rfl, hb4⟩)
      | (go_at_call 54; refine (cG _).mono ?_; rintro e w5 ⟨rfl, hw⟩; have hw2 := hw.symm; clear hw; subst hw2))
    go_ret
    exact ⟨rfl, bt (bt hb0 H2) (bt hb3 hb4)⟩
  · go_wp2_with (first
      | (go_at_call 56; refine cW2.mono ?_; rintro e w3 ⟨rfl, hb3⟩)
      | (go_at_call 54; refine (cG _).mono ?_; rintro e w5 ⟨rfl, hw⟩; have hw2 := hw.symm; clear hw; subst hw2))
    go_ret
    exact ⟨rfl, bt (bt hb0 H2) hb3⟩
theorem parts_texts (v : Value) (p : Nm) (w : World) (h : IsR w v p) (hn : (nl p.n).length ≤ 1000000) (hd : (nl p.d).length ≤ 1000000) :
    ∀ W, Below w.heap.size w W → Calls Tryz.prog 19 #[v] W fun e w' => ∃ o1 c1 o2 c2, e = .returned (.tuple #[.bool p.b, .slice o1 (nl p.n).length c1, .slice o2 (nl p.d).length c2]) ∧ (∀ V, Below w'.heap.size w' V → Calls Tryz.prog 55 #[.slice o1 (nl p.n).length c1] V fun e v' => e = .returned (.string (bs (tx p.n))) ∧ Below V.heap.size V v') ∧ (∀ V, Below w'.heap.size w' V → Calls Tryz.prog 55 #[.slice o2 (nl p.d).length c2] V fun e v' => e = .returned (.string (bs (tx p.d))) ∧ Below V.heap.size V v') ∧ Below W.heap.size W w' := by
  intro W hW
  refine (parts_any v p.b p.n p.d W (h.below hW) (by omega) (by omega)).mono ?_
  rintro e w' ⟨o1, c1, o2, c2, rfl, r1, r2, hb⟩
  refine ⟨o1, c1, o2, c2, rfl, fun V hV => ?_, fun V hV => ?_, hb⟩
  · have := text_any (nl p.n) o1 c1 V ((lies_of_owns r1).below hV (Nat.le_refl _)) (small_nl _) (by omega)
    rw [val_nl] at this
    exact this
  · have := text_any (nl p.d) o2 c2 V ((lies_of_owns r2).below hV (Nat.le_refl _)) (small_nl _) (by omega)
    rw [val_nl] at this
    exact this
/-- Print. -/
theorem print_any (v : Value) (p : Nm) (w : World) (h : IsR w v p) (hn : (nl p.n).length ≤ 1000000) (hd : (nl p.d).length ≤ 1000000) :
    Calls Tryz.prog 25 #[v] w fun e w' => e = .returned (.string (bs (prn p.b p.n p.d))) ∧ Below w.heap.size w w' := by
  have cP := parts_texts v p w h hn hd
  have cW := fun (W : World) (hW : Below w.heap.size w W) => whole_any v p.b p.n p.d W (h.below hW) (by omega)
  obtain ⟨b, A, L, q, rfl⟩ := h.shape4
  refine (print_str b p.b A L q (decide (p.d = 1)) _ _ (bs (if p.b then [45] else [])) _ _ w (by rw [bs_size]; exact tx_len _ hn) (by rw [bs_size]; exact tx_len _ hd) (by rw [bs_size]; cases p.b <;> simp) cP cW (fun W => sign_text p.b W)).mono ?_
  rintro e w' ⟨rfl, hb⟩
  refine ⟨?_, hb⟩
  unfold prn
  rw [bs_append]
  by_cases h1 : p.d = 1
  · rw [decide_eq_true h1, if_pos h1, List.append_nil]; rfl
  · rw [decide_eq_false h1, if_neg h1, bs_append, show (47 :: tx p.d) = [47] ++ tx p.d from rfl, bs_append]; rfl
set_option maxRecDepth 20000 in
theorem smt_str (b x1 : Bool) (A L : Int) (q : Option Addr) (ok : Bool) (S T : ByteArray) (l1 l2 : Nat) (w : World) (hS : S.size ≤ 10000001) (hT : T.size ≤ 10000001)
    (cP : ∀ W, Below w.heap.size w W → Calls Tryz.prog 19 #[.agg #[.bool b, .int .u64 A, .int .u64 L, .pointer q]] W fun e w' => ∃ o1 c1 o2 c2, e = .returned (.tuple #[.bool x1, .slice o1 l1 c1, .slice o2 l2 c2]) ∧ (∀ V, Below w'.heap.size w' V → Calls Tryz.prog 55 #[.slice o1 l1 c1] V fun e v' => e = .returned (.string S) ∧ Below V.heap.size V v') ∧ (∀ V, Below w'.heap.size w' V → Calls Tryz.prog 55 #[.slice o2 l2 c2] V fun e v' => e = .returned (.string T) ∧ Below V.heap.size V v') ∧ Below W.heap.size W w')
    (cW : ∀ W, Below w.heap.size w W → Calls Tryz.prog 56 #[.agg #[.bool b, .int .u64 A, .int .u64 L, .pointer q]] W fun e w' => e = .returned (.bool ok) ∧ Below W.heap.size W w') :
    Calls Tryz.prog 26 #[.agg #[.bool b, .int .u64 A, .int .u64 L, .pointer q]] w fun e w' => e = .returned (.string (if x1 then ByteArray.mk #[40, 45, 32] ++ (if ok then S else ByteArray.mk #[40, 47, 32] ++ S ++ ByteArray.mk #[32] ++ T ++ ByteArray.mk #[41]) ++ ByteArray.mk #[41] else (if ok then S else ByteArray.mk #[40, 47, 32] ++ S ++ ByteArray.mk #[32] ++ T ++ ByteArray.mk #[41]))) ∧ Below w.heap.size w w' := by
  obtain ⟨W0, eW0, hb0, k0⟩ := one_new w (.cells #[.bool b, .int .u64 A, .int .u64 L, .pointer q] 28)
  have e0 := cell_at k0
  have a0 : W0.cell? ⟨w.heap.size, 0, none⟩ = some (.bool b) := e0 0 _ rfl
  have a1 : W0.cell? ⟨w.heap.size, 1, none⟩ = some (.int .u64 A) := e0 1 _ rfl
  have a2 : W0.cell? ⟨w.heap.size, 2, none⟩ = some (.int .u64 L) := e0 2 _ rfl
  have a3 : W0.cell? ⟨w.heap.size, 3, none⟩ = some (.pointer q) := e0 3 _ rfl
  have EW : Hid (_ = W0) := eW0
  have cP0 := cP W0 hb0
  clear eW0 e0 cP
  go_enter Tryz.func26, Tryz.ntmps26
  go_upto_region 1 with fail
  rw [EW.out]
  clear EW
  go_upto_region 2 with (go_at_call 19; refine cP0.mono ?_; rintro e w1 ⟨o1, c1, o2, c2, rfl, t1, t2, hb1⟩)
  go_upto_region 3 with (go_at_call 55; refine (t1 _ (Below.refl _ _)).mono ?_; rintro e w2 ⟨rfl, hb2⟩)
  have H2 := bt hb1 hb2
  have d := cell_at (box_kept k0 H2 (in_heap k0))
  have d0 : w2.cell? ⟨w.heap.size, 0, none⟩ = some (.bool b) := d 0 _ rfl
  have d1 : w2.cell? ⟨w.heap.size, 1, none⟩ = some (.int .u64 A) := d 1 _ rfl
  have d2 : w2.cell? ⟨w.heap.size, 2, none⟩ = some (.int .u64 L) := d 2 _ rfl
  have d3 : w2.cell? ⟨w.heap.size, 3, none⟩ = some (.pointer q) := d 3 _ rfl
  clear d a0 a1 a2 a3 cP0 t1
  have cW2 := cW w2 (bt hb0 H2)
  cases ok <;> cases x1
  · go_wp2_with (first
      | (go_at_call 56; refine cW2.mono ?_; rintro e w3 ⟨rfl, hb3⟩)
      | (go_at_call 55; refine (t2 _ (bt hb2 hb3)).mono ?_; rintro e w4 ⟨rfl, hb4⟩))
    go_ret
    exact ⟨rfl, bt (bt hb0 H2) (bt hb3 hb4)⟩
  · go_wp2_with (first
      | (go_at_call 56; refine cW2.mono ?_; rintro e w3 ⟨rfl, hb3⟩)
      | (go_at_call 55; refine (t2 _ (bt hb2 hb3)).mono ?_; rintro e w4 ⟨rfl, hb4⟩))
    go_ret
    exact ⟨rfl, bt (bt hb0 H2) (bt hb3 hb4)⟩
  · go_wp2_with (go_at_call 56; refine cW2.mono ?_; rintro e w3 ⟨rfl, hb3⟩)
    go_ret
    exact ⟨rfl, bt (bt hb0 H2) hb3⟩
  · go_wp2_with (go_at_call 56; refine cW2.mono ?_; rintro e w3 ⟨rfl, hb3⟩)
    go_ret
    exact ⟨rfl, bt (bt hb0 H2) hb3⟩
theorem smt_bs (b : Bool) (n d : Nat) : (if b then ByteArray.mk #[40, 45, 32] ++ (if decide (d = 1) then bs (tx n) else ByteArray.mk #[40, 47, 32] ++ bs (tx n) ++ ByteArray.mk #[32] ++ bs (tx d) ++ ByteArray.mk #[41]) ++ ByteArray.mk #[41] else (if decide (d = 1) then bs (tx n) else ByteArray.mk #[40, 47, 32] ++ bs (tx n) ++ ByteArray.mk #[32] ++ bs (tx d) ++ ByteArray.mk #[41])) = bs (smtN b n d) := by
  have c1 : bs [40, 45, 32] = ByteArray.mk #[40, 45, 32] := rfl
  have c2 : bs [40, 47, 32] = ByteArray.mk #[40, 47, 32] := rfl
  have c3 : bs [32] = ByteArray.mk #[32] := rfl
  have c4 : bs [41] = ByteArray.mk #[41] := rfl
  rw [← c1, ← c2, ← c3, ← c4]
  unfold smtN
  by_cases h1 : d = 1
  · cases b <;> simp only [h1, decide_true, if_true, Bool.false_eq_true, if_false, bs_append]
  · cases b <;> simp only [h1, decide_false, if_true, Bool.false_eq_true, if_false, bs_append]
/-- Smt. -/
theorem smt_any (v : Value) (p : Nm) (w : World) (h : IsR w v p) (hn : (nl p.n).length ≤ 1000000) (hd : (nl p.d).length ≤ 1000000) :
    Calls Tryz.prog 26 #[v] w fun e w' => e = .returned (.string (bs (smtN p.b p.n p.d))) ∧ Below w.heap.size w w' := by
  have cP := parts_texts v p w h hn hd
  have cW := fun (W : World) (hW : Below w.heap.size w W) => whole_any v p.b p.n p.d W (h.below hW) (by omega)
  obtain ⟨b, A, L, q, rfl⟩ := h.shape4
  rw [← smt_bs]
  exact smt_str b p.b A L q (decide (p.d = 1)) _ _ _ _ w (by rw [bs_size]; exact tx_len _ hn) (by rw [bs_size]; exact tx_len _ hd) cP cW
end Go.Proofs.YtefckmkcbgckfaaGreatDoor.PtL

/- The reference's texts of a number. -/
namespace Go.Proofs.YtefckmkcbgckfaaGreatDoor.RpL
open Go.RowKit Mem LimbNum Limb1 DigNum DigL StrL TxN TextL RText RatL RatM RatN RatW RefR NmL QNum MulW MulL PtL

theorem nb_more (d : Nat) (hd : 0 < d) : ((1 : Int) < ((nb d).length : Int)) ↔ ¬ d = 1 := by
  constructor
  · rintro h rfl
    rw [show (nb 1).length = 1 by decide +kernel] at h
    omega
  · intro h
    have h1 : ¬ (nb d).length ≤ 1 := by
      intro hl
      have h2 := fromL_lt (nb d)
      rw [fromL_nb] at h2
      have := Nat.pow_le_pow_right (show 0 < 2 by omega) hl
      omega
    omega
end Go.Proofs.YtefckmkcbgckfaaGreatDoor.RpL
