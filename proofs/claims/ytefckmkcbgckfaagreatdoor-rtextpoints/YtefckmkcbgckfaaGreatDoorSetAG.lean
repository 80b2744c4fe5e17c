/- What the reference's decimal text is. -/
import Derived.Test.YtefckmkcbgckfaaGreatDoorSetAF
import Derived.Test.YtefckmkcbgckfaaGreatDoorSetAD
namespace Go.Proofs.YtefckmkcbgckfaaGreatDoor.RText
open Go.RowKit Mem LimbNum Limb1 RefL BitDiv Words DigNum StrL

theorem dl_nb (N : Nat) : (dl N).length ≤ (nb N).length := by
  apply dl_len_le
  have h1 := fromL_lt (nb N)
  rw [fromL_nb] at h1
  have h2 : (2 : Nat) ^ (nb N).length ≤ 10 ^ (nb N).length := Nat.pow_le_pow_left (by omega) _
  omega
theorem one_byte (x : Nat) (X : Int) (hX : X = (x : Int)) (W : World) : ∀ dst, Tryz.prog.underlying dst = some .string → (convert 95 dst (.slice (some ⟨W.heap.size, 0, none⟩) 1 1)).run Tryz.prog (W.alloc (.cells #[.int .u8 X] 5)) = .ok (.string (bs [x])) (W.alloc (.cells #[.int .u8 X] 5)) := by
  intro dst hd
  have := run_convert_bytes_arg (P := Tryz.prog) (W.alloc (.cells #[.int .u8 X] 5)) 95 5 Tryz.underlying95 Tryz.underlying5 W.heap.size 0 1 1 ([x].map fun (n : Nat) => (n : Int)) rfl (fun i hi => by
    obtain rfl : i = 0 := by omega
    simp [hX]) dst hd
  rw [nums_bs] at this
  exact this
theorem rtext_zero (o : Option Addr) (c : Nat) (w : World) :
    Calls Tryz.prog 31 #[.slice o 0 c] w fun e w' => e = .returned (.string (bs [48])) ∧ Below w.heap.size w w' := by
  go_enter Tryz.func31, Tryz.ntmps31
  go_wp2
  go_ret
  exact ⟨rfl, Below.refl _ _⟩
set_option maxRecDepth 20000 in
set_option maxHeartbeats 1000000 in
theorem rtext_pos (N : Nat) (hN : N ≠ 0) (o : Option Addr) (c : Nat) (w : World) (h : Lies w o c (bools (nb N))) (hl : (nb N).length ≤ 100000) :
    Calls Tryz.prog 31 #[.slice o (nb N).length c] w fun e w' => e = .returned (.string (bs (dl N))) ∧ Below w.heap.size w w' := by
  have cW := rword_any 10 w (by omega)
  have hn0 : (nb N).length ≠ 0 := by
    intro e
    have := dl_nb N
    rw [e] at this
    exact hN (dl_nil (List.length_eq_zero_iff.1 (by omega)))
  have hz : (((nb N).length : Int) == 0) = false := by rw [beq_eq_false_iff_ne]; omega
  go_enter Tryz.func31, Tryz.ntmps31
  go_wp2_with (go_at_call 29; refine cW.mono ?_; rintro e w1 ⟨oT, cT, rfl, hownT, hbT⟩)
  clear cW
  go_loopw [0, 3] (fun v sv wr => ∃ (q : Nat) (D : List Nat) (o' : Option Addr) (c' : Nat), v = .slice o' (nb q).length c' ∧ sv = .string (bs D) ∧ Hid (dl N = dl q ++ D) ∧ Hid (q ≤ N) ∧ Lies wr o' c' (bools (nb q)) ∧ Below w1.heap.size w1 wr)
    (fun v _ _ => match v with | .slice _ n _ => n | _ => 0)
  case atStart => exact ⟨N, [], o, c, rfl, rfl, by unfold Hid; simp, Nat.le_refl _, h.below hbT (Nat.le_refl _), Below.refl _ _⟩
  case round =>
    obtain ⟨q, D, o', c', rfl, rfl, HD, HQ, hq, hb⟩ := hrel
    have hs := hb.size
    by_cases h0 : q = 0
    · subst h0
      have e0 : (nb 0).length = 0 := by rw [nb_zero]; rfl
      have eD : D = dl N := by rw [HD.out, dl_zero]; rfl
      rw [e0]
      subst eD
      clear h hq
      go_wp2
      go_ret
      exact ⟨rfl, bt hbT hb⟩
    · have hsz : (dl q).length + D.length ≤ 100000 := by
        have h1 := dl_nb N
        rw [HD.out, List.length_append] at h1
        omega
      have hqb : (nb q).length ≤ 100000 := by
        have h1 := fromL_lt (nb N)
        rw [fromL_nb] at h1
        have h2 := nb_lt (nb N).length q (by have := HQ.out; omega)
        omega
      have hpos : 1 ≤ (nb q).length := by
        have h1 := dl_nb q
        rcases Nat.eq_zero_or_pos (nb q).length with h2 | h2
        · exact absurd (dl_nil (List.length_eq_zero_iff.1 (by omega))) h0
        · exact h2
      have hmeas : (nb (q / 10)).length < (nb q).length := by
        have h1 := fromL_lt (nb q)
        rw [fromL_nb] at h1
        obtain ⟨k, hk⟩ : ∃ k, (nb q).length = k + 1 := ⟨(nb q).length - 1, by omega⟩
        rw [hk, Nat.pow_succ] at h1
        have h2 := nb_lt k (q / 10) (by omega)
        omega
      have HD2 : Hid (dl N = dl (q / 10) ++ ((48 + q % 10) :: D)) := by
        unfold Hid
        rw [HD.out, dl_pos h0, List.append_assoc]; rfl
      have HQ2 : Hid (q / 10 ≤ N) := Nat.le_trans (Nat.div_le_self _ _) HQ.out
      have hr10 : q % 10 < 10 := Nat.mod_lt _ (by omega)
      have cD := fun (W : World) (h1 : Lies W o' c' (bools (nb q))) (h2 : Lies W oT cT (bools (nb 10))) => rdiv_core (nb q) 10 (q / 10) (q % 10) (by unfold Hid; rw [fromL_nb]) (by unfold Hid; rw [fromL_nb]) (by omega) o' oT c' cT W h1 h2 (by omega)
      have cL := fun (W : World) (o2 : Option Addr) (c2 : Nat) (h1 : Lies W o2 c2 (bools (nb (q % 10)))) => rlow_any (nb (q % 10)) o2 c2 W h1
      have e64 : fromL ((nb (q % 10)).take 64) = q % 10 := by
        have := nb_lt 4 (q % 10) (by omega)
        rw [List.take_of_length_le (by omega), fromL_nb]
      rw [e64] at cL
      have hcv := fun (W : World) => one_byte (48 + q % 10) (48 + ((q % 10 : Nat) : Int)) (by omega) W 9 Tryz.underlying9
      have hbs : bs ((48 + q % 10) :: D) = bs [48 + q % 10] ++ bs D := bs_append [48 + q % 10] D
      obtain ⟨x, ex⟩ : ∃ x : Int, x = ((q % 10 : Nat) : Int) := ⟨_, rfl⟩
      rw [← ex] at cL hcv
      have x0 : 0 ≤ x := by omega
      have x1 : x < 10 := by omega
      have hsz1 : (bs [48 + q % 10]).size = 1 := by rw [bs_size]; rfl
      have hsz2 : (bs D).size ≤ 100000 := by rw [bs_size]; omega
      have qi : (0 : Int) < ((nb q).length : Int) := by omega
      clear HD HQ hsz hqb hpos e64 ex hr10
      have HB : Hid (bs ((48 + q % 10) :: D) = bs [48 + q % 10] ++ bs D) := hbs
      clear hbs
      generalize (48 + q % 10) :: D = D2 at *
      generalize bs [48 + q % 10] = S1 at *
      generalize nb (q % 10) = NR at *
      go_wp2_with (first
        | (go_at_call 27; refine (cD _ hq (lies_of_owns (keep hownT hb))).mono ?_; rintro e w3 ⟨o3, c3, o4, c4, rfl, hown3, hown4, hb3⟩)
        | (go_at_call 60; refine (cL _ _ _ (lies_of_owns hown4)).mono ?_; rintro e w5 ⟨rfl, hw⟩; have hw2 := hw.symm; clear hw; subst hw2))
      have H3 := bt hb hb3
      exact ⟨⟨q / 10, D2, o3, c3, rfl, by rw [HB.out], HD2, HQ2, (lies_of_owns hown3).alloc _, H3.alloc H3.size _⟩, hmeas⟩
theorem rtext_any (N : Nat) (o : Option Addr) (c : Nat) (w : World) (h : Lies w o c (bools (nb N))) (hl : (nb N).length ≤ 100000) :
    Calls Tryz.prog 31 #[.slice o (nb N).length c] w fun e w' => e = .returned (.string (bs (tx N))) ∧ Below w.heap.size w w' := by
  unfold tx
  by_cases hN : N = 0
  · rw [if_pos hN, hN, show (nb 0).length = 0 by rw [nb_zero]; rfl]; exact rtext_zero o c w
  · rw [if_neg hN]; exact rtext_pos N hN o c w h hl
end Go.Proofs.YtefckmkcbgckfaaGreatDoor.RText
