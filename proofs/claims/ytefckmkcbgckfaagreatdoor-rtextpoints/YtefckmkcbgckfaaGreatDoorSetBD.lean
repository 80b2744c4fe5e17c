/- What the reading of a text of digits answers. -/
import Derived.Test.YtefckmkcbgckfaaGreatDoorSetAC
import Derived.Test.YtefckmkcbgckfaaGreatDoorSetAF
import Derived.Deep.RegionWith
namespace Go.Proofs.YtefckmkcbgckfaaGreatDoor.ParseL
open Go.RowKit Mem LimbNum Limb1 Limb2 Limb4 NatNum NatL AddL Words DigL

theorem num_add (s : ByteArray) (a n k : Nat) : num s a (n + k) = num s a n * 10 ^ k + num s (a + n) k := by
  induction k with
  | zero => simp [num]
  | succ k ih => rw [← Nat.add_assoc, num, ih, num, Nat.pow_succ, Nat.add_assoc a n k]; grind
theorem extract_byte (s : ByteArray) (a b i : Nat) (h : i < b - a) (hb : b ≤ s.size) : byteAt (s.extract a b) i = byteAt s (a + i) := by
  have h1 : i < (s.extract a b).size := by rw [ByteArray.size_extract]; omega
  unfold byteAt
  rw [dif_pos h1, dif_pos (by omega)]
  rw [ByteArray.getElem_extract]
theorem extract_num (s : ByteArray) (a b n : Nat) (h : n ≤ b - a) (hb : b ≤ s.size) : num (s.extract a b) 0 n = num s a n := by
  induction n with
  | zero => rfl
  | succ n ih => rw [num, num, ih (by omega), Nat.zero_add, extract_byte s a b n (by omega) hb]
theorem num_len (s : ByteArray) (f : Nat) (hd : Digits s s.size) (hf : f ≤ s.size) (hs : s.size ≤ 20000) : (nl (num s 0 f)).length ≤ 2500 := by
  obtain ⟨K, hK⟩ : ∃ K, 2500 = K := ⟨_, rfl⟩
  rw [hK]
  apply nl_lt
  have h1 := num_lt s 0 f (fun i _ hi => hd i (by omega))
  have h2 : 10 ^ f ≤ (2 ^ 4) ^ f := Nat.pow_le_pow_left (by omega) f
  rw [← Nat.pow_mul] at h2
  have h3 : (2 : Nat) ^ (4 * f) ≤ 2 ^ (32 * K) := Nat.pow_le_pow_right (by omega) (by omega)
  rw [← pow32]
  omega

set_option maxRecDepth 20000 in
set_option maxHeartbeats 3000000 in
/-- Parse, of a text of digits. -/
theorem parse_yes (s : ByteArray) (w : World) (hd : Digits s s.size) (h0 : 0 < s.size) (hs : s.size ≤ 20000) :
    Calls Tryz.prog 63 #[.string s] w fun e w' => ∃ o c, e = .returned (.tuple #[.slice o (nl (num s 0 s.size)).length c, .int .i64 0]) ∧
      w'.ownsRow w.heap.size 48 1 (.slice o (nl (num s 0 s.size)).length c) (nl (num s 0 s.size)).length (ints .u32 (nl (num s 0 s.size))) ∧ Below w.heap.size w w' := by
  have cA := all_yes s w hd h0 hs
  have cW := word_any 1000000000 w (by omega)
  have hsi : (s.size : Int) ≤ 20000 := by omega
  have hsi0 : (0 : Int) < (s.size : Int) := by omega
  go_enter Tryz.func63, Tryz.ntmps63
  go_wp2_with (first
    | (go_at_call 78; refine cA.mono ?_; rintro e w2 ⟨rfl, hw⟩; have hw2 := hw.symm; clear hw; subst hw2)
    | (go_at_call 70; refine cW.mono ?_; rintro e w1 ⟨oT, cT, rfl, hownT, hbT⟩))
  clear cA cW
  generalize hg : w.heap.size = g at *
  go_loopw [4, 6, 7] (fun v fi ti wr => ∃ (f t : Nat) (o : Option Addr) (c : Nat), f ≤ s.size ∧ fi = .int .i64 (f : Int) ∧ ti = .int .i64 (t : Int) ∧ (f = s.size ∨ (f < s.size ∧ t = f + ((s.size - 1 - f) % 9 + 1))) ∧ (f = 0 ∨ (s.size - f) % 9 = 0) ∧ v = .slice o (nl (num s 0 f)).length c ∧ wr.ownsRow g 48 1 v (nl (num s 0 f)).length (ints .u32 (nl (num s 0 f))) ∧ Below w1.heap.size w1 wr ∧ t ≤ 40000)
    (fun _ fi _ _ => s.size - (intOf fi).toNat)
  case atStart =>
    refine ⟨0, (s.size - 1) % 9 + 1, none, 0, Nat.zero_le _, rfl, by go_num, .inr ⟨h0, by omega⟩, .inl rfl, by rw [num, nl_zero]; rfl, by rw [num, nl_zero]; exact World.ownsRow_nil _ _ _ _, Below.refl _ _, by omega⟩
  case round =>
    obtain ⟨f, t, o, c, hf, rfl, rfl, hft, hf9, rfl, hown, hb, ht4⟩ := hrel
    have hsz := hb.size
    have hTsz := hbT.size
    by_cases hlt : f < s.size
    · have ht : t = f + ((s.size - 1 - f) % 9 + 1) := by omega
      have ht1 : t ≤ s.size := by omega
      have ht2 : f < t := by omega
      have ht9 : t - f ≤ 9 := by omega
      have hl1 := num_len s f hd hf hs
      have hl2 := num_len s t hd ht1 hs
      have hdv : Digits (s.extract f t) (s.extract f t).size := fun i hi => by
        rw [ByteArray.size_extract] at hi
        rw [extract_byte s f t i (by omega) ht1]
        exact hd (f + i) (by omega)
      have hes : (s.extract f t).size = t - f := by rw [ByteArray.size_extract]; omega
      have cV := fun (W : World) => value_any (s.extract f t) W hdv (by omega)
      rw [hes, extract_num s f t (t - f) (Nat.le_refl _) ht1] at cV
      have hv := num_lt s f (t - f) (fun i h1 h2 => hd i (by omega))
      have h9 : 10 ^ (t - f) ≤ 10 ^ 9 := Nat.pow_le_pow_right (by omega) ht9
      have hsum : num s 0 f * 1000000000 + num s f (t - f) = num s 0 t := by
        have h3 := num_add s 0 f (t - f)
        rw [Nat.zero_add, show f + (t - f) = t by omega] at h3
        rw [h3]
        rcases Nat.eq_zero_or_pos f with h4 | h4
        · rw [h4]; simp [num]
        · have h5 : t - f = 9 := by omega
          rw [h5]
      have cW := fun (W : World) => word_any (num s f (t - f)) W (by omega)
      have hlv := nl_lt 2 (num s f (t - f)) (by omega)
      have cM := fun (W : World) (hW : Below wr.heap.size wr W) => mul_any (nl (num s 0 f)) (nl 1000000000) o oT c cT W (lies_of_owns (keep hown hW)) (lies_of_owns (keep (keep hownT hb) hW)) (small_nl _) (small_nl _) (by have := nl_lt 2 1000000000 (by omega); omega)
      rw [val_nl, val_nl] at cM
      have hlm : (nl (num s 0 f * 1000000000)).length ≤ 2500 := Nat.le_trans (nl_mono _ _ (by omega)) hl2
      have cA := fun (W : World) (o1 o2 : Option Addr) (c1 c2 : Nat) (h1 : Lies W o1 c1 (ints .u32 (nl (num s 0 f * 1000000000)))) (h2 : Lies W o2 c2 (ints .u32 (nl (num s f (t - f))))) => add_any (nl (num s 0 f * 1000000000)) (nl (num s f (t - f))) o1 o2 c1 c2 W h1 h2 (small_nl _) (small_nl _) (by omega) (by omega)
      rw [val_nl, val_nl, hsum] at cA
      obtain ⟨VI, eV⟩ : ∃ y : Int, y = (num s f (t - f) : Int) := ⟨_, rfl⟩
      rw [← eV] at cV cW
      have hnext : t = s.size ∨ (t < s.size ∧ t + 9 = t + ((s.size - 1 - t) % 9 + 1)) := by omega
      have hn9 : (s.size - t) % 9 = 0 := by omega
      have q1 : (f : Int) ≤ (t : Int) := by omega
      have q2 : (t : Int) ≤ (s.size : Int) := by omega
      have hn4 : t + 9 ≤ 40000 := by omega
      clear hl1 hl2 hdv hes hv h9 hsum hlv hlm eV hft ht hd hf9
      generalize nl (num s 0 f * 1000000000) = NM at *
      generalize nl (num s f (t - f)) = NV at *
      generalize nl (num s 0 f) = NF at *
      have HN9 : Hid ((s.size - t) % 9 = 0) := hn9
      have HN : Hid (t = s.size ∨ (t < s.size ∧ t + 9 = t + ((s.size - 1 - t) % 9 + 1))) := hnext
      clear hnext hn9
      have rl : ∀ (W w3 : World) (o3 : Option Addr) (c3 : Nat), Below wr.heap.size wr W → w3.ownsRow W.heap.size 48 1 (.slice o3 (nl (num s 0 t)).length c3) (nl (num s 0 t)).length (ints .u32 (nl (num s 0 t))) → Below W.heap.size W w3 →
          ∃ (f' t' : Nat) (o' : Option Addr) (c' : Nat), f' ≤ s.size ∧ Value.int .i64 (t : Int) = .int .i64 (f' : Int) ∧ Value.int .i64 ((t : Int) + 9) = .int .i64 (t' : Int) ∧ (f' = s.size ∨ (f' < s.size ∧ t' = f' + ((s.size - 1 - f') % 9 + 1))) ∧ (f' = 0 ∨ (s.size - f') % 9 = 0) ∧ Value.slice o3 (nl (num s 0 t)).length c3 = .slice o' (nl (num s 0 f')).length c' ∧ w3.ownsRow g 48 1 (.slice o3 (nl (num s 0 t)).length c3) (nl (num s 0 f')).length (ints .u32 (nl (num s 0 f'))) ∧ Below w1.heap.size w1 w3 ∧ t' ≤ 40000 := fun W w3 o3 c3 hW ho3 hb3 => by
        have s1 := hW.size
        have s2 := hb3.size
        exact ⟨t, t + 9, o3, c3, ht1, rfl, by simp, HN.out, .inr HN9.out, rfl, owns_base ho3 (by omega), bt (bt hb hW) hb3, hn4⟩
      have D1 := below_drewN (Below.refl wr.heap.size wr) 1
      go_wp2
      go_region_with (first
        | (go_at_call 80; refine (cV _).mono ?_; rintro e w9 ⟨rfl, hw⟩; have hw2 := hw.symm; clear hw; subst hw2)
        | (go_at_call 52; first
            | (refine (cM _ D1).mono ?_; rintro e w2 ⟨o2, c2, rfl, hown2, hb2⟩)
            | (refine (cM _ (bt D1 hb3)).mono ?_; rintro e w2 ⟨o2, c2, rfl, hown2, hb2⟩))
        | (go_at_call 70; refine (cW _).mono ?_; rintro e w3 ⟨o3, c3, rfl, hown3, hb3⟩)
        | (go_at_call 79; first
            | (refine (cA _ _ _ _ _ (lies_of_owns (keep hown2 hb3)) (lies_of_owns hown3)).mono ?_; rintro e w4 ⟨o4, c4, rfl, hown4, hb4⟩; have RR := rl _ _ _ _ (bt (bt D1 hb2) hb3) hown4 hb4)
            | (refine (cA _ _ _ _ _ (lies_of_owns hown2) (lies_of_owns (keep hown3 hb2))).mono ?_; rintro e w4 ⟨o4, c4, rfl, hown4, hb4⟩; have RR := rl _ _ _ _ (bt (bt D1 hb3) hb2) hown4 hb4)))
      all_goals go_wp2
      all_goals go_roundw
      all_goals first | exact RR | (simp [intOf]; omega)
    · have ef : f = s.size := by omega
      subst ef
      clear hd
      go_wp2
      go_ret2
      exact ⟨_, _, rfl, by first | exact hown | (rw [hg]; exact hown), by first | exact hbT.trans (hb.mono (by omega)) | (rw [hg]; exact hbT.trans (hb.mono (by omega)))⟩
set_option maxRecDepth 20000 in
/-- Parse, of a text that is too long. -/
theorem parse_big (s : ByteArray) (w : World) (hs : 20000 < s.size) :
    Calls Tryz.prog 63 #[.string s] w fun e w' => e = .returned (.tuple #[.slice none 0 0, .int .i64 2]) ∧ w' = w := by
  have hsi : (20000 : Int) < (s.size : Int) := by omega
  clear hs
  go_enter Tryz.func63, Tryz.ntmps63
  go_wp2
  go_ret2
  exact ⟨rfl, rfl⟩
set_option maxRecDepth 20000 in
/-- Parse, of a text that is none of digits. -/
theorem parse_no (s : ByteArray) (w : World) (h : s.size = 0 ∨ ¬ Digits s s.size) (hs : s.size ≤ 20000) :
    Calls Tryz.prog 63 #[.string s] w fun e w' => e = .returned (.tuple #[.slice none 0 0, .int .i64 3]) ∧ w' = w := by
  have cA : Calls Tryz.prog 78 #[.string s] w fun e w' => e = .returned (.bool false) ∧ w' = w := by
    rcases h with h | h
    · exact all_none s w h
    · exact all_no s w h hs
  have hsi : (s.size : Int) ≤ 20000 := by omega
  clear h hs
  go_enter Tryz.func63, Tryz.ntmps63
  go_wp2_with (go_at_call 78; refine cA.mono ?_; rintro e w2 ⟨rfl, hw⟩; have hw2 := hw.symm; clear hw; subst hw2)
  go_ret2
  exact ⟨rfl, rfl⟩
end Go.Proofs.YtefckmkcbgckfaaGreatDoor.ParseL
