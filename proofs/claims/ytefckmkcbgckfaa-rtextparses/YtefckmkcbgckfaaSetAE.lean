/- What the reference's reading of a text of digits answers; What the reading of a text of digits answers. -/
import Derived.Test.YtefckmkcbgckfaaSetAD
import Derived.Test.YtefckmkcbgckfaaSetAC
import Derived.Deep.RegionWith
/- What the reference's reading of a text of digits answers. -/
namespace Go.Proofs.Ytefckmkcbgckfaa.RParse
open Go.RowKit Mem LimbNum Limb1 RefL RefA BitMul Words DigL

theorem bnum_len (s : ByteArray) (f : Nat) (hd : Digits s s.size) (hf : f ≤ s.size) (hs : s.size ≤ 300) : (nb (num s 0 f)).length ≤ 1200 := by
  obtain ⟨K, hK⟩ : ∃ K, 1200 = K := ⟨_, rfl⟩
  rw [hK]
  apply nb_lt
  have h1 := num_lt s 0 f (fun i _ hi => hd i (by omega))
  have h2 : 10 ^ f ≤ (2 ^ 4) ^ f := Nat.pow_le_pow_left (by omega) f
  rw [← Nat.pow_mul] at h2
  have h3 : (2 : Nat) ^ (4 * f) ≤ 2 ^ K := Nat.pow_le_pow_right (by omega) (by omega)
  omega

set_option maxRecDepth 20000 in
set_option maxHeartbeats 4000000 in
/-- The reference's number of a text of digits. -/
theorem rparse_yes (s : ByteArray) (w : World) (hd : Digits s s.size) (h0 : 0 < s.size) (hs : s.size ≤ 300) :
    Calls Try.prog 26 #[.string s] w fun e w' => ∃ o c, e = .returned (.tuple #[.slice o (nb (num s 0 s.size)).length c, .bool true]) ∧
      w'.ownsRow w.heap.size 4 1 (.slice o (nb (num s 0 s.size)).length c) (nb (num s 0 s.size)).length (bools (nb (num s 0 s.size))) ∧ Below w.heap.size w w' := by
  have hsi : (s.size : Int) ≤ 300 := by omega
  have hsi0 : (0 : Int) < (s.size : Int) := by omega
  have hz0 : ((s.size : Int) == 0) = false := by rw [beq_eq_false_iff_ne]; omega
  go_enter Try.func26, Try.ntmps26
  go_wp2
  generalize hg : w.heap.size = g at *
  go_loopw [4, 5] (fun v fi wr => ∃ (f : Nat) (o : Option Addr) (c : Nat), f ≤ s.size ∧ fi = .int .i64 (f : Int) ∧ v = .slice o (nb (num s 0 f)).length c ∧ wr.ownsRow g 4 1 v (nb (num s 0 f)).length (bools (nb (num s 0 f))) ∧ Below g w wr)
    (fun _ fi _ => s.size - (intOf fi).toNat)
  case atStart =>
    subst hg
    refine ⟨0, some ⟨w.heap.size, 0, none⟩, 0, Nat.zero_le _, rfl, by rw [num, nb_zero]; rfl, ?_, (Below.refl _ _).alloc (Nat.le_refl _) _⟩
    rw [num, nb_zero]
    exact World.ownsRow_lit w #[] 0 (Nat.le_refl _) (by decide) rfl
  case round =>
    obtain ⟨f, o, c, hf, rfl, rfl, hown, hb⟩ := hrel
    have hsz := hb.size
    by_cases hlt : f < s.size
    · have hbd := hd f hlt
      have he := byte_is s f hlt
      have q1 : (f : Int) < (s.size : Int) := by omega
      have hl1 := bnum_len s f hd hf hs
      have hl2 := bnum_len s (f + 1) hd (by omega) hs
      have hsum : num s 0 f * 10 + (byteAt s f - 48) = num s 0 (f + 1) := by rw [num, Nat.zero_add]; omega
      have hlm : (nb (num s 0 f * 10)).length ≤ 1200 := Nat.le_trans (nb_mono _ _ (by omega)) hl2
      have hld : (nb (byteAt s f - 48)).length ≤ 4 := nb_lt _ _ (by omega)
      have hlt10 : (nb 10).length ≤ 4 := nb_lt _ _ (by omega)
      have cT := fun (W : World) => rword_any 10 W (by omega)
      have cD := fun (W : World) => rword_any (byteAt s f - 48) W (by omega)
      have cM := fun (W : World) (hW : Below wr.heap.size wr W) (oT : Option Addr) (cT : Nat) (hT : Lies W oT cT (bools (nb 10))) => rmul_core (nb (num s 0 f)) (nb 10) (num s 0 f * 10) (by unfold Hid; rw [fromL_nb, fromL_nb]) o oT c cT W (lies_of_owns (keep hown hW)) hT (by omega) (by omega)
      have cA := fun (W : World) (o1 o2 : Option Addr) (c1 c2 : Nat) (h1 : Lies W o1 c1 (bools (nb (num s 0 f * 10)))) (h2 : Lies W o2 c2 (bools (nb (byteAt s f - 48)))) => radd_core (nb (num s 0 f * 10)) (nb (byteAt s f - 48)) (num s 0 (f + 1)) (by unfold Hid; rw [fromL_nb, fromL_nb, hsum]) o1 o2 c1 c2 W h1 h2 (by omega) (by omega)
      obtain ⟨B, eB⟩ : ∃ y : Int, y = (byteAt s f : Int) := ⟨_, rfl⟩
      have hBd : ((byteAt s f - 48 : Nat) : Int) = B - 48 := by omega
      rw [hBd] at cD
      rw [← eB] at he
      have b0 : 48 ≤ B := by omega
      have b1 : B ≤ 57 := by omega
      have rl : ∀ (W w3 : World) (o3 : Option Addr) (c3 : Nat), Below wr.heap.size wr W → w3.ownsRow W.heap.size 4 1 (.slice o3 (nb (num s 0 (f + 1))).length c3) (nb (num s 0 (f + 1))).length (bools (nb (num s 0 (f + 1)))) → Below W.heap.size W w3 →
          ∃ (f' : Nat) (o' : Option Addr) (c' : Nat), f' ≤ s.size ∧ Value.int .i64 ((f : Int) + 1) = .int .i64 (f' : Int) ∧ Value.slice o3 (nb (num s 0 (f + 1))).length c3 = .slice o' (nb (num s 0 f')).length c' ∧ w3.ownsRow g 4 1 (.slice o3 (nb (num s 0 (f + 1))).length c3) (nb (num s 0 f')).length (bools (nb (num s 0 f'))) ∧ Below g w w3 := fun W w3 o3 c3 hW ho3 hb3 => by
        have s1 := hW.size
        have s2 := hb3.size
        exact ⟨f + 1, o3, c3, by omega, by simp, rfl, owns_base ho3 (by omega), (hb.trans (hW.mono (by omega))).trans (hb3.mono (by omega))⟩
      have hwr : IntKind.u64.wrap (IntKind.u8.wrap (B - 48)) = B - 48 := by rw [IntKind.wrap_u8, IntKind.wrap_u64]; omega
      have cD2 := cD
      rw [← hwr] at cD2
      clear hl1 hl2 hsum hlm hld hlt10 eB hbd hd hBd hwr
      have D1 := below_drewN (Below.refl wr.heap.size wr) 1
      generalize nb (num s 0 f * 10) = NM at *
      generalize nb (byteAt s f - 48) = ND at *
      generalize nb (num s 0 f) = NF at *
      generalize nb 10 = NT at *
      go_wp2
      go_region_with (first
        | (go_at_call_of 32 (Value.int IntKind.u64 10); refine (cT _).mono ?_; rintro e w2 ⟨o2, c2, rfl, hown2, hb2⟩)
        | (go_at_call_of 32 (Value.int IntKind.u64 (B - 48)); refine (cD _).mono ?_; rintro e w4 ⟨o4, c4, rfl, hown4, hb4⟩)
        | (go_at_call 32; refine (cD2 _).mono ?_; rintro e w4 ⟨o4, c4, rfl, hown4, hb4⟩)
        | (go_at_call 31; first
            | (refine (cM _ (bt D1 hb2) _ _ (lies_of_owns hown2)).mono ?_; rintro e w3 ⟨o3, c3, rfl, hown3, hb3⟩)
            | (refine (cM _ (bt (bt D1 hb4) hb2) _ _ (lies_of_owns hown2)).mono ?_; rintro e w3 ⟨o3, c3, rfl, hown3, hb3⟩)
            | (refine (cM _ (bt (bt D1 hb2) hb4) _ _ (lies_of_owns (keep hown2 hb4))).mono ?_; rintro e w3 ⟨o3, c3, rfl, hown3, hb3⟩))
        | (go_at_call 30; first
            | (refine (cA _ _ _ _ _ (lies_of_owns (keep hown3 hb4)) (lies_of_owns hown4)).mono ?_; rintro e w5 ⟨o5, c5, rfl, hown5, hb5⟩; have RR := rl _ _ _ _ (bt (bt (bt D1 hb2) hb3) hb4) hown5 hb5)
            | (refine (cA _ _ _ _ _ (lies_of_owns hown3) (lies_of_owns (keep hown4 hb3))).mono ?_; rintro e w5 ⟨o5, c5, rfl, hown5, hb5⟩; have RR := rl _ _ _ _ (bt (bt (bt D1 hb2) hb4) hb3) hown5 hb5)
            | (refine (cA _ _ _ _ _ (lies_of_owns hown3) (lies_of_owns (keep (keep hown4 hb2) hb3))).mono ?_; rintro e w5 ⟨o5, c5, rfl, hown5, hb5⟩; have RR := rl _ _ _ _ (bt (bt (bt D1 hb4) hb2) hb3) hown5 hb5)))
      all_goals
        go_wp2
        go_roundw
        case rel => exact RR
        case measure => simp [intOf]; omega
    · have ef : f = s.size := by omega
      subst ef
      clear hd
      go_wp2
      go_ret2
      exact ⟨_, _, rfl, by first | exact hown | (rw [hg]; exact hown), by first | exact hb | (rw [hg]; exact hb)⟩

theorem rparse_none (s : ByteArray) (w : World) (h0 : s.size = 0) :
    Calls Try.prog 26 #[.string s] w fun e w' => e = .returned (.tuple #[.slice none 0 0, .bool false]) ∧ w' = w := by
  obtain rfl : s = ByteArray.mk #[] := by
    cases s with
    | mk d => simp only [ByteArray.mk.injEq]; exact Array.eq_empty_of_size_eq_zero h0
  go_enter Try.func26, Try.ntmps26
  go_wp2
  go_ret2
  exact ⟨rfl, rfl⟩
theorem bnum_lenp (s : ByteArray) (f p : Nat) (hd : Digits s p) (hf : f ≤ p) (hs : p ≤ 300) : (nb (num s 0 f)).length ≤ 1200 := by
  obtain ⟨K, hK⟩ : ∃ K, 1200 = K := ⟨_, rfl⟩
  rw [hK]
  apply nb_lt
  have h1 := num_lt s 0 f (fun i _ hi => hd i (by omega))
  have h2 : 10 ^ f ≤ (2 ^ 4) ^ f := Nat.pow_le_pow_left (by omega) f
  rw [← Nat.pow_mul] at h2
  have h3 : (2 : Nat) ^ (4 * f) ≤ 2 ^ K := Nat.pow_le_pow_right (by omega) (by omega)
  omega
set_option maxRecDepth 20000 in
set_option maxHeartbeats 4000000 in
/-- The reference refuses a text with a byte that is no digit. -/
theorem rparse_bad (s : ByteArray) (p : Nat) (w : World) (hd : Digits s p) (hp : p < s.size) (hbad : byteAt s p < 48 ∨ 57 < byteAt s p) (hs : s.size ≤ 300) :
    Calls Try.prog 26 #[.string s] w fun e w' => e = .returned (.tuple #[.slice none 0 0, .bool false]) ∧ Below w.heap.size w w' := by
  have hsi : (s.size : Int) ≤ 300 := by omega
  have hsi0 : (0 : Int) < (s.size : Int) := by omega
  have hz0 : ((s.size : Int) == 0) = false := by rw [beq_eq_false_iff_ne]; omega
  go_enter Try.func26, Try.ntmps26
  go_wp2
  generalize hg : w.heap.size = g at *
  go_loopw [4, 5] (fun v fi wr => ∃ (f : Nat) (o : Option Addr) (c : Nat), f ≤ p ∧ fi = .int .i64 (f : Int) ∧ v = .slice o (nb (num s 0 f)).length c ∧ wr.ownsRow g 4 1 v (nb (num s 0 f)).length (bools (nb (num s 0 f))) ∧ Below g w wr)
    (fun _ fi _ => p - (intOf fi).toNat)
  case atStart =>
    subst hg
    refine ⟨0, some ⟨w.heap.size, 0, none⟩, 0, Nat.zero_le _, rfl, by rw [num, nb_zero]; rfl, ?_, (Below.refl _ _).alloc (Nat.le_refl _) _⟩
    rw [num, nb_zero]
    exact World.ownsRow_lit w #[] 0 (Nat.le_refl _) (by decide) rfl
  case round =>
    obtain ⟨f, o, c, hf, rfl, rfl, hown, hb⟩ := hrel
    have hsz := hb.size
    by_cases hlt : f < p
    · have hbd := hd f hlt
      have he := byte_is s f (by omega)
      have q1 : (f : Int) < (s.size : Int) := by omega
      have hl1 := bnum_lenp s f p hd hf (by omega)
      have hl2 := bnum_lenp s (f + 1) p hd (by omega) (by omega)
      have hsum : num s 0 f * 10 + (byteAt s f - 48) = num s 0 (f + 1) := by rw [num, Nat.zero_add]; omega
      have hlm : (nb (num s 0 f * 10)).length ≤ 1200 := Nat.le_trans (nb_mono _ _ (by omega)) hl2
      have hld : (nb (byteAt s f - 48)).length ≤ 4 := nb_lt _ _ (by omega)
      have hlt10 : (nb 10).length ≤ 4 := nb_lt _ _ (by omega)
      have cT := fun (W : World) => rword_any 10 W (by omega)
      have cD := fun (W : World) => rword_any (byteAt s f - 48) W (by omega)
      have cM := fun (W : World) (hW : Below wr.heap.size wr W) (oT : Option Addr) (cT : Nat) (hT : Lies W oT cT (bools (nb 10))) => rmul_core (nb (num s 0 f)) (nb 10) (num s 0 f * 10) (by unfold Hid; rw [fromL_nb, fromL_nb]) o oT c cT W (lies_of_owns (keep hown hW)) hT (by omega) (by omega)
      have cA := fun (W : World) (o1 o2 : Option Addr) (c1 c2 : Nat) (h1 : Lies W o1 c1 (bools (nb (num s 0 f * 10)))) (h2 : Lies W o2 c2 (bools (nb (byteAt s f - 48)))) => radd_core (nb (num s 0 f * 10)) (nb (byteAt s f - 48)) (num s 0 (f + 1)) (by unfold Hid; rw [fromL_nb, fromL_nb, hsum]) o1 o2 c1 c2 W h1 h2 (by omega) (by omega)
      obtain ⟨B, eB⟩ : ∃ y : Int, y = (byteAt s f : Int) := ⟨_, rfl⟩
      have hBd : ((byteAt s f - 48 : Nat) : Int) = B - 48 := by omega
      rw [hBd] at cD
      rw [← eB] at he
      have b0 : 48 ≤ B := by omega
      have b1 : B ≤ 57 := by omega
      have rl : ∀ (W w3 : World) (o3 : Option Addr) (c3 : Nat), Below wr.heap.size wr W → w3.ownsRow W.heap.size 4 1 (.slice o3 (nb (num s 0 (f + 1))).length c3) (nb (num s 0 (f + 1))).length (bools (nb (num s 0 (f + 1)))) → Below W.heap.size W w3 →
          ∃ (f' : Nat) (o' : Option Addr) (c' : Nat), f' ≤ p ∧ Value.int .i64 ((f : Int) + 1) = .int .i64 (f' : Int) ∧ Value.slice o3 (nb (num s 0 (f + 1))).length c3 = .slice o' (nb (num s 0 f')).length c' ∧ w3.ownsRow g 4 1 (.slice o3 (nb (num s 0 (f + 1))).length c3) (nb (num s 0 f')).length (bools (nb (num s 0 f'))) ∧ Below g w w3 := fun W w3 o3 c3 hW ho3 hb3 => by
        have s1 := hW.size
        have s2 := hb3.size
        exact ⟨f + 1, o3, c3, by omega, by simp, rfl, owns_base ho3 (by omega), (hb.trans (hW.mono (by omega))).trans (hb3.mono (by omega))⟩
      have hwr : IntKind.u64.wrap (IntKind.u8.wrap (B - 48)) = B - 48 := by rw [IntKind.wrap_u8, IntKind.wrap_u64]; omega
      have cD2 := cD
      rw [← hwr] at cD2
      clear hl1 hl2 hsum hlm hld hlt10 eB hbd hd hBd hwr hbad
      have D1 := below_drewN (Below.refl wr.heap.size wr) 1
      generalize nb (num s 0 f * 10) = NM at *
      generalize nb (byteAt s f - 48) = ND at *
      generalize nb (num s 0 f) = NF at *
      generalize nb 10 = NT at *
      go_wp2
      go_region_with (first
        | (go_at_call_of 32 (Value.int IntKind.u64 10); refine (cT _).mono ?_; rintro e w2 ⟨o2, c2, rfl, hown2, hb2⟩)
        | (go_at_call_of 32 (Value.int IntKind.u64 (B - 48)); refine (cD _).mono ?_; rintro e w4 ⟨o4, c4, rfl, hown4, hb4⟩)
        | (go_at_call 32; refine (cD2 _).mono ?_; rintro e w4 ⟨o4, c4, rfl, hown4, hb4⟩)
        | (go_at_call 31; first
            | (refine (cM _ (bt D1 hb2) _ _ (lies_of_owns hown2)).mono ?_; rintro e w3 ⟨o3, c3, rfl, hown3, hb3⟩)
            | (refine (cM _ (bt (bt D1 hb4) hb2) _ _ (lies_of_owns hown2)).mono ?_; rintro e w3 ⟨o3, c3, rfl, hown3, hb3⟩)
            | (refine (cM _ (bt (bt D1 hb2) hb4) _ _ (lies_of_owns (keep hown2 hb4))).mono ?_; rintro e w3 ⟨o3, c3, rfl, hown3, hb3⟩))
        | (go_at_call 30; first
            | (refine (cA _ _ _ _ _ (lies_of_owns (keep hown3 hb4)) (lies_of_owns hown4)).mono ?_; rintro e w5 ⟨o5, c5, rfl, hown5, hb5⟩; have RR := rl _ _ _ _ (bt (bt (bt D1 hb2) hb3) hb4) hown5 hb5)
            | (refine (cA _ _ _ _ _ (lies_of_owns hown3) (lies_of_owns (keep hown4 hb3))).mono ?_; rintro e w5 ⟨o5, c5, rfl, hown5, hb5⟩; have RR := rl _ _ _ _ (bt (bt (bt D1 hb2) hb4) hb3) hown5 hb5)
            | (refine (cA _ _ _ _ _ (lies_of_owns hown3) (lies_of_owns (keep (keep hown4 hb2) hb3))).mono ?_; rintro e w5 ⟨o5, c5, rfl, hown5, hb5⟩; have RR := rl _ _ _ _ (bt (bt (bt D1 hb4) hb2) hb3) hown5 hb5)))
      all_goals
        go_wp2
        go_roundw
        case rel => exact RR
        case measure => simp [intOf]; omega
    · have ef : f = p := by omega
      subst ef
      have he := byte_is s f hp
      have q1 : (f : Int) < (s.size : Int) := by omega
      clear hd
      rcases hbad with h1 | h1
      · go_wp2
        go_ret2
        exact ⟨rfl, by first | exact hb | (rw [hg]; exact hb)⟩
      · have h2 : 48 ≤ byteAt s f := by omega
        go_wp2
        go_ret2
        exact ⟨rfl, by first | exact hb | (rw [hg]; exact hb)⟩
end Go.Proofs.Ytefckmkcbgckfaa.RParse

/- What the reading of a text of digits answers. -/
namespace Go.Proofs.Ytefckmkcbgckfaa.ParseL
open Go.RowKit Mem LimbNum Limb1 Limb2 Limb4 NatNum NatL AddL Words DigL

theorem num_add (s : ByteArray) (a n k : Nat) : num s a (n + k) = num s a n * 10 ^ k + num s (a + n) k := by
  induction k with
  | zero => simp [num]
  | succ k ih => rw [← Nat.add_assoc, num, ih, num, Nat.pow_succ, Nat.add_assoc a n k]; grind
theorem extract_byte (s : ByteArray) (a b i : Nat) (h : i < b - a) (hb : b ≤ s.size) : byteAt (s.extract a b) i = byteAt s (a + i) := by
  have h1 : i < (s.extract a b).size := by rw [ByteArray.size_extract]; omega
  unfold byteAt
  rw [dif_pos h1, dif_pos (by omega)]
  rw [ByteArray.getElem_extract]
theorem extract_num (s : ByteArray) (a b n : Nat) (h : n ≤ b - a) (hb : b ≤ s.size) : num (s.extract a b) 0 n = num s a n := by
  induction n with
  | zero => rfl
  | succ n ih => rw [num, num, ih (by omega), Nat.zero_add, extract_byte s a b n (by omega) hb]
theorem num_len (s : ByteArray) (f : Nat) (hd : Digits s s.size) (hf : f ≤ s.size) (hs : s.size ≤ 20000) : (nl (num s 0 f)).length ≤ 2500 := by
  obtain ⟨K, hK⟩ : ∃ K, 2500 = K := ⟨_, rfl⟩
  rw [hK]
  apply nl_lt
  have h1 := num_lt s 0 f (fun i _ hi => hd i (by omega))
  have h2 : 10 ^ f ≤ (2 ^ 4) ^ f := Nat.pow_le_pow_left (by omega) f
  rw [← Nat.pow_mul] at h2
  have h3 : (2 : Nat) ^ (4 * f) ≤ 2 ^ (32 * K) := Nat.pow_le_pow_right (by omega) (by omega)
  rw [← pow32]
  omega

set_option maxRecDepth 20000 in
set_option maxHeartbeats 3000000 in
/-- Parse, of a text of digits. -/
theorem parse_yes (s : ByteArray) (w : World) (hd : Digits s s.size) (h0 : 0 < s.size) (hs : s.size ≤ 20000) :
    Calls Try.prog 60 #[.string s] w fun e w' => ∃ o c, e = .returned (.tuple #[.slice o (nl (num s 0 s.size)).length c, .int .i64 0]) ∧
      w'.ownsRow w.heap.size 73 1 (.slice o (nl (num s 0 s.size)).length c) (nl (num s 0 s.size)).length (ints .u32 (nl (num s 0 s.size))) ∧ Below w.heap.size w w' := by
  have cA := all_yes s w hd h0 hs
  have cW := word_any 1000000000 w (by omega)
  have hsi : (s.size : Int) ≤ 20000 := by omega
  have hsi0 : (0 : Int) < (s.size : Int) := by omega
  go_enter Try.func60, Try.ntmps60
  go_wp2_with (first
    | (go_at_call 91; refine cA.mono ?_; rintro e w2 ⟨rfl, hw⟩; have hw2 := hw.symm; clear hw; subst hw2)
    | (go_at_call 73; refine cW.mono ?_; rintro e w1 ⟨oT, cT, rfl, hownT, hbT⟩))
  clear cA cW
  generalize hg : w.heap.size = g at *
  go_loopw [4, 6, 7] (fun v fi ti wr => ∃ (f t : Nat) (o : Option Addr) (c : Nat), f ≤ s.size ∧ fi = .int .i64 (f : Int) ∧ ti = .int .i64 (t : Int) ∧ (f = s.size ∨ (f < s.size ∧ t = f + ((s.size - 1 - f) % 9 + 1))) ∧ (f = 0 ∨ (s.size - f) % 9 = 0) ∧ v = .slice o (nl (num s 0 f)).length c ∧ wr.ownsRow g 73 1 v (nl (num s 0 f)).length (ints .u32 (nl (num s 0 f))) ∧ Below w1.heap.size w1 wr ∧ t ≤ 40000)
    (fun _ fi _ _ => s.size - (intOf fi).toNat)
  case atStart =>
    refine ⟨0, (s.size - 1) % 9 + 1, none, 0, Nat.zero_le _, rfl, by go_num, .inr ⟨h0, by omega⟩, .inl rfl, by rw [num, nl_zero]; rfl, by rw [num, nl_zero]; exact World.ownsRow_nil _ _ _ _, Below.refl _ _, by omega⟩
  case round =>
    obtain ⟨f, t, o, c, hf, rfl, rfl, hft, hf9, rfl, hown, hb, ht4⟩ := hrel
    have hsz := hb.size
    have hTsz := hbT.size
    by_cases hlt : f < s.size
    · have ht : t = f + ((s.size - 1 - f) % 9 + 1) := by omega
      have ht1 : t ≤ s.size := by omega
      have ht2 : f < t := by omega
      have ht9 : t - f ≤ 9 := by omega
      have hl1 := num_len s f hd hf hs
      have hl2 := num_len s t hd ht1 hs
      have hdv : Digits (s.extract f t) (s.extract f t).size := fun i hi => by
        rw [ByteArray.size_extract] at hi
        rw [extract_byte s f t i (by omega) ht1]
        exact hd (f + i) (by omega)
      have hes : (s.extract f t).size = t - f := by rw [ByteArray.size_extract]; omega
      have cV := fun (W : World) => value_any (s.extract f t) W hdv (by omega)
      rw [hes, extract_num s f t (t - f) (Nat.le_refl _) ht1] at cV
      have hv := num_lt s f (t - f) (fun i h1 h2 => hd i (by omega))
      have h9 : 10 ^ (t - f) ≤ 10 ^ 9 := Nat.pow_le_pow_right (by omega) ht9
      have hsum : num s 0 f * 1000000000 + num s f (t - f) = num s 0 t := by
        have h3 := num_add s 0 f (t - f)
        rw [Nat.zero_add, show f + (t - f) = t by omega] at h3
        rw [h3]
        rcases Nat.eq_zero_or_pos f with h4 | h4
        · rw [h4]; simp [num]
        · have h5 : t - f = 9 := by omega
          rw [h5]
      have cW := fun (W : World) => word_any (num s f (t - f)) W (by omega)
      have hlv := nl_lt 2 (num s f (t - f)) (by omega)
      have cM := fun (W : World) (hW : Below wr.heap.size wr W) => mul_any (nl (num s 0 f)) (nl 1000000000) o oT c cT W (lies_of_owns (keep hown hW)) (lies_of_owns (keep (keep hownT hb) hW)) (small_nl _) (small_nl _) (by have := nl_lt 2 1000000000 (by omega); omega)
      rw [val_nl, val_nl] at cM
      have hlm : (nl (num s 0 f * 1000000000)).length ≤ 2500 := Nat.le_trans (nl_mono _ _ (by omega)) hl2
      have cA := fun (W : World) (o1 o2 : Option Addr) (c1 c2 : Nat) (h1 : Lies W o1 c1 (ints .u32 (nl (num s 0 f * 1000000000)))) (h2 : Lies W o2 c2 (ints .u32 (nl (num s f (t - f))))) => add_any (nl (num s 0 f * 1000000000)) (nl (num s f (t - f))) o1 o2 c1 c2 W h1 h2 (small_nl _) (small_nl _) (by omega) (by omega)
      rw [val_nl, val_nl, hsum] at cA
      obtain ⟨VI, eV⟩ : ∃ y : Int, y = (num s f (t - f) : Int) := ⟨_, rfl⟩
      rw [← eV] at cV cW
      have hnext : t = s.size ∨ (t < s.size ∧ t + 9 = t + ((s.size - 1 - t) % 9 + 1)) := by omega
      have hn9 : (s.size - t) % 9 = 0 := by omega
      have q1 : (f : Int) ≤ (t : Int) := by omega
      have q2 : (t : Int) ≤ (s.size : Int) := by omega
      have hn4 : t + 9 ≤ 40000 := by omega
      clear hl1 hl2 hdv hes hv h9 hsum hlv hlm eV hft ht hd hf9
      generalize nl (num s 0 f * 1000000000) = NM at *
      generalize nl (num s f (t - f)) = NV at *
      generalize nl (num s 0 f) = NF at *
      have HN9 : Hid ((s.size - t) % 9 = 0) := hn9
      have HN : Hid (t = s.size ∨ (t < s.size ∧ t + 9 = t + ((s.size - 1 - t) % 9 + 1))) := hnext
      clear hnext hn9
      have rl : ∀ (W w3 : World) (o3 : Option Addr) (c3 : Nat), Below wr.heap.size wr W → w3.ownsRow W.heap.size 73 1 (.slice o3 (nl (num s 0 t)).length c3) (nl (num s 0 t)).length (ints .u32 (nl (num s 0 t))) → Below W.heap.size W w3 →
          ∃ (f' t' : Nat) (o' : Option Addr) (c' : Nat), f' ≤ s.size ∧ Value.int .i64 (t : Int) = .int .i64 (f' : Int) ∧ Value.int .i64 ((t : Int) + 9) = .int .i64 (t' : Int) ∧ (f' = s.size ∨ (f' < s.size ∧ t' = f' + ((s.size - 1 - f') % 9 + 1))) ∧ (f' = 0 ∨ (s.size - f') % 9 = 0) ∧ Value.slice o3 (nl (num s 0 t)).length c3 = .slice o' (nl (num s 0 f')).length c' ∧ w3.ownsRow g 73 1 (.slice o3 (nl (num s 0 t)).length c3) (nl (num s 0 f')).length (ints .u32 (nl (num s 0 f'))) ∧ Below w1.heap.size w1 w3 ∧ t' ≤ 40000 := fun W w3 o3 c3 hW ho3 hb3 => by
        have s1 := hW.size
        have s2 := hb3.size
        exact ⟨t, t + 9, o3, c3, ht1, rfl, by simp, HN.out, .inr HN9.out, rfl, owns_base ho3 (by omega), bt (bt hb hW) hb3, hn4⟩
      have D1 := below_drewN (Below.refl wr.heap.size wr) 1
      go_wp2
      go_region_with (first
        | (go_at_call 92; refine (cV _).mono ?_; rintro e w9 ⟨rfl, hw⟩; have hw2 := hw.symm; clear hw; subst hw2)
        | (go_at_call 46; first
            | (refine (cM _ D1).mono ?_; rintro e w2 ⟨o2, c2, rfl, hown2, hb2⟩)
            | (refine (cM _ (bt D1 hb3)).mono ?_; rintro e w2 ⟨o2, c2, rfl, hown2, hb2⟩))
        | (go_at_call 73; refine (cW _).mono ?_; rintro e w3 ⟨o3, c3, rfl, hown3, hb3⟩)
        | (go_at_call 87; first
            | (refine (cA _ _ _ _ _ (lies_of_owns (keep hown2 hb3)) (lies_of_owns hown3)).mono ?_; rintro e w4 ⟨o4, c4, rfl, hown4, hb4⟩; have RR := rl _ _ _ _ (bt (bt D1 hb2) hb3) hown4 hb4)
            | (refine (cA _ _ _ _ _ (lies_of_owns hown2) (lies_of_owns (keep hown3 hb2))).mono ?_; rintro e w4 ⟨o4, c4, rfl, hown4, hb4⟩; have RR := rl _ _ _ _ (bt (bt D1 hb3) hb2) hown4 hb4)))
      all_goals go_wp2
      all_goals go_roundw
      all_goals first | exact RR | (simp [intOf]; omega)
    · have ef : f = s.size := by omega
      subst ef
      clear hd
      go_wp2
      go_ret2
      exact ⟨_, _, rfl, by first | exact hown | (rw [hg]; exact hown), by first | exact hbT.trans (hb.mono (by omega)) | (rw [hg]; exact hbT.trans (hb.mono (by omega)))⟩
set_option maxRecDepth 20000 in
/-- Parse, of a text that is too long. -/
theorem parse_big (s : ByteArray) (w : World) (hs : 20000 < s.size) :
    Calls Try.prog 60 #[.string s] w fun e w' => e = .returned (.tuple #[.slice none 0 0, .int .i64 2]) ∧ w' = w := by
  have hsi : (20000 : Int) < (s.size : Int) := by omega
  clear hs
  go_enter Try.func60, Try.ntmps60
  go_wp2
  go_ret2
  exact ⟨rfl, rfl⟩
set_option maxRecDepth 20000 in
/-- Parse, of a text that is none of digits. -/
theorem parse_no (s : ByteArray) (w : World) (h : s.size = 0 ∨ ¬ Digits s s.size) (hs : s.size ≤ 20000) :
    Calls Try.prog 60 #[.string s] w fun e w' => e = .returned (.tuple #[.slice none 0 0, .int .i64 3]) ∧ w' = w := by
  have cA : Calls Try.prog 91 #[.string s] w fun e w' => e = .returned (.bool false) ∧ w' = w := by
    rcases h with h | h
    · exact all_none s w h
    · exact all_no s w h hs
  have hsi : (s.size : Int) ≤ 20000 := by omega
  clear h hs
  go_enter Try.func60, Try.ntmps60
  go_wp2_with (go_at_call 91; refine cA.mono ?_; rintro e w2 ⟨rfl, hw⟩; have hw2 := hw.symm; clear hw; subst hw2)
  go_ret2
  exact ⟨rfl, rfl⟩
end Go.Proofs.Ytefckmkcbgckfaa.ParseL
