/- What the reference's reading of a text of digits answers. -/
import Derived.Test.YtbhmgafiookjnaaDigL
import Derived.Test.YtbhmgafiookjnaaBitMul
import Derived.Test.YtbhmgafiookjnaaWords
import Derived.Deep.RegionWith
namespace Go.Proofs.Ytbhmgafiookjnaa.RParse
open Go.RowKit Mem LimbNum Limb1 RefL RefA BitMul Words DigL

theorem bnum_len (s : ByteArray) (f : Nat) (hd : Digits s s.size) (hf : f ≤ s.size) (hs : s.size ≤ 300) : (nb (num s 0 f)).length ≤ 1200 := by
  obtain ⟨K, hK⟩ : ∃ K, 1200 = K := ⟨_, rfl⟩
  rw [hK]
  apply nb_lt
  have h1 := num_lt s 0 f (fun i _ hi => hd i (by omega))
  have h2 : 10 ^ f ≤ (2 ^ 4) ^ f := Nat.pow_le_pow_left (by omega) f
  rw [← Nat.pow_mul] at h2
  have h3 : (2 : Nat) ^ (4 * f) ≤ 2 ^ K := Nat.pow_le_pow_right (by omega) (by omega)
  omega

set_option maxRecDepth 20000 in
set_option maxHeartbeats 4000000 in
/-- The reference's number of a text of digits. -/
theorem rparse_yes (s : ByteArray) (w : World) (hd : Digits s s.size) (h0 : 0 < s.size) (hs : s.size ≤ 300) :
    Calls Try.prog 33 #[.string s] w fun e w' => ∃ o c, e = .returned (.tuple #[.slice o (nb (num s 0 s.size)).length c, .bool true]) ∧
      w'.ownsRow w.heap.size 4 1 (.slice o (nb (num s 0 s.size)).length c) (nb (num s 0 s.size)).length (bools (nb (num s 0 s.size))) ∧ Below w.heap.size w w' := by
  have hsi : (s.size : Int) ≤ 300 := by omega
  have hsi0 : (0 : Int) < (s.size : Int) := by omega
  have hz0 : ((s.size : Int) == 0) = false := by rw [beq_eq_false_iff_ne]; omega
  go_enter Try.func33, Try.ntmps33
  go_wp2
  generalize hg : w.heap.size = g at *
  go_loopw [4, 5] (fun v fi wr => ∃ (f : Nat) (o : Option Addr) (c : Nat), f ≤ s.size ∧ fi = .int .i64 (f : Int) ∧ v = .slice o (nb (num s 0 f)).length c ∧ wr.ownsRow g 4 1 v (nb (num s 0 f)).length (bools (nb (num s 0 f))) ∧ Below g w wr)
    (fun _ fi _ => s.size - (intOf fi).toNat)
  case atStart =>
    subst hg
    refine ⟨0, some ⟨w.heap.size, 0, none⟩, 0, Nat.zero_le _, rfl, by rw [num, nb_zero]; rfl, ?_, (Below.refl _ _).alloc (Nat.le_refl _) _⟩
    rw [num, nb_zero]
    exact World.ownsRow_lit w #[] 0 (Nat.le_refl _) (by decide) rfl
  case round =>
    obtain ⟨f, o, c, hf, rfl, rfl, hown, hb⟩ := hrel
    have hsz := hb.size
    by_cases hlt : f < s.size
    · have hbd := hd f hlt
      have he := byte_is s f hlt
      have q1 : (f : Int) < (s.size : Int) := by omega
      have hl1 := bnum_len s f hd hf hs
      have hl2 := bnum_len s (f + 1) hd (by omega) hs
      have hsum : num s 0 f * 10 + (byteAt s f - 48) = num s 0 (f + 1) := by rw [num, Nat.zero_add]; omega
      have hlm : (nb (num s 0 f * 10)).length ≤ 1200 := Nat.le_trans (nb_mono _ _ (by omega)) hl2
      have hld : (nb (byteAt s f - 48)).length ≤ 4 := nb_lt _ _ (by omega)
      have hlt10 : (nb 10).length ≤ 4 := nb_lt _ _ (by omega)
      have cT := fun (W : World) => rword_any 10 W (by omega)
      have cD := fun (W : World) => rword_any (byteAt s f - 48) W (by omega)
      have cM := fun (W : World) (hW : Below wr.heap.size wr W) (oT : Option Addr) (cT : Nat) (hT : Lies W oT cT (bools (nb 10))) => rmul_core (nb (num s 0 f)) (nb 10) (num s 0 f * 10) (by unfold Hid; rw [fromL_nb, fromL_nb]) o oT c cT W (lies_of_owns (keep hown hW)) hT (by omega) (by omega)
      have cA := fun (W : World) (o1 o2 : Option Addr) (c1 c2 : Nat) (h1 : Lies W o1 c1 (bools (nb (num s 0 f * 10)))) (h2 : Lies W o2 c2 (bools (nb (byteAt s f - 48)))) => radd_core (nb (num s 0 f * 10)) (nb (byteAt s f - 48)) (num s 0 (f + 1)) (by unfold Hid; rw [fromL_nb, fromL_nb, hsum]) o1 o2 c1 c2 W h1 h2 (by omega) (by omega)
      obtain ⟨B, eB⟩ : ∃ y : Int, y = (byteAt s f : Int) := ⟨_, rfl⟩
      have hBd : ((byteAt s f - 48 : Nat) : Int) = B - 48 := by omega
      rw [hBd] at cD
      rw [← eB] at he
      have b0 : 48 ≤ B := by omega
      have b1 : B ≤ 57 := by omega
      have rl : ∀ (W w3 : World) (o3 : Option Addr) (c3 : Nat), Below wr.heap.size wr W → w3.ownsRow W.heap.size 4 1 (.slice o3 (nb (num s 0 (f + 1))).length c3) (nb (num s 0 (f + 1))).length (bools (nb (num s 0 (f + 1)))) → Below W.heap.size W w3 →
          ∃ (f' : Nat) (o' : Option Addr) (c' : Nat), f' ≤ s.size ∧ Value.int .i64 ((f : Int) + 1) = .int .i64 (f' : Int) ∧ Value.slice o3 (nb (num s 0 (f + 1))).length c3 = .slice o' (nb (num s 0 f')).length c' ∧ w3.ownsRow g 4 1 (.slice o3 (nb (num s 0 (f + 1))).length c3) (nb (num s 0 f')).length (bools (nb (num s 0 f'))) ∧ Below g w w3 := fun W w3 o3 c3 hW ho3 hb3 => by
        have s1 := hW.size
        have s2 := hb3.size
        exact ⟨f + 1, o3, c3, by omega, by simp, rfl, owns_base ho3 (by omega), (hb.trans (hW.mono (by omega))).trans (hb3.mono (by omega))⟩
      have hwr : IntKind.u64.wrap (IntKind.u8.wrap (B - 48)) = B - 48 := by rw [IntKind.wrap_u8, IntKind.wrap_u64]; omega
      have cD2 := cD
      rw [← hwr] at cD2
      clear hl1 hl2 hsum hlm hld hlt10 eB hbd hd hBd hwr
      have D1 := below_drewN (Below.refl wr.heap.size wr) 1
      generalize nb (num s 0 f * 10) = NM at *
      generalize nb (byteAt s f - 48) = ND at *
      generalize nb (num s 0 f) = NF at *
      generalize nb 10 = NT at *
      go_wp2
      go_region_with (first
        | (go_at_call_of 46 (Value.int IntKind.u64 10); refine (cT _).mono ?_; rintro e w2 ⟨o2, c2, rfl, hown2, hb2⟩)
        | (go_at_call_of 46 (Value.int IntKind.u64 (B - 48)); refine (cD _).mono ?_; rintro e w4 ⟨o4, c4, rfl, hown4, hb4⟩)
        | (go_at_call 46; refine (cD2 _).mono ?_; rintro e w4 ⟨o4, c4, rfl, hown4, hb4⟩)
        | (go_at_call 53; first
            | (refine (cM _ (bt D1 hb2) _ _ (lies_of_owns hown2)).mono ?_; rintro e w3 ⟨o3, c3, rfl, hown3, hb3⟩)
            | (refine (cM _ (bt (bt D1 hb4) hb2) _ _ (lies_of_owns hown2)).mono ?_; rintro e w3 ⟨o3, c3, rfl, hown3, hb3⟩)
            | (refine (cM _ (bt (bt D1 hb2) hb4) _ _ (lies_of_owns (keep hown2 hb4))).mono ?_; rintro e w3 ⟨o3, c3, rfl, hown3, hb3⟩))
        | (go_at_call 52; first
            | (refine (cA _ _ _ _ _ (lies_of_owns (keep hown3 hb4)) (lies_of_owns hown4)).mono ?_; rintro e w5 ⟨o5, c5, rfl, hown5, hb5⟩; have RR := rl _ _ _ _ (bt (bt (bt D1 hb2) hb3) hb4) hown5 hb5)
            | (refine (cA _ _ _ _ _ (lies_of_owns hown3) (lies_of_owns (keep hown4 hb3))).mono ?_; rintro e w5 ⟨o5, c5, rfl, hown5, hb5⟩; have RR := rl _ _ _ _ (bt (bt (bt D1 hb2) hb4) hb3) hown5 hb5)
            | (refine (cA _ _ _ _ _ (lies_of_owns hown3) (lies_of_owns (keep (keep hown4 hb2) hb3))).mono ?_; rintro e w5 ⟨o5, c5, rfl, hown5, hb5⟩; have RR := rl _ _ _ _ (bt (bt (bt D1 hb4) hb2) hb3) hown5 hb5)))
      all_goals
        go_wp2
        go_roundw
        case rel => exact RR
        case measure => simp [intOf]; omega
    · have ef : f = s.size := by omega
      subst ef
      clear hd
      go_wp2
      go_ret2
      exact ⟨_, _, rfl, by first | exact hown | (rw [hg]; exact hown), by first | exact hb | (rw [hg]; exact hb)⟩

theorem rparse_none (s : ByteArray) (w : World) (h0 : s.size = 0) :
    Calls Try.prog 33 #[.string s] w fun e w' => e = .returned (.tuple #[.slice none 0 0, .bool false]) ∧ w' = w := by
  obtain rfl : s = ByteArray.mk #[] := by
    cases s with
    | mk d => simp only [ByteArray.mk.injEq]; exact Array.eq_empty_of_size_eq_zero h0
  go_enter Try.func33, Try.ntmps33
  go_wp2
  go_ret2
  exact ⟨rfl, rfl⟩
theorem bnum_lenp (s : ByteArray) (f p : Nat) (hd : Digits s p) (hf : f ≤ p) (hs : p ≤ 300) : (nb (num s 0 f)).length ≤ 1200 := by
  obtain ⟨K, hK⟩ : ∃ K, 1200 = K := ⟨_, rfl⟩
  rw [hK]
  apply nb_lt
  have h1 := num_lt s 0 f (fun i _ hi => hd i (by omega))
  have h2 : 10 ^ f ≤ (2 ^ 4) ^ f := Nat.pow_le_pow_left (by omega) f
  rw [← Nat.pow_mul] at h2
  have h3 : (2 : Nat) ^ (4 * f) ≤ 2 ^ K := Nat.pow_le_pow_right (by omega) (by omega)
  omega
set_option maxRecDepth 20000 in
set_option maxHeartbeats 4000000 in
/-- The reference refuses a text with a byte that is no digit. -/
theorem rparse_bad (s : ByteArray) (p : Nat) (w : World) (hd : Digits s p) (hp : p < s.size) (hbad : byteAt s p < 48 ∨ 57 < byteAt s p) (hs : s.size ≤ 300) :
    Calls Try.prog 33 #[.string s] w fun e w' => e = .returned (.tuple #[.slice none 0 0, .bool false]) ∧ Below w.heap.size w w' := by
  have hsi : (s.size : Int) ≤ 300 := by omega
  have hsi0 : (0 : Int) < (s.size : Int) := by omega
  have hz0 : ((s.size : Int) == 0) = false := by rw [beq_eq_false_iff_ne]; omega
  go_enter Try.func33, Try.ntmps33
  go_wp2
  generalize hg : w.heap.size = g at *
  go_loopw [4, 5] (fun v fi wr => ∃ (f : Nat) (o : Option Addr) (c : Nat), f ≤ p ∧ fi = .int .i64 (f : Int) ∧ v = .slice o (nb (num s 0 f)).length c ∧ wr.ownsRow g 4 1 v (nb (num s 0 f)).length (bools (nb (num s 0 f))) ∧ Below g w wr)
    (fun _ fi _ => p - (intOf fi).toNat)
  case atStart =>
    subst hg
    refine ⟨0, some ⟨w.heap.size, 0, none⟩, 0, Nat.zero_le _, rfl, by rw [num, nb_zero]; rfl, ?_, (Below.refl _ _).alloc (Nat.le_refl _) _⟩
    rw [num, nb_zero]
    exact World.ownsRow_lit w #[] 0 (Nat.le_refl _) (by decide) rfl
  case round =>
    obtain ⟨f, o, c, hf, rfl, rfl, hown, hb⟩ := hrel
    have hsz := hb.size
    by_cases hlt : f < p
    · have hbd := hd f hlt
      have he := byte_is s f (by omega)
      have q1 : (f : Int) < (s.size : Int) := by omega
      have hl1 := bnum_lenp s f p hd hf (by omega)
      have hl2 := bnum_lenp s (f + 1) p hd (by omega) (by omega)
      have hsum : num s 0 f * 10 + (byteAt s f - 48) = num s 0 (f + 1) := by rw [num, Nat.zero_add]; omega
      have hlm : (nb (num s 0 f * 10)).length ≤ 1200 := Nat.le_trans (nb_mono _ _ (by omega)) hl2
      have hld : (nb (byteAt s f - 48)).length ≤ 4 := nb_lt _ _ (by omega)
      have hlt10 : (nb 10).length ≤ 4 := nb_lt _ _ (by omega)
      have cT := fun (W : World) => rword_any 10 W (by omega)
      have cD := fun (W : World) => rword_any (byteAt s f - 48) W (by omega)
      have cM := fun (W : World) (hW : Below wr.heap.size wr W) (oT : Option Addr) (cT : Nat) (hT : Lies W oT cT (bools (nb 10))) => rmul_core (nb (num s 0 f)) (nb 10) (num s 0 f * 10) (by unfold Hid; rw [fromL_nb, fromL_nb]) o oT c cT W (lies_of_owns (keep hown hW)) hT (by omega) (by omega)
      have cA := fun (W : World) (o1 o2 : Option Addr) (c1 c2 : Nat) (h1 : Lies W o1 c1 (bools (nb (num s 0 f * 10)))) (h2 : Lies W o2 c2 (bools (nb (byteAt s f - 48)))) => radd_core (nb (num s 0 f * 10)) (nb (byteAt s f - 48)) (num s 0 (f + 1)) (by unfold Hid; rw [fromL_nb, fromL_nb, hsum]) o1 o2 c1 c2 W h1 h2 (by omega) (by omega)
      obtain ⟨B, eB⟩ : ∃ y : Int, y = (byteAt s f : Int) := ⟨_, rfl⟩
      have hBd : ((byteAt s f - 48 : Nat) : Int) = B - 48 := by omega
      rw [hBd] at cD
      rw [← eB] at he
      have b0 : 48 ≤ B := by omega
      have b1 : B ≤ 57 := by omega
      have rl : ∀ (W w3 : World) (o3 : Option Addr) (c3 : Nat), Below wr.heap.size wr W → w3.ownsRow W.heap.size 4 1 (.slice o3 (nb (num s 0 (f + 1))).length c3) (nb (num s 0 (f + 1))).length (bools (nb (num s 0 (f + 1)))) → Below W.heap.size W w3 →
          ∃ (f' : Nat) (o' : Option Addr) (c' : Nat), f' ≤ p ∧ Value.int .i64 ((f : Int) + 1) = .int .i64 (f' : Int) ∧ Value.slice o3 (nb (num s 0 (f + 1))).length c3 = .slice o' (nb (num s 0 f')).length c' ∧ w3.ownsRow g 4 1 (.slice o3 (nb (num s 0 (f + 1))).length c3) (nb (num s 0 f')).length (bools (nb (num s 0 f'))) ∧ Below g w w3 := fun W w3 o3 c3 hW ho3 hb3 => by
        have s1 := hW.size
        have s2 := hb3.size
        exact ⟨f + 1, o3, c3, by omega, by simp, rfl, owns_base ho3 (by omega), (hb.trans (hW.mono (by omega))).trans (hb3.mono (by omega))⟩
      have hwr : IntKind.u64.wrap (IntKind.u8.wrap (B - 48)) = B - 48 := by rw [IntKind.wrap_u8, IntKind.wrap_u64]; omega
      have cD2 := cD
      rw [← hwr] at cD2
      clear hl1 hl2 hsum hlm hld hlt10 eB hbd hd hBd hwr hbad
      have D1 := below_drewN (Below.refl wr.heap.size wr) 1
      generalize nb (num s 0 f * 10) = NM at *
      generalize nb (byteAt s f - 48) = ND at *
      generalize nb (num s 0 f) = NF at *
      generalize nb 10 = NT at *
      go_wp2
      go_region_with (first
        | (go_at_call_of 46 (Value.int IntKind.u64 10); refine (cT _).mono ?_; rintro e w2 ⟨o2, c2, rfl, hown2, hb2⟩)
        | (go_at_call_of 46 (Value.int IntKind.u64 (B - 48)); refine (cD _).mono ?_; rintro e w4 ⟨o4, c4, rfl, hown4, hb4⟩)
        | (go_at_call 46; refine (cD2 _).mono ?_; rintro e w4 ⟨o4, c4, rfl, hown4, hb4⟩)
        | (go_at_call 53; first
            | (refine (cM _ (bt D1 hb2) _ _ (lies_of_owns hown2)).mono ?_; rintro e w3 ⟨o3, c3, rfl, hown3, hb3⟩)
            | (refine (cM _ (bt (bt D1 hb4) hb2) _ _ (lies_of_owns hown2)).mono ?_; rintro e w3 ⟨o3, c3, rfl, hown3, hb3⟩)
            | (refine (cM _ (bt (bt D1 hb2) hb4) _ _ (lies_of_owns (keep hown2 hb4))).mono ?_; rintro e w3 ⟨o3, c3, rfl, hown3, hb3⟩))
        | (go_at_call 52; first
            | (refine (cA _ _ _ _ _ (lies_of_owns (keep hown3 hb4)) (lies_of_owns hown4)).mono ?_; rintro e w5 ⟨o5, c5, rfl, hown5, hb5⟩; have RR := rl _ _ _ _ (bt (bt (bt D1 hb2) hb3) hb4) hown5 hb5)
            | (refine (cA _ _ _ _ _ (lies_of_owns hown3) (lies_of_owns (keep hown4 hb3))).mono ?_; rintro e w5 ⟨o5, c5, rfl, hown5, hb5⟩; have RR := rl _ _ _ _ (bt (bt (bt D1 hb2) hb4) hb3) hown5 hb5)
            | (refine (cA _ _ _ _ _ (lies_of_owns hown3) (lies_of_owns (keep (keep hown4 hb2) hb3))).mono ?_; rintro e w5 ⟨o5, c5, rfl, hown5, hb5⟩; have RR := rl _ _ _ _ (bt (bt (bt D1 hb4) hb2) hb3) hown5 hb5)))
      all_goals
        go_wp2
        go_roundw
        case rel => exact RR
        case measure => simp [intOf]; omega
    · have ef : f = p := by omega
      subst ef
      have he := byte_is s f hp
      have q1 : (f : Int) < (s.size : Int) := by omega
      clear hd
      rcases hbad with h1 | h1
      · go_wp2
        go_ret2
        exact ⟨rfl, by first | exact hb | (rw [hg]; exact hb)⟩
      · have h2 : 48 ≤ byteAt s f := by omega
        go_wp2
        go_ret2
        exact ⟨rfl, by first | exact hb | (rw [hg]; exact hb)⟩
end Go.Proofs.Ytbhmgafiookjnaa.RParse
