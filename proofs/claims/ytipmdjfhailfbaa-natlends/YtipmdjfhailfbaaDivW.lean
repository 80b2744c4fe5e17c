/- What the quotient of a list of limbs by one limb answers. -/
import Derived.Test.YtipmdjfhailfbaaNatL
import Derived.OwnWalk
import Derived.Test.YtipmdjfhailfbaaDivNum
namespace Go.Proofs.Ytipmdjfhailfbaa.DivW
open Go.RowKit Mem LimbNum Limb1 Limb2 Limb4 NatNum DivNum NatL

theorem or_word (l x : Nat) (hl : l < 4294967296) (hx : x < 4294967296) : bits BinOp.or IntKind.u64 ((l : Int) * 4294967296) (x : Int) = ((l * 4294967296 + x : Nat) : Int) := by
  rw [show (l : Int) * 4294967296 = ((l * 4294967296 : Nat) : Int) by omega, u64_or_nat _ _ (by omega) (by omega), show (l * 4294967296 : Nat) = l * 2 ^ 32 from rfl, nat_join 32 _ _ (by simp) hx]
theorem divword_zero (A : List Nat) (ao : Option Addr) (cap : Nat) (w : World) :
    Calls Try.prog 27 #[.slice ao A.length cap, .int .u32 0] w fun e w' => e = .returned (.tuple #[.slice none 0 0, .int .u32 0, .bool false]) ∧ w' = w := by
  go_enter Try.func27, Try.ntmps27
  go_wp2
  go_ret3
  exact ⟨rfl, rfl⟩

set_option maxRecDepth 20000 in
set_option maxHeartbeats 2000000 in
theorem divword_core (A P : List Nat) (v q r : Nat) (hq : Hid (q = val P / v)) (hr : Hid (r = val P % v)) (hv0 : 0 < v) (hv : v < 4294967296) (ao : Option Addr) (cap : Nat) (w : World) (h : Lies w ao cap (ints .u32 P))
    (c1 : Calls Try.prog 26 #[.slice ao A.length cap] w fun e w' => e = .returned (.slice ao P.length cap) ∧ w' = w) (hP : Small P) (hl : P.length ≤ 70368744177664) :
    Calls Try.prog 27 #[.slice ao A.length cap, .int .u32 (v : Int)] w fun e w' => ∃ ao' cap', e = .returned (.tuple #[.slice ao' (nl q).length cap', .int .u32 (r : Int), .bool true]) ∧
      w'.ownsRow w.heap.size 33 1 (.slice ao' (nl q).length cap') (nl q).length (ints .u32 (nl q)) ∧ Below w.heap.size w w' := by
  obtain ⟨i0, hi, hz0, hz1, hz2⟩ := info_parts info32
  obtain ⟨W, eW⟩ : ∃ W : Int, W = (v : Int) := ⟨_, rfl⟩
  rw [← eW]
  have hW0 : 0 < W := by omega
  have hW1 : W < 4294967296 := by omega
  have EW : Hid (W = (v : Int)) := eW
  clear eW
  go_enter Try.func27, Try.ntmps27
  go_wp2_with (first
    | (go_at_call 26; refine c1.mono ?_; rintro e w2 ⟨rfl, hw⟩; have hw2 := hw.symm; clear hw; subst hw2)
    | (at_make; refine wpList_make_full _ rfl _ _ 22 rfl w.heap.size 33 i0 (.int .u32 0) 1 Try.underlying22 hi hz0 hz1 .i64 .i64 (P.length : Int) (P.length : Int) P.length rfl rfl rfl rfl (by rw [hz2]; omega) (by unfold maxLen; omega) (Nat.le_refl _) ?_; intro w3 hown hgr))
  have hown0 : w3.ownsRow w.heap.size 33 1 (.slice (some ⟨w.heap.size, 0, none⟩) P.length P.length) P.length (ints .u32 (List.replicate P.length 0 ++ [])) := by
    rw [List.append_nil, ints_zero, ← toList_madeCells_one]; rw [Nat.mul_one] at hown; exact hown
  have hb3 : Below w.heap.size w w3 := (Below.refl _ _).grown hgr (Nat.le_refl _) (by simp)
  clear hown hgr c1
  generalize hgg : w.heap.size = g at *
  go_loopw [8, 9] (fun lv i wr => ∃ (k l : Nat) (L : Int) (D : List Nat), k ≤ P.length ∧ i = .int .i64 ((k : Int) - 1) ∧ lv = .int .u64 L ∧ 0 ≤ L ∧ L < W ∧ Hid (L = (l : Int)) ∧ Hid (k + D.length = P.length) ∧ Small D ∧ Hid (val (P.drop k) = val D * v + l) ∧
      wr.ownsRow g 33 1 (.slice (some ⟨g, 0, none⟩) P.length P.length) P.length (ints .u32 (List.replicate k 0 ++ D)) ∧ Below g w wr)
    (fun _ i _ => (intOf i + 1).toNat)
  case atStart => exact ⟨P.length, 0, 0, [], Nat.le_refl _, by go_num, rfl, by omega, by omega, rfl, by unfold Hid; simp, by intro x hx; simp at hx, by unfold Hid; simp [val], hown0, hb3⟩
  case round =>
    clear hown0 hb3
    obtain ⟨k, l, L, D, hk, rfl, rfl, hL0, hL1, EL, HD, hDs, HV, hown, hb⟩ := hrel
    have hs := hb.size
    by_cases hk0 : 1 ≤ k
    · obtain ⟨j, rfl⟩ : ∃ j, k = j + 1 := ⟨k - 1, by omega⟩
      have g1 := h.below hb (by omega)
      obtain ⟨b1, off1, rfl, _, hc1⟩ := g1.2.2.2 (by rw [ints_length]; omega)
      have d1 := hc1 j (by rw [ints_length]; omega)
      rw [ints_get _ _ _ (by omega)] at d1
      have hx := getD_small P hP j
      have HS := word_step P D j v l (by omega) HV.out
      obtain ⟨x, ex⟩ : ∃ x, P.getD j 0 = x := ⟨_, rfl⟩
      rw [ex] at d1 hx HS
      have hlv : l < v := by have := EL.out; have := EW.out; omega
      obtain ⟨n1, n2, n3⟩ := word_limb l x v hlv hv hx
      have hor := or_word l x (by omega) hx
      obtain ⟨X, eX⟩ : ∃ X : Int, X = (x : Int) := ⟨_, rfl⟩
      obtain ⟨S, eS⟩ : ∃ S : Int, S = ((l * 4294967296 + x : Nat) : Int) := ⟨_, rfl⟩
      rw [← eX] at d1
      rw [← EL.out, ← eX, ← eS] at hor
      have hX0 : 0 ≤ X := by omega
      have hX1 : X < 4294967296 := by omega
      have hS0 : 0 ≤ S := by omega
      have hS1 : S < 18446744073709551616 := by omega
      have eq1 : S / W = (((l * 4294967296 + x) / v : Nat) : Int) := by rw [eS, EW.out]; exact (Int.natCast_ediv _ _).symm
      have eq2 : S % W = (((l * 4294967296 + x) % v : Nat) : Int) := by rw [eS, EW.out]; exact (Int.natCast_emod _ _).symm
      have et1 : S.tdiv W = S / W := Int.tdiv_eq_ediv_of_nonneg hS0
      have et2 : S.tmod W = S % W := Int.tmod_eq_emod_of_nonneg hS0
      have hq0 : 0 ≤ S / W := by rw [eq1]; exact Int.natCast_nonneg _
      have hq1 : S / W < 4294967296 := by rw [eq1]; exact Int.ofNat_lt.2 n2
      have hm0 : 0 ≤ S % W := by rw [eq2]; exact Int.natCast_nonneg _
      have hm1 : S % W < W := by rw [eq2, EW.out]; exact Int.ofNat_lt.2 n3
      have hL2 : L < 4294967296 := by omega
      have hcw : wr.cell? ⟨g, j, none⟩ = some (.int .u32 (((List.replicate (j + 1) 0 ++ D).getD j 0 : Nat) : Int)) := by
        rw [hown.cellAt j (by omega), ints_get _ _ _ (by have := HD.out; simp; omega)]
      obtain ⟨hR1, _⟩ := hown.stored j (.int .u32 (S / W))
      have hf := hown.frozenAt j
      have hb4 : Below g w (wr.setCell ⟨g, j, none⟩ (.int .u32 (S / W))) := hb.setCell (by exact Nat.le_refl _) _
      rw [eq1, ints_set, fill_down, ← eq1] at hR1
      have HD2 : Hid (j + (((l * 4294967296 + x) / v) :: D).length = P.length) := by have := HD.out; unfold Hid; simp; omega
      have hDs2 : Small (((l * 4294967296 + x) / v) :: D) := by
        intro y hy
        simp only [List.mem_cons] at hy
        rcases hy with rfl | hy
        · exact n2
        · exact hDs y hy
      have HV2 : Hid (val (P.drop j) = val (((l * 4294967296 + x) / v) :: D) * v + (l * 4294967296 + x) % v) := HS
      have E2 : Hid (S % W = (((l * 4294967296 + x) % v : Nat) : Int)) := eq2
      clear hc1 g1 h ex eX eS hown hb HV HS hx n1 n2 n3 hlv eq1 eq2 HD hDs EL
      generalize hQ : S / W = Q1 at *
      generalize hM : S % W = M1 at *
      go_wp2
      go_roundw
      case rel => exact ⟨j, (l * 4294967296 + x) % v, M1, _, by omega, by go_num, by first | rfl | go_num, hm0, hm1, E2, HD2, hDs2, HV2, hR1, hb4⟩
      case measure => simp [intOf]
    · have : k = 0 := by omega
      subst this
      have hlv : l < v := by have := EL.out; have := EW.out; omega
      have hV := HV.out
      rw [List.drop_zero] at hV
      have e1 : val D = q := by rw [hq.out, hV, Nat.mul_comm, Nat.mul_add_div hv0, Nat.div_eq_of_lt hlv]; omega
      have e2 : l = r := by rw [hr.out, hV, Nat.mul_comm, Nat.mul_add_mod, Nat.mod_eq_of_lt hlv]
      have hDl : D.length = P.length := by have := HD.out; omega
      rw [List.replicate_zero, List.nil_append] at hown
      have c3 := ntrim_own D g (some ⟨g, 0, none⟩) P.length wr (by rw [hDl]; exact hown) hDs
      rw [e1, hDl] at c3
      have ER : Hid (L = (r : Int)) := by unfold Hid; rw [← e2]; exact EL.out
      have hL2 : L < 4294967296 := by omega
      clear hown HV HD h e1 e2 hDl hq hr EL hV hlv
      go_wp2_with (go_at_call 26; refine c3.mono ?_; rintro e w5 ⟨rfl, hw, hown5⟩; have hw2 := hw.symm; clear hw; subst hw2)
      go_ret3
      exact ⟨some ⟨g, 0, none⟩, P.length, by rw [ER.out]; rfl, by first | exact hown5 | (rw [hgg]; exact hown5), by first | exact hb | (rw [hgg]; exact hb)⟩
theorem divword_any (A : List Nat) (v : Nat) (ao : Option Addr) (cap : Nat) (w : World) (h : Lies w ao cap (ints .u32 A)) (hA : Small A) (hv0 : 0 < v) (hv : v < 4294967296) (hl : A.length ≤ 70368744177664) :
    Calls Try.prog 27 #[.slice ao A.length cap, .int .u32 (v : Int)] w fun e w' => ∃ ao' cap', e = .returned (.tuple #[.slice ao' (nl (val A / v)).length cap', .int .u32 ((val A % v : Nat) : Int), .bool true]) ∧
      w'.ownsRow w.heap.size 33 1 (.slice ao' (nl (val A / v)).length cap') (nl (val A / v)).length (ints .u32 (nl (val A / v))) ∧ Below w.heap.size w w' := by
  have k1 := nl_len A hA
  exact divword_core A (nl (val A)) v _ _ (by unfold Hid; rw [val_nl]) (by unfold Hid; rw [val_nl]) hv0 hv ao cap w (lies_trim h hA) (ntrim_at h hA w (Below.refl _ _)) (small_nl _) (by omega)
end Go.Proofs.Ytipmdjfhailfbaa.DivW
