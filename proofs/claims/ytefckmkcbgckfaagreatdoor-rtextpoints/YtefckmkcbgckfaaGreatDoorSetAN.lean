/- What the long division of lists of limbs answers. -/
import Derived.Test.YtefckmkcbgckfaaGreatDoorSetAF
import Derived.Test.YtefckmkcbgckfaaGreatDoorSetAH
import Derived.Test.YtefckmkcbgckfaaGreatDoorSetAI
namespace Go.Proofs.YtefckmkcbgckfaaGreatDoor.LongDiv
open Go.RowKit Mem LimbNum Limb1 Limb2 Limb3 Limb4 NatNum DivNum LongNum GuessNum LongTop NatL LongL Guess CopyL ShiftL

set_option maxRecDepth 20000 in
set_option maxHeartbeats 1000000 in
theorem long_core (P Q : List Nat) (m s K a b q r : Nat) (Vl M : List Nat) (hq : Hid (q = a / b)) (hr : Hid (r = a % b)) (ha : Hid (val P = a)) (hb : Hid (val Q = b)) (hb0 : b ≠ 0)
    (hQl : Q.length = m + 2) (hK : K + (m + 2) = P.length + 1) (hK1 : 1 ≤ K) (hs : bitLen b + s = 32 * (m + 2)) (hs2 : s ≤ 31) (hVl : Hid (Vl = nl (b * 2 ^ s))) (hM : Hid (M = nl (a * 2 ^ s)))
    (ao1 ao2 : Option Addr) (cap1 cap2 : Nat) (w : World) (h1 : Lies w ao1 cap1 (ints .u32 P)) (h2 : Lies w ao2 cap2 (ints .u32 Q)) (hP : Small P) (hQ : Small Q) (hl : P.length + 1 ≤ 70368744177664) (hQ45 : m + 2 ≤ 35184372088832) :
    Calls Tryz.prog 74 #[.slice ao1 P.length cap1, .slice ao2 (m + 2) cap2] w fun e w' => ∃ o1 c1 o2 c2, e = .returned (.tuple #[.slice o1 (nl q).length c1, .slice o2 (nl r).length c2]) ∧
      w'.ownsRow w.heap.size 48 1 (.slice o1 (nl q).length c1) (nl q).length (ints .u32 (nl q)) ∧ w'.ownsRow w.heap.size 48 1 (.slice o2 (nl r).length c2) (nl r).length (ints .u32 (nl r)) ∧ Below w.heap.size w w' := by
  obtain ⟨i0, hi, hz0, hz1, hz2⟩ := info_parts info32
  have cB := bits_any Q ao2 cap2 w h2 hQ (by omega)
  have cS1 := shl_any Q (s : Int) ao2 cap2 w (by omega) (by omega) h2 hQ (by omega)
  have cS2 := fun (W : World) (hbW : Below w.heap.size w W) => shl_far P (s : Int) ao1 cap1 W (by omega) (by omega) (h1.below hbW (Nat.le_refl _)) hP (by omega)
  rw [hb.out] at cB
  rw [hb.out, Int.toNat_natCast, hQl, ← hVl.out] at cS1
  rw [ha.out, Int.toNat_natCast, ← hM.out] at cS2
  rw [hQl] at cB
  obtain ⟨hV1, hV2, hV3⟩ := shifted b (m + 2) s hb0 (by omega) hs
  rw [← hVl.out] at hV1 hV2
  have hMl : M.length ≤ P.length + 1 := by rw [hM.out, ← ha.out]; exact moved_len P hP s hs2
  have hVs : Small Vl := by rw [hVl.out]; exact small_nl _
  have hMs : Small M := by rw [hM.out]; exact small_nl _
  have hVv : val Vl = b * 2 ^ s := by rw [hVl.out, val_nl]
  have hMv : val M = a * 2 ^ s := by rw [hM.out, val_nl]
  have hfirst := first_lt P hP s (m + 2) K (b * 2 ^ s) hs2 (by omega) hK hV3
  rw [ha.out] at hfirst
  have hVB : val Vl < 4294967296 ^ (m + 2) := by have := val_lt Vl hVs; rwa [hV1] at this
  obtain ⟨L, hL⟩ : ∃ L, L = P.length + 1 := ⟨_, rfl⟩
  obtain ⟨BL, eBL⟩ : ∃ x : Int, x = (bitLen b : Int) := ⟨_, rfl⟩
  obtain ⟨SI, eSI⟩ : ∃ x : Int, x = (s : Int) := ⟨_, rfl⟩
  have hsub : 32 * ((m : Int) + 2) - BL = SI := by omega
  have hBL0 : 0 ≤ BL := by omega
  have hBL1 : BL ≤ 32 * ((m : Int) + 2) := by omega
  have hmB : (m : Int) ≤ 35184372088832 := by omega
  rw [← eBL] at cB
  rw [← eSI] at cS1 cS2
  have hLi : (P.length : Int) + 1 = (L : Int) := by omega
  have hKi : (P.length : Int) - ((m : Int) + 2) + 1 = (K : Int) := by omega
  have hLb : L ≤ 70368744177664 := by omega
  have hKb : K ≤ 70368744177664 := by omega
  have mk : ∀ (W : World) (bs g n : Nat), W.ownsRow bs 48 1 (.slice (some ⟨g, 0, none⟩) n n) n (madeCells (Value.int .u32 0).cells (n * 1)).toList → W.ownsRow bs 48 1 (.slice (some ⟨g, 0, none⟩) n n) n (ints .u32 (List.replicate n 0)) := fun W bs g n hW => by
    rw [ints_zero, ← toList_madeCells_one]; rw [Nat.mul_one] at hW; exact hW
  have ESI : Hid (SI = (s : Int)) := eSI
  have HFI : Hid (a * 2 ^ s < b * 2 ^ s * 4294967296 ^ K) := hfirst
  have HKL : Hid (K + (m + 2) = L) := by unfold Hid; omega
  have HPL : Hid (P.length + 1 = L) := by unfold Hid; omega
  have hML : M.length ≤ L := by omega
  clear hV3 hfirst h1 h2 eBL eSI hs hK hL hMl hQl
  have t1 : True := trivial
  have t2 : True := trivial
  go_enter Tryz.func74, Tryz.ntmps74
  go_wp2_with (first
    | (go_at_call 23; refine cB.mono ?_; rintro e w1 ⟨rfl, hw⟩; have hw2 := hw.symm; clear hw; subst hw2)
    | (go_at_call 85; have _t := t1; clear _t t1; refine cS1.mono ?_; rintro e w1 ⟨o1, p1, rfl, hown1, hb1⟩)
    | (go_at_call 85; refine (cS2 _ hb1).mono ?_; rintro e w2 ⟨o2, p2, rfl, hown2, hb2⟩; have H2 := bt hb1 hb2)
    | (at_make; have _t := t2; clear _t t2; refine wpList_make_full _ rfl _ _ 22 rfl w2.heap.size 48 i0 (.int .u32 0) 1 Tryz.underlying22 hi hz0 hz1 .i64 .i64 _ _ L rfl rfl (by first | rfl | exact hLi) (by first | rfl | exact hLi) (by rw [hz2]; omega) (by unfold maxLen; omega) (Nat.le_refl _) ?_; intro w3 hown3' hgr3; have hown3 := mk _ _ _ _ hown3'; have hb3 : Below w2.heap.size w2 w3 := (Below.refl _ _).grown hgr3 (Nat.le_refl _) (by simp))
    | (refine wpList_copy_fresh rfl (.tmp 42) (.tmp 43) 22 22 rfl 48 Tryz.underlying22 infoS w2.heap.size L w2.heap.size o2 M.length p2 M rfl rfl rfl hML hown3 (lies_of_owns (keep hown2 hb3)) w2.heap.size w2 hb3 (Nat.le_refl _) ?_; intro w4 hown4 hb4)
    | (at_make; refine wpList_make_full _ rfl _ _ 22 rfl w4.heap.size 48 i0 (.int .u32 0) 1 Tryz.underlying22 hi hz0 hz1 .i64 .i64 _ _ K rfl rfl (by first | rfl | exact hKi) (by first | rfl | exact hKi) (by rw [hz2]; omega) (by unfold maxLen; omega) (Nat.le_refl _) ?_; intro w5 hown5' hgr5; have hown5 := mk _ _ _ _ hown5'; have hb5 : Below w4.heap.size w4 w5 := (Below.refl _ _).grown hgr5 (Nat.le_refl _) (by simp)))
  have hVL : Lies w2 o1 p1 (ints .u32 Vl) := (lies_of_owns hown1).below hb2 (Nat.le_refl _)
  have hg4 : w2.heap.size < w4.heap.size := (hown4.lt _ rfl).2
  have hu5 := keep hown4 hb5
  have hb25 : Below w2.heap.size w2 w5 := hb4.trans (hb5.mono (by omega))
  have hU0v : val (M ++ List.replicate (L - M.length) 0) = a * 2 ^ s := by
    rw [val_append, val_zero (List.replicate (L - M.length) 0) (fun x hx => (List.mem_replicate.1 hx).2), hMv]; omega
  have hU0l : (M ++ List.replicate (L - M.length) 0).length = L := by simp; omega
  have hU0s : Small (M ++ List.replicate (L - M.length) 0) := by
    intro x hx
    simp only [List.mem_append] at hx
    rcases hx with h | h
    · exact hMs x h
    · have := (List.mem_replicate.1 h).2; omega
  have hH2s := H2.size
  clear cB cS1 cS2 hown1 hown2 hown3 hown3' hown4 hown5' hgr3 hgr5 hb3 mk hLi hKi hsub hBL0 hBL1 hb1 hb2 hb4 hb5
  obtain ⟨g, hg⟩ : ∃ g, g = w2.heap.size := ⟨_, rfl⟩
  obtain ⟨gq, hgq⟩ : ∃ g, g = w4.heap.size := ⟨_, rfl⟩
  rw [← hg] at hu5 hb25 hg4 ⊢
  rw [← hgq] at hown5 hg4 ⊢
  have HG : Hid (g = w2.heap.size) := hg
  have hgle : w2.heap.size ≤ g := by omega
  have hwg : w.heap.size ≤ g := by omega
  clear hg hgq
  go_loopw [14] (fun iv wr => ∃ (k : Nat) (U D : List Nat), k ≤ K ∧ iv = .int .i64 ((k : Int) - 1) ∧ Hid (U.length = L) ∧ Small U ∧ Hid (k + D.length = K) ∧ Small D ∧ Hid (a * 2 ^ s = val U + b * 2 ^ s * 4294967296 ^ k * val D) ∧ Hid (val U < b * 2 ^ s * 4294967296 ^ k) ∧
      wr.ownsRow g 48 1 (.slice (some ⟨g, 0, none⟩) L L) L (ints .u32 U) ∧ wr.ownsRow gq 48 1 (.slice (some ⟨gq, 0, none⟩) K K) K (ints .u32 (List.replicate k 0 ++ D)) ∧ Below g w2 wr)
    (fun iv _ => (intOf iv + 1).toNat)
  case atStart => exact ⟨K, M ++ List.replicate (L - M.length) 0, [], Nat.le_refl _, by go_num, hU0l, hU0s, rfl, by intro x hx; simp at hx, by unfold Hid; rw [hU0v]; simp [val], by unfold Hid; rw [hU0v]; exact HFI.out, hu5, by rw [List.append_nil]; exact hown5, hb25⟩
  case round =>
    clear hu5 hown5 hb25 hU0v hU0l hU0s
    obtain ⟨k, U, D, hk, rfl, HU, hUs, HD, hDs, HI, HLt, hownu, hownq, hbw⟩ := hrel
    have hsz := hbw.size
    have hgw : g < wr.heap.size := (hownu.lt _ rfl).2
    have hgqw : gq < wr.heap.size := (hownq.lt _ rfl).2
    by_cases hk0 : 1 ≤ k
    · obtain ⟨j, rfl⟩ : ∃ j, k = j + 1 := ⟨k - 1, by omega⟩
      obtain ⟨x1, x2, x3, x4, x5, x6⟩ := cut3 U j (m + 2) (val Vl) (by have := HU.out; have := HKL.out; omega) hVB (by rw [hVv]; exact HLt.out)
      obtain ⟨X, eX⟩ : ∃ X, X = U.take j := ⟨_, rfl⟩
      obtain ⟨Um, eUm⟩ : ∃ X, X = (U.drop j).take (m + 2 + 1) := ⟨_, rfl⟩
      obtain ⟨Z, eZ⟩ : ∃ X, X = U.drop (j + (m + 2) + 1) := ⟨_, rfl⟩
      have hUms : Small Um := by rw [eUm]; exact small_part U hUs j _
      have hXs : Small X := by rw [eX]; exact fun x hx => hUs x (List.mem_of_mem_take hx)
      have hZs : Small Z := by rw [eZ]; exact fun x hx => hUs x (List.mem_of_mem_drop hx)
      rw [← eX, ← eUm, ← eZ] at x1
      rw [← eX] at x2 x5
      rw [← eUm] at x3 x5 x6
      rw [← eZ] at x4
      rw [x1] at hownu
      have hVw := hVL.below hbw (by omega)
      obtain ⟨bv, ov, rfl, _, hcv⟩ := hVw.2.2.2 (by rw [ints_length]; omega)
      have dv0 := hcv (m + 1) (by rw [ints_length]; omega)
      have dv1 := hcv m (by rw [ints_length]; omega)
      rw [ints_get _ _ _ (by omega)] at dv0 dv1
      have hlen3 : Um.length = m + 3 := x3
      have t := top_of Um Vl m hUms hVs hlen3 hV1 hV2 x6
      have cG := fun uc => guess_core _ _ _ _ _ _ _ _ _ (Um.getD (m + 2) 0) (Um.getD (m + 1) 0) m t rfl (getD_small _ hUms _) (getD_small _ hUms _) (by omega) g j uc bv ov p1 wr (mid_cell hownu x2 hlen3 (m + 2) (by omega)).1 (mid_cell hownu x2 hlen3 (m + 1) (by omega)).1 (mid_cell hownu x2 hlen3 m (by omega)).1 dv0 dv1
      have cT := fun (W : World) (qd cu : Nat) (hq : qd < 4294967296) (hbW : Below g w2 W) (ho : W.ownsRow g 48 1 (.slice (some ⟨g, 0, none⟩) L L) L (ints .u32 (X ++ Um ++ Z))) => take_core X Um Z Vl (m + 2) j L g g cu qd (some ⟨bv, ov, none⟩) p1 w2 W hVL hbW (by omega) ho x2 x3 hV1 hUms hVs hq (by omega)
      have cP := fun (W : World) (U' : List Nat) (cu : Nat) (hl : U'.length = m + 2 + 1) (hs' : Small U') (hbW : Below g w2 W) (ho : W.ownsRow g 48 1 (.slice (some ⟨g, 0, none⟩) L L) L (ints .u32 (X ++ U' ++ Z))) => back_core X U' Z Vl (m + 2) j L g g cu (some ⟨bv, ov, none⟩) p1 w2 W hVL hbW (by omega) ho x2 hl hV1 hs' hVs (by omega)
      have hjL : (j : Int) + ((m : Int) + 2) + 1 ≤ (L : Int) := by have := HU.out; have := HKL.out; omega
      have hsl : j + (m + 2) + 1 - j = m + 3 := by omega
      have dig := fun (qd b' : Nat) (U' : List Nat) (h1 : val Um / val Vl ≤ qd) (h2 : qd ≤ val Um / val Vl + 1) (hs' : Small U') (hl' : U'.length = m + 2 + 1) (hb' : b' ≤ 1) (he : val U' + qd * val Vl = val Um + b' * 4294967296 ^ (m + 2 + 1)) => digit_pos (val Um) (val Vl) qd (val Um / val Vl) (val U') (4294967296 ^ (m + 2 + 1)) b' (Nat.div_mul_le_self _ _) (by rw [Nat.mul_comm]; exact Nat.lt_mul_div_succ _ t.vpos) h1 h2 (by have := val_lt U' hs'; rwa [hl'] at this) (by have := val_lt Um hUms; rwa [x3] at this) hb' he
      have fin : ∀ (W : World) (U' : List Nat) (d : Nat) (OI : Int), OI = (d : Int) → d < 4294967296 → val U' = val Um - d * val Vl → d = val Um / val Vl → Small U' → U'.length = m + 2 + 1 → W.ownsRow g 48 1 (.slice (some ⟨g, 0, none⟩) L L) L (ints .u32 (X ++ U' ++ Z)) → W.ownsRow gq 48 1 (.slice (some ⟨gq, 0, none⟩) K K) K (ints .u32 (List.replicate (j + 1) 0 ++ D)) → Below g w2 W →
          ∃ (k : Nat) (U D : List Nat), k ≤ K ∧ Value.int .i64 ((j : Int) - 1) = .int .i64 ((k : Int) - 1) ∧ Hid (U.length = L) ∧ Small U ∧ Hid (k + D.length = K) ∧ Small D ∧ Hid (a * 2 ^ s = val U + b * 2 ^ s * 4294967296 ^ k * val D) ∧ Hid (val U < b * 2 ^ s * 4294967296 ^ k) ∧
            (W.setCell ⟨gq, j, none⟩ (.int .u32 OI)).ownsRow g 48 1 (.slice (some ⟨g, 0, none⟩) L L) L (ints .u32 U) ∧ (W.setCell ⟨gq, j, none⟩ (.int .u32 OI)).ownsRow gq 48 1 (.slice (some ⟨gq, 0, none⟩) K K) K (ints .u32 (List.replicate k 0 ++ D)) ∧ Below g w2 (W.setCell ⟨gq, j, none⟩ (.int .u32 OI)) := by
        intro W U' d OI eO hd hv' hdq hs' hl' ho1 ho2 hbW
        subst eO
        have hdle : d * val Vl ≤ val Um := by rw [hdq]; exact Nat.div_mul_le_self _ _
        have hdlt : val Um < (d + 1) * val Vl := by rw [hdq, Nat.mul_comm]; exact Nat.lt_mul_div_succ _ t.vpos
        obtain ⟨r1, r2⟩ := round_step X U' Z j (val Um) (val Vl) (a * 2 ^ s) d (val D) x2 hXs x4 hv' hdle hdlt (by rw [HI.out, x5, hVv])
        obtain ⟨hR1, hgr⟩ := ho2.stored j (.int .u32 (d : Int))
        rw [ints_set, fill_down] at hR1
        refine ⟨j, X ++ U' ++ Z, d :: D, by omega, rfl, ?_, small_three X U' Z hXs hs' hZs, ?_, ?_, ?_, ?_, ?_, hR1, hbW.setCell (by show g ≤ gq; omega) _⟩
        · have q1 := HU.out
          rw [x1] at q1
          unfold Hid
          simp only [List.length_append] at q1 ⊢
          omega
        · have := HD.out; unfold Hid; simp; omega
        · intro y hy
          simp only [List.mem_cons] at hy
          rcases hy with rfl | hy
          · exact hd
          · exact hDs y hy
        · unfold Hid; rw [r1, hVv]; rfl
        · unfold Hid; rw [← hVv]; exact r2
        · exact ho1.kept (w' := W.setCell ⟨gq, j, none⟩ (.int .u32 (d : Int))) (row := some gq) (grown_set (grown_refl _ _)) (.inr (by simp [Value.ownBlock]; omega))
      clear t dv0 dv1 hcv hVw HI HLt x1 x5 x6 HU HD hDs hUs eX eUm eZ
      have cellq : ∀ W : World, W.ownsRow gq 48 1 (.slice (some ⟨gq, 0, none⟩) K K) K (ints .u32 (List.replicate (j + 1) 0 ++ D)) → W.cell? ⟨gq, j, none⟩ = some (.int .u32 0) ∧ W.frozen? ⟨gq, j, none⟩ = false := fun W hW => by
        refine ⟨?_, hW.frozenAt j⟩
        have hl2 := hW.1
        rw [ints_length] at hl2
        rw [hW.cellAt j (by omega), ints_get _ _ _ (by omega)]
        congr 3
        simp [List.getElem?_append_left]
      clear hVL hV1 hV2 hVv hMv hVB hVs HFI HKL HPL hMs hML hUms hXs hZs hVl hM x2 x3 x4 hlen3
      go_wp2_with (go_at_call 86; fail)
      refine (cG _).mono ?_
      rintro e w6 ⟨qd, rfl, hqd, hqd1, hqd2, hb6⟩
      have hu6 := keep hownu hb6
      have hq6 := keep hownq hb6
      have hs6 := hb6.size
      have hB6 : Below g w2 w6 := hbw.trans (hb6.mono (by omega))
      have cT1 := cT w6 qd (L - j) hqd hB6 hu6
      obtain ⟨QD, eQD⟩ : ∃ x : Int, x = (qd : Int) := ⟨_, rfl⟩
      have hQ0 : 0 ≤ QD := by omega
      have hQ1 : QD < 4294967296 := by omega
      have EQD : Hid (QD = (qd : Int)) := eQD
      rw [← eQD] at cT1
      simp only [← eQD]
      clear cG cT eQD hownu hownq
      go_wp2_with (go_at_call 87; fail)
      refine cT1.mono ?_
      rintro e w7 ⟨U', b', rfl, hb', hl', hs', he, hu7, hgr7⟩
      obtain ⟨z0, z1⟩ := dig qd b' U' hqd1 hqd2 hs' hl' hb' he
      have hq7 := hq6.kept hgr7 (.inr (by simp [Value.ownBlock]; omega))
      have hB7 := below_of_grown hB6 hgr7 (by omega)
      have hs7 := hgr7.size
      clear dig cT1 he hu6 hq6
      rcases (show b' = 0 ∨ b' = 1 by omega) with rfl | rfl
      · obtain ⟨y1, y2⟩ := z0 rfl
        have HF := fin w7 U' qd QD EQD.out hqd (by rw [y1]; exact y2) y1 hs' hl' hu7 hq7 hB7
        obtain ⟨dq, df⟩ := cellq w7 hq7
        clear fin cP cellq z0 z1 y1 y2 hqd hqd1 hqd2 hu7 hgr7 hq7 hB7
        go_wp2
        go_roundw
        case rel => exact HF
        case measure => simp [intOf]
      · obtain ⟨y1, y2⟩ := z1 rfl
        have hq1 : 1 ≤ qd := by rw [y1]; exact Nat.le_add_left _ _
        have hQ2 : 1 ≤ QD := by have := EQD.out; clear y1 y2; omega
        have cP1 := cP w7 U' (L - j) hl' hs' hB7 hu7
        clear z0 z1 cP
        go_wp2_with (go_at_call 88; fail)
        refine cP1.mono ?_
        rintro e w8 ⟨U'', rfl, hl8, hs8, hv8, hu8, hgr8⟩
        have hq8 := hq7.kept hgr8 (.inr (by simp [Value.ownBlock]; omega))
        have hB8 := below_of_grown hB7 hgr8 (by omega)
        have HF := fin w8 U'' (qd - 1) (QD - 1) (by have := EQD.out; clear y1 y2 hqd1 hqd2; omega) (by clear y1 y2 hqd1 hqd2; omega) (by rw [hv8, y2, y1, Nat.add_sub_cancel]) (by rw [y1, Nat.add_sub_cancel]) hs8 hl8 hu8 hq8 hB8
        obtain ⟨dq, df⟩ := cellq w8 hq8
        clear fin cP1 cellq y1 y2 hqd hqd1 hqd2 hu7 hgr7 hq7 hB7 hu8 hgr8 hq8 hB8 hv8
        go_wp2
        go_roundw
        case rel => exact HF
        case measure => simp [intOf]
    · have : k = 0 := by omega
      subst this
      have hbpos : 0 < b := by omega
      have e0 := HI.out
      have e1 := HLt.out
      rw [Nat.pow_zero, Nat.mul_one] at e0 e1
      obtain ⟨z1, z2⟩ := long_end a b s (val U) (val D) hbpos e0 e1
      rw [← hq.out] at z1
      rw [← hr.out] at z2
      have hDl : D.length = K := by have := HD.out; omega
      rw [List.replicate_zero, List.nil_append] at hownq
      have htk := LongTop.last_take U (m + 2) (by have := HU.out; have := HKL.out; omega) (by rw [hVv] at hVB; omega)
      have hLU := (lies_of_owns hownu).take (m + 2)
      rw [← ints_take] at hLU
      have hlt2 : (U.take (m + 2)).length = m + 2 := by rw [List.length_take, HU.out]; have := HKL.out; omega
      have cS := shr_any (U.take (m + 2)) (s : Int) (some ⟨g, 0, none⟩) L wr (by omega) (by omega) hLU (fun x hx => hUs x (List.mem_of_mem_take hx)) (by omega)
      rw [htk, Int.toNat_natCast, z2, hlt2, ← ESI.out] at cS
      have cT := fun (W : World) (hW : Below wr.heap.size wr W) => ntrim_own D gq (some ⟨gq, 0, none⟩) K W (by rw [hDl]; exact keep hownq hW) hDs
      rw [z1, hDl] at cT
      have hmL : (m : Int) + 2 ≤ (L : Int) := by have := HKL.out; omega
      clear hownu hownq HI HLt e0 e1 z1 z2 htk hLU hlt2 HU HD hDs hUs hDl hVL hV1 hV2 hVv hMv hVB hVs HFI HKL HPL hMs hML hVl hM hq hr ha hb
      go_wp2_with (first
        | (go_at_call 21; refine cS.mono ?_; rintro e w6 ⟨o6, p6, rfl, hown6, hb6⟩)
        | (go_at_call 71; refine (cT _ hb6).mono ?_; rintro e w7 ⟨rfl, hw, hown7⟩; have hw2 := hw.symm; clear hw; subst hw2))
      go_ret2
      have hs6 := hb6.size
      have hfin : Below w.heap.size w w6 := H2.trans (((hbw.trans (hb6.mono (by omega))).mono (by omega)))
      exact ⟨_, _, _, _, rfl, owns_base hown7 (by omega), owns_base hown6 (by omega), hfin⟩
end Go.Proofs.YtefckmkcbgckfaaGreatDoor.LongDiv
