/- What a limb of a list, and a difference of two multiples, answer. -/
import Derived.Test.YtefckmkcbgckfaaGreatDoorSetAA
import Derived.Test.YtefckmkcbgckfaaGreatDoorSetAF
import Derived.Lib.MinMax
namespace Go.Proofs.YtefckmkcbgckfaaGreatDoor.GcdL
open Go.RowKit Mem LimbNum Limb1 Limb2 Limb4 NatNum DivNum NatL GcdNum

theorem at_any (A : List Nat) (i : Nat) (ao : Option Addr) (cap : Nat) (w : World) (h : Lies w ao cap (ints .u32 A)) :
    Calls Tryz.prog 97 #[.slice ao A.length cap, .int .i64 (i : Int)] w fun e w' => e = .returned (.int .u32 ((A.getD i 0 : Nat) : Int)) ∧ w' = w := by
  by_cases hi : i < A.length
  · obtain ⟨b, off, rfl, _, hc⟩ := h.2.2.2 (by rw [ints_length]; omega)
    have d := hc i (by rw [ints_length]; omega)
    rw [ints_get _ _ _ hi] at d
    generalize A.getD i 0 = x at *
    have q : (i : Int) < (A.length : Int) := by omega
    clear hc h
    go_enter Tryz.func97, Tryz.ntmps97
    go_wp2
    go_ret
    exact ⟨rfl, rfl⟩
  · have e : A.getD i 0 = 0 := by rw [List.getD_eq_getElem?_getD, List.getElem?_eq_none (by omega)]; rfl
    rw [e]
    have q : ¬ (i : Int) < (A.length : Int) := by omega
    clear h e
    go_enter Tryz.func97, Tryz.ntmps97
    go_wp2
    go_ret
    exact ⟨rfl, rfl⟩
theorem diff_step (vT q Yk pl R p Xk mi bo x y ls lt o pl2 mi2 bo2 : Nat) (h : vT + q * Yk + pl * R = p * Xk + mi * R + bo * R) (hs : pl + p * x = ls + 4294967296 * pl2) (ht : mi + q * y = lt + 4294967296 * mi2) (ho : o + lt + bo = ls + bo2 * 4294967296) :
    vT + R * o + q * (Yk + R * y) + pl2 * (R * 4294967296) = p * (Xk + R * x) + mi2 * (R * 4294967296) + bo2 * (R * 4294967296) := by grind
theorem diff_end (a c d e R : Nat) (h : a + c * R = d + e * R) (ha : a < R) (hd : d < R) : a = d := by
  have h1 := congrArg (· % R) h
  simp only [Nat.add_mul_mod_self_right] at h1
  rwa [Nat.mod_eq_of_lt ha, Nat.mod_eq_of_lt hd] at h1
set_option maxRecDepth 20000 in
set_option maxHeartbeats 2000000 in
theorem differ_any (X Y : List Nat) (p q L : Nat) (ox oy : Option Addr) (cx cy : Nat) (w : World) (hX : Lies w ox cx (ints .u32 X)) (hY : Lies w oy cy (ints .u32 Y)) (hXs : Small X) (hYs : Small Y)
    (hp : p < 4294967296) (hq : q < 4294967296) (hL : L = max X.length Y.length) (hl : L ≤ 35184372088832) (hle : q * val Y ≤ p * val X) (hlt : p * val X - q * val Y < 4294967296 ^ L) :
    Calls Tryz.prog 83 #[.slice ox X.length cx, .int .u64 (p : Int), .slice oy Y.length cy, .int .u64 (q : Int)] w fun e w' => ∃ o c, e = .returned (.slice o (nl (p * val X - q * val Y)).length c) ∧
      w'.ownsRow w.heap.size 48 1 (.slice o (nl (p * val X - q * val Y)).length c) (nl (p * val X - q * val Y)).length (ints .u32 (nl (p * val X - q * val Y))) ∧ Below w.heap.size w w' := by
  obtain ⟨i0, hi, hz0, hz1, hz2⟩ := info_parts info32
  have hLi : max (X.length : Int) (Y.length : Int) = (L : Int) := by omega
  have HXL : Hid (X.length ≤ L ∧ Y.length ≤ L) := ⟨by omega, by omega⟩
  obtain ⟨PP, eP⟩ : ∃ P : Int, P = (p : Int) := ⟨_, rfl⟩
  obtain ⟨QQ, eQ⟩ : ∃ Q : Int, Q = (q : Int) := ⟨_, rfl⟩
  rw [← eP, ← eQ]
  have EP : Hid (PP = (p : Int)) := eP
  have EQ : Hid (QQ = (q : Int)) := eQ
  have P0 : 0 ≤ PP := by omega
  have P1 : PP < 4294967296 := by omega
  have Q0 : 0 ≤ QQ := by omega
  have Q1 : QQ < 4294967296 := by omega
  have HLT : Hid (q * val Y ≤ p * val X ∧ p * val X - q * val Y < 4294967296 ^ L) := ⟨hle, hlt⟩
  clear eP eQ hL hle hlt
  go_enter Tryz.func83, Tryz.ntmps83
  go_wp2_with (at_make; refine wpList_make_full _ rfl _ _ 22 rfl w.heap.size 48 i0 (.int .u32 0) 1 Tryz.underlying22 hi hz0 hz1 .i64 .i64 _ _ L rfl rfl (by first | exact hLi | rfl) (by first | exact hLi | rfl) (by rw [hz2]; omega) (by unfold maxLen; omega) (Nat.le_refl _) ?_; intro w3 hown hgr)
  have hown0 : w3.ownsRow w.heap.size 48 1 (.slice (some ⟨w.heap.size, 0, none⟩) L L) L (ints .u32 ([] ++ List.replicate (L - 0) 0)) := by
    rw [List.nil_append, Nat.sub_zero, ints_zero, ← toList_madeCells_one]; rw [Nat.mul_one] at hown; exact hown
  have hb3 : Below w.heap.size w w3 := (Below.refl _ _).grown hgr (Nat.le_refl _) (by simp)
  clear hown hgr hLi
  generalize hgg : w.heap.size = g at *
  go_loopw [10, 11, 12, 23] (fun pv mv bv iv wr => ∃ (k pl mi bo : Nat) (PI MI BI : Int) (T : List Nat), k ≤ L ∧ iv = .int .i64 (k : Int) ∧ pv = .int .u64 PI ∧ 0 ≤ PI ∧ PI < 4294967296 ∧ Hid (PI = (pl : Int)) ∧ mv = .int .u64 MI ∧ 0 ≤ MI ∧ MI < 4294967296 ∧ Hid (MI = (mi : Int)) ∧ bv = .int .u64 BI ∧ 0 ≤ BI ∧ BI ≤ 1 ∧ Hid (BI = (bo : Int)) ∧ Hid (T.length = k) ∧ Small T ∧
      Hid (val T + q * val (Y.take k) + pl * 4294967296 ^ k = p * val (X.take k) + mi * 4294967296 ^ k + bo * 4294967296 ^ k) ∧ wr.ownsRow g 48 1 (.slice (some ⟨g, 0, none⟩) L L) L (ints .u32 (T ++ List.replicate (L - k) 0)) ∧ Below g w wr)
    (fun _ _ _ iv _ => L - (intOf iv).toNat)
  case atStart => exact ⟨0, 0, 0, 0, 0, 0, 0, [], Nat.zero_le _, rfl, rfl, by omega, by omega, rfl, rfl, by omega, by omega, rfl, rfl, by omega, by omega, rfl, rfl, by intro x hx; simp at hx, by unfold Hid; simp [val], hown0, hb3⟩
  case round =>
    clear hown0 hb3
    obtain ⟨k, pl, mi, bo, PI, MI, BI, T, hk, rfl, rfl, p0, p1, EPI, rfl, m0, m1, EMI, rfl, b0, b1, EBI, HT, hTs, HV, hown, hb⟩ := hrel
    have hs := hb.size
    by_cases hkl : k < L
    · have gX := hX.below hb (by omega)
      have gY := hY.below hb (by omega)
      have cX := at_any X k ox cx wr gX
      have cY := at_any Y k oy cy wr gY
      have hx := getD_small X hXs k
      have hy := getD_small Y hYs k
      have vX := val_take_any X k
      have vY := val_take_any Y k
      obtain ⟨x, ex⟩ : ∃ x, x = X.getD k 0 := ⟨_, rfl⟩
      obtain ⟨y, ey⟩ : ∃ y, y = Y.getD k 0 := ⟨_, rfl⟩
      rw [← ex] at cX hx vX
      rw [← ey] at cY hy vY
      have hpx : p * x ≤ 4294967295 * 4294967295 := Nat.mul_le_mul (by omega) (by omega)
      have hqy : q * y ≤ 4294967295 * 4294967295 := Nat.mul_le_mul (by omega) (by omega)
      have hpl : pl < 4294967296 := by have := EPI.out; omega
      have hmi : mi < 4294967296 := by have := EMI.out; omega
      have hbo : bo ≤ 1 := by have := EBI.out; omega
      obtain ⟨s, es⟩ : ∃ s, s = pl + p * x := ⟨_, rfl⟩
      obtain ⟨t, et⟩ : ∃ t, t = mi + q * y := ⟨_, rfl⟩
      have hs64 : s < 18446744073709551616 := by omega
      have ht64 : t < 18446744073709551616 := by omega
      obtain ⟨o, b3, D1, D2, e5, e6, e7, e8, e9, e10, e11, e12, e13⟩ := take_top (s % 4294967296) (t % 4294967296) bo (Nat.mod_lt _ (by omega)) (Nat.mod_lt _ (by omega)) hbo
      have hstep := diff_step (val T) q (val (Y.take k)) pl (4294967296 ^ k) p (val (X.take k)) mi bo x y (s % 4294967296) (t % 4294967296) o (s / 4294967296) (t / 4294967296) b3 HV.out (by omega) (by omega) e11
      have HV2 : Hid (val (T ++ [o]) + q * val (Y.take (k + 1)) + s / 4294967296 * 4294967296 ^ (k + 1) = p * val (X.take (k + 1)) + t / 4294967296 * 4294967296 ^ (k + 1) + b3 * 4294967296 ^ (k + 1)) := by
        unfold Hid
        rw [val_append, HT.out, vX, vY, Nat.pow_succ, show val [o] = o by simp [val]]
        exact hstep
      obtain ⟨XI, eX⟩ : ∃ X : Int, X = (x : Int) := ⟨_, rfl⟩
      obtain ⟨YI, eY⟩ : ∃ Y : Int, Y = (y : Int) := ⟨_, rfl⟩
      obtain ⟨SI, eS⟩ : ∃ S : Int, S = (s : Int) := ⟨_, rfl⟩
      obtain ⟨TI, eT⟩ : ∃ S : Int, S = (t : Int) := ⟨_, rfl⟩
      rw [← eX] at cX
      rw [← eY] at cY
      have X0 : 0 ≤ XI := by omega
      have X1 : XI < 4294967296 := by omega
      have Y0 : 0 ≤ YI := by omega
      have Y1 : YI < 4294967296 := by omega
      have S0 : 0 ≤ SI := by omega
      have S1 : SI < 18446744073709551616 := by omega
      have T0 : 0 ≤ TI := by omega
      have T1 : TI < 18446744073709551616 := by omega
      have hm1 : PP * XI = ((p * x : Nat) : Int) := by rw [EP.out, eX, Int.natCast_mul]
      have hm2 : QQ * YI = ((q * y : Nat) : Int) := by rw [EQ.out, eY, Int.natCast_mul]
      obtain ⟨M1, eM1⟩ : ∃ M : Int, PP * XI = M := ⟨_, rfl⟩
      obtain ⟨M2, eM2⟩ : ∃ M : Int, QQ * YI = M := ⟨_, rfl⟩
      rw [eM1] at hm1
      rw [eM2] at hm2
      have M10 : 0 ≤ M1 := by omega
      have M11 : M1 < 18446744073709551616 := by omega
      have M20 : 0 ≤ M2 := by omega
      have M21 : M2 < 18446744073709551616 := by omega
      have fS : PI + M1 = SI := by have := EPI.out; omega
      have fT : MI + M2 = TI := by have := EMI.out; omega
      have f1 : IntKind.u64.wrap (SI % 4294967296 - TI % 4294967296) = (D1 : Int) := by rw [eS, eT, ← e5]; congr 1
      have f2 : IntKind.u64.wrap ((D1 : Int) - BI) = (D2 : Int) := by rw [EBI.out]; exact e6
      obtain ⟨D1I, eD1⟩ : ∃ D : Int, D = (D1 : Int) := ⟨_, rfl⟩
      obtain ⟨D2I, eD2⟩ : ∃ D : Int, D = (D2 : Int) := ⟨_, rfl⟩
      obtain ⟨OI, eO⟩ : ∃ D : Int, D = (o : Int) := ⟨_, rfl⟩
      obtain ⟨BI2, eB2⟩ : ∃ D : Int, D = (b3 : Int) := ⟨_, rfl⟩
      obtain ⟨PI2, eP2⟩ : ∃ D : Int, D = ((s / 4294967296 : Nat) : Int) := ⟨_, rfl⟩
      obtain ⟨MI2, eM3⟩ : ∃ D : Int, D = ((t / 4294967296 : Nat) : Int) := ⟨_, rfl⟩
      rw [← eD1] at f1 f2
      rw [← eD2] at f2 e7 e8
      rw [← eO] at e7
      rw [← eB2] at e8
      have f3 : SI / 4294967296 = PI2 := by omega
      have f4 : TI / 4294967296 = MI2 := by omega
      have hD10 : 0 ≤ D1I := by omega
      have hD11 : D1I < 18446744073709551616 := by omega
      have hD20 : 0 ≤ D2I := by omega
      have hD21 : D2I < 18446744073709551616 := by omega
      have hO0 : 0 ≤ OI := by omega
      have hO1 : OI < 4294967296 := by omega
      have hB20 : 0 ≤ BI2 := by omega
      have hB21 : BI2 ≤ 1 := by omega
      have hP20 : 0 ≤ PI2 := by omega
      have hP21 : PI2 < 4294967296 := by omega
      have hM20 : 0 ≤ MI2 := by omega
      have hM21 : MI2 < 4294967296 := by omega
      obtain ⟨m, hm⟩ : ∃ m, L - k = m + 1 := ⟨L - k - 1, by omega⟩
      have hm' : L - (k + 1) = m := by omega
      rw [hm, List.replicate_succ] at hown
      have hfr := hown.frozenAt k
      have hcw : wr.cell? ⟨g, k, none⟩ = some (.int .u32 0) := by
        rw [hown.cellAt k (by omega), ints_get _ _ _ (by simp; have := HT.out; omega)]
        have : (T ++ 0 :: List.replicate m 0).getD k 0 = 0 := by
          rw [List.getD_eq_getElem?_getD, List.getElem?_append_right (by have := HT.out; omega), HT.out, Nat.sub_self]; rfl
        rw [this]; rfl
      obtain ⟨hR1, _⟩ := hown.stored k (.int .u32 (o : Int))
      have hset : (T ++ 0 :: List.replicate m 0).set k o = (T ++ [o]) ++ List.replicate m 0 := by
        rw [List.set_append, if_neg (by have := HT.out; omega), HT.out, Nat.sub_self, List.append_assoc]; rfl
      rw [ints_set, hset, ← eO, ← hm'] at hR1
      have hb4 : Below g w (wr.setCell ⟨g, k, none⟩ (.int .u32 OI)) := hb.setCell (by exact Nat.le_refl _) _
      have HT2 : Hid ((T ++ [o]).length = k + 1) := by have := HT.out; unfold Hid; simp; omega
      have hTs2 : Small (T ++ [o]) := fun z hz => by
        rcases List.mem_append.1 hz with h1 | h1
        · exact hTs z h1
        · simp at h1; omega
      have E1 : Hid (PI2 = ((s / 4294967296 : Nat) : Int)) := eP2
      have E2 : Hid (MI2 = ((t / 4294967296 : Nat) : Int)) := eM3
      have E3 : Hid (BI2 = (b3 : Int)) := eB2
      have tk : True := trivial
      clear gX gY hX hY hown HV hstep vX vY hpx hqy hpl hmi hbo es et hs64 ht64 e5 e6 e9 e10 e11 e12 e13 eX eY eS eT hm1 hm2 eD1 eD2 eO eB2 eP2 eM3 hm hm' hset HT hTs EPI EMI EBI hx hy ex ey
      go_wp2_with (first
        | (go_at_call 97; have _t := tk; clear _t tk; refine cX.mono ?_; rintro e w5 ⟨rfl, hw⟩; have hw2 := hw.symm; clear hw; subst hw2)
        | (go_at_call 97; refine cY.mono ?_; rintro e w6 ⟨rfl, hw⟩; have hw2 := hw.symm; clear hw; subst hw2))
      go_roundw
      case rel => exact ⟨k + 1, s / 4294967296, t / 4294967296, b3, PI2, MI2, BI2, T ++ [o], by omega, by go_num, by first | rfl | go_num, hP20, hP21, E1, by first | rfl | go_num, hM20, hM21, E2, by first | rfl | go_num, hB20, hB21, E3, HT2, hTs2, HV2, hR1, hb4⟩
      case measure => simp [intOf]; omega
    · have ek : k = L := by omega
      subst ek
      have hV := HV.out
      rw [List.take_of_length_le HXL.out.1, List.take_of_length_le HXL.out.2] at hV
      have hTl := val_lt T hTs
      rw [HT.out] at hTl
      obtain ⟨hle, hlt⟩ := HLT.out
      have eT : val T = p * val X - q * val Y := diff_end (val T) pl _ (mi + bo) (4294967296 ^ k) (by rw [Nat.add_mul]; omega) hTl hlt
      rw [Nat.sub_self, List.replicate_zero, List.append_nil] at hown
      have c3 := ntrim_own T g (some ⟨g, 0, none⟩) k wr (by rw [HT.out]; exact hown) hTs
      rw [eT, HT.out] at c3
      clear hV hTl hle hlt eT hown HV HT hTs hX hY EPI EMI EBI HLT
      go_wp2_with (go_at_call 71; refine c3.mono ?_; rintro e w5 ⟨rfl, hw, hown5⟩; have hw2 := hw.symm; clear hw; subst hw2)
      go_ret
      exact ⟨some ⟨g, 0, none⟩, k, rfl, by first | exact hown5 | (rw [hgg]; exact hown5), by first | exact hb | (rw [hgg]; exact hb)⟩
end Go.Proofs.YtefckmkcbgckfaaGreatDoor.GcdL
