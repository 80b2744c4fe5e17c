/- What is taken away from a part of a row, and put back, in place. -/
import Derived.Test.YtipmdjfhailfbaaNatL
import Derived.Test.YtipmdjfhailfbaaLongNum
namespace Go.Proofs.Ytipmdjfhailfbaa.LongL
open Go.RowKit Mem LimbNum Limb1 Limb2 Limb4 NatNum DivNum LongNum NatL

theorem grown_set {w wr : World} {g k : Nat} {v : Value} (h : w.grownBy wr (some g)) : w.grownBy (wr.setCell ⟨g, k, none⟩ v) (some g) :=
  ⟨h.os, h.tape, h.output, by simpa [World.setCell] using h.size, fun j hj hne => by
    rw [heap_setCell_other _ _ _ _ (by intro e; exact hne (by rw [e]))]; exact h.block j hj hne⟩
theorem grown_refl (w : World) (r : Option Nat) : w.grownBy w r := ⟨rfl, rfl, rfl, Nat.le_refl _, fun _ _ _ => rfl⟩
theorem below_of_grown {w0 w w' : World} {g : Nat} (hb : Below g w0 w) (h : w.grownBy w' (some g)) (hg : g ≤ w.heap.size) : Below g w0 w' :=
  hb.grown h hg (fun j hj => by cases hj; exact Nat.le_refl _)
/-- A whole row, cut in three: what lies in the middle part at place j. -/
theorem mid_cell {w : World} {base g L : Nat} {X O Z : List Nat} {i n : Nat} (h : w.ownsRow base 33 1 (.slice (some ⟨g, 0, none⟩) L L) L (ints .u32 (X ++ O ++ Z))) (hX : X.length = i) (hO : O.length = n) (j : Nat) (hj : j < n) :
    w.cell? ⟨g, i + j, none⟩ = some (.int .u32 ((O.getD j 0 : Nat) : Int)) ∧ w.frozen? ⟨g, i + j, none⟩ = false := by
  have hl : (X ++ O ++ Z).length = L := by have := h.1; rw [ints_length] at this; omega
  refine ⟨?_, h.frozenAt _⟩
  rw [h.cellAt (i + j) (by rw [← hl]; simp; omega), ints_get _ _ _ (by simp; omega)]
  congr 3
  subst hX
  rw [List.append_assoc]
  simp only [List.getD_eq_getElem?_getD]
  rw [List.getElem?_append_right (by omega), Nat.add_sub_cancel_left, List.getElem?_append_left (by omega)]

set_option maxRecDepth 20000 in
set_option maxHeartbeats 2000000 in
/-- takeAway: the part less q times v, wrapped where it is below nought. -/
theorem take_core (X U Z V : List Nat) (n i L base g cu q : Nat) (vo : Option Addr) (vc : Nat) (w0 w : World) (hV : Lies w0 vo vc (ints .u32 V)) (hb0 : Below g w0 w) (hg : w0.heap.size ≤ g)
    (hown : w.ownsRow base 33 1 (.slice (some ⟨g, 0, none⟩) L L) L (ints .u32 (X ++ U ++ Z))) (hX : X.length = i) (hU : U.length = n + 1) (hVl : V.length = n) (hUs : Small U) (hVs : Small V) (hq : q < 4294967296) (hn : n ≤ 35184372088832) :
    Calls Try.prog 36 #[.slice (some ⟨g, i, none⟩) (n + 1) cu, .slice vo n vc, .int .u64 (q : Int)] w fun e w' => ∃ (U' : List Nat) (b : Nat), e = .returned (.bool (decide (b = 1))) ∧ b ≤ 1 ∧ U'.length = n + 1 ∧ Small U' ∧ val U' + q * val V = val U + b * 4294967296 ^ (n + 1) ∧
      w'.ownsRow base 33 1 (.slice (some ⟨g, 0, none⟩) L L) L (ints .u32 (X ++ U' ++ Z)) ∧ w.grownBy w' (some g) := by
  have hgw : g < w.heap.size := (hown.lt _ rfl).2
  obtain ⟨QI, eQ⟩ : ∃ Q : Int, Q = (q : Int) := ⟨_, rfl⟩
  rw [← eQ]
  have EQ : Hid (QI = (q : Int)) := eQ
  clear eQ
  go_enter Try.func36, Try.ntmps36
  go_wp2
  go_loopw [7, 8, 16] (fun cv bv iv wr => ∃ (k c b : Nat) (CI BI : Int) (T : List Nat), k ≤ n ∧ iv = .int .i64 k ∧ cv = .int .u64 CI ∧ 0 ≤ CI ∧ CI < 4294967296 ∧ Hid (CI = (c : Int)) ∧ bv = .int .u64 BI ∧ 0 ≤ BI ∧ BI ≤ 1 ∧ Hid (BI = (b : Int)) ∧ Hid (T.length = k) ∧ Small T ∧ Hid (val T + q * val (V.take k) = val (U.take k) + (c + b) * 4294967296 ^ k) ∧
      wr.ownsRow base 33 1 (.slice (some ⟨g, 0, none⟩) L L) L (ints .u32 (X ++ (T ++ U.drop k) ++ Z)) ∧ w.grownBy wr (some g))
    (fun _ _ iv _ => n - (intOf iv).toNat)
  case atStart => exact ⟨0, 0, 0, 0, 0, [], Nat.zero_le _, rfl, rfl, by omega, by omega, rfl, rfl, by omega, by omega, rfl, rfl, by intro x hx; simp at hx, by unfold Hid; simp [val], hown, grown_refl _ _⟩
  case round =>
    clear hown
    obtain ⟨k, c, b, CI, BI, T, hk, rfl, rfl, hC0, hC1, EC, rfl, hB0, hB1, EB, HT, hTs, HI, hown, hgr⟩ := hrel
    have hc : c < 4294967296 := by have := EC.out; omega
    have hb : b ≤ 1 := by have := EB.out; omega
    have hOl : (T ++ U.drop k).length = n + 1 := by have := HT.out; simp; omega
    by_cases hlt : k < n
    · have g2 := hV.below (below_of_grown hb0 hgr (by omega)) hg
      obtain ⟨b2, off2, rfl, _, hc2⟩ := g2.2.2.2 (by rw [ints_length]; omega)
      have d2 := hc2 k (by rw [ints_length]; omega)
      rw [ints_get _ _ _ (by omega)] at d2
      obtain ⟨d1, df⟩ := mid_cell hown hX hOl k (by omega)
      have egm : (T ++ U.drop k).getD k 0 = U.getD k 0 := by have := get_mid [] T U [] 0 k rfl HT.out (by omega); simpa using this
      rw [egm] at d1
      have hx := getD_small U hUs k
      have hy := getD_small V hVs k
      obtain ⟨p, o, b3, c3, D1, D2, e1, e2, e3, e4, e5, e6, e7, e8, e9, e10, e11, e12, e13⟩ := take_limb (U.getD k 0) (V.getD k 0) q c b hx hy hq hc hb
      have HN : Hid (val (T ++ [o]) + q * val (V.take (k + 1)) = val (U.take (k + 1)) + (c3 + b3) * 4294967296 ^ (k + 1)) := take_step U V T k _ _ q c b o c3 b3 HT.out rfl rfl e11 HI.out
      obtain ⟨XI, eX⟩ : ∃ X : Int, X = ((U.getD k 0 : Nat) : Int) := ⟨_, rfl⟩
      obtain ⟨YI, eY⟩ : ∃ X : Int, X = ((V.getD k 0 : Nat) : Int) := ⟨_, rfl⟩
      rw [← eX] at d1
      rw [← eY] at d2
      have hX0 : 0 ≤ XI := by omega
      have hX1 : XI < 4294967296 := by omega
      have hY0 : 0 ≤ YI := by omega
      have hY1 : YI < 4294967296 := by omega
      have hm : QI * YI = ((q * V.getD k 0 : Nat) : Int) := by rw [EQ.out, eY, Int.natCast_mul]
      have hm0 : 0 ≤ QI * YI := by rw [hm]; exact Int.natCast_nonneg _
      have hP : QI * YI + CI = (p : Int) := by rw [hm, EC.out, ← e1, Int.natCast_add]
      have hp1 : QI * YI + CI < 18446744073709551616 := by rw [hP]; omega
      obtain ⟨M, eM⟩ : ∃ M : Int, QI * YI = M := ⟨_, rfl⟩
      rw [eM] at hm0 hP hp1
      have f1 : IntKind.u64.wrap (XI - (M + CI) % 4294967296) = (D1 : Int) := by rw [hP, eX, ← e5]; congr 1
      have f2 : IntKind.u64.wrap ((D1 : Int) - BI) = (D2 : Int) := by rw [EB.out]; exact e6
      have f5 : (M + CI) / 4294967296 = (c3 : Int) := by rw [hP]; omega
      obtain ⟨D1I, eD1⟩ : ∃ D : Int, D = (D1 : Int) := ⟨_, rfl⟩
      obtain ⟨D2I, eD2⟩ : ∃ D : Int, D = (D2 : Int) := ⟨_, rfl⟩
      obtain ⟨OI, eO⟩ : ∃ D : Int, D = (o : Int) := ⟨_, rfl⟩
      obtain ⟨CI2, eC2⟩ : ∃ D : Int, D = (c3 : Int) := ⟨_, rfl⟩
      obtain ⟨BI2, eB2⟩ : ∃ D : Int, D = (b3 : Int) := ⟨_, rfl⟩
      rw [← eD1] at f1 f2
      rw [← eD2] at f2 e7 e8
      rw [← eO] at e7
      rw [← eC2] at f5
      rw [← eB2] at e8
      have hD10 : 0 ≤ D1I := by omega
      have hD11 : D1I < 18446744073709551616 := by omega
      have hD20 : 0 ≤ D2I := by omega
      have hD21 : D2I < 18446744073709551616 := by omega
      have hO0 : 0 ≤ OI := by omega
      have hO1 : OI < 4294967296 := by omega
      obtain ⟨hR1, _⟩ := hown.stored (i + k) (.int .u32 (o : Int))
      rw [ints_set, set_mid X T U Z i k o hX HT.out (by omega), ← eO] at hR1
      have hgr2 : w.grownBy (wr.setCell ⟨g, i + k, none⟩ (.int .u32 OI)) (some g) := grown_set hgr
      have HT2 : Hid ((T ++ [o]).length = k + 1) := by have := HT.out; unfold Hid; simp; omega
      have hTs2 := small_push T o hTs e9
      have EC2 : Hid (CI2 = (c3 : Int)) := eC2
      have EB2 : Hid (BI2 = (b3 : Int)) := eB2
      have hC20 : 0 ≤ CI2 := by omega
      have hC21 : CI2 < 4294967296 := by omega
      have hB20 : 0 ≤ BI2 := by omega
      have hB21 : BI2 ≤ 1 := by omega
      clear hc2 g2 hV hown hgr HI egm e1 e2 e3 e4 e5 e6 e9 e10 e11 e12 e13 hm hP eX eY eD1 eD2 eO eC2 eB2 hx hy hc hb hOl HT hTs EC EB
      go_wp2
      go_roundw
      case rel => exact ⟨k + 1, c3, b3, CI2, BI2, T ++ [o], by omega, by go_num, by first | rfl | go_num, hC20, hC21, EC2, by first | rfl | go_num, hB20, hB21, EB2, HT2, hTs2, HN, hR1, hgr2⟩
      case measure => simp [intOf]; omega
    · have ek : k = n := by omega
      subst ek
      obtain ⟨d1, df⟩ := mid_cell hown hX hOl k (by omega)
      have egm : (T ++ U.drop k).getD k 0 = U.getD k 0 := by have := get_mid [] T U [] 0 k rfl HT.out (by omega); simpa using this
      rw [egm] at d1
      have hx := getD_small U hUs k
      obtain ⟨o, b3, D1, D2, e5, e6, e7, e8, e9, e10, e11, e12, e13⟩ := take_top (U.getD k 0) c b hx hc hb
      have HN := take_last U V T k _ q c b o b3 HT.out hU hVl rfl e11 HI.out
      obtain ⟨XI, eX⟩ : ∃ X : Int, X = ((U.getD k 0 : Nat) : Int) := ⟨_, rfl⟩
      rw [← eX] at d1
      have hX0 : 0 ≤ XI := by omega
      have hX1 : XI < 4294967296 := by omega
      have f1 : IntKind.u64.wrap (XI - CI) = (D1 : Int) := by rw [eX, EC.out]; exact e5
      have f2 : IntKind.u64.wrap ((D1 : Int) - BI) = (D2 : Int) := by rw [EB.out]; exact e6
      obtain ⟨D1I, eD1⟩ : ∃ D : Int, D = (D1 : Int) := ⟨_, rfl⟩
      obtain ⟨D2I, eD2⟩ : ∃ D : Int, D = (D2 : Int) := ⟨_, rfl⟩
      obtain ⟨OI, eO⟩ : ∃ D : Int, D = (o : Int) := ⟨_, rfl⟩
      obtain ⟨BI2, eB2⟩ : ∃ D : Int, D = (b3 : Int) := ⟨_, rfl⟩
      rw [← eD1] at f1 f2
      rw [← eD2] at f2 e7 e8
      rw [← eO] at e7
      rw [← eB2] at e8
      have hD10 : 0 ≤ D1I := by omega
      have hD11 : D1I < 18446744073709551616 := by omega
      have hD20 : 0 ≤ D2I := by omega
      have hD21 : D2I < 18446744073709551616 := by omega
      have hO0 : 0 ≤ OI := by omega
      have hO1 : OI < 4294967296 := by omega
      obtain ⟨hR1, _⟩ := hown.stored (i + k) (.int .u32 (o : Int))
      rw [ints_set, set_mid X T U Z i k o hX HT.out (by omega), ← eO, List.drop_eq_nil_of_le (by omega), List.append_nil] at hR1
      have hgr2 : w.grownBy (wr.setCell ⟨g, i + k, none⟩ (.int .u32 OI)) (some g) := grown_set hgr
      have hT2 : (T ++ [o]).length = k + 1 := by have := HT.out; simp; omega
      have hTs2 := small_push T o hTs e9
      have EB2 : Hid (BI2 = (b3 : Int)) := eB2
      have HN2 : Hid (val (T ++ [o]) + q * val V = val U + b3 * 4294967296 ^ (k + 1)) := HN
      have HT3 : Hid ((T ++ [o]).length = k + 1) := hT2
      have hb3 : b3 ≤ 1 := e10
      clear hV hown hgr HI egm e5 e6 e9 e10 e11 e12 e13 eX eD1 eD2 eO eB2 hx hc hb hOl HT hTs EC EB HN hT2 hU hVl
      go_wp2
      go_ret
      have fin : Ending.returned (.bool (BI2 == 1)) = .returned (.bool (decide (b3 = 1))) := by
        rw [EB2.out]
        rcases (show b3 = 0 ∨ b3 = 1 by omega) with rfl | rfl <;> rfl
      exact ⟨T ++ [o], b3, fin, hb3, HT3.out, hTs2, HN2.out, hR1, hgr2⟩

set_option maxRecDepth 20000 in
set_option maxHeartbeats 2000000 in
/-- putBack: the part and v, without what is carried beyond. -/
theorem back_core (X U Z V : List Nat) (n i L base g cu : Nat) (vo : Option Addr) (vc : Nat) (w0 w : World) (hV : Lies w0 vo vc (ints .u32 V)) (hb0 : Below g w0 w) (hg : w0.heap.size ≤ g)
    (hown : w.ownsRow base 33 1 (.slice (some ⟨g, 0, none⟩) L L) L (ints .u32 (X ++ U ++ Z))) (hX : X.length = i) (hU : U.length = n + 1) (hVl : V.length = n) (hUs : Small U) (hVs : Small V) (hn : n ≤ 35184372088832) :
    Calls Try.prog 37 #[.slice (some ⟨g, i, none⟩) (n + 1) cu, .slice vo n vc] w fun e w' => ∃ (U' : List Nat), e = .returned (.tuple #[]) ∧ U'.length = n + 1 ∧ Small U' ∧ val U' = (val U + val V) % 4294967296 ^ (n + 1) ∧
      w'.ownsRow base 33 1 (.slice (some ⟨g, 0, none⟩) L L) L (ints .u32 (X ++ U' ++ Z)) ∧ w.grownBy w' (some g) := by
  have hgw : g < w.heap.size := (hown.lt _ rfl).2
  go_enter Try.func37, Try.ntmps37
  go_wp2
  go_loopw [4, 10] (fun cv iv wr => ∃ (k c : Nat) (CI : Int) (T : List Nat), k ≤ n ∧ iv = .int .i64 k ∧ cv = .int .u64 CI ∧ 0 ≤ CI ∧ CI ≤ 1 ∧ Hid (CI = (c : Int)) ∧ Hid (T.length = k) ∧ Small T ∧ Hid (val T + c * 4294967296 ^ k = val (U.take k) + val (V.take k)) ∧
      wr.ownsRow base 33 1 (.slice (some ⟨g, 0, none⟩) L L) L (ints .u32 (X ++ (T ++ U.drop k) ++ Z)) ∧ w.grownBy wr (some g))
    (fun _ iv _ => n - (intOf iv).toNat)
  case atStart => exact ⟨0, 0, 0, [], Nat.zero_le _, rfl, rfl, by omega, by omega, rfl, rfl, by intro x hx; simp at hx, by unfold Hid; simp [val], hown, grown_refl _ _⟩
  case round =>
    clear hown
    obtain ⟨k, c, CI, T, hk, rfl, rfl, hC0, hC1, EC, HT, hTs, HI, hown, hgr⟩ := hrel
    have hc : c ≤ 1 := by have := EC.out; omega
    have hOl : (T ++ U.drop k).length = n + 1 := by have := HT.out; simp; omega
    by_cases hlt : k < n
    · have g2 := hV.below (below_of_grown hb0 hgr (by omega)) hg
      obtain ⟨b2, off2, rfl, _, hc2⟩ := g2.2.2.2 (by rw [ints_length]; omega)
      have d2 := hc2 k (by rw [ints_length]; omega)
      rw [ints_get _ _ _ (by omega)] at d2
      obtain ⟨d1, df⟩ := mid_cell hown hX hOl k (by omega)
      have egm : (T ++ U.drop k).getD k 0 = U.getD k 0 := by have := get_mid [] T U [] 0 k rfl HT.out (by omega); simpa using this
      rw [egm] at d1
      have hx := getD_small U hUs k
      have hy := getD_small V hVs k
      have e11 : (U.getD k 0 + V.getD k 0 + c) % 4294967296 + (U.getD k 0 + V.getD k 0 + c) / 4294967296 * 4294967296 = U.getD k 0 + V.getD k 0 + c := by omega
      have HN : Hid (val (T ++ [(U.getD k 0 + V.getD k 0 + c) % 4294967296]) + (U.getD k 0 + V.getD k 0 + c) / 4294967296 * 4294967296 ^ (k + 1) = val (U.take (k + 1)) + val (V.take (k + 1))) := add_step U V T k _ _ c _ _ HT.out rfl rfl e11 HI.out
      have ho : (U.getD k 0 + V.getD k 0 + c) % 4294967296 < 4294967296 := by omega
      have hc3 : (U.getD k 0 + V.getD k 0 + c) / 4294967296 ≤ 1 := by omega
      obtain ⟨XI, eX⟩ : ∃ X : Int, X = ((U.getD k 0 : Nat) : Int) := ⟨_, rfl⟩
      obtain ⟨YI, eY⟩ : ∃ X : Int, X = ((V.getD k 0 : Nat) : Int) := ⟨_, rfl⟩
      rw [← eX] at d1
      rw [← eY] at d2
      have hX0 : 0 ≤ XI := by omega
      have hX1 : XI < 4294967296 := by omega
      have hY0 : 0 ≤ YI := by omega
      have hY1 : YI < 4294967296 := by omega
      have f3 : (XI + YI + CI) % 4294967296 = (((U.getD k 0 + V.getD k 0 + c) % 4294967296 : Nat) : Int) := by have := EC.out; omega
      have f5 : (XI + YI + CI) / 4294967296 = (((U.getD k 0 + V.getD k 0 + c) / 4294967296 : Nat) : Int) := by have := EC.out; omega
      generalize (U.getD k 0 + V.getD k 0 + c) % 4294967296 = o at *
      generalize (U.getD k 0 + V.getD k 0 + c) / 4294967296 = c3 at *
      obtain ⟨OI, eO⟩ : ∃ D : Int, D = (o : Int) := ⟨_, rfl⟩
      obtain ⟨CI2, eC2⟩ : ∃ D : Int, D = (c3 : Int) := ⟨_, rfl⟩
      rw [← eO] at f3
      rw [← eC2] at f5
      have hO0 : 0 ≤ OI := by omega
      have hO1 : OI < 4294967296 := by omega
      obtain ⟨hR1, _⟩ := hown.stored (i + k) (.int .u32 (o : Int))
      rw [ints_set, set_mid X T U Z i k o hX HT.out (by omega), ← eO] at hR1
      have hgr2 : w.grownBy (wr.setCell ⟨g, i + k, none⟩ (.int .u32 OI)) (some g) := grown_set hgr
      have HT2 : Hid ((T ++ [o]).length = k + 1) := by have := HT.out; unfold Hid; simp; omega
      have hTs2 := small_push T o hTs ho
      have EC2 : Hid (CI2 = (c3 : Int)) := eC2
      have hC20 : 0 ≤ CI2 := by omega
      have hC21 : CI2 ≤ 1 := by omega
      clear hc2 g2 hV hown hgr HI egm e11 eX eY eO eC2 hx hy hc hOl HT hTs EC ho hc3
      go_wp2
      go_roundw
      case rel => exact ⟨k + 1, c3, CI2, T ++ [o], by omega, by go_num, by first | rfl | go_num, hC20, hC21, EC2, HT2, hTs2, HN, hR1, hgr2⟩
      case measure => simp [intOf]; omega
    · have ek : k = n := by omega
      subst ek
      obtain ⟨d1, df⟩ := mid_cell hown hX hOl k (by omega)
      have egm : (T ++ U.drop k).getD k 0 = U.getD k 0 := by have := get_mid [] T U [] 0 k rfl HT.out (by omega); simpa using this
      rw [egm] at d1
      have hx := getD_small U hUs k
      have HN := back_last U V T k _ c _ HT.out hTs hU hVl rfl rfl HI.out
      obtain ⟨XI, eX⟩ : ∃ X : Int, X = ((U.getD k 0 : Nat) : Int) := ⟨_, rfl⟩
      rw [← eX] at d1
      have hX0 : 0 ≤ XI := by omega
      have hX1 : XI < 4294967296 := by omega
      have f1 : IntKind.u32.wrap (XI + CI) = (((U.getD k 0 + c) % 4294967296 : Nat) : Int) := by have := EC.out; rw [IntKind.wrap_u32]; omega
      have ho : (U.getD k 0 + c) % 4294967296 < 4294967296 := by omega
      generalize (U.getD k 0 + c) % 4294967296 = o at *
      obtain ⟨OI, eO⟩ : ∃ D : Int, D = (o : Int) := ⟨_, rfl⟩
      rw [← eO] at f1
      have hO0 : 0 ≤ OI := by omega
      have hO1 : OI < 4294967296 := by omega
      obtain ⟨hR1, _⟩ := hown.stored (i + k) (.int .u32 (o : Int))
      rw [ints_set, set_mid X T U Z i k o hX HT.out (by omega), ← eO, List.drop_eq_nil_of_le (by omega), List.append_nil] at hR1
      have hgr2 : w.grownBy (wr.setCell ⟨g, i + k, none⟩ (.int .u32 OI)) (some g) := grown_set hgr
      have hT2 : (T ++ [o]).length = k + 1 := by have := HT.out; simp; omega
      have hTs2 := small_push T o hTs ho
      have HN2 : Hid (val (T ++ [o]) = (val U + val V) % 4294967296 ^ (k + 1)) := HN
      have HT3 : Hid ((T ++ [o]).length = k + 1) := hT2
      clear hV hown hgr HI egm eX eO hx hc hOl HT hTs EC HN hT2 hU hVl ho
      go_wp2
      go_end0
      exact ⟨T ++ [o], rfl, HT3.out, hTs2, HN2.out, hR1, hgr2⟩
end Go.Proofs.Ytipmdjfhailfbaa.LongL
