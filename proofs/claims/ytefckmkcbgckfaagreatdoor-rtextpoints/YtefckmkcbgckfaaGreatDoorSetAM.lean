/- What Lehmer's steps on the highest bits answer. -/
import Derived.Test.YtefckmkcbgckfaaGreatDoorSetAL
import Derived.Test.YtefckmkcbgckfaaGreatDoorSetAF
import Derived.BigRegion
import Derived.OwnWalk
import Derived.Deep.RegionWith
namespace Go.Proofs.YtefckmkcbgckfaaGreatDoor.AheadL
open Go.RowKit Mem LimbNum Limb1 Limb2 Limb3 Limb4 NatNum DivNum NatL GcdNum GcdL HighL

/-- A pair of counts, in a block. -/
def pair (x y : Int) : Obj := .cells #[.int .u64 x, .int .u64 y] 117
/-- The three pairs of counts in memory, from block g on. -/
structure Six (w wr : World) (g : Nat) (FX FY SX SY TX TY : Int) : Prop where
  below : Below g w wr
  f : wr.heap[g]? = some (pair FX FY)
  s : wr.heap[g + 1]? = some (pair SX SY)
  t : wr.heap[g + 1 + 1]? = some (pair TX TY)
theorem cell0 {w : World} {g : Nat} {x y : Int} (h : w.heap[g]? = some (pair x y)) : w.cell? ⟨g, 0, none⟩ = some (.int .u64 x) := by simp [World.cell?, h, pair]
theorem cell1 {w : World} {g : Nat} {x y : Int} (h : w.heap[g]? = some (pair x y)) : w.cell? ⟨g, 1, none⟩ = some (.int .u64 y) := by simp [World.cell?, h, pair]
theorem free {w : World} {g : Nat} {x y : Int} (h : w.heap[g]? = some (pair x y)) (i : Nat) : w.frozen? ⟨g, i, none⟩ = false := by simp [World.frozen?, h, pair]
theorem six_start (w : World) : Six w (((w.alloc (pair 0 0)).alloc (pair 1 0)).alloc (pair 0 1)) w.heap.size 0 0 1 0 0 1 := by
  have z1 : (w.alloc (pair 0 0)).heap.size = w.heap.size + 1 := by simp
  have z2 : ((w.alloc (pair 0 0)).alloc (pair 1 0)).heap.size = w.heap.size + 1 + 1 := by simp
  refine ⟨(((Below.refl w.heap.size w).alloc (Nat.le_refl _) _).alloc (by simp) _).alloc (by simp; omega) _, ?_, ?_, ?_⟩
  · rw [heap_alloc_old _ _ (by omega), heap_alloc_old _ _ (by omega), heap_alloc_new]
  · rw [heap_alloc_old _ _ (by omega), ← z1, heap_alloc_new]
  · rw [← z2, heap_alloc_new]
theorem set0 {w : World} {g : Nat} {x y : Int} (v : Int) (h : w.heap[g]? = some (pair x y)) : (w.setCell ⟨g, 0, none⟩ (.int .u64 v)).heap[g]? = some (pair v y) := by
  rw [heap_setCell_same w g 0 _ _ _ h]; rfl
theorem set1 {w : World} {g : Nat} {x y : Int} (v : Int) (h : w.heap[g]? = some (pair x y)) : (w.setCell ⟨g, 1, none⟩ (.int .u64 v)).heap[g]? = some (pair x v) := by
  rw [heap_setCell_same w g 1 _ _ _ h]; rfl
theorem setN {w : World} {g k i : Nat} {o : Option Obj} (v : Value) (hk : k ≠ g) (h : w.heap[k]? = o) : (w.setCell ⟨g, i, none⟩ v).heap[k]? = o := by
  rw [heap_setCell_other _ _ _ _ hk]; exact h
theorem Six.two {w wr : World} {g : Nat} {FX FY SX SY TX TY : Int} (h : Six w wr g FX FY SX SY TX TY) (a b c d : Int) : Six w ((((wr.setCell ⟨g, 0, none⟩ (.int .u64 a)).setCell ⟨g, 1, none⟩ (.int .u64 b)).setCell ⟨g + 1, 0, none⟩ (.int .u64 c)).setCell ⟨g + 1, 1, none⟩ (.int .u64 d)) g a b c d TX TY := by
  refine ⟨(((h.below.setCell (Nat.le_refl _) _).setCell (Nat.le_refl _) _).setCell (Nat.le_succ _) _).setCell (Nat.le_succ _) _, ?_, ?_, ?_⟩
  · exact setN _ (by omega) (setN _ (by omega) (set1 b (set0 a h.f)))
  · exact set1 d (set0 c (setN _ (by omega) (setN _ (by omega) h.s)))
  · exact setN _ (by omega) (setN _ (by omega) (setN _ (by omega) (setN _ (by omega) h.t)))
theorem Six.three {w wr : World} {g : Nat} {FX FY SX SY TX TY : Int} (h : Six w wr g FX FY SX SY TX TY) (a b : Int) : Six w ((wr.setCell ⟨g + 1 + 1, 0, none⟩ (.int .u64 a)).setCell ⟨g + 1 + 1, 1, none⟩ (.int .u64 b)) g FX FY SX SY a b := by
  refine ⟨(h.below.setCell (by show g ≤ g + 1 + 1; omega) _).setCell (by show g ≤ g + 1 + 1; omega) _, ?_, ?_, ?_⟩
  · exact setN _ (by omega) (setN _ (by omega) h.f)
  · exact setN _ (by omega) (setN _ (by omega) h.s)
  · exact set1 b (set0 a h.t)
theorem Six.drew {w wr : World} {g : Nat} {FX FY SX SY TX TY : Int} (h : Six w wr g FX FY SX SY TX TY) : Six w wr.drew g FX FY SX SY TX TY := ⟨h.below.drew, h.f, h.s, h.t⟩
/-- What the loop keeps. -/
structure Kept (a0 b0 a b fx fy sx sy tx ty : Nat) (e : Bool) : Prop where
  st : St a0 b0 a b sx sy tx ty e
  ret : (fx = 0 ∧ fy = 0) ∨ Ret a0 b0 fx fy sx sy e
set_option maxRecDepth 20000 in
set_option maxHeartbeats 2000000 in
theorem ahead_core (X Y : List Nat) (n s : Nat) (A0 B0 SI : Int) (ox oy : Option Addr) (cx cy : Nat) (w : World) (hn : X.length = n) (hn3 : n ≤ 100000000000000)
    (cB : ∀ W : World, Below w.heap.size w W → Calls Tryz.prog 23 #[.slice ox n cx] W fun e w' => e = .returned (.int .i64 SI) ∧ w' = W) (hS : 32 * (n : Int) - SI = (s : Int)) (hs : s ≤ 31)
    (cX : ∀ W : World, Below w.heap.size w W → Calls Tryz.prog 96 #[.slice ox n cx, .int .i64 (n : Int), .int .u64 (s : Int)] W fun e w' => e = .returned (.int .u64 A0) ∧ w' = W)
    (cY : ∀ W : World, Below w.heap.size w W → Calls Tryz.prog 96 #[.slice oy Y.length cy, .int .i64 (n : Int), .int .u64 (s : Int)] W fun e w' => e = .returned (.int .u64 B0) ∧ w' = W)
    (a0 b0 : Nat) (eA : Hid (A0 = (a0 : Int))) (eB : Hid (B0 = (b0 : Int))) (hA0 : 0 ≤ A0) (hA1 : A0 < 18446744073709551616) (hB1 : B0 ≤ A0) (hpos : 1 ≤ A0) :
    Calls Tryz.prog 82 #[.slice ox n cx, .slice oy Y.length cy] w fun e w' => ∃ (fx fy sx sy : Nat) (ev : Bool), e = .returned (.tuple #[.agg #[.int .u64 (fx : Int), .int .u64 (fy : Int)], .agg #[.int .u64 (sx : Int), .int .u64 (sy : Int)], .bool ev]) ∧ ((fx = 0 ∧ fy = 0) ∨ Ret a0 b0 fx fy sx sy ev) ∧ Below w.heap.size w w' := by
  have t1 : True := trivial
  have hb0 : Below w.heap.size w w := Below.refl _ _
  go_enter Tryz.func82, Tryz.ntmps82
  go_wp2_with (first
    | (go_at_call 23; refine (cB _ (by first | exact (hb0.alloc (Nat.le_refl _) _).alloc (by simp) _ | exact hb0)).mono ?_; rintro e w1 ⟨rfl, hw⟩; have hw2 := hw.symm; clear hw; subst hw2)
    | (go_at_call 96; have _t := t1; clear _t t1; refine (cX _ (by first | exact (hb0.alloc (Nat.le_refl _) _).alloc (by simp) _ | exact hb0)).mono ?_; rintro e w1 ⟨rfl, hw⟩; have hw2 := hw.symm; clear hw; subst hw2)
    | (go_at_call 96; refine (cY _ (by first | exact (hb0.alloc (Nat.le_refl _) _).alloc (by simp) _ | exact hb0)).mono ?_; rintro e w1 ⟨rfl, hw⟩; have hw2 := hw.symm; clear hw; subst hw2))
  have hsix := six_start w
  generalize hgg : w.heap.size = g at *
  go_loopw [6, 9, 10] (fun ev av bv wr => ∃ (a b fx fy sx sy tx ty : Nat) (e : Bool) (AI BI FX FY SX SY TX TY : Int), ev = .bool e ∧ av = .int .u64 AI ∧ bv = .int .u64 BI ∧ Hid (AI = (a : Int) ∧ BI = (b : Int) ∧ FX = (fx : Int) ∧ FY = (fy : Int) ∧ SX = (sx : Int) ∧ SY = (sy : Int) ∧ TX = (tx : Int) ∧ TY = (ty : Int)) ∧ Hid (Kept a0 b0 a b fx fy sx sy tx ty e) ∧ Hid (Six w wr g FX FY SX SY TX TY))
    (fun _ av bv _ => (intOf av + intOf bv).toNat)
  case atStart => exact ⟨a0, b0, 0, 0, 1, 0, 0, 1, false, A0, B0, 0, 0, 1, 0, 0, 1, rfl, rfl, rfl, ⟨eA.out, eB.out, rfl, rfl, rfl, rfl, rfl, rfl⟩, ⟨St.start a0 b0 (by have := eA.out; have := eB.out; omega) (by have := eA.out; omega), .inl ⟨rfl, rfl⟩⟩, hsix⟩
  case round =>
    clear hsix
    obtain ⟨a, b, fx, fy, sx, sy, tx, ty, e, AI, BI, FX, FY, SX, SY, TX, TY, rfl, rfl, rfl, HE, HK, HS⟩ := hrel
    obtain ⟨e1, e2, e3, e4, e5, e6, e7, e8⟩ := HE.out
    have hst := HK.out.st
    have hlim := hst.lim
    have hA : a0 < 18446744073709551616 := by have := eA.out; omega
    have hab := hst.ge
    have hap := hst.pos
    have htp := hst.tpos
    have hmo := hst.mono
    have i1 := hst.i1
    have haa : a ≤ a0 := by
      have : 1 * a ≤ ty * a := Nat.mul_le_mul_right _ htp
      omega
    have d1 := cell0 HS.out.f
    have d2 := cell1 HS.out.f
    have d3 := cell0 HS.out.s
    have d4 := cell1 HS.out.s
    have d5 := cell0 HS.out.t
    have d6 := cell1 HS.out.t
    have z1 := free HS.out.f
    have z2 := free HS.out.s
    have z3 := free HS.out.t
    have A0' : 0 ≤ AI := by omega
    have A1' : AI < 18446744073709551616 := by omega
    have B0' : 0 ≤ BI := by omega
    have B1' : BI ≤ AI := by omega
    have S0' : 0 ≤ SY := by omega
    have T0' : 0 ≤ TY := by omega
    have T1' : TY < 18446744073709551616 := by omega
    by_cases c1 : TY ≤ BI
    · have hb1 : 1 ≤ b := by omega
      have hst2 := hlim.2.2 hb1
      have ST : SY + TY < 18446744073709551616 := by omega
      by_cases c2 : SY + TY ≤ AI - BI
      · have hkb : ty ≤ b := by omega
        have hstp := hst.step hkb
        have hl2 := hstp.lim
        have hqn : (AI / BI) = ((a / b : Nat) : Int) := by rw [e1, e2]; exact (Int.natCast_ediv _ _).symm
        have hrn : (AI % BI) = ((a % b : Nat) : Int) := by rw [e1, e2]; exact (Int.natCast_emod _ _).symm
        have hrb := Nat.mod_lt a hb1
        have hqa := Nat.div_le_self a b
        have HK2 : Hid (Kept a0 b0 b (a % b) sx sy tx ty (sx + a / b * tx) (sy + a / b * ty) (!e)) := ⟨hstp, .inr ⟨⟨a, b, by rw [Bool.not_not]; exact hst, hkb, by omega⟩⟩⟩
        obtain ⟨q, eq⟩ : ∃ q, q = a / b := ⟨_, rfl⟩
        obtain ⟨r, er⟩ : ∃ r, r = a % b := ⟨_, rfl⟩
        rw [← eq] at hqn hqa hl2 HK2
        rw [← er] at hrn hrb HK2
        obtain ⟨QI, eQ⟩ : ∃ Q : Int, Q = (q : Int) := ⟨_, rfl⟩
        obtain ⟨RI, eR⟩ : ∃ Q : Int, Q = (r : Int) := ⟨_, rfl⟩
        rw [← eQ] at hqn
        rw [← eR] at hrn
        have et1 : AI.tdiv BI = QI := by rw [Int.tdiv_eq_ediv_of_nonneg A0', hqn]
        have et2 : AI.tmod BI = RI := by rw [Int.tmod_eq_emod_of_nonneg A0', hrn]
        have hm1 : QI * TX = ((q * tx : Nat) : Int) := by rw [eQ, e7, Int.natCast_mul]
        have hm2 : QI * TY = ((q * ty : Nat) : Int) := by rw [eQ, e8, Int.natCast_mul]
        obtain ⟨M1, eM1⟩ : ∃ M : Int, QI * TX = M := ⟨_, rfl⟩
        obtain ⟨M2, eM2⟩ : ∃ M : Int, QI * TY = M := ⟨_, rfl⟩
        rw [eM1] at hm1
        rw [eM2] at hm2
        obtain ⟨U1, eU1⟩ : ∃ M : Int, SX + M1 = M := ⟨_, rfl⟩
        obtain ⟨U2, eU2⟩ : ∃ M : Int, SY + M2 = M := ⟨_, rfl⟩
        have u1 : U1 = ((sx + q * tx : Nat) : Int) := by omega
        have u2 : U2 = ((sy + q * ty : Nat) : Int) := by omega
        have M10 : 0 ≤ M1 := by omega
        have M11 : M1 < 18446744073709551616 := by omega
        have M20 : 0 ≤ M2 := by omega
        have M21 : M2 < 18446744073709551616 := by omega
        have U10 : 0 ≤ U1 := by omega
        have U11 : U1 < 18446744073709551616 := by omega
        have U20 : 0 ≤ U2 := by omega
        have U21 : U2 < 18446744073709551616 := by omega
        have Q0' : 0 ≤ QI := by omega
        have Q1' : QI < 18446744073709551616 := by omega
        have R0' : 0 ≤ RI := by omega
        have R1' : RI < 18446744073709551616 := by omega
        have Bp : 0 < BI := by omega
        have Bn : BI ≠ 0 := by omega
        have Bz : (BI == 0) = false := by simp; omega
        have hmeas : (BI + RI).toNat < (AI + BI).toNat := by omega
        have HE2 : Hid (BI = (b : Int) ∧ RI = (r : Int) ∧ SX = (sx : Int) ∧ SY = (sy : Int) ∧ TX = (tx : Int) ∧ TY = (ty : Int) ∧ U1 = ((sx + q * tx : Nat) : Int) ∧ U2 = ((sy + q * ty : Nat) : Int)) := ⟨e2, eR, e5, e6, e7, e8, u1, u2⟩
        have HS3 : Hid (Six w _ g SX SY TX TY U1 U2) := ((HS.out.two SX SY TX TY).three U1 U2).drew.drew
        have HM : Hid ((BI + RI).toNat < (AI + BI).toNat) := hmeas
        clear hlim i1 e1 e2 e3 e4 e5 e6 e7 e8 hst hstp hl2 hqa hrb eQ eR hm1 hm2 u1 u2 hmeas eq er hst2
        go_wp2
        go_region
        all_goals go_wp2
        all_goals go_region
        all_goals go_wp2
        all_goals go_roundw
        case rel => exact ⟨b, r, sx, sy, tx, ty, sx + q * tx, sy + q * ty, !e, BI, RI, SX, SY, TX, TY, U1, U2, rfl, rfl, rfl, HE2, HK2, HS3⟩
        case measure => simp only [intOf]; exact HM.out
      · have HF : Hid ((fx = 0 ∧ fy = 0) ∨ Ret a0 b0 fx fy sx sy e) := HK.out.ret
        have HB := (HS.out.two FX FY SX SY).drew
        have HE2 : Hid (FX = (fx : Int) ∧ FY = (fy : Int) ∧ SX = (sx : Int) ∧ SY = (sy : Int)) := ⟨e3, e4, e5, e6⟩
        clear hlim i1 e1 e2 e3 e4 e5 e6 e7 e8 hst
        go_wp2
        go_region
        all_goals go_wp2
        all_goals generalize hW : World.drew _ = W' at *
        all_goals (have y1 := cell0 HB.f; have y2 := cell1 HB.f; have y3 := cell0 HB.s; have y4 := cell1 HB.s)
        all_goals (try simp only [Exit.inBlock, Exit.then])
        all_goals refine bodyPost_ret (v := .tuple #[.agg #[.int .u64 FX, .int .u64 FY], .agg #[.int .u64 SX, .int .u64 SY], .bool e]) ?_ rfl ?_
        · simp [results, go_sem, y1, y2, y3, y4]
        · obtain ⟨v1, v2, v3, v4⟩ := HE2.out
          rw [v1, v2, v3, v4]
          exact ⟨fx, fy, sx, sy, e, rfl, HF.out, by first | exact HB.below | (rw [hgg]; exact HB.below)⟩
    · have HF : Hid ((fx = 0 ∧ fy = 0) ∨ Ret a0 b0 fx fy sx sy e) := HK.out.ret
      have HB := (HS.out.two FX FY SX SY).drew
      have HE2 : Hid (FX = (fx : Int) ∧ FY = (fy : Int) ∧ SX = (sx : Int) ∧ SY = (sy : Int)) := ⟨e3, e4, e5, e6⟩
      clear hlim i1 e1 e2 e3 e4 e5 e6 e7 e8 hst
      go_wp2
      go_region
      all_goals go_wp2
      all_goals generalize hW : World.drew _ = W' at *
      all_goals (have y1 := cell0 HB.f; have y2 := cell1 HB.f; have y3 := cell0 HB.s; have y4 := cell1 HB.s)
      all_goals (try simp only [Exit.inBlock, Exit.then])
      all_goals refine bodyPost_ret (v := .tuple #[.agg #[.int .u64 FX, .int .u64 FY], .agg #[.int .u64 SX, .int .u64 SY], .bool e]) ?_ rfl ?_
      · simp [results, go_sem, y1, y2, y3, y4]
      · obtain ⟨v1, v2, v3, v4⟩ := HE2.out
        rw [v1, v2, v3, v4]
        exact ⟨fx, fy, sx, sy, e, rfl, HF.out, by first | exact HB.below | (rw [hgg]; exact HB.below)⟩
end Go.Proofs.YtefckmkcbgckfaaGreatDoor.AheadL
