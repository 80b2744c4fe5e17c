/- InternMeans: the node that an operation answers is true just where the operation says. No conditions. -/
import Derived.Test.YtmeomfnnachkoaaRows
import Derived.Test.YtmeomfnnachkoaaChecked
import Derived.Test.YtmeomfnnachkoaaAwI
import Derived.Test.YtmeomfnnachkoaaOpI
import Derived.Test.YtmeomfnnachkoaaEvA
import Derived.Test.YtmeomfnnachkoaaTblL
import Derived.Test.YtmeomfnnachkoaaAppS
import Derived.Test.YtmeomfnnachkoaaAppL
import Derived.JoinedOf
import Derived.JoinedAt
import Derived.BigQuiet
import Derived.WalkSmall
import Derived.SizedLaws
import Derived.Deep.CutRange
import Derived.Deep.RegionHeld3
namespace Go.Proofs.Ytmeomfnnachkoaa.internMeans
open Go.ChangeShapes Go.WideShapes Go.ChangeAt Go.RowKit
open Go.Maps Mem NdNum TabL NumL DoL DoA PlayL AwI OpI MeanN EvL EvA TblL AppS AppL

theorem own : ownKnob Try.prog.godebug = none := by kernel_rfl
theorem one_bools (V : List Bool) : ∀ u ∈ V.map Value.bool, u.oneCell' = true := by
  intro u hu
  simp only [List.mem_map] at hu
  obtain ⟨x, _, rfl⟩ := hu
  rfl
theorem cell_kept {w w' : World} {p : Addr} {v : Value} (hb : Below w.heap.size w w') (h : w.cell? p = some v) : w'.cell? p = some v := by
  rw [hb.cell (World.block_lt_of_cell? w p h)]; exact h
/-- What the append of truths onto an empty row leaves. -/
theorem copied {w W W' : World} {V : List Bool} {v : Value} (hb : Below w.heap.size w W) (ho : W'.ownsRow 0 4 1 v (0 + V.length) ([] ++ V.map Value.bool)) (hg : (W.alloc (.cells #[] 4)).drew.grownBy W' (Value.slice (some ⟨W.heap.size, 0, none⟩) 0 0).ownBlock) :
    ∃ o c, v = .slice o V.length c ∧ Lies W' o c (V.map Value.bool) ∧ Below w.heap.size w W' := by
  rw [Nat.zero_add, List.nil_append] at ho
  obtain ⟨o, c, rfl⟩ := owns_shape ho
  refine ⟨o, c, rfl, lies_of_owns ho, ?_⟩
  have b1 : Below w.heap.size w (W.alloc (.cells #[] 4)).drew := (hb.alloc hb.size _).drew
  exact b1.grown hg b1.size (by simp [Value.ownBlock]; exact hb.size)
theorem copied2 {W W' : World} {V : List Bool} {v : Value} (ho : W'.ownsRow 0 4 1 v (0 + V.length) ([] ++ V.map Value.bool)) (hg : (W.alloc (.cells #[] 4)).grownBy W' (Value.slice (some ⟨W.heap.size, 0, none⟩) 0 0).ownBlock) :
    ∃ o c, v = .slice o V.length c ∧ Lies W' o c (V.map Value.bool) ∧ Below W.heap.size W W' := by
  rw [Nat.zero_add, List.nil_append] at ho
  obtain ⟨o, c, rfl⟩ := owns_shape ho
  refine ⟨o, c, rfl, lies_of_owns ho, ?_⟩
  have b1 : Below W.heap.size W (W.alloc (.cells #[] 4)) := (Below.refl _ W).alloc (Nat.le_refl _) _
  exact b1.grown hg b1.size (by simp [Value.ownBlock])
set_option maxRecDepth 20000 in
set_option maxHeartbeats 2000000 in
theorem walk (L : List Nd) (ao : Option Addr) (cap : Nat) (op : Nd) (V : List Bool) (vo : Option Addr) (vc : Nat) (w : World) (h : Li w ao cap L) (hw : ∀ n ∈ L, Wf n) (hop : Wf op) (hV : Lies w vo vc (V.map Value.bool)) (hvc : vc ≤ 140737488351232) :
    Calls Try.prog 5 #[.slice ao L.length cap, node op, .slice vo V.length vc] w fun e w' => e = .returned (.bool true) ∧ Below w.heap.size w w' := by
  obtain ⟨i0, hi0, hz0, hz1, hz2⟩ := info_parts infoB
  obtain ⟨k, a, b⟩ := op
  obtain ⟨W0, eW0⟩ : ∃ W0, w.alloc (.cells #[.int .i64 k, .int .i64 a, .int .i64 b] 36) = W0 := ⟨_, rfl⟩
  have B0 : Below w.heap.size w W0 := by rw [← eW0]; exact (Below.refl _ w).alloc (Nat.le_refl _) _
  have k0 : W0.heap[w.heap.size]? = some (.cells #[.int .i64 k, .int .i64 a, .int .i64 b] 36) := by rw [← eW0]; exact heap_alloc_new w _
  obtain ⟨d0, d1, d2⟩ := cells3 k0
  have h0 := h.below B0 (Nat.le_refl _)
  have hV0 := hV.below B0 (Nat.le_refl _)
  have cF := few_any L ao cap W0 h0
  have hwT : ∀ n ∈ L.take 200, Wf n := fun n hn => hw n (List.mem_of_mem_take hn)
  have hlT : (L.take 200).length ≤ 200 := by simp; omega
  generalize L.take 200 = T at *
  have cT := fun (W : World) (o : Option Addr) (c : Nat) (h : Li W o c T) => table_any T o c W h hwT
  have hNl := play_len_le [] T
  generalize (playN [] T).1 = N at *
  generalize eK : T.length = K at *
  have hvl : V.length ≤ vc := by have := hV.1; simpa using this
  have HN : Hid (N.length ≤ 200) := by unfold Hid; simp at hNl; omega
  have HV0 : Hid (Lies W0 vo vc (V.map Value.bool)) := hV0
  have HB0 : Hid (Below w.heap.size w W0) := B0
  have HOP : Hid (Wf (k, a, b)) := hop
  generalize eVL : V.length = VL at *
  clear h hw hwT hNl h0 hV hV0 B0 k0 hop
  unfold node
  go_enter Try.func5, Try.ntmps5
  go_upto_region 3 with (first
    | (go_at_call 8; refine cF.mono ?_; rintro e w1 ⟨o1, c1, rfl, r1, hb1⟩; have L1 := li_of_owns (by rw [eK]; exact r1))
    | (go_at_call 12; refine (cT _ _ _ L1).mono ?_; rintro e w2 ⟨r, m, rfl, t2, hrm, hb2⟩; have B2 : Below W0.heap.size W0 w2 := bt hb1 hb2; have x0 := cell_kept B2 d0; have x1 := cell_kept B2 d1; have x2 := cell_kept B2 d2; have HT : Hid (Tab w2 w1.heap.size r m N ∧ (w1.heap.size ≤ r ∧ w1.heap.size ≤ m) ∧ Below W0.heap.size W0 w1 ∧ Below W0.heap.size W0 w2) := ⟨t2, hrm, hb1, B2⟩)
    | (go_at_call 13; refine (len_any t2).mono ?_; rintro e w3 ⟨rfl, hw3⟩; have hw4 := hw3.symm; clear hw3; subst hw4))
  clear cF cT r1 L1 hb1 hb2 B2 hrm
  have EL : Hid (V.length = VL) := eVL
  have cE := fun (W : World) (o : Option Addr) (c : Nat) (hb : Below w2.heap.size w2 W) (hl : Lies W o c (V.map Value.bool)) => eval_any (t2.below hb) a V o c hl
  have cE2 := fun (W : World) (o : Option Addr) (c : Nat) (hb : Below w2.heap.size w2 W) (hl : Lies W o c (V.map Value.bool)) => eval_any (t2.below hb) b V o c hl
  rw [eVL] at cE cE2
  have lV := fun (W : World) (hb : Below w2.heap.size w2 W) => (HV0.out.below HT.out.2.2.2 (Nat.le_refl _)).below hb (Nat.le_refl _)
  clear eVL
  have bD : Below w2.heap.size w2 w2.drew := (Below.refl _ w2).drew
  have bA : Below w2.heap.size w2 ((w2.alloc (.cells #[] 4)).drew) := ((Below.refl _ w2).alloc (Nat.le_refl _) _).drew
  have y1 : w2.drew.cell? ⟨w.heap.size, 1, none⟩ = some (.int .i64 a) := x1
  have z1 : ((w2.alloc (.cells #[] 4)).drew).cell? ⟨w.heap.size, 1, none⟩ = some (.int .i64 a) := cell_kept bA x1
  have oA : ((w2.alloc (.cells #[] 4)).drew).ownsRow 0 4 1 (.slice (some ⟨w2.heap.size, 0, none⟩) 0 0) 0 [] := World.ownsRow_made w2 #[] 0 (Nat.zero_le _) (by decide) rfl
  have l1 := lV _ bA
  have l1c := one_bools V
  have ln : (V.map Value.bool).length = VL := by rw [List.length_map]; exact EL.out
  have hvm : VL ≤ 140737488351232 := by omega
  go_cut [9, 10] from 24 to 33 (fun v9 v10 wx => v9 = .bool (hasN N a && ev V N a) ∧ v10 = .bool (hasN N a) ∧ Hid (Below w2.heap.size w2 wx))
  case first =>
    go_region_held3 (fun w' => w'.cell? ⟨w.heap.size, 1, none⟩ = some (.int .i64 a))
      (first | with_reducible exact y1 | with_reducible exact z1 | with_reducible exact y5 | with_reducible exact y6)
      (first
       | (refine step_append_lies rfl (.tmp 28) (.tmp 29) 37 rfl 0 4 i0 (.bool false) 1 Try.underlying37 hi0 hz0 hz1 hz2 rfl (.slice (some ⟨w2.heap.size, 0, none⟩) 0 0) 0 [] rfl oA vo VL vc (V.map Value.bool) rfl ln l1 l1c (by unfold maxLen; omega) (by omega) (Nat.zero_le _) ?_; intro v5 w5 ho hg; obtain ⟨o5, c5, rfl, l5, b5⟩ := copied (Below.refl _ w2) (V := V) (by rw [EL.out]; exact ho) hg; rw [EL.out]; have y5 := cell_kept b5 x1)
       | (go_at_call 14; refine (cE _ _ _ b5 l5).mono ?_; rintro e w6 ⟨rfl, b6⟩; have b7 := bt b5 b6; have y6 := cell_kept b7 x1))
    all_goals go_wp2
    all_goals go_meet
    all_goals exact ⟨rfl, rfl, b7⟩
  case rest =>
  obtain ⟨rfl, rfl, HB3⟩ := hcut
  obtain ⟨w3, ew3⟩ : ∃ W, W = wc := ⟨_, rfl⟩
  subst ew3
  have b3 := HB3.out
  have t3 := t2.below b3
  clear cE cE2 bD bA y1 z1 oA l1 x0 x1 x2
  have B3 : Below W0.heap.size W0 w3 := bt HT.out.2.2.2 b3
  have x2 := cell_kept B3 d2
  have bD : Below w3.heap.size w3 w3.drew := (Below.refl _ w3).drew
  have bA : Below w3.heap.size w3 ((w3.alloc (.cells #[] 4)).drew) := ((Below.refl _ w3).alloc (Nat.le_refl _) _).drew
  have y1 : w3.drew.cell? ⟨w.heap.size, 2, none⟩ = some (.int .i64 b) := x2
  have z1 : ((w3.alloc (.cells #[] 4)).drew).cell? ⟨w.heap.size, 2, none⟩ = some (.int .i64 b) := cell_kept bA x2
  have oA : ((w3.alloc (.cells #[] 4)).drew).ownsRow 0 4 1 (.slice (some ⟨w3.heap.size, 0, none⟩) 0 0) 0 [] := World.ownsRow_made w3 #[] 0 (Nat.zero_le _) (by decide) rfl
  have l1 := lV _ (bt b3 bA)
  have cE := fun (W : World) (o : Option Addr) (c : Nat) (hb : Below w3.heap.size w3 W) (hl : Lies W o c (V.map Value.bool)) => eval_any (t3.below hb) b V o c hl
  rw [EL.out] at cE
  go_upto_region 4 with fail
  go_cut [11, 12] from 34 to 43 (fun v9 v10 wx => v9 = .bool (hasN N b && ev V N b) ∧ v10 = .bool (hasN N b) ∧ Hid (Below w3.heap.size w3 wx))
  case first =>
    go_region_held3 (fun w' => w'.cell? ⟨w.heap.size, 2, none⟩ = some (.int .i64 b))
      (first | with_reducible exact y1 | with_reducible exact z1 | with_reducible exact y5 | with_reducible exact y6)
      (first
       | (refine step_append_lies rfl (.tmp 38) (.tmp 39) 37 rfl 0 4 i0 (.bool false) 1 Try.underlying37 hi0 hz0 hz1 hz2 rfl (.slice (some ⟨w3.heap.size, 0, none⟩) 0 0) 0 [] rfl oA vo VL vc (V.map Value.bool) rfl ln l1 l1c (by unfold maxLen; omega) (by omega) (Nat.zero_le _) ?_; intro v5 w5 ho hg; obtain ⟨o5, c5, rfl, l5, b5⟩ := copied (Below.refl _ w3) (V := V) (by rw [EL.out]; exact ho) hg; rw [EL.out]; have y5 := cell_kept b5 x2)
       | (go_at_call 14; refine (cE _ _ _ b5 l5).mono ?_; rintro e w6 ⟨rfl, b6⟩; have b7 := bt b5 b6; have y6 := cell_kept b7 x2))
    all_goals go_wp2
    all_goals go_meet
    all_goals exact ⟨rfl, rfl, b7⟩
  case rest =>
  obtain ⟨rfl, rfl, HB4⟩ := hcut
  obtain ⟨w4, ew4⟩ : ∃ W, W = wc := ⟨_, rfl⟩
  subst ew4
  have b4 := HB4.out
  have t4 := t3.below b4
  clear cE bD bA y1 z1 oA l1 x2
  have B4 : Below W0.heap.size W0 w4 := bt B3 b4
  have x0 := cell_kept B4 d0
  have x1 := cell_kept B4 d1
  have x2 := cell_kept B4 d2
  have cD := do_any t4 (k, a, b) HOP.out
  have HM := do_means V t4.1 HOP.out (by have := HN.out; omega)
  generalize doN N (k, a, b) = P at *
  obtain ⟨N2, q⟩ := P
  unfold ans node at cD
  simp only at cD
  obtain ⟨I, eI⟩ : ∃ I : Int, q.getD 0 = I := ⟨_, rfl⟩
  obtain ⟨ok, eok⟩ : ∃ ok : Bool, q.isSome = ok := ⟨_, rfl⟩
  rw [eI, eok] at cD
  have HQ : Hid (ok = may N (k, a, b) ∧ (ok = false → I = 0 ∧ N2 = N) ∧ (InForm N2 → hasN N2 I = true ∧ (ok = true → ev V N2 I = sem V N (k, a, b)))) := by
    subst eI eok
    refine ⟨HM.some_may, fun h => ?_, fun hi => ?_⟩
    · cases q with
      | none => exact ⟨rfl, HM.none_same rfl⟩
      | some i => simp at h
    · cases q with
      | none => exact ⟨has_lit.1, fun h => by simp at h⟩
      | some i => exact ⟨HM.there i rfl, fun _ => HM.means i rfl⟩
  clear HM eI eok
  have hg0 : W0.heap.size ≤ w1.heap.size := HT.out.2.2.1.size
  have hrm := HT.out.2.1
  have hs4 := B4.size
  have cA := fun (W : World) => AwI.awake_any W
  have lW := fun (W : World) (hb : Below W0.heap.size W0 W) => HV0.out.below hb (Nat.le_refl _)
  have y : True := trivial
  go_upto_region 7 with (first
    | (go_at_call 15; refine cD.mono ?_; rintro e w5 ⟨rfl, r5, m5, t5, aw5, _, _⟩; have B5 : Below W0.heap.size W0 w5 := B4.trans (aw5.below (by omega) (by omega) (by omega) (by omega)); have oA : (w5.alloc (.cells #[] 4)).ownsRow 0 4 1 (.slice (some ⟨w5.heap.size, 0, none⟩) 0 0) 0 [] := World.ownsRow_made w5 #[] 0 (Nat.zero_le _) (by decide) rfl; have bA : Below w5.heap.size w5 (w5.alloc (.cells #[] 4)) := (Below.refl _ w5).alloc (Nat.le_refl _) _; have l1 := lW _ (bt B5 bA))
    | (at_builtin; refine wpList_append_lies _ rfl _ _ 37 rfl 0 4 i0 (.bool false) 1 Try.underlying37 hi0 hz0 hz1 hz2 rfl (.slice (some ⟨w5.heap.size, 0, none⟩) 0 0) 0 [] rfl oA vo VL vc (V.map Value.bool) rfl ln l1 l1c (by unfold maxLen; omega) (by omega) (Nat.zero_le _) ?_; intro v6 w6 ho hg; obtain ⟨o6, c6, rfl, l6, b6⟩ := copied2 (V := V) (by rw [EL.out]; exact ho) hg; rw [EL.out]; have cE := eval_any (t5.below b6) I V o6 c6 l6; rw [EL.out] at cE; rw [(HQ.out.2.2 t5.1).1, Bool.true_and] at cE)
    | (go_at_call 14; refine cE.mono ?_; rintro e w7 ⟨rfl, b7⟩; have t7 := t5.below (bt b6 b7)))
  have hq := HQ.out
  have hq2 := hq.2.2 t5.1
  have b67 := bt b6 b7
  have cL := fun (W : World) (hb : Below w7.heap.size w7 W) => len_any (t7.below hb)
  obtain ⟨Y, eY⟩ : ∃ Y, ev V N2 I = Y := ⟨_, rfl⟩
  rw [eY] at hq2 ⊢
  have HQ2 : Hid (ok = may N (k, a, b) ∧ (ok = true → Y = sem V N (k, a, b))) := ⟨hq.1, hq2.2⟩
  have B7 : Below W0.heap.size W0 w7 := bt B5 b67
  clear cE eY hq2 cD x0 x1 x2 l1 l6 bA oA hs4 hrm hg0
  go_cut [78] from 59 to 77 (fun v wx => v = .bool false ∧ Hid (Below w7.heap.size w7 wx))
  case first =>
    cases ok with
    | false =>
      obtain ⟨rfl, rfl⟩ := hq.2.1 rfl
      clear hq
      go_wp2_with (first
        | (go_at_call 11; refine (cA _).mono ?_; rintro e w8 ⟨rfl, b8⟩)
        | (go_at_call 13; refine (cL _ b8).mono ?_; rintro e w9 ⟨rfl, hw3⟩; have hw4 := hw3.symm; clear hw3; subst hw4))
      go_meet
      exact ⟨rfl, b8⟩
    | true =>
      clear hq
      go_wp2_with (go_at_call 11; refine (cA _).mono ?_; rintro e w8 ⟨rfl, b8⟩)
      go_meet
      exact ⟨rfl, b8⟩
  case rest =>
  obtain ⟨rfl, HB8⟩ := hcut
  obtain ⟨w8, ew8⟩ : ∃ W, W = wc := ⟨_, rfl⟩
  subst ew8
  have B8 : Below W0.heap.size W0 w8 := bt B7 HB8.out
  have x0 := cell_kept B8 d0
  have x1 := cell_kept B8 d1
  have l8 := lW _ B8
  clear hq cL B7
  go_upto_region 11 with fail
  have FIN : Hid (Below w.heap.size w w8) := bt HB0.out B8
  obtain ⟨e1, e2⟩ := HQ2.out
  clear HQ HQ2 lV b67 B8 B5 B4 B3 HB8 b7 b6 t7 t5 aw5 cA t4 t3 t2 HV0 d0 d1 d2
  by_cases k1 : k = 1
  · subst k1
    obtain rfl : ok = true := e1
    obtain rfl : Y = false := e2 rfl
    clear e2
    go_wp2
    go_ret
    exact ⟨rfl, FIN.out⟩
  by_cases k2 : k = 2
  · subst k2
    obtain rfl : ok = true := e1
    obtain rfl : Y = true := e2 rfl
    clear e2
    go_wp2
    go_ret
    exact ⟨rfl, FIN.out⟩
  by_cases k3 : k = 3
  · subst k3
    have e1' : ok = decide (0 ≤ a) := e1
    by_cases ha : 0 ≤ a
    · obtain rfl : ok = true := by rw [e1']; exact decide_eq_true ha
      have e2' : Y = at0 V a := e2 rfl
      by_cases hlt : a < (VL : Int)
      · obtain ⟨n, rfl⟩ : ∃ n : Nat, a = (n : Int) := ⟨a.toNat, by omega⟩
        obtain ⟨vb, voff, rfl, hc⟩ := at_bool l8 (i := n) (by have := EL.out; omega)
        rw [← e2'] at hc
        clear e1 e2 e1' e2'
        cases Y
        all_goals go_wp2
        all_goals go_ret
        all_goals exact ⟨rfl, FIN.out⟩
      · obtain rfl : Y = false := by rw [e2']; unfold at0; rw [List.getElem?_eq_none (by have := EL.out; omega)]; rfl
        clear e1 e2 e1' e2'
        go_wp2
        go_ret
        exact ⟨rfl, FIN.out⟩
    · obtain rfl : ok = false := by rw [e1']; exact decide_eq_false ha
      clear e1 e2 e1'
      go_wp2
      go_ret
      exact ⟨rfl, FIN.out⟩
  by_cases k4 : k = 4
  · subst k4
    have e1' : ok = hasN N a := e1
    have e2' : ok = true → Y = !(ev V N a) := e2
    clear e1 e2
    generalize hasN N a = ha at *
    generalize ev V N a = ea at *
    generalize hasN N b = hb at *
    generalize ev V N b = eb at *
    subst e1'
    cases ok
    · clear e2'
      go_wp2
      go_ret
      exact ⟨rfl, FIN.out⟩
    · obtain rfl := e2' rfl
      cases ea
      all_goals go_wp2
      all_goals go_ret
      all_goals exact ⟨rfl, FIN.out⟩
  by_cases k5 : k = 5
  · subst k5
    have e1' : ok = (hasN N a && hasN N b) := e1
    have e2' : ok = true → Y = (ev V N a && ev V N b) := e2
    clear e1 e2
    generalize hasN N a = ha at *
    generalize ev V N a = ea at *
    generalize hasN N b = hb at *
    generalize ev V N b = eb at *
    subst e1'
    cases ha <;> cases hb <;> cases ea <;> cases eb
    all_goals simp at e2'
    all_goals try subst e2'
    all_goals try clear e2'
    all_goals go_wp2
    all_goals go_ret
    all_goals exact ⟨rfl, FIN.out⟩
  by_cases k6 : k = 6
  · subst k6
    have e1' : ok = (hasN N a && hasN N b) := e1
    have e2' : ok = true → Y = (ev V N a || ev V N b) := e2
    clear e1 e2
    generalize hasN N a = ha at *
    generalize ev V N a = ea at *
    generalize hasN N b = hb at *
    generalize ev V N b = eb at *
    subst e1'
    cases ha <;> cases hb <;> cases ea <;> cases eb
    all_goals simp at e2'
    all_goals try subst e2'
    all_goals try clear e2'
    all_goals go_wp2
    all_goals go_ret
    all_goals exact ⟨rfl, FIN.out⟩
  obtain rfl : ok = false := by rw [e1]; unfold may; simp [k1, k2, k3, k4, k5, k6]
  have q1 : (k == 1) = false := by simpa using k1
  have q2 : (k == 2) = false := by simpa using k2
  have q3 : (k == 3) = false := by simpa using k3
  have q4 : (k == 4) = false := by simpa using k4
  have q5 : (k == 5) = false := by simpa using k5
  have q6 : (k == 6) = false := by simpa using k6
  clear e1 e2
  go_wp2
  go_ret
  exact ⟨rfl, FIN.out⟩
set_option maxRecDepth 100000 in
theorem lifted (os : Os) (started : os.Started) (H : Type) (enc : TypeId × Value → H) :
    ReturnsInHanded {} Try.checked os 5 .any (Rows.internMeansSpec.pre6 enc Try.prog Try.f5 Rows.internMeansRow.domain false) (Rows.internMeansSpec.post enc Try.prog Try.f5 false true false false) := by
  refine returnsInHanded_of_change_sized (C := Try.checked) own started (by kernel_rfl) Try.func5
    (ChangeSpec.witness6 (enc := enc) (C := Try.checked) false ⟨#[], #[.slice none 0 0, .agg #[.int .i64 0, .int .i64 0, .int .i64 0], .slice none 0 0], []⟩ 8 (by kernel_rfl) (by kernel_rfl) (by kernel_rfl) (by kernel_rfl)) ?_
  intro W base args ds gs before hval0 hW hcnd hsz0 _
  have hval : ∀ (j : Nat) t v, Try.f5.params[j]? = some t → args[j]? = some v → Value.okWide Try.prog W .any base t v := hval0
  have hW' := hW
  obtain ⟨p, q, hA0, hV, rfl, hfz, hnd⟩ := hW
  have hA : DataW.TrodAll enc Try.prog W 0 (fun _ => true) true Try.f5.params.toList args.toList ds p := hA0
  have hsz : (DataW.weightsEach Try.prog (Try.f5.params.toList ++ Rows.internMeansSpec.plain.varTypes Try.prog) (ds ++ gs)).all (· ≤ reachBytes) = true := hsz0
  rw [Try.params5] at hA hval hsz
  obtain ⟨v0, vs0, d0, ds0, p0, q0, hargs, rfl, rfl, h0, r0⟩ := trodAll_cons hA
  obtain ⟨v1, vs1, d1, ds1, p1, q1, rfl, rfl, rfl, h1, r1⟩ := trodAll_cons r0
  obtain ⟨v2, vs2, d2, ds2, p2, q2, rfl, rfl, rfl, h2, r2⟩ := trodAll_cons r1
  obtain ⟨rfl, rfl, rfl⟩ := trodAll_nil r2
  obtain rfl : args = #[v0, v1, v2] := by cases args; simp_all
  obtain ⟨rfl, rfl⟩ := trodVars_none hV
  have k0 := h0
  have k1 := h1
  have k2 := h2
  have lt0 : ∀ x ∈ p0, x.block < W.heap.size := by obtain ⟨m, hm⟩ := k0; exact DataW.trod_lt m _ _ _ hm
  have lt1 : ∀ x ∈ p1, x.block < W.heap.size := by obtain ⟨m, hm⟩ := k1; exact DataW.trod_lt m _ _ _ hm
  have lt2 : ∀ x ∈ p2, x.block < W.heap.size := by obtain ⟨m, hm⟩ := k2; exact DataW.trod_lt m _ _ _ hm
  obtain ⟨a0, len0, cap0, rfl⟩ := okWide_slice Try.underlying22 (hval 0 22 v0 rfl rfl)
  obtain ⟨fu0, hf0⟩ := h0
  obtain ⟨ao0, c0, L0, e0, hl0, hw0⟩ := open_ops (by simpa [Value.cells] using hf0)
  simp only [Value.slice.injEq] at e0
  obtain ⟨rfl, rfl, rfl⟩ := e0
  obtain ⟨x10, x11, x12, y10, y11, y12, nn1, rfl, _, _, g10, g11, g12⟩ := Go.Joins.open_agg3 Try.underlying36 (by kernel_rfl) (by kernel_rfl) (hval 1 36 v1 rfl rfl) h1
  obtain ⟨n10, eq10, _, wn10⟩ := DataW.trod_int Try.underlying3 g10
  simp at eq10
  subst eq10
  obtain ⟨n11, eq11, _, wn11⟩ := DataW.trod_int Try.underlying3 g11
  simp at eq11
  subst eq11
  obtain ⟨n12, eq12, _, wn12⟩ := DataW.trod_int Try.underlying3 g12
  simp at eq12
  subst eq12
  obtain ⟨a2, len2, cap2, rfl⟩ := okWide_slice Try.underlying37 (hval 2 37 v2 rfl rfl)
  obtain ⟨fu2, hf2⟩ := h2
  obtain ⟨ao2, c2, B2, e2, hl2, hz2⟩ := open_vals (by simpa [Value.cells] using hf2)
  simp only [Value.slice.injEq] at e2
  obtain ⟨rfl, rfl, rfl⟩ := e2
  have rz2 : cap2 ≤ 140737488351232 := by
    rcases hz2 with rfl | ⟨el, sp, hd, hs⟩
    · decide
    · simp only at hd
      subst hd
      have hre := sized_slice hsz (j := 2) (t := 37) (e := 4) rfl rfl Try.underlying37
      rw [show Try.prog.bytesOf 4 = 1 by kernel_rfl, hs] at hre
      simp only [reachBytes] at hre
      omega
  clear hA0 hval0
  refine (walk L0 _ _ (n10, n11, n12) B2 _ _ W hl0 hw0 ⟨wn10, wn11, wn12⟩ hl2 rz2).mono fun e W' ⟨he, bel⟩ => ?_
  subst he
  exact ⟨_, rfl, _, _, _, [], _, [], hW', trodAll_mk1 (shut_bool Try.underlying4 _), (trodAll_cons_mk (Below.trod laidOut (by kernel_rfl) (of_decide_eq_true (by kernel_rfl)) k0 bel lt0) (trodAll_cons_mk (Below.trod laidOut (by kernel_rfl) (of_decide_eq_true (by kernel_rfl)) k1 bel lt1) (trodAll_cons_mk (Below.trod laidOut (by kernel_rfl) (of_decide_eq_true (by kernel_rfl)) k2 bel lt2) trodAll_mk0))), rfl, bel.frame _, fun h => by cases h⟩
theorem over : Rows.internMeansRow.holds Try.pinned (OpenSpec.ofChange Rows.internMeansSpec) :=
  OpenClaim.holds_of_wide 5 Try.f5 rfl rfl rfl rfl rfl rfl rfl ⟨rfl, rfl, rfl, rfl, rfl⟩ rfl rfl rfl rfl rfl (by kernel_rfl) Try.func5 (by kernel_rfl)
    (of_decide_eq_true (by kernel_rfl)) (by unfold Func.isWrapper; first | (rw [if_pos (by decide +kernel)]; kernel_rfl) | (rw [if_neg (by decide +kernel)]; exact ⟨rfl, rfl⟩))
    (fun os started H enc _ => lifted os started H enc)
theorem proved : Rows.InternMeansSaid := over
end Go.Proofs.Ytmeomfnnachkoaa.internMeans
namespace Go.Proofs.Ytmeomfnnachkoaa
/-- THE STATEMENT. -/
theorem internMeans_holds : Rows.InternMeansSaid := internMeans.proved
#print axioms internMeans_holds
end Go.Proofs.Ytmeomfnnachkoaa
