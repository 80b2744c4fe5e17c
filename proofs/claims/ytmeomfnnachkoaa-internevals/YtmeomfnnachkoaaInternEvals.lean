/- InternEvals: truth, parts and numbers of all nodes of a table are right. No conditions. -/
import Derived.Test.YtmeomfnnachkoaaRows
import Derived.Test.YtmeomfnnachkoaaChecked
import Derived.Test.YtmeomfnnachkoaaAwI
import Derived.Test.YtmeomfnnachkoaaOpI
import Derived.Test.YtmeomfnnachkoaaEvA
import Derived.Test.YtmeomfnnachkoaaTblL
import Derived.Test.YtmeomfnnachkoaaAppS
import Derived.Test.YtmeomfnnachkoaaAppL
import Derived.Test.YtmeomfnnachkoaaREv
import Derived.Test.YtmeomfnnachkoaaRchL
import Derived.JoinedOf
import Derived.JoinedAt
import Derived.BigQuiet
import Derived.BigRegion
import Derived.WalkSmall
import Derived.SizedLaws
import Derived.Deep.CutRange
import Derived.Deep.RegionHeld3
namespace Go.Proofs.Ytmeomfnnachkoaa.internEvals
open Go.ChangeShapes Go.WideShapes Go.ChangeAt Go.RowKit
open Go.Maps Mem NdNum TabL NumL DoL DoA PlayL AwI OpI MeanN EvL EvA TblL AppS AppL RefN RefD PlR REv RchN RchL

theorem own : ownKnob Try.prog.godebug = none := by kernel_rfl
theorem one_bools (V : List Bool) : ∀ u ∈ V.map Value.bool, u.oneCell' = true := by
  intro u hu
  simp only [List.mem_map] at hu
  obtain ⟨x, _, rfl⟩ := hu
  rfl
theorem cell_kept {w w' : World} {p : Addr} {v : Value} (hb : Below w.heap.size w w') (h : w.cell? p = some v) : w'.cell? p = some v := by
  rw [hb.cell (World.block_lt_of_cell? w p h)]; exact h
theorem copied2 {W W' : World} {V : List Bool} {v : Value} (ho : W'.ownsRow 0 4 1 v (0 + V.length) ([] ++ V.map Value.bool)) (hg : (W.alloc (.cells #[] 4)).grownBy W' (Value.slice (some ⟨W.heap.size, 0, none⟩) 0 0).ownBlock) :
    ∃ o c, v = .slice o V.length c ∧ Lies W' o c (V.map Value.bool) ∧ Below W.heap.size W W' := by
  rw [Nat.zero_add, List.nil_append] at ho
  obtain ⟨o, c, rfl⟩ := owns_shape ho
  refine ⟨o, c, rfl, lies_of_owns ho, ?_⟩
  have b1 : Below W.heap.size W (W.alloc (.cells #[] 4)) := (Below.refl _ W).alloc (Nat.le_refl _) _
  exact b1.grown hg b1.size (by simp [Value.ownBlock])
def Six (w : World) (g b j : Nat) (n : Nd) : Prop := w.cell? ⟨g, 0, none⟩ = some (.int .i64 n.1) ∧ w.cell? ⟨g, 1, none⟩ = some (.int .i64 n.2.1) ∧ w.cell? ⟨g, 2, none⟩ = some (.int .i64 n.2.2) ∧ w.cell? ⟨b, j * 3, none⟩ = some (.int .i64 n.1) ∧ w.cell? ⟨b, j * 3 + 1, none⟩ = some (.int .i64 n.2.1) ∧ w.cell? ⟨b, j * 3 + 2, none⟩ = some (.int .i64 n.2.2)
theorem Six.kept {w w' : World} {g b j : Nat} {n : Nd} (h : Six w g b j n) (hb : Below w.heap.size w w') : Six w' g b j n :=
  ⟨cell_kept hb h.1, cell_kept hb h.2.1, cell_kept hb h.2.2.1, cell_kept hb h.2.2.2.1, cell_kept hb h.2.2.2.2.1, cell_kept hb h.2.2.2.2.2⟩
theorem six_kept {w w' : World} {g b j : Nat} {n : Nd} (hb : Below w.heap.size w w') (h : w.cell? ⟨g, 0, none⟩ = some (.int .i64 n.1) ∧ w.cell? ⟨g, 1, none⟩ = some (.int .i64 n.2.1) ∧ w.cell? ⟨g, 2, none⟩ = some (.int .i64 n.2.2) ∧ w.cell? ⟨b, j * 3, none⟩ = some (.int .i64 n.1) ∧ w.cell? ⟨b, j * 3 + 1, none⟩ = some (.int .i64 n.2.1) ∧ w.cell? ⟨b, j * 3 + 2, none⟩ = some (.int .i64 n.2.2)) : w'.cell? ⟨g, 0, none⟩ = some (.int .i64 n.1) ∧ w'.cell? ⟨g, 1, none⟩ = some (.int .i64 n.2.1) ∧ w'.cell? ⟨g, 2, none⟩ = some (.int .i64 n.2.2) ∧ w'.cell? ⟨b, j * 3, none⟩ = some (.int .i64 n.1) ∧ w'.cell? ⟨b, j * 3 + 1, none⟩ = some (.int .i64 n.2.1) ∧ w'.cell? ⟨b, j * 3 + 2, none⟩ = some (.int .i64 n.2.2) := Six.kept h hb
/-- How far the law's own reckoning has come: m numbers are left. -/
structure LS (w wr : World) (c I : Nat) (N : List Nd) (F : List Bool) (m d : Nat) (S : List Bool) : Prop where
  len : S.length = I + 1
  fin : (rrun N m S).1 = F
  row : wr.ownsRow c 4 1 (.slice (some ⟨c, 0, none⟩) (I + 1) (I + 1)) (I + 1) (bs S)
  list : wr.ownsRow (c + 1) 3 1 (.slice (some ⟨d, 0, none⟩) 0 0) 0 (zs (nats []))
  low : Below c w wr
theorem LS.same {w wr : World} {c I m d : Nat} {N : List Nd} {F S : List Bool} (h : LS w wr c I N F (m + 1) d S) (e : stepN N m S = S) : LS w wr c I N F m d S := by
  have f := h.fin
  simp only [rrun, e] at f
  exact ⟨h.len, f, h.row, h.list, h.low⟩
theorem LS.drew {w wr : World} {c I m d : Nat} {N : List Nd} {F S : List Bool} (h : LS w wr c I N F m d S) : LS w wr.drew c I N F m d S := ⟨h.len, h.fin, h.row, h.list, h.low.drew⟩
theorem LS.put {w wr : World} {c I m d : Nat} {N : List Nd} {F S : List Bool} (h : LS w wr c I N F (m + 1) d S) (a b : Nat) (x y : Bool) (e : stepN N m S = (S.set a x).set b y) : LS w ((wr.setCell ⟨c, a, none⟩ (.bool x)).setCell ⟨c, b, none⟩ (.bool y)) c I N F m d ((S.set a x).set b y) := by
  have f := h.fin
  simp only [rrun, e] at f
  exact ⟨by simp [h.len], f, bs_store (bs_store h.row a x) b y, own_set (own_set h.list (by omega) _ _) (by omega) _ _, (h.low.setCell (Nat.le_refl _) _).setCell (Nat.le_refl _) _⟩
theorem kinds {N : List Nd} (hi : InForm N) {k : Nat} (h : k < N.length + 2) : (nd N k).1 < 4 ∨ ((nd N k).1 = 4 ∧ (nd N k).2.2 = 0 ∧ 0 ≤ (nd N k).2.1 ∧ (nd N k).2.1 < (k : Int)) ∨ (((nd N k).1 = 5 ∨ (nd N k).1 = 6) ∧ (0 ≤ (nd N k).2.1 ∧ (nd N k).2.1 < (k : Int)) ∧ 0 ≤ (nd N k).2.2 ∧ (nd N k).2.2 < (k : Int)) := by
  rcases Nat.lt_or_ge k 2 with h2 | h2
  · left
    rcases (show k = 0 ∨ k = 1 by omega) with rfl | rfl
    · rw [nd_zero]; decide
    · rw [nd_one]; decide
  · have hf := hi.fine k h2 h
    unfold Fine at hf
    omega
set_option maxRecDepth 20000 in
set_option maxHeartbeats 2000000 in
theorem walk (L : List Nd) (ao : Option Addr) (cap : Nat) (i : Int) (V : List Bool) (vo : Option Addr) (vc : Nat) (w : World) (h : Li w ao cap L) (hw : ∀ n ∈ L, Wf n) (hV : Lies w vo vc (V.map Value.bool)) (hvc : vc ≤ 140737488351232) :
    Calls Try.prog 6 #[.slice ao L.length cap, .int .i64 i, .slice vo V.length vc] w fun e w' => e = .returned (.bool true) ∧ Below w.heap.size w w' := by
  obtain ⟨i0, hi0, hz0, hz1, hz2⟩ := info_parts infoB
  have cF := few_any L ao cap w h
  have hwT : ∀ n ∈ L.take 200, Wf n := fun n hn => hw n (List.mem_of_mem_take hn)
  have hlT : (L.take 200).length ≤ 200 := by simp; omega
  generalize L.take 200 = T at *
  have cT := fun (W : World) (o : Option Addr) (c : Nat) (h : Li W o c T) => table_any T o c W h hwT
  have cR := fun (W : World) (o : Option Addr) (c : Nat) (h : Li W o c T) => played_any T o c W h hwT hlT
  have hin := inForm_play (N := []) inForm_nil hwT
  generalize playN [] T = P at *
  obtain ⟨N, rs⟩ := P
  simp only at cT cR hin
  obtain ⟨M, eM⟩ : ∃ M : Nat, N.length + 2 = M := ⟨_, rfl⟩
  rw [eM] at cR
  have HM : Hid (N.length + 2 = M) := eM
  have hM : M ≤ 20000 := by have := hin.len; omega
  generalize eK : T.length = K at *
  have hvl : V.length ≤ vc := by have := hV.1; simpa using this
  have HV0 : Hid (Lies w vo vc (V.map Value.bool)) := hV
  have HIN : Hid (InForm N) := hin
  generalize eVL : V.length = VL at *
  have EL : Hid (V.length = VL) := eVL
  have ln : (V.map Value.bool).length = VL := by rw [List.length_map]; exact eVL
  have hvm : VL ≤ 140737488351232 := by omega
  have l1c := one_bools V
  have lW := fun (W : World) (hb : Below w.heap.size w W) => HV0.out.below hb (Nat.le_refl _)
  have cA := fun (W : World) => AwI.awake_any W
  clear h hw hwT hV hin eM eVL
  go_enter Try.func6, Try.ntmps6
  go_upto_region 7 with (first
    | (go_at_call 8; refine cF.mono ?_; rintro e w1 ⟨o1, c1, rfl, r1, hb1⟩; have L1 := li_of_owns (by rw [eK]; exact r1))
    | (go_at_call 12; refine (cT _ _ _ L1).mono ?_; rintro e w2 ⟨r, m, rfl, t2, hrm, hb2⟩; have L2 := L1.below hb2 (Nat.le_refl _); have B2 := bt hb1 hb2)
    | (go_at_call 10; refine (cR _ _ _ L2).mono ?_; rintro e w3 ⟨b, c, d, c2, rfl, l3, _, hb3⟩; have t3 := t2.below hb3; have B3 := bt B2 hb3; have oA : (w3.alloc (.cells #[] 4)).ownsRow 0 4 1 (.slice (some ⟨w3.heap.size, 0, none⟩) 0 0) 0 [] := World.ownsRow_made w3 #[] 0 (Nat.zero_le _) (by decide) rfl; have bA : Below w3.heap.size w3 (w3.alloc (.cells #[] 4)) := (Below.refl _ w3).alloc (Nat.le_refl _) _; have l1 := lW _ (bt B3 bA))
    | (at_builtin; refine wpList_append_lies _ rfl _ _ 37 rfl 0 4 i0 (.bool false) 1 Try.underlying37 hi0 hz0 hz1 hz2 rfl (.slice (some ⟨w3.heap.size, 0, none⟩) 0 0) 0 [] rfl oA vo VL vc (V.map Value.bool) rfl ln l1 l1c (by unfold maxLen; omega) (by omega) (Nat.zero_le _) ?_; intro v6 w6 ho hg; obtain ⟨o6, c6, rfl, l6, b6⟩ := copied2 (V := V) (by rw [EL.out]; exact ho) hg; rw [EL.out]; have t6 := t3.below b6; have cE := eval_any t6 i V o6 c6 l6; rw [EL.out] at cE)
    | (go_at_call 14; refine cE.mono ?_; rintro e w7 ⟨rfl, b7⟩; have t7 := t6.below b7; have cRc := reach_any t7 i)
    | (go_at_call 16; refine cRc.mono ?_; rintro e w8 ⟨o8, c8, rfl, l8, b8⟩; have t8 := t7.below b8; have cNd := tnode_any t8 i; unfold node at cNd)
    | (go_at_call 17; refine cNd.mono ?_; rintro e w9 ⟨rfl, b9⟩))
  have l9 := (l3.below (bt (bt b6 b7) (bt b8 b9)))
  have r9 := l8.below b9 (Nat.le_refl _)
  have B9 := bt B3 (bt (bt b6 b7) (bt b8 b9))
  have v9 := lW _ B9
  clear cF cT cR cE cRc cNd L1 L2 r1 hb1 hb2 hb3 B2 B3 oA bA l1 l6 b6 b7 b8 b9 t2 t3 t6 t7 t8 l3 l8 lW hrm ln l1c
  by_cases ha : hasN N i = true
  · have h1 := hasN_iff.1 ha
    obtain ⟨I, rfl⟩ : ∃ I : Nat, i = (I : Int) := ⟨i.toNat, by omega⟩
    have hIM : I < M := by have := HM.out; omega
    have hIN : I < N.length + 2 := by omega
    rw [if_pos ha, ha, Bool.true_and, Int.toNat_natCast]
    obtain ⟨R, eR⟩ : ∃ R, reachN N (I : Int) = R := ⟨_, rfl⟩
    rw [eR] at r9 ⊢
    obtain ⟨RL, eRL⟩ : ∃ RL, R.length = RL := ⟨_, rfl⟩
    rw [eRL]
    have HR : Hid (reachN N (I : Int) = R ∧ R.length = RL) := ⟨eR, eRL⟩
    have hRL : RL ≤ 20000 := by have := r9.1; rw [← eRL, ← eR]; unfold reachN; rw [if_pos ha, List.length_reverse, Int.toNat_natCast]; have := rrun_out_len N (I + 1) (startN I); omega
    obtain ⟨f0, f1, f2⟩ := row_at l9.2 rfl hIN
    have q := fun (w : World) => neq_node w (nd N I) (nd N I) (nd_wf HIN.out hIN) (nd_wf HIN.out hIN)
    simp only [beq_self_eq_true, Bool.not_true] at q
    obtain ⟨W0, eW0⟩ : ∃ W0, w9.alloc (.cells #[.int .i64 (nd N I).1, .int .i64 (nd N I).2.1, .int .i64 (nd N I).2.2] 33) = W0 := ⟨_, rfl⟩
    have B0 : Below w9.heap.size w9 W0 := by rw [← eW0]; exact (Below.refl _ w9).alloc (Nat.le_refl _) _
    have k0 : W0.heap[w9.heap.size]? = some (.cells #[.int .i64 (nd N I).1, .int .i64 (nd N I).2.1, .int .i64 (nd N I).2.2] 33) := by rw [← eW0]; exact heap_alloc_new w9 _
    obtain ⟨d0, d1, d2⟩ := cells3 k0
    have six : Six W0.drew w9.heap.size b I (nd N I) := ⟨d0, d1, d2, cell_kept B0.drew f0, cell_kept B0.drew f1, cell_kept B0.drew f2⟩
    have cE := fun (W : World) (hb : Below w9.heap.size w9 W) => reval_any (l9.below hb) I hIN V vo vc (v9.below hb (Nat.le_refl _))
    rw [HM.out, EL.out] at cE
    obtain ⟨y, ey⟩ : ∃ y, ev V N (I : Int) = y := ⟨_, rfl⟩
    rw [ey] at cE ⊢
    generalize nd N I = n at *
    clear f0 f1 f2 d0 d1 d2 k0 ey ha h1 eR eRL
    have hB0 := B0.drew
    go_upto_region 9 with fail
    go_cut [115] from 20 to 114 (fun v wx => v = .bool false ∧ Hid (Below w9.heap.size w9 wx))
    case first =>
      unfold Six at six
      go_region_held3 (fun w' => w'.cell? ⟨w9.heap.size, 0, none⟩ = some (.int .i64 n.1) ∧ w'.cell? ⟨w9.heap.size, 1, none⟩ = some (.int .i64 n.2.1) ∧ w'.cell? ⟨w9.heap.size, 2, none⟩ = some (.int .i64 n.2.2) ∧ w'.cell? ⟨b, I * 3, none⟩ = some (.int .i64 n.1) ∧ w'.cell? ⟨b, I * 3 + 1, none⟩ = some (.int .i64 n.2.1) ∧ w'.cell? ⟨b, I * 3 + 2, none⟩ = some (.int .i64 n.2.2))
        (first | with_reducible exact six | with_reducible exact six_kept b10 six | with_reducible exact six_kept b12 (six_kept b10 six))
        (first
         | (go_at_call 11; refine (cA _).mono ?_; rintro e w10 ⟨rfl, b10⟩; have b11 := bt hB0 b10)
         | (go_at_call 18; refine (cE _ b11).mono ?_; rintro e w12 ⟨rfl, b12⟩; have b13 := bt b11 b12))
      all_goals go_wp2
      all_goals go_meet
      all_goals exact ⟨rfl, b13⟩
    case rest =>
    obtain ⟨rfl, HB10⟩ := hcut
    obtain ⟨wA, ewA⟩ : ∃ W, W = wc := ⟨_, rfl⟩
    subst ewA
    have HL : Hid (Lst wA b c N) := l9.below HB10.out
    have HRR : Hid (Lies wA o8 c8 (zs (nats R))) := r9.below HB10.out (Nat.le_refl _)
    have BA : Hid (Below w.heap.size w wA) := bt B9 HB10.out
    obtain ⟨F, eF⟩ : ∃ F, (rrun N (I + 1) (startN I)).1 = F := ⟨_, rfl⟩
    have HF : Hid (R = (List.range (I + 1)).filter (fun k : Nat => at0 F (k : Int)) ∧ F.length = I + 1) := by
      refine ⟨?_, by rw [← eF, rrun_len, startN_len]⟩
      rw [← HR.out.1, reachN_eq HIN.out hIN, eF]
    have hI2 : I < 20000 := by omega
    clear l9 r9 B9 v9 cE cA six B0 hB0 HB10 q HV0 eW0
    go_wp2_with (at_make; refine wpList_make_full _ rfl _ _ 37 rfl wA.heap.size 4 i0 (.bool false) 1 Try.underlying37 hi0 hz0 hz1 .i64 .i64 ((I : Int) + 1) ((I : Int) + 1) (I + 1) rfl rfl (by simp) (by simp) (by rw [hz2]; omega) (by unfold maxLen; omega) (Nat.le_refl _) ?_; intro w2 hown2 hgr2; rw [Nat.mul_one] at hown2; have fz := hown2.frozenAt; have cl0 := hown2.cellAt I (by omega); rw [show (madeCells (Value.bool false).cells (I + 1)).toList = List.replicate (I + 1) (.bool false) from toList_madeCells_one _ _, List.getElem?_replicate, if_pos (by omega)] at cl0)
    have hb2 : Below wA.heap.size wA w2 := (Below.refl _ wA).grown hgr2 (Nat.le_refl _) (by simp)
    have hlt2 : wA.heap.size < w2.heap.size := (hown2.lt wA.heap.size rfl).2
    have ho3 := (hown2.stored I (.bool true)).1
    rw [start_row] at ho3
    have hs3 : (w2.setCell ⟨wA.heap.size, I, none⟩ (.bool true)).heap.size = w2.heap.size := by simp [World.setCell]
    have ls0 : LS wA ((w2.setCell ⟨wA.heap.size, I, none⟩ (.bool true)).alloc (.cells #[] 3)) wA.heap.size I N F (I + 1) w2.heap.size (startN I) := by
      refine ⟨startN_len I, eF, ho3.alloc _, ?_, (hb2.setCell (Nat.le_refl _) _).alloc (by rw [hs3]; omega) _⟩
      have := World.ownsRow_made (base := wA.heap.size + 1) (e := 3) (size := 1) (w2.setCell ⟨wA.heap.size, I, none⟩ (.bool true)) #[] 0 (by rw [hs3]; omega) (by decide) rfl
      rw [hs3] at this
      exact this
    clear hgr2 hown2 fz cl0 ho3 hb2 eF
    generalize (w2.setCell ⟨wA.heap.size, I, none⟩ (.bool true)).alloc (.cells #[] 3) = w3 at *
    generalize hgg : wA.heap.size = cA at *
    generalize w2.heap.size = dW at *
    clear hs3 hlt2
    go_loopw [17] (fun kv wr => ∃ (m : Nat) (S : List Bool), m ≤ I + 1 ∧ kv = .int .i64 ((m : Int) - 1) ∧ Hid (LS wA wr cA I N F m dW S)) (fun kv _ => ((intOf kv) + 1).toNat)
    case atStart => exact ⟨I + 1, startN I, Nat.le_refl _, by simp, ls0⟩
    case round =>
      clear ls0
      obtain ⟨m, S, hm, rfl, HR2⟩ := hrel
      by_cases hlt : 0 < m
      · obtain ⟨k, rfl⟩ : ∃ k, m = k + 1 := ⟨m - 1, by omega⟩
        rw [show ((k + 1 : Nat) : Int) - 1 = (k : Int) by omega]
        have hr := HR2.out
        have hkI : k < I + 1 := by omega
        have hkM : k < M := by omega
        have hkN : k < N.length + 2 := by have := HM.out; omega
        have ck := bs_at hr.row hr.len hkI
        have hcl := (hr.row.lt cA rfl).2
        have hbl : b < cA := by have := HL.out.lt; omega
        have bel : ∀ W, Below cA wA W → Below wA.heap.size wA W := fun W h => by rw [hgg]; exact h
        obtain ⟨f0, f1, f2⟩ := row_at (HL.out.below (bel _ hr.low)).2 rfl hkN
        cases hS : at0 S (k : Int) with
        | false =>
          rw [hS] at ck
          have hr2 : Hid (LS wA wr cA I N F k dW S) := hr.same (step_off hS)
          clear hr hS bel
          go_wp2
          go_roundw
          case rel => exact ⟨k, S, by omega, rfl, hr2⟩
          case measure => simp [intOf]
        | true =>
          rw [hS] at ck
          rcases kinds HIN.out hkN with h4 | ⟨h4, hB, hA0, hA1⟩ | ⟨h5, ⟨hA0, hA1⟩, hB0, hB1⟩
          · have hr2 : Hid (LS wA wr cA I N F k dW S) := hr.same (step_none h4)
            have h4' : ¬ (4 : Int) ≤ (nd N k).1 := by omega
            generalize nd N k = n at *
            clear hr hS bel
            go_wp2
            go_roundw
            case rel => exact ⟨k, S, by omega, rfl, hr2⟩
            case measure => simp [intOf]
          · obtain ⟨a, ea⟩ : ∃ a : Nat, (nd N k).2.1 = (a : Int) := ⟨(nd N k).2.1.toNat, by omega⟩
            have est := step_not hS h4
            rw [ea, Int.toNat_natCast] at est
            rw [h4] at f0
            rw [ea] at f1
            rw [hB] at f2
            have haI : a < I + 1 := by omega
            obtain ⟨x, ex⟩ : ∃ x, at0 (S.set a true) ((0 : Nat) : Int) = x := ⟨_, rfl⟩
            have hput : Hid (LS wA ((wr.setCell ⟨cA, a, none⟩ (.bool true)).setCell ⟨cA, 0, none⟩ (.bool x)) cA I N F k dW ((S.set a true).set 0 x)) := hr.put a 0 true x (by rw [est, ← ex, set_self])
            have ca := bs_at hr.row hr.len haI
            have fz := hr.row.frozenAt
            obtain ⟨W1, eW1⟩ : ∃ W1, wr.setCell ⟨cA, a, none⟩ (.bool true) = W1 := ⟨_, rfl⟩
            rw [eW1] at hput
            have low1 : Below cA wA W1 := by rw [← eW1]; exact hr.low.setCell (Nat.le_refl _) _
            have row1 : W1.ownsRow cA 4 1 (.slice (some ⟨cA, 0, none⟩) (I + 1) (I + 1)) (I + 1) (bs (S.set a true)) := by rw [← eW1]; exact bs_store hr.row a true
            obtain ⟨g0, g1, g2⟩ := row_at (HL.out.below (bel _ low1)).2 rfl hkN
            rw [h4] at g0
            rw [hB] at g2
            have c0 := bs_at row1 (by rw [List.length_set]; exact hr.len) (k := 0) (by omega)
            rw [ex] at c0
            have fz1 := row1.frozenAt
            clear hr bel est low1 row1 ex hS g1 ea hB h4 hA0 hA1
            cases x
            · go_wp2
              go_region
              go_wp2
              go_roundw
              case rel => exact ⟨k, _, by omega, rfl, hput.out.drew⟩
              case measure => simp [intOf]
            · go_wp2
              go_region
              go_wp2
              go_roundw
              case rel => exact ⟨k, _, by omega, rfl, hput.out.drew⟩
              case measure => simp [intOf]
          · obtain ⟨a, ea⟩ : ∃ a : Nat, (nd N k).2.1 = (a : Int) := ⟨(nd N k).2.1.toNat, by omega⟩
            obtain ⟨e, ee⟩ : ∃ e : Nat, (nd N k).2.2 = (e : Int) := ⟨(nd N k).2.2.toNat, by omega⟩
            have est := step_two hS h5
            rw [ea, ee, Int.toNat_natCast, Int.toNat_natCast] at est
            rw [ea] at f1
            rw [ee] at f2
            have haI : a < I + 1 := by omega
            have heI : e < I + 1 := by omega
            have hput : Hid (LS wA ((wr.setCell ⟨cA, a, none⟩ (.bool true)).setCell ⟨cA, e, none⟩ (.bool true)) cA I N F k dW ((S.set a true).set e true)) := hr.put a e true true est
            have ca := bs_at hr.row hr.len haI
            have fz := hr.row.frozenAt
            obtain ⟨W1, eW1⟩ : ∃ W1, wr.setCell ⟨cA, a, none⟩ (.bool true) = W1 := ⟨_, rfl⟩
            rw [eW1] at hput
            have low1 : Below cA wA W1 := by rw [← eW1]; exact hr.low.setCell (Nat.le_refl _) _
            have row1 : W1.ownsRow cA 4 1 (.slice (some ⟨cA, 0, none⟩) (I + 1) (I + 1)) (I + 1) (bs (S.set a true)) := by rw [← eW1]; exact bs_store hr.row a true
            obtain ⟨g0, g1, g2⟩ := row_at (HL.out.below (bel _ low1)).2 rfl hkN
            rw [ee] at g2
            have c0 := bs_at row1 (by rw [List.length_set]; exact hr.len) heI
            have fz1 := row1.frozenAt
            have hge : (4 : Int) ≤ (nd N k).1 := by omega
            have hgt : (4 : Int) < (nd N k).1 := by omega
            obtain ⟨kd, ekd⟩ : ∃ kd, (nd N k).1 = kd := ⟨_, rfl⟩
            rw [ekd] at f0 g0 hge hgt
            generalize at0 (S.set a true) (e : Int) = x at *
            clear hr bel est low1 row1 hS g1 ea ee h5 hA0 hA1 hB0 hB1 ekd
            cases x
            · go_wp2
              go_region
              go_wp2
              go_roundw
              case rel => exact ⟨k, _, by omega, rfl, hput.out.drew⟩
              case measure => simp [intOf]
            · go_wp2
              go_region
              go_wp2
              go_roundw
              case rel => exact ⟨k, _, by omega, rfl, hput.out.drew⟩
              case measure => simp [intOf]
      · obtain rfl : m = 0 := by omega
        rw [show ((0 : Nat) : Int) - 1 = -1 from rfl]
        obtain ⟨j0, hj0, hy0, hy1, hy2⟩ := info_parts infoI
        have hr := HR2.out
        obtain rfl : S = F := hr.fin
        have HO1 : Hid (wr.ownsRow cA 4 1 (.slice (some ⟨cA, 0, none⟩) (I + 1) (I + 1)) (I + 1) (bs S)) := hr.row
        have HO2 : Hid (wr.ownsRow (cA + 1) 3 1 (.slice (some ⟨dW, 0, none⟩) 0 0) 0 (zs (nats ((List.range 0).filter (fun k : Nat => at0 S (k : Int)))))) := hr.list
        have HO3 : Hid (Below cA wA wr) := hr.low
        have hcl : Hid (cA < wr.heap.size) := (hr.row.lt cA rfl).2
        clear hr HR2
        go_wp2
        go_loopw [16, 18] (fun v16 kv wr2 => ∃ (k d c nO : Nat) (O : List Nat), k ≤ I + 1 ∧ kv = .int .i64 k ∧ v16 = .slice (some ⟨d, 0, none⟩) nO c ∧ Hid (O.length = nO) ∧ Hid (O = (List.range k).filter (fun k : Nat => at0 S (k : Int))) ∧ Hid (wr2.ownsRow cA 4 1 (.slice (some ⟨cA, 0, none⟩) (I + 1) (I + 1)) (I + 1) (bs S)) ∧ Hid (wr2.ownsRow (cA + 1) 3 1 (.slice (some ⟨d, 0, none⟩) nO c) nO (zs (nats O))) ∧ Hid (Below cA wA wr2)) (fun _ kv _ => I + 1 - (intOf kv).toNat)
        case atStart => exact ⟨0, dW, 0, 0, [], Nat.zero_le _, rfl, rfl, rfl, rfl, HO1, HO2, HO3⟩
        case round =>
          clear HO1 HO2 HO3 hcl
          obtain ⟨k, d, c, nO, O, hk, rfl, rfl, EN, HOe, H1, H2, H3⟩ := hrel
          by_cases hk1 : k < I + 1
          · have ck := bs_at H1.out HF.out.2 hk1
            have hcl := (H1.out.lt cA rfl).2
            have hOl : nO ≤ k := by rw [← EN.out, HOe.out]; exact Nat.le_trans (List.length_filter_le _ _) (by simp)
            cases hS : at0 S (k : Int) with
            | false =>
              rw [hS] at ck
              have E : Hid (O = (List.range (k + 1)).filter (fun k : Nat => at0 S (k : Int))) := by unfold Hid; rw [List.range_succ, List.filter_append, ← HOe.out]; simp [hS]
              clear hS
              go_wp2
              go_roundw
              case rel => exact ⟨k + 1, d, c, nO, O, by omega, by simp, rfl, EN, E, H1, H2, H3⟩
              case measure => simp [intOf]; omega
            | true =>
              rw [hS] at ck
              have E : Hid (O ++ [k] = (List.range (k + 1)).filter (fun k : Nat => at0 S (k : Int))) := by unfold Hid; rw [List.range_succ, List.filter_append, ← HOe.out]; simp [hS]
              have o2 := H2.out
              clear hS
              go_wp2_with (at_builtin; refine wpList_append_own_at _ rfl _ _ 24 rfl (cA + 1) 3 j0 (.int .i64 0) 1 8 Try.underlying24 hj0 hy0 hy1 hy2 rfl (by decide) (.slice (some ⟨d, 0, none⟩) nO c) nO (zs (nats O)) rfl (o2.alloc _) ⟨wr.heap.size, 0, none⟩ 1 1 [.int .i64 (k : Int)] rfl rfl (new_one wr _ _) (by simp [Value.oneCell']) (by unfold maxLen; omega) (by omega) (by simp; omega) ?_; intro v7 w4 hown4 hgrow4 hnil4 hloc4; obtain ⟨gb, c3, rfl⟩ := own_slice hown4 (by omega))
              go_roundw
              case rel =>
                have hl : (O ++ [k]).length = nO + 1 := by rw [List.length_append, EN.out]; rfl
                have low4 : Below cA wA w4 := (H3.out.alloc (by omega) _).grown hgrow4 (by simp; omega) (fun j hj => by have := (o2.lt j hj).1; omega)
                exact ⟨k + 1, gb, c3, nO + 1, O ++ [k], by omega, by simp, rfl, hl, E, row_beside H1.out o2 hgrow4, by unfold Hid; rw [nats_snoc]; exact hown4, low4⟩
              case measure => simp [intOf]; omega
          · obtain rfl : k = I + 1 := by omega
            obtain rfl : O = R := HOe.out.trans HF.out.1.symm
            obtain rfl : RL = nO := HR.out.2.symm.trans EN.out
            have BW : Below wA.heap.size wA wr := by rw [hgg]; exact H3.out
            have RR : Hid (Lies wr o8 c8 (zs (nats O))) := HRR.out.below BW (Nat.le_refl _)
            have H0 : Hid (Below w.heap.size w wr) := bt BA.out BW
            clear BW H1 H3
            go_wp2
            go_loopw [190] (fun kv wr2 => ∃ k : Nat, k ≤ RL ∧ kv = .int .i64 k ∧ Hid (Below wr.heap.size wr wr2)) (fun kv _ => RL - (intOf kv).toNat)
            case atStart => exact ⟨0, Nat.zero_le _, rfl, Below.refl _ _⟩
            case round =>
              obtain ⟨j, hj, rfl, HB⟩ := hrel
              by_cases hjl : j < RL
              · obtain ⟨b8, of8, rfl, _, c8'⟩ := (RR.out.below HB.out (Nat.le_refl _)).2.2.2 (by simp [zs, nats_len]; have := HR.out.2; omega)
                have y1 := c8' j (by simp [zs, nats_len]; have := HR.out.2; omega)
                have y2 := (keep H2.out HB.out).cellAt j (by omega)
                rw [show (zs (nats O))[j]? = some (.int .i64 ((nats O)[j]?.getD 0)) by unfold zs; rw [List.getElem?_map, List.getElem?_eq_getElem (by rw [nats_len]; have := HR.out.2; omega)]; rfl] at y1 y2
                generalize (nats O)[j]?.getD 0 = z at *
                clear c8'
                go_wp2
                go_region
                all_goals go_wp2
                all_goals go_roundw
                case rel => exact ⟨j + 1, by omega, by simp, HB.out.drew⟩
                case measure => simp [intOf]; omega
              · obtain rfl : j = RL := by omega
                go_wp2
                go_ret
                exact ⟨rfl, bt H0.out HB.out⟩
  · have hf : hasN N i = false := by simpa using ha
    have e1 : reachN N i = [] := by unfold reachN; rw [if_neg ha]
    rw [if_neg ha, hf, e1, Bool.false_and]
    have q := fun (w : World) => eql_node w (0, 0, 0) (0, 0, 0) ⟨rfl, rfl, rfl⟩ ⟨rfl, rfl, rfl⟩
    simp only [beq_self_eq_true] at q
    have hor : i < 0 ∨ (0 ≤ i ∧ (M : Int) ≤ i) := by
      have h2 : ¬ (0 ≤ i ∧ i < (N.length : Int) + 2) := fun h => ha (hasN_iff.2 h)
      have := HM.out
      omega
    have bz : Below w9.heap.size w9 (w9.alloc (.cells #[.int .i64 0, .int .i64 0, .int .i64 0] 33)) := (Below.refl _ _).alloc (Nat.le_refl _) _
    clear ha hf e1
    rcases hor with h0 | ⟨h0, h1⟩
    all_goals go_wp2_with (go_at_call 11; refine (cA _).mono ?_; rintro e w10 ⟨rfl, b10⟩; have kz : w10.heap[w9.heap.size]? = some (.cells #[.int .i64 0, .int .i64 0, .int .i64 0] 33) := (b10.block _ (by simp)).trans (heap_alloc_new w9 _); obtain ⟨d0, d1, d2⟩ := cells3 kz)
    all_goals go_ret
    all_goals exact ⟨rfl, bt (bt B9 bz) b10⟩
set_option maxRecDepth 100000 in
theorem lifted (os : Os) (started : os.Started) (H : Type) (enc : TypeId × Value → H) :
    ReturnsInHanded {} Try.checked os 6 .any (Rows.internEvalsSpec.pre6 enc Try.prog Try.f6 Rows.internEvalsRow.domain false) (Rows.internEvalsSpec.post enc Try.prog Try.f6 false true false false) := by
  refine returnsInHanded_of_change_sized (C := Try.checked) own started (by kernel_rfl) Try.func6
    (ChangeSpec.witness6 (enc := enc) (C := Try.checked) false ⟨#[], #[.slice none 0 0, .int .i64 0, .slice none 0 0], []⟩ 8 (by kernel_rfl) (by kernel_rfl) (by kernel_rfl) (by kernel_rfl)) ?_
  intro W base args ds gs before hval0 hW hcnd hsz0 _
  have hval : ∀ (j : Nat) t v, Try.f6.params[j]? = some t → args[j]? = some v → Value.okWide Try.prog W .any base t v := hval0
  have hW' := hW
  obtain ⟨p, q, hA0, hV, rfl, hfz, hnd⟩ := hW
  have hA : DataW.TrodAll enc Try.prog W 0 (fun _ => true) true Try.f6.params.toList args.toList ds p := hA0
  have hsz : (DataW.weightsEach Try.prog (Try.f6.params.toList ++ Rows.internEvalsSpec.plain.varTypes Try.prog) (ds ++ gs)).all (· ≤ reachBytes) = true := hsz0
  rw [Try.params6] at hA hval hsz
  obtain ⟨v0, vs0, d0, ds0, p0, q0, hargs, rfl, rfl, h0, r0⟩ := trodAll_cons hA
  obtain ⟨v1, vs1, d1, ds1, p1, q1, rfl, rfl, rfl, h1, r1⟩ := trodAll_cons r0
  obtain ⟨v2, vs2, d2, ds2, p2, q2, rfl, rfl, rfl, h2, r2⟩ := trodAll_cons r1
  obtain ⟨rfl, rfl, rfl⟩ := trodAll_nil r2
  obtain rfl : args = #[v0, v1, v2] := by cases args; simp_all
  obtain ⟨rfl, rfl⟩ := trodVars_none hV
  have k0 := h0
  have k1 := h1
  have k2 := h2
  have lt0 : ∀ x ∈ p0, x.block < W.heap.size := by obtain ⟨m, hm⟩ := k0; exact DataW.trod_lt m _ _ _ hm
  have lt1 : ∀ x ∈ p1, x.block < W.heap.size := by obtain ⟨m, hm⟩ := k1; exact DataW.trod_lt m _ _ _ hm
  have lt2 : ∀ x ∈ p2, x.block < W.heap.size := by obtain ⟨m, hm⟩ := k2; exact DataW.trod_lt m _ _ _ hm
  obtain ⟨a0, len0, cap0, rfl⟩ := okWide_slice Try.underlying22 (hval 0 22 v0 rfl rfl)
  obtain ⟨fu0, hf0⟩ := h0
  obtain ⟨ao0, c0, L0, e0, hl0, hw0⟩ := open_ops (by simpa [Value.cells] using hf0)
  simp only [Value.slice.injEq] at e0
  obtain ⟨rfl, rfl, rfl⟩ := e0
  obtain ⟨n1, rfl, _, _, wn1⟩ := open_int Try.underlying3 (hval 1 3 v1 rfl rfl) h1
  obtain ⟨a2, len2, cap2, rfl⟩ := okWide_slice Try.underlying37 (hval 2 37 v2 rfl rfl)
  obtain ⟨fu2, hf2⟩ := h2
  obtain ⟨ao2, c2, B2, e2, hl2, hz2⟩ := open_vals (by simpa [Value.cells] using hf2)
  simp only [Value.slice.injEq] at e2
  obtain ⟨rfl, rfl, rfl⟩ := e2
  have rz2 : cap2 ≤ 140737488351232 := by
    rcases hz2 with rfl | ⟨el, sp, hd, hs⟩
    · decide
    · simp only at hd
      subst hd
      have hre := sized_slice hsz (j := 2) (t := 37) (e := 4) rfl rfl Try.underlying37
      rw [show Try.prog.bytesOf 4 = 1 by kernel_rfl, hs] at hre
      simp only [reachBytes] at hre
      omega
  clear hA0 hval0
  refine (walk L0 _ _ n1 B2 _ _ W hl0 hw0 hl2 rz2).mono fun e W' ⟨he, bel⟩ => ?_
  subst he
  exact ⟨_, rfl, _, _, _, [], _, [], hW', trodAll_mk1 (shut_bool Try.underlying4 _), (trodAll_cons_mk (Below.trod laidOut (by kernel_rfl) (of_decide_eq_true (by kernel_rfl)) k0 bel lt0) (trodAll_cons_mk (Below.trod laidOut (by kernel_rfl) (of_decide_eq_true (by kernel_rfl)) k1 bel lt1) (trodAll_cons_mk (Below.trod laidOut (by kernel_rfl) (of_decide_eq_true (by kernel_rfl)) k2 bel lt2) trodAll_mk0))), rfl, bel.frame _, fun h => by cases h⟩
theorem over : Rows.internEvalsRow.holds Try.pinned (OpenSpec.ofChange Rows.internEvalsSpec) :=
  OpenClaim.holds_of_wide 6 Try.f6 rfl rfl rfl rfl rfl rfl rfl ⟨rfl, rfl, rfl, rfl, rfl⟩ rfl rfl rfl rfl rfl (by kernel_rfl) Try.func6 (by kernel_rfl)
    (of_decide_eq_true (by kernel_rfl)) (by unfold Func.isWrapper; first | (rw [if_pos (by decide +kernel)]; kernel_rfl) | (rw [if_neg (by decide +kernel)]; exact ⟨rfl, rfl⟩))
    (fun os started H enc _ => lifted os started H enc)
theorem proved : Rows.InternEvalsSaid := over
end Go.Proofs.Ytmeomfnnachkoaa.internEvals
namespace Go.Proofs.Ytmeomfnnachkoaa
/-- THE STATEMENT. -/
theorem internEvals_holds : Rows.InternEvalsSaid := internEvals.proved
#print axioms internEvals_holds
end Go.Proofs.Ytmeomfnnachkoaa
