/- What the decimal text of a natural is. -/
import Derived.Test.YtefckmkcbgckfaaGreatDoorSetAD
import Derived.Test.YtefckmkcbgckfaaGreatDoorSetAH
import Derived.Test.YtefckmkcbgckfaaGreatDoorSetAI
import Derived.Laws.BytesArg
namespace Go.Proofs.YtefckmkcbgckfaaGreatDoor.TextL
open Go.RowKit Mem LimbNum Limb1 Limb2 Limb4 NatNum DivNum NatL DivW CopyL DigNum StrL

theorem info8 : (Tryz.prog.info? 5).map (fun i => (i.zero, i.size, i.bytes)) = some (some (.int .u8 0), 1, 1) := by kernel_rfl
theorem fill_front (D : List Nat) (k b : Nat) : (List.replicate (k + 1) 0 ++ D).set k b = List.replicate k 0 ++ (b :: D) := by
  rw [List.set_append, if_pos (by simp)]
  rw [List.replicate_succ', List.set_append, if_neg (by simp)]
  simp
theorem grownSet {w wr : World} {g k : Nat} {v : Value} (h : w.grownBy wr (some g)) : w.grownBy (wr.setCell ⟨g, k, none⟩ v) (some g) :=
  ⟨h.os, h.tape, h.output, by simpa [World.setCell] using h.size, fun j hj hne => by
    rw [heap_setCell_other _ _ _ _ (by intro e; exact hne (by rw [e]))]; exact h.block j hj hne⟩
set_option maxRecDepth 20000 in
set_option maxHeartbeats 2000000 in
theorem text_pos (A : List Nat) (ao : Option Addr) (cap : Nat) (w : World) (h : Lies w ao cap (ints .u32 A)) (hA : Small A) (hl : A.length ≤ 17592186044416) (hN : val A ≠ 0) :
    Calls Tryz.prog 55 #[.slice ao A.length cap] w fun e w' => e = .returned (.string (bs (dl (val A)))) ∧ Below w.heap.size w w' := by
  obtain ⟨i0, hi, hz0, hz1, hz2⟩ := info_parts info8
  have cN := norm_any A ao cap w h hA (by omega)
  have k1 := nl_len A hA
  have k3 : val A < 4294967296 ^ (nl (val A)).length := by have := val_lt (nl (val A)) (small_nl _); rwa [val_nl] at this
  have k2 := (nl_last (val A) hN).1
  obtain ⟨N, eN⟩ : ∃ N, N = val A := ⟨_, rfl⟩
  rw [← eN] at cN k1 k2 k3 hN ⊢
  obtain ⟨m, em⟩ : ∃ m, m = (nl N).length := ⟨_, rfl⟩
  rw [← em] at cN k1 k2 k3
  obtain ⟨L, eL⟩ : ∃ L, L = 10 * m + 9 := ⟨_, rfl⟩
  have eLi : 10 * (m : Int) + 9 = (L : Int) := by omega
  have HL : Hid (L = 10 * m + 9) := eL
  have K3 : Hid (N < 4294967296 ^ m) := k3
  have HN : Hid (N ≠ 0) := hN
  have HM : Hid (m = (nl N).length) := em
  have hLl : L ≤ 175921860444169 := by omega
  have m0 : ((m : Int) == 0) = false := by simp; omega
  clear h hA k3 hN em eL eN
  go_enter Tryz.func55, Tryz.ntmps55
  go_wp2_with (first
    | (go_at_call 40; refine cN.mono ?_; rintro e w1 ⟨o1, c1, rfl, hown1, hb1⟩)
    | (at_make; refine wpList_make_full _ rfl _ _ 95 rfl w1.heap.size 5 i0 (.int .u8 0) 1 Tryz.underlying95 hi hz0 hz1 .i64 .i64 _ _ L rfl rfl (by first | exact eLi | rfl) (by first | exact eLi | rfl) (by rw [hz2]; omega) (by unfold maxLen; omega) (Nat.le_refl _) ?_; intro w3 hown hgr))
  have hown0 : w3.ownsRow w1.heap.size 5 1 (.slice (some ⟨w1.heap.size, 0, none⟩) L L) L (ints .u8 (List.replicate L 0 ++ [])) := by
    rw [List.append_nil, ints_zero, ← toList_madeCells_one]; rw [Nat.mul_one] at hown; exact hown
  have hb3 : Below w1.heap.size w1 w3 := (Below.refl _ _).grown hgr (Nat.le_refl _) (by simp)
  have hown2 : w3.ownsRow w.heap.size 48 1 (.slice o1 m c1) m (ints .u32 (nl N)) := keep hown1 hb3
  have hs1 := hb1.size
  clear hown hgr cN hown1 eLi
  generalize hgg : w1.heap.size = g at *
  generalize hbb : w.heap.size = bb at *
  go_loopw [3, 5] (fun rv fv wr => ∃ (q F : Nat) (D : List Nat) (o : Option Addr) (c : Nat), rv = .slice o (nl q).length c ∧ fv = .int .i64 (F : Int) ∧ Hid (F + D.length = L) ∧ F ≤ L ∧ DG D ∧ Hid (N = q * 10 ^ D.length + dv D) ∧ Hid (q ≤ N) ∧
      wr.ownsRow bb 48 1 (.slice o (nl q).length c) (nl q).length (ints .u32 (nl q)) ∧ wr.ownsRow g 5 1 (.slice (some ⟨g, 0, none⟩) L L) L (ints .u8 (List.replicate F 0 ++ D)) ∧ Below g w1 wr)
    (fun _ fv _ => (intOf fv).toNat)
  case atStart => exact ⟨N, L, [], o1, c1, by rw [HM.out], rfl, by unfold Hid; simp, Nat.le_refl _, by intro d hd; simp at hd, by unfold Hid; simp [dv], Nat.le_refl _, by rw [← HM.out]; exact hown2, hown0, hb3⟩
  case round =>
    clear hown0 hb3 hown2
    obtain ⟨q, F, D, o, c, rfl, rfl, HF, hFL, hD, HV, HQ, hownr, hownt, hb⟩ := hrel
    have hs := hb.size
    by_cases hq : q = 0
    · subst hq
      have hdv : dv D = N := by have := HV.out; omega
      have hlD : D.length = L - F := by have := HF.out; omega
      have hcell : ∀ i, i < D.length → wr.cell? ⟨g, F + i, none⟩ = some (.int .u8 ((D.getD i 0 : Nat) : Int)) := by
        intro i hi
        rw [hownt.cellAt (F + i) (by omega), ints_get _ _ _ (by simp; omega)]
        congr 3
        rw [List.getD_eq_getElem?_getD, List.getElem?_append_right (by simp), List.length_replicate, Nat.add_sub_cancel_left, List.getD_eq_getElem?_getD]
      have hfin : Below w.heap.size w wr := by rw [hbb]; exact hb1.trans (hb.mono (by omega))
      have hsome : ∀ i, i ≤ D.length → (∀ j, j < i → D.getD j 0 = 48) → i < D.length := by
        intro i hi hz
        rcases Nat.lt_or_ge i D.length with h1 | h1
        · exact h1
        · exfalso
          have e1 := dv_drop D i hz hi
          rw [List.drop_eq_nil_of_le h1, hdv] at e1
          exact HN.out e1.symm
      have hend : ∀ i, (∀ j, j < i → D.getD j 0 = 48) → i < D.length → D.getD i 0 ≠ 48 → D.drop i = dl N := by
        intro i hz hi hne
        have e1 := dl_is _ (D.drop i) rfl (fun d hd => hD d (List.mem_of_mem_drop hd)) (.inr (by
          rw [List.getD_eq_getElem?_getD, List.getElem?_drop, Nat.add_zero, ← List.getD_eq_getElem?_getD]; exact hne))
        rwa [dv_drop D i hz (by omega), hdv] at e1
      have n0 : (nl 0).length = 0 := by rw [nl_zero]; rfl
      rw [n0]
      clear hownr hownt HV HQ hdv n0
      have HE : Hid (∀ i, (∀ j, j < i → D.getD j 0 = 48) → i < D.length → D.getD i 0 ≠ 48 → D.drop i = dl N) := hend
      have HS : Hid (∀ i, i ≤ D.length → (∀ j, j < i → D.getD j 0 = 48) → i < D.length) := hsome
      have HC : Hid (∀ i, i < D.length → wr.cell? ⟨g, F + i, none⟩ = some (.int .u8 ((D.getD i 0 : Nat) : Int))) := hcell
      have HD : Hid (DG D) := hD
      have HLD : Hid (D.length = L - F) := hlD
      clear hend hsome hcell hD hlD
      go_wp2
      go_loop [5] (fun fv => ∃ i, fv = .int .i64 (((F + i : Nat)) : Int) ∧ i < D.length ∧ Hid (∀ j, j < i → D.getD j 0 = 48)) (fun fv => L - (intOf fv).toNat)
      case atStart => exact ⟨0, rfl, HS.out 0 (by omega) (fun j hj => by omega), fun j hj => by omega⟩
      case round =>
        obtain ⟨i, rfl, hi, HZ⟩ := hrel
        have d1 := HC.out i hi
        have hFi : F + i < L := by have := HLD.out; omega
        have hdg := HD.out _ (getD_in D i hi)
        obtain ⟨x, ex⟩ : ∃ x, x = D.getD i 0 := ⟨_, rfl⟩
        rw [← ex] at d1 hdg
        by_cases hx : x = 48
        · have HZ2 : Hid (∀ j, j < i + 1 → D.getD j 0 = 48) := fun j hj => by
            rcases Nat.lt_or_ge j i with h1 | h1
            · exact HZ.out j h1
            · rw [show j = i by omega, ← ex]; exact hx
          have hi2 := HS.out (i + 1) (by omega) HZ2.out
          subst hx
          clear ex
          generalize hfi : F + i = P at *
          go_wp2
          go_round
          case rel => exact ⟨i + 1, by rw [← Nat.add_assoc, hfi]; go_num, hi2, HZ2⟩
          case measure => simp [intOf]; omega
        · have e2 := HE.out i HZ.out hi (by rw [← ex]; exact hx)
          have hconv : ∀ dst, Tryz.prog.underlying dst = some .string → (convert 95 dst (.slice (some ⟨g, F + i, none⟩) (D.drop i).length (L - (F + i)))).run Tryz.prog wr = .ok (.string (bs (D.drop i))) wr := by
            intro dst hdst
            rw [← nums_bs]
            refine run_convert_bytes_arg wr 95 5 Tryz.underlying95 Tryz.underlying5 g (F + i) _ _ _ (by simp) ?_ dst hdst
            intro k hk
            simp only [List.length_drop] at hk
            rw [Nat.add_assoc, HC.out (i + k) (by omega)]
            congr 2
            rw [List.getD_eq_getElem?_getD, List.getD_eq_getElem?_getD, List.getElem?_map, List.getElem?_drop, List.getElem?_eq_getElem (by omega)]
            rfl
          have hlen : (D.drop i).length = L - (F + i) := by rw [List.length_drop, HLD.out]; omega
          rw [e2] at hconv hlen
          rw [hlen] at hconv
          have hcv := hconv 9 Tryz.underlying9
          have hFi2 : ((F + i : Nat) : Int) ≤ (L : Int) := by omega
          have hcast : ((L : Int) - ((F + i : Nat) : Int)).toNat = L - (F + i) := by omega
          have hx0 : 48 ≤ x := hdg.1
          clear hconv hlen e2 ex HZ HE HS HC HD
          obtain ⟨T, eT⟩ : ∃ T, T = dl N := ⟨_, rfl⟩
          rw [← eT] at hcv
          have HT : Hid (T = dl N) := eT
          clear eT
          generalize hfi : F + i = P at *
          go_wp2
          go_ret
          exact ⟨by rw [HT.out]; rfl, by first | exact hfin | (rw [← hbb]; exact hfin)⟩
    · have hroom := text_room N q D.length (dv D) m (by omega) HV.out K3.out
      have hF9 : 9 < F := by have := HF.out; have := HL.out; omega
      have hql := (nl_last q hq).1
      have hqm : (nl q).length ≤ m := by rw [HM.out]; exact nl_mono _ _ HQ.out
      have cD := divword_any (nl q) 1000000000 o c wr (lies_of_owns hownr) (small_nl _) (by omega) (by omega) (by omega)
      rw [val_nl] at cD
      have hlow : q % 1000000000 < 1000000000 := Nat.mod_lt _ (by omega)
      have hdiv : q = q / 1000000000 * 1000000000 + q % 1000000000 := by omega
      have HQ2 : Hid (q / 1000000000 ≤ N) := Nat.le_trans (Nat.div_le_self _ _) HQ.out
      obtain ⟨q2, eq2⟩ : ∃ x, x = q / 1000000000 := ⟨_, rfl⟩
      obtain ⟨lo, elo⟩ : ∃ x, x = q % 1000000000 := ⟨_, rfl⟩
      rw [← eq2, ← elo] at cD
      rw [← elo] at hlow
      rw [← eq2] at HQ2
      have HV2 : Hid (N = (q2 * 10 ^ 9 + lo) * 10 ^ D.length + dv D) := by unfold Hid; rw [show (10 : Nat) ^ 9 = 1000000000 by decide, show q2 * 1000000000 + lo = q by omega]; exact HV.out
      have qi : (0 : Int) < ((nl q).length : Int) := by omega
      clear hdiv eq2 elo HV HQ hroom hqm hq
      generalize nl q = NQ at *
      obtain ⟨li, eli⟩ : ∃ x : Int, x = (lo : Int) := ⟨_, rfl⟩
      rw [← eli] at cD
      have ELI : Hid (li = (lo : Int)) := eli
      have li0 : 0 ≤ li := by omega
      have li1 : li < 1000000000 := by omega
      clear eli
      go_wp2_with (go_at_call 48; refine cD.mono ?_; rintro e w5 ⟨o5, c5, rfl, hown5, hb5⟩)
      have hown6 := keep hownt hb5
      have hg7 := (hownt.lt g rfl).2
      have hb6 : Below g w1 w5 := hb.trans (hb5.mono (by omega))
      have hs5 := hb5.size
      clear hownr hownt cD
      go_loopw [5, 6, 28] (fun fv lv cv wr2 => ∃ (j G : Nat) (E : List Nat) (lo2 : Nat) (L2 : Int), cv = .int .i64 (j : Int) ∧ j ≤ 9 ∧ fv = .int .i64 (G : Int) ∧ lv = .int .u32 L2 ∧ 0 ≤ L2 ∧ L2 < 1000000000 ∧ Hid (L2 = (lo2 : Int)) ∧ Hid (G + E.length = L) ∧ G ≤ L ∧ Hid (G + j = F) ∧ DG E ∧ Hid (N = (q2 * 10 ^ (9 - j) + lo2) * 10 ^ E.length + dv E) ∧ Hid (lo2 < 10 ^ (9 - j)) ∧
          wr2.ownsRow wr.heap.size 48 1 (.slice o5 (nl q2).length c5) (nl q2).length (ints .u32 (nl q2)) ∧ wr2.ownsRow g 5 1 (.slice (some ⟨g, 0, none⟩) L L) L (ints .u8 (List.replicate G 0 ++ E)) ∧ Below g w1 wr2)
        (fun _ _ cv _ => 9 - (intOf cv).toNat)
      case atStart => exact ⟨0, F, D, lo, li, rfl, by omega, rfl, rfl, li0, li1, ELI, HF, hFL, by unfold Hid; omega, hD, HV2, hlow, hown5, hown6, hb6⟩
      case round =>
        clear hown5 hown6 hb6
        obtain ⟨j, G, E, lo2, L2, rfl, hj, rfl, rfl, hL0, hL1, EL, HG, hGL, HJ, hE, HW, HLO, hownr, hownt, hb7⟩ := hrel
        have hs7 := hb7.size
        by_cases hj9 : j < 9
        · obtain ⟨G1, eG⟩ : ∃ G1, G = G1 + 1 := ⟨G - 1, by have := HJ.out; omega⟩
          subst eG
          obtain ⟨cc, ecc⟩ : ∃ cc, 9 - j = cc + 1 := ⟨9 - j - 1, by omega⟩
          have ecc2 : 9 - (j + 1) = cc := by omega
          have hstep := text_step q2 lo2 cc E.length (dv E)
          have HWo := HW.out
          have HLo := HLO.out
          rw [ecc] at HWo HLo
          rw [hstep] at HWo
          have hlo10 : lo2 / 10 < 10 ^ cc := by rw [Nat.pow_succ] at HLo; omega
          have hdvc : dv ((48 + lo2 % 10) :: E) = lo2 % 10 * 10 ^ E.length + dv E := by rw [dv_cons, Nat.add_sub_cancel_left]
          have hE2 : DG ((48 + lo2 % 10) :: E) := by
            intro d hd
            rcases List.mem_cons.1 hd with h1 | h1
            · omega
            · exact hE d h1
          have hf := hownt.frozenAt G1
          have hcw : wr.cell? ⟨g, G1, none⟩ = some (.int .u8 0) := by
            rw [hownt.cellAt G1 (by omega), ints_get _ _ _ (by simp; omega)]
            congr 2
            rw [List.getD_eq_getElem?_getD, List.getElem?_append_left (by simp)]
            simp
          have hR := (hownt.stored G1 (.int .u8 (((48 + lo2 % 10 : Nat)) : Int))).1
          rw [ints_set, fill_front] at hR
          have eB : 48 + L2 % 10 = ((48 + lo2 % 10 : Nat) : Int) := by have := EL.out; omega
          rw [← eB] at hR
          have hr2 := hownr.kept (w' := wr.setCell ⟨g, G1, none⟩ (.int .u8 (48 + L2 % 10))) (row := some g) (grownSet ⟨rfl, rfl, rfl, Nat.le_refl _, fun _ _ _ => rfl⟩) (.inr (fun e => by have := (hownr.lt g e).1; omega))
          have hb8 : Below g w1 (wr.setCell ⟨g, G1, none⟩ (.int .u8 (48 + L2 % 10))) := hb7.setCell (by exact Nat.le_refl _) _
          have hGi : (G1 : Int) < (L : Int) := by omega
          have EL2 : Hid (L2 / 10 = ((lo2 / 10 : Nat) : Int)) := by have := EL.out; unfold Hid; omega
          have l20 : 0 ≤ L2 / 10 := by omega
          have l21 : L2 / 10 < 1000000000 := by omega
          have HG2 : Hid (G1 + ((48 + lo2 % 10) :: E).length = L) := by have := HG.out; unfold Hid; simp; omega
          have HJ2 : Hid (G1 + (j + 1) = F) := by have := HJ.out; unfold Hid; omega
          have HW2 : Hid (N = (q2 * 10 ^ (9 - (j + 1)) + lo2 / 10) * 10 ^ ((48 + lo2 % 10) :: E).length + dv ((48 + lo2 % 10) :: E)) := by unfold Hid; rw [ecc2, hdvc, List.length_cons]; exact HWo
          have HLO2 : Hid (lo2 / 10 < 10 ^ (9 - (j + 1))) := by unfold Hid; rw [ecc2]; exact hlo10
          clear HWo HLo hstep hdvc hlo10 ecc ecc2 eB hownr hownt HW HLO HJ HG EL
          generalize (48 + lo2 % 10) :: E = E2 at *
          generalize lo2 / 10 = lo3 at *
          go_wp2
          go_roundw
          case rel => exact ⟨j + 1, G1, E2, lo3, L2 / 10, by go_num, by omega, by go_num, by go_num, l20, l21, EL2, HG2, by omega, HJ2, hE2, HW2, HLO2, by first | exact hr2 | trace_state, by first | exact hR | trace_state, hb8⟩
          case measure => simp [intOf]; omega
        · have ej : j = 9 := by omega
          subst ej
          have hlo0 : lo2 = 0 := by have := HLO.out; simp at this; exact this
          have HV3 : Hid (N = q2 * 10 ^ E.length + dv E) := by have := HW.out; unfold Hid; rw [hlo0] at this; simpa using this
          have hGF : G < F := by have := HJ.out; omega
          clear HW HLO hlo0
          go_wp2
          go_roundw
          case rel => exact ⟨q2, G, E, o5, c5, rfl, rfl, HG, hGL, hE, HV3, HQ2, owns_base hownr (by omega), hownt, hb7⟩
          case measure => simp [intOf]; omega
set_option maxRecDepth 20000 in
theorem text_zero (A : List Nat) (ao : Option Addr) (cap : Nat) (w : World) (h : Lies w ao cap (ints .u32 A)) (hA : Small A) (hl : A.length ≤ 17592186044416) (hN : val A = 0) :
    Calls Tryz.prog 55 #[.slice ao A.length cap] w fun e w' => e = .returned (.string (bs [48])) ∧ Below w.heap.size w w' := by
  have cN := norm_any A ao cap w h hA (by omega)
  rw [hN, nl_zero] at cN
  simp only [List.length_nil] at cN
  clear h hA
  go_enter Tryz.func55, Tryz.ntmps55
  go_wp2_with (go_at_call 40; refine cN.mono ?_; rintro e w1 ⟨o1, c1, rfl, hown1, hb1⟩)
  go_ret
  exact ⟨rfl, hb1⟩
/-- Text: the number's digits. -/
theorem text_any (A : List Nat) (ao : Option Addr) (cap : Nat) (w : World) (h : Lies w ao cap (ints .u32 A)) (hA : Small A) (hl : A.length ≤ 17592186044416) :
    Calls Tryz.prog 55 #[.slice ao A.length cap] w fun e w' => e = .returned (.string (bs (tx (val A)))) ∧ Below w.heap.size w w' := by
  unfold tx
  by_cases hN : val A = 0
  · rw [if_pos hN]; exact text_zero A ao cap w h hA hl hN
  · rw [if_neg hN]; exact text_pos A ao cap w h hA hl hN
end Go.Proofs.YtefckmkcbgckfaaGreatDoor.TextL
