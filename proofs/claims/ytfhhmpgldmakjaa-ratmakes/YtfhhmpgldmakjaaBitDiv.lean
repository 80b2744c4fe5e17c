/- What the reference's quotient of lists of bits answers. -/
import Derived.Test.YtfhhmpgldmakjaaBitMul
import Derived.Test.YtfhhmpgldmakjaaRefC
import Derived.Test.YtfhhmpgldmakjaaRefS
import Derived.Test.YtfhhmpgldmakjaaAppL
namespace Go.Proofs.Ytfhhmpgldmakjaa.BitDiv
open Go.RowKit Mem LimbNum Limb1 RefL RefA RefH RefC RefS BitMul AppL

theorem bdiv_step (P D : List Bool) (k V R : Nat) (x : Bool) (hk : k < P.length) (hx : P.getD k false = x) (h : fromL (P.drop (k + 1)) = fromL D * V + R) :
    fromL (P.drop k) = fromL (false :: D) * V + (x.toNat + 2 * R) := by
  rw [fromL_drop P k hk, hx, h, fromL]; simp; grind
theorem bdiv_yes (D : List Bool) (V R T : Nat) (hv : V ≤ R) (h : T = fromL (false :: D) * V + R) : T = fromL (true :: D) * V + (R - V) := by
  rw [h, fromL, fromL]; simp
  obtain ⟨r, rfl⟩ : ∃ r, R = V + r := ⟨R - V, by omega⟩
  rw [Nat.add_sub_cancel_left, Nat.add_mul, Nat.one_mul]; omega
theorem bdiv_end (N V Q R : Nat) (h : N = Q * V + R) (hr : R < V) : Q = N / V ∧ R = N % V := by
  subst h
  rw [Nat.mul_comm, Nat.mul_add_div (by omega), Nat.mul_add_mod, Nat.div_eq_of_lt hr, Nat.mod_eq_of_lt hr]
  exact ⟨by omega, rfl⟩
theorem fill_low (D : List Bool) (k : Nat) (b : Bool) : (List.replicate (k + 1) false ++ D).set k b = List.replicate k false ++ (b :: D) := by
  rw [List.replicate_succ', List.append_assoc, List.set_append_right _ _ (by simp)]
  simp
theorem bools_set (l : List Bool) (i : Nat) (b : Bool) : (bools l).set i (.bool b) = bools (l.set i b) := by rw [bools, bools, List.map_set]
theorem nb_len_le (P : List Bool) (k V R : Nat) (h : fromL (P.drop k) = R + V) : (nb R).length ≤ P.length := by
  apply nb_lt
  have h1 := fromL_lt (P.drop k)
  have h2 : (2 : Nat) ^ (P.drop k).length ≤ 2 ^ P.length := Nat.pow_le_pow_right (by omega) (by simp)
  omega

set_option maxRecDepth 20000 in
set_option maxHeartbeats 2000000 in
/-- The reference's quotient and what is left. -/
theorem rdiv_core (P : List Bool) (V q r : Nat) (hq : Hid (q = fromL P / V)) (hr : Hid (r = fromL P % V)) (hV : 0 < V) (ao1 ao2 : Option Addr) (cap1 cap2 : Nat) (w : World) (h1 : Lies w ao1 cap1 (bools P)) (h2 : Lies w ao2 cap2 (bools (nb V))) (hl1 : P.length ≤ 1000000) :
    Calls Try.prog 58 #[.slice ao1 P.length cap1, .slice ao2 (nb V).length cap2] w fun e w' => ∃ o1 c1 o2 c2, e = .returned (.tuple #[.slice o1 (nb q).length c1, .slice o2 (nb r).length c2]) ∧
      w'.ownsRow w.heap.size 4 1 (.slice o1 (nb q).length c1) (nb q).length (bools (nb q)) ∧ w'.ownsRow w.heap.size 4 1 (.slice o2 (nb r).length c2) (nb r).length (bools (nb r)) ∧ Below w.heap.size w w' := by
  obtain ⟨i0, hi, hz0, hz1, hz2⟩ := info_parts infoB
  have m1 := h1.size
  rw [bools_length] at m1
  unfold maxLen at m1
  go_enter Try.func58, Try.ntmps58
  go_wp2_with (at_make; refine wpList_make_full _ rfl _ _ 33 rfl w.heap.size 4 i0 (.bool false) 1 Try.underlying33 hi hz0 hz1 .i64 .i64 (P.length : Int) (P.length : Int) P.length rfl rfl rfl rfl (by rw [hz2]; omega) (by unfold maxLen; omega) (Nat.le_refl _) ?_; intro w3 hown hgr)
  have hown0 : w3.ownsRow w.heap.size 4 1 (.slice (some ⟨w.heap.size, 0, none⟩) P.length P.length) P.length (bools (List.replicate P.length false)) := by
    rw [bools_zero, ← toList_madeCells_one]; rw [Nat.mul_one] at hown; exact hown
  have hb3 : Below w.heap.size w w3 := (Below.refl _ _).grown hgr (Nat.le_refl _) (by simp)
  have hs3 := hb3.size
  have hg3 : w.heap.size < w3.heap.size := (hown0.lt _ rfl).2
  clear hown hgr
  generalize hgg : w.heap.size = g at *
  go_loopw [7, 8] (fun v i wr => ∃ (k R : Nat) (D : List Bool) (o : Option Addr) (c : Nat), k ≤ P.length ∧ i = .int .i64 ((k : Int) - 1) ∧ Hid (k + D.length = P.length) ∧ R < V ∧ Hid (fromL (P.drop k) = fromL D * V + R) ∧ v = .slice o (nb R).length c ∧ wr.ownsRow g 4 1 v (nb R).length (bools (nb R)) ∧
      wr.ownsRow g 4 1 (.slice (some ⟨g, 0, none⟩) P.length P.length) P.length (bools (List.replicate k false ++ D)) ∧ Below g w wr)
    (fun _ i _ => (intOf i + 1).toNat)
  case atStart =>
    refine ⟨P.length, 0, [], some ⟨w3.heap.size, 0, none⟩, 0, Nat.le_refl _, by go_num, by unfold Hid; simp, hV, by unfold Hid; simp [fromL], by rw [nb_zero]; rfl, ?_, by rw [List.append_nil]; exact hown0.alloc _, hb3.alloc (by omega) _⟩
    rw [nb_zero]
    exact World.ownsRow_lit w3 #[] 0 (by omega) (by decide) rfl
  case round =>
    clear hown0 hb3
    obtain ⟨k, R, D, o, c, hk, rfl, HD, hR, HV, rfl, hown, hownq, hb⟩ := hrel
    have hs := hb.size
    have hgw : g < wr.heap.size := (hownq.lt _ rfl).2
    by_cases hk0 : 1 ≤ k
    · obtain ⟨j, rfl⟩ : ∃ j, k = j + 1 := ⟨k - 1, by omega⟩
      have g1 := h1.below hb (by omega)
      obtain ⟨b1, off1, rfl, _, hc1⟩ := g1.2.2.2 (by rw [bools_length]; omega)
      have d1 := hc1 j (by rw [bools_length]; omega)
      rw [bools_at _ _ (by omega)] at d1
      obtain ⟨x, hx⟩ : ∃ x, P.getD j false = x := ⟨_, rfl⟩
      rw [hx] at d1
      have HS := bdiv_step P D j V R x (by omega) hx HV.out
      have hRl : (nb R).length ≤ P.length := nb_len_le P (j + 1) (fromL D * V) R (by rw [HV.out, Nat.add_comm])
      obtain ⟨T, hT⟩ : ∃ T, T = x.toNat + 2 * R := ⟨_, rfl⟩
      rw [← hT] at HS
      have hTl : (nb T).length ≤ P.length := nb_len_le P j (fromL (false :: D) * V) T (by rw [HS, Nat.add_comm])
      have hT2 : T < 2 * V := by rw [hT]; cases x <;> simp <;> omega
      have eT : fromL ([x] ++ nb R) = T := by rw [hT, fromL_append, fromL_nb]; simp [fromL]
      have hlen1 : ([x] ++ nb R).length = 1 + (nb R).length := by simp; omega
      have cCut := fun (W : World) (o1 : Option Addr) (c1 : Nat) (h : W.ownsRow wr.heap.size 4 1 (.slice o1 (1 + (nb R).length) c1) (1 + (nb R).length) (bools ([x] ++ nb R))) => cut_own ([x] ++ nb R) wr.heap.size o1 c1 W (by rw [hlen1]; exact h)
      rw [eT, hlen1] at cCut
      have cCmp := fun (W : World) (hb2 : Below g w W) (o1 : Option Addr) (c1 : Nat) (h : Lies W o1 c1 (bools (nb T))) => rcmp_any (nb T) (nb V) o1 ao2 c1 cap2 W h (h2.below hb2 (by omega)) (fun h => by rw [fromL_nb, fromL_nb]; exact nb_len_lt _ _ h) (fun h => by rw [fromL_nb, fromL_nb]; exact nb_len_lt _ _ h)
      rw [fromL_nb, fromL_nb] at cCmp
      have hown1 : wr.ownsRow g 4 1 (.slice o (nb R).length c) (nb R).length (bools (nb R)) := hown
      have hlit : (wr.alloc (.cells #[.bool x] 4)).ownsRow wr.heap.size 4 1 (.slice (some ⟨wr.heap.size, 0, none⟩) 1 1) 1 [.bool x] := World.ownsRow_lit wr #[.bool x] 1 (Nat.le_refl _) (by decide) rfl
      have hlr : Lies (wr.alloc (.cells #[.bool x] 4)) o c (bools (nb R)) := (lies_of_owns hown).alloc _
      have pre : ∀ (W : World) (o1 : Option Addr) (c1 : Nat), W.ownsRow wr.heap.size 4 1 (.slice o1 (1 + (nb R).length) c1) (1 + (nb R).length) ([.bool x] ++ bools (nb R)) → W.ownsRow wr.heap.size 4 1 (.slice o1 (1 + (nb R).length) c1) (1 + (nb R).length) (bools ([x] ++ nb R)) := fun W o1 c1 h => by simpa [bools] using h
      have hgw2 : g ≤ wr.heap.size := by omega
      have hgw3 : g ≤ (wr.alloc (.cells #[.bool x] 4)).heap.size := by simp; omega
      have keepq : ∀ W : World, (wr.alloc (.cells #[.bool x] 4)).grownBy W (Value.slice (some ⟨wr.heap.size, 0, none⟩) 1 1).ownBlock → W.ownsRow g 4 1 (.slice (some ⟨g, 0, none⟩) P.length P.length) P.length (bools (List.replicate (j + 1) false ++ D)) := fun W hW =>
        (hownq.alloc _).kept hW (.inr (by simp [Value.ownBlock]; omega))
      have hlq : (List.replicate (j + 1) false ++ D).length = P.length := by have := HD.out; simp; omega
      have cellq : ∀ W : World, W.ownsRow g 4 1 (.slice (some ⟨g, 0, none⟩) P.length P.length) P.length (bools (List.replicate (j + 1) false ++ D)) →
          W.cell? ⟨g, j, none⟩ = some (.bool ((List.replicate (j + 1) false ++ D).getD j false)) ∧ W.frozen? ⟨g, j, none⟩ = false ∧ (W.setCell ⟨g, j, none⟩ (.bool true)).ownsRow g 4 1 (.slice (some ⟨g, 0, none⟩) P.length P.length) P.length (bools (List.replicate j false ++ (true :: D))) := fun W hW => by
        refine ⟨by rw [hW.cellAt j (by omega), bools_at _ _ (by omega)], hW.frozenAt j, ?_⟩
        obtain ⟨hR1, _⟩ := hW.stored j (.bool true)
        rw [bools_set, fill_low] at hR1
        exact hR1
      by_cases hge : V ≤ T
      · have hc0 : 0 ≤ cmpV T V := by unfold cmpV; split <;> (try split) <;> omega
        have cSub := fun (W : World) (hb2 : Below g w W) (o1 : Option Addr) (c1 : Nat) (h : Lies W o1 c1 (bools (nb T))) => rsub_core (nb T) (nb V) (T - V) (by unfold Hid; rw [fromL_nb, fromL_nb]) (by rw [fromL_nb, fromL_nb]; exact hge) (nb_mono _ _ hge) o1 ao2 c1 cap2 W h (h2.below hb2 (by omega)) (by omega)
        have HV2 : Hid (fromL (P.drop j) = fromL (true :: D) * V + (T - V)) := bdiv_yes D V T _ hge HS
        have HD2 : Hid (j + (true :: D).length = P.length) := by have := HD.out; unfold Hid; simp; omega
        have hTV : T - V < V := by omega
        clear hc1 g1 h1 h2 HV HS eT hlen1 hx hT hown HD hge hT2 hTl hlq hownq
        generalize cmpV T V = C at *
        go_wp2_with (first
          | (at_builtin; (refine wpList_append_lies _ rfl _ _ 33 rfl wr.heap.size 4 i0 (.bool false) 1 Try.underlying33 hi hz0 hz1 hz2 rfl _ 1 [.bool x] rfl hlit o (nb R).length c (bools (nb R)) rfl (bools_length _) hlr (bools_one _) (by unfold maxLen; omega) (by omega) (by simp) ?_); intro v1 w1 hown2 hgr2; obtain ⟨o1, c1, rfl⟩ := owns_shape hown2; have hown3 := pre _ _ _ hown2; have hb1 : Below g w w1 := (hb.alloc hgw2 _).grown hgr2 hgw3 (fun j hj => by cases hj; exact hgw2); have hq1 := keepq _ hgr2)
          | (go_at_call 56; refine (cCut _ _ _ hown3).mono ?_; rintro e w4 ⟨rfl, hw, hown4⟩; have hw2 := hw.symm; clear hw; subst hw2)
          | (go_at_call 81; refine (cCmp _ hb1 _ _ (lies_of_owns hown4)).mono ?_; rintro e w5 ⟨rfl, hb5⟩; have H5 := hb1.trans (hb5.mono (by have := hb1.size; omega)))
          | (go_at_call 82; refine (cSub _ H5 _ _ (lies_of_owns (keep hown4 hb5))).mono ?_; rintro e w6 ⟨o6, c6, rfl, hown6, hb6⟩; have H6 := H5.trans (hb6.mono (by have := H5.size; omega)); obtain ⟨hcq, hfq, hsq⟩ := cellq _ (keep (keep hq1 hb5) hb6)))
        have hs1 := hb1.size
        have hs5 := H5.size
        have hg1 : g < w1.heap.size := (hq1.lt _ rfl).2
        have hg5 := hb5.size
        go_roundw
        case rel => exact ⟨j, T - V, true :: D, o6, c6, by omega, by go_num, HD2, hTV, HV2, rfl, owns_base (ownsRow_setCell_below hown6 (a := ⟨g, j, none⟩) (by show g < _; omega) _) (by omega), hsq, H6.setCell (by exact Nat.le_refl _) _⟩
        case measure => simp [intOf]
      · have hc0 : cmpV T V < 0 := by unfold cmpV; split <;> (try split) <;> omega
        have HV2 : Hid (fromL (P.drop j) = fromL (false :: D) * V + T) := HS
        have HD2 : Hid (j + (false :: D).length = P.length) := by have := HD.out; unfold Hid; simp; omega
        have hTV : T < V := by omega
        have eq : List.replicate (j + 1) false ++ D = List.replicate j false ++ (false :: D) := by rw [List.replicate_succ']; simp
        rw [eq] at keepq
        clear hc1 g1 h1 h2 HV HS eT hlen1 hx hT hown HD hge hT2 hTl cellq hlq hownq eq
        generalize cmpV T V = C at *
        go_wp2_with (first
          | (at_builtin; (refine wpList_append_lies _ rfl _ _ 33 rfl wr.heap.size 4 i0 (.bool false) 1 Try.underlying33 hi hz0 hz1 hz2 rfl _ 1 [.bool x] rfl hlit o (nb R).length c (bools (nb R)) rfl (bools_length _) hlr (bools_one _) (by unfold maxLen; omega) (by omega) (by simp) ?_); intro v1 w1 hown2 hgr2; obtain ⟨o1, c1, rfl⟩ := owns_shape hown2; have hown3 := pre _ _ _ hown2; have hb1 : Below g w w1 := (hb.alloc hgw2 _).grown hgr2 hgw3 (fun j hj => by cases hj; exact hgw2); have hq1 := keepq _ hgr2)
          | (go_at_call 56; refine (cCut _ _ _ hown3).mono ?_; rintro e w4 ⟨rfl, hw, hown4⟩; have hw2 := hw.symm; clear hw; subst hw2)
          | (go_at_call 81; refine (cCmp _ hb1 _ _ (lies_of_owns hown4)).mono ?_; rintro e w5 ⟨rfl, hb5⟩; have H5 := hb1.trans (hb5.mono (by have := hb1.size; omega))))
        go_roundw
        case rel => exact ⟨j, T, false :: D, o1, c1, by omega, by go_num, HD2, hTV, HV2, rfl, owns_base (keep hown4 hb5) (by omega), keep hq1 hb5, H5⟩
        case measure => simp [intOf]
    · have : k = 0 := by omega
      subst this
      obtain ⟨e1, e2⟩ := bdiv_end (fromL P) V (fromL D) R (by have := HV.out; rwa [List.drop_zero] at this) hR
      have e3 : R = r := by rw [e2, hr.out]
      subst e3
      have e4 : fromL D = q := by rw [e1, hq.out]
      have hDl : D.length = P.length := by have := HD.out; omega
      rw [List.replicate_zero, List.nil_append] at hownq
      have c1 := cut_own D g (some ⟨g, 0, none⟩) P.length wr (by rw [hDl]; exact hownq)
      rw [e4, hDl] at c1
      clear hownq HV HD h1 h2 e1 e2 e4 hDl hq hr
      go_wp2_with (go_at_call 56; refine c1.mono ?_; rintro e w5 ⟨rfl, hw, hown5⟩; have hw2 := hw.symm; clear hw; subst hw2)
      go_ret2
      exact ⟨_, _, _, _, rfl, by rw [hgg]; exact hown5, by rw [hgg]; exact hown, by rw [hgg]; exact hb⟩
end Go.Proofs.Ytfhhmpgldmakjaa.BitDiv
