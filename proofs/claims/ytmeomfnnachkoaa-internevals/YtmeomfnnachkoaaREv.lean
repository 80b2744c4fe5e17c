/- The document's truth of a node. -/
import Derived.Test.YtmeomfnnachkoaaEvA
import Derived.Test.YtmeomfnnachkoaaRefN
import Derived.Test.YtmeomfnnachkoaaPlR
namespace Go.Proofs.Ytmeomfnnachkoaa.REv
open Go.RowKit Go.Maps Mem NdNum TabL NumL DoL DoA PlayL MeanN EvL EvA RefN PlR

/-- The truths so far. -/
theorem truths_next (V : List Bool) {N : List Nd} {k : Nat} (h : k < N.length + 2) : truths V ((full N).take (k + 1)) = truths V ((full N).take k) ++ [truthN V (truths V ((full N).take k)) (nd N k)] := by
  have e : (full N)[k]? = some (nd N k) := by
    unfold nd
    rw [List.getElem?_eq_getElem (by rw [full_length]; exact h)]
    rfl
  rw [List.take_add_one, e]
  exact truths_snoc V _ _
theorem rel_next {w W1 w3 : World} {g i k d c2 gb c3 : Nat} {V : List Bool} {N : List Nd} {T : List Bool} {tv : Bool} {RV : List Value} {o : Obj}
    (hET : truths V ((full N).take (k + 1)) = T ++ [tv]) (hRV : T.map Value.bool = RV) (o1 : W1.ownsRow g 4 1 (.slice (some ⟨d, 0, none⟩) k c2) k RV) (B1 : Below g w W1) (s1 : g ≤ W1.heap.size)
    (hown : w3.ownsRow g 4 1 (.slice (some ⟨gb, 0, none⟩) (k + 1) c3) (k + 1) (RV ++ [.bool tv])) (hgrow : (W1.alloc o).grownBy w3 (Value.slice (some ⟨d, 0, none⟩) k c2).ownBlock) (hk : k < i + 1) :
    ∃ (k' d' c2' : Nat), k' ≤ i + 1 ∧ Value.int .i64 ((k : Int) + 1) = .int .i64 k' ∧ Value.slice (some ⟨gb, 0, none⟩) (k + 1) c3 = .slice (some ⟨d', 0, none⟩) k' c2' ∧ Hid (w3.ownsRow g 4 1 (.slice (some ⟨d', 0, none⟩) k' c2') k' ((truths V ((full N).take k')).map Value.bool)) ∧ Hid (Below g w w3) := by
  refine ⟨k + 1, gb, c3, by omega, by simp, rfl, ?_, ?_⟩
  · unfold Hid
    rw [hET, List.map_append, hRV]
    exact hown
  · have hd := (o1.lt d rfl).1
    exact (B1.alloc s1 _).grown hgrow (by simp; omega) (fun j hj => by simp [Value.ownBlock] at hj; omega)
set_option maxRecDepth 20000 in
set_option maxHeartbeats 2000000 in
theorem reval_any {w : World} {b c : Nat} {N : List Nd} (h : Lst w b c N) (i : Nat) (hi : i < N.length + 2) (V : List Bool) (vo : Option Addr) (vc : Nat) (hV : Lies w vo vc (V.map Value.bool)) :
    Calls Try.prog 18 #[.slice (some ⟨b, 0, none⟩) (N.length + 2) c, .int .i64 i, .slice vo V.length vc] w fun e w' => e = .returned (.bool (ev V N (i : Int))) ∧ Below w.heap.size w w' := by
  obtain ⟨i0, hi0, hz0, hz1, hz2⟩ := info_parts infoB
  have hlen := h.1.len
  have hI2 : i ≤ 20000 := by omega
  obtain ⟨y, ey⟩ : ∃ y, ev V N (i : Int) = y := ⟨_, rfl⟩
  rw [ey]
  have EY : Hid (at0 (truths V ((full N).take (i + 1))) (i : Int) = y) := by unfold Hid; rw [ev_take V hi, ← ey]
  obtain ⟨M, eM⟩ : ∃ M : Nat, N.length + 2 = M := ⟨_, rfl⟩
  rw [eM]
  have hM : M ≤ 20000 := by omega
  have HM : Hid (N.length + 2 = M) := eM
  have hiM : i < M := by omega
  have HL : Hid (Lst w b c N) := h
  have HV : Hid (Lies w vo vc (V.map Value.bool)) := hV
  generalize hVL : V.length = VL at *
  have HVL : Hid (V.length = VL) := hVL
  have hvm : VL ≤ 9223372036854775807 := by have h1 := hV.size; unfold maxLen at h1; simp at h1; omega
  clear h hV ey hi hlen eM hVL
  go_enter Try.func18, Try.ntmps18
  go_wp2
  have ho0 : (w.alloc (.cells #[] 4)).ownsRow w.heap.size 4 1 (.slice (some ⟨w.heap.size, 0, none⟩) 0 0) 0 ((truths V ((full N).take 0)).map Value.bool) := World.ownsRow_made w #[] 0 (Nat.le_refl _) (by decide) rfl
  have hb0 : Below w.heap.size w (w.alloc (.cells #[] 4)) := (Below.refl _ w).alloc (Nat.le_refl _) _
  generalize hgg : w.heap.size = g at *
  go_loopw [7, 8] (fun v7 kv wr => ∃ (k d c2 : Nat), k ≤ i + 1 ∧ kv = .int .i64 k ∧ v7 = .slice (some ⟨d, 0, none⟩) k c2 ∧ Hid (wr.ownsRow g 4 1 (.slice (some ⟨d, 0, none⟩) k c2) k ((truths V ((full N).take k)).map Value.bool)) ∧ Hid (Below g w wr)) (fun _ kv _ => i + 1 - (intOf kv).toNat)
  case atStart => exact ⟨0, g, 0, Nat.zero_le _, rfl, rfl, ho0, hb0⟩
  case round =>
    clear ho0 hb0
    obtain ⟨k, d, c2, hk, rfl, rfl, HO, HB⟩ := hrel
    by_cases hlt : k < i + 1
    · have hkM : k < M := by omega
      have hkN : k < N.length + 2 := by have := HM.out; omega
      have hbw : Below w.heap.size w wr := by rw [hgg]; exact HB.out
      have lr := HL.out.below hbw
      obtain ⟨d0, d1, d2⟩ := row_at lr.2 rfl hkN
      have hform := lr.1
      obtain ⟨p3, p4, p5⟩ := parts_in hform hkN
      have ET := truths_next V hkN
      have hTl : (truths V ((full N).take k)).length = k := by rw [truths_len, List.length_take, full_length]; omega
      have hO := HO.out
      have hVr := HV.out.below hbw (by omega)
      generalize truths V ((full N).take k) = T at *
      obtain ⟨tv, etv⟩ : ∃ tv, truthN V T (nd N k) = tv := ⟨_, rfl⟩
      rw [etv] at ET
      generalize nd N k = n at *
      obtain ⟨kd, A, B⟩ := n
      simp only at d0 d1 d2 p3 p4 p5
      obtain ⟨W1, eW1⟩ : ∃ W1, wr.alloc (.cells #[.int .i64 kd, .int .i64 A, .int .i64 B] 34) = W1 := ⟨_, rfl⟩
      have bW : Below wr.heap.size wr W1 := by rw [← eW1]; exact (Below.refl _ wr).alloc (Nat.le_refl _) _
      have k1 : W1.heap[wr.heap.size]? = some (.cells #[.int .i64 kd, .int .i64 A, .int .i64 B] 34) := by rw [← eW1]; exact heap_alloc_new wr _
      obtain ⟨e0, e1, e2⟩ := cells3 k1
      have o1 := keep hO bW
      have lV1 := hVr.below bW (Nat.le_refl _)
      have hcell : ∀ a : Int, 0 ≤ a → a < (k : Int) → W1.cell? ⟨d, a.toNat, none⟩ = some (.bool (at0 T a)) := fun a h0 h1 => by
        rw [o1.cellAt a.toNat (by omega), List.getElem?_map]
        unfold at0
        rw [List.getElem?_eq_getElem (by omega)]
        rfl
      have hgs := HB.out.size
      have s1 : g ≤ W1.heap.size := by have := bW.size; omega
      have B1 : Below g w W1 := HB.out.trans (bW.mono (by omega))
      have HET : Hid (truths V ((full N).take (k + 1)) = T ++ [tv]) := ET
      clear ET lr hform hO hVr hbw bW k1 hkN hTl
      generalize hRV : T.map Value.bool = RV at *
      have HRV : Hid (T.map Value.bool = RV) := hRV
      clear hRV
      by_cases q2 : kd = 2
      · subst q2
        obtain rfl : tv = true := etv.symm.trans rfl
        clear etv
        clear hcell p3 p4 p5
        go_wp2_with (at_builtin; refine wpList_append_own_at _ rfl _ _ 37 rfl g 4 i0 (.bool false) 1 1 Try.underlying37 hi0 hz0 hz1 hz2 rfl (by decide) (.slice (some ⟨d, 0, none⟩) k c2) k RV rfl (o1.alloc _) ⟨W1.heap.size, 0, none⟩ 1 1 [.bool true] rfl rfl (new_one W1 _ _) (by simp [Value.oneCell']) (by unfold maxLen; omega) (by omega) (by simp; omega) ?_; intro v3 w3 hown3 hgrow3 hnil3 hloc3; obtain ⟨gb, c3, rfl⟩ := own_slice hown3 (by omega))
        go_roundw
        case rel => exact rel_next HET.out HRV.out o1 B1 s1 hown3 hgrow3 (by omega)
        case measure => simp [intOf]; omega
      by_cases q3 : kd = 3
      · subst q3
        have etv' : at0 V A = tv := etv
        have a0 := p3 rfl
        by_cases hlv : A < (VL : Int)
        · obtain ⟨n, rfl⟩ : ∃ n : Nat, A = (n : Int) := ⟨A.toNat, by omega⟩
          obtain ⟨vb, voff, rfl, hc⟩ := at_bool lV1 (i := n) (by have := HVL.out; omega)
          rw [etv'] at hc
          clear etv etv'
          clear hcell p3 p4 p5
          go_wp2_with (at_builtin; refine wpList_append_own_at _ rfl _ _ 37 rfl g 4 i0 (.bool false) 1 1 Try.underlying37 hi0 hz0 hz1 hz2 rfl (by decide) (.slice (some ⟨d, 0, none⟩) k c2) k RV rfl (o1.alloc _) ⟨W1.heap.size, 0, none⟩ 1 1 [.bool tv] rfl rfl (new_one W1 _ _) (by simp [Value.oneCell']) (by unfold maxLen; omega) (by omega) (by simp; omega) ?_; intro v3 w3 hown3 hgrow3 hnil3 hloc3; obtain ⟨gb, c3, rfl⟩ := own_slice hown3 (by omega))
          go_roundw
          case rel => exact rel_next HET.out HRV.out o1 B1 s1 hown3 hgrow3 (by omega)
          case measure => simp [intOf]; omega
        · obtain rfl : tv = false := by rw [← etv']; unfold at0; rw [List.getElem?_eq_none (by have := HVL.out; omega)]; rfl
          clear etv etv'
          clear hcell p3 p4 p5
          go_wp2_with (at_builtin; refine wpList_append_own_at _ rfl _ _ 37 rfl g 4 i0 (.bool false) 1 1 Try.underlying37 hi0 hz0 hz1 hz2 rfl (by decide) (.slice (some ⟨d, 0, none⟩) k c2) k RV rfl (o1.alloc _) ⟨W1.heap.size, 0, none⟩ 1 1 [.bool false] rfl rfl (new_one W1 _ _) (by simp [Value.oneCell']) (by unfold maxLen; omega) (by omega) (by simp; omega) ?_; intro v3 w3 hown3 hgrow3 hnil3 hloc3; obtain ⟨gb, c3, rfl⟩ := own_slice hown3 (by omega))
          go_roundw
          case rel => exact rel_next HET.out HRV.out o1 B1 s1 hown3 hgrow3 (by omega)
          case measure => simp [intOf]; omega
      by_cases q4 : kd = 4
      · subst q4
        have etv' : (!(at0 T A)) = tv := etv
        obtain ⟨a0, a1⟩ := p4 rfl
        have hc := hcell A a0 a1
        obtain ⟨n, rfl⟩ : ∃ n : Nat, A = (n : Int) := ⟨A.toNat, by omega⟩
        rw [Int.toNat_natCast] at hc
        generalize at0 T (n : Int) = x at *
        subst etv'
        clear etv
        clear hcell p3 p4 p5
        go_wp2_with (at_builtin; refine wpList_append_own_at _ rfl _ _ 37 rfl g 4 i0 (.bool false) 1 1 Try.underlying37 hi0 hz0 hz1 hz2 rfl (by decide) (.slice (some ⟨d, 0, none⟩) k c2) k RV rfl (o1.alloc _) ⟨W1.heap.size, 0, none⟩ 1 1 [.bool (!x)] rfl rfl (new_one W1 _ _) (by simp [Value.oneCell']) (by unfold maxLen; omega) (by omega) (by simp; omega) ?_; intro v3 w3 hown3 hgrow3 hnil3 hloc3; obtain ⟨gb, c3, rfl⟩ := own_slice hown3 (by omega))
        go_roundw
        case rel => exact rel_next HET.out HRV.out o1 B1 s1 hown3 hgrow3 (by omega)
        case measure => simp [intOf]; omega
      by_cases q5 : kd = 5
      · subst q5
        have etv' : (at0 T A && at0 T B) = tv := etv
        obtain ⟨⟨a0, a1⟩, a2, a3⟩ := p5 (.inl rfl)
        have hc := hcell A a0 a1
        have hc2 := hcell B a2 a3
        obtain ⟨n, rfl⟩ : ∃ n : Nat, A = (n : Int) := ⟨A.toNat, by omega⟩
        obtain ⟨n2, rfl⟩ : ∃ n : Nat, B = (n : Int) := ⟨B.toNat, by omega⟩
        rw [Int.toNat_natCast] at hc hc2
        generalize at0 T (n : Int) = x at *
        generalize at0 T (n2 : Int) = x2 at *
        clear etv
        cases x
        · obtain rfl : false = tv := etv'
          clear hcell p3 p4 p5
          go_wp2_with (at_builtin; refine wpList_append_own_at _ rfl _ _ 37 rfl g 4 i0 (.bool false) 1 1 Try.underlying37 hi0 hz0 hz1 hz2 rfl (by decide) (.slice (some ⟨d, 0, none⟩) k c2) k RV rfl (o1.alloc _) ⟨W1.heap.size, 0, none⟩ 1 1 [.bool false] rfl rfl (new_one W1 _ _) (by simp [Value.oneCell']) (by unfold maxLen; omega) (by omega) (by simp; omega) ?_; intro v3 w3 hown3 hgrow3 hnil3 hloc3; obtain ⟨gb, c3, rfl⟩ := own_slice hown3 (by omega))
          go_roundw
          case rel => exact rel_next HET.out HRV.out o1 B1 s1 hown3 hgrow3 (by omega)
          case measure => simp [intOf]; omega
        · obtain rfl : x2 = tv := etv'
          clear hcell p3 p4 p5
          go_wp2_with (at_builtin; refine wpList_append_own_at _ rfl _ _ 37 rfl g 4 i0 (.bool false) 1 1 Try.underlying37 hi0 hz0 hz1 hz2 rfl (by decide) (.slice (some ⟨d, 0, none⟩) k c2) k RV rfl (o1.alloc _) ⟨W1.heap.size, 0, none⟩ 1 1 [.bool x2] rfl rfl (new_one W1 _ _) (by simp [Value.oneCell']) (by unfold maxLen; omega) (by omega) (by simp; omega) ?_; intro v3 w3 hown3 hgrow3 hnil3 hloc3; obtain ⟨gb, c3, rfl⟩ := own_slice hown3 (by omega))
          go_roundw
          case rel => exact rel_next HET.out HRV.out o1 B1 s1 hown3 hgrow3 (by omega)
          case measure => simp [intOf]; omega
      by_cases q6 : kd = 6
      · subst q6
        have etv' : (at0 T A || at0 T B) = tv := etv
        obtain ⟨⟨a0, a1⟩, a2, a3⟩ := p5 (.inr rfl)
        have hc := hcell A a0 a1
        have hc2 := hcell B a2 a3
        obtain ⟨n, rfl⟩ : ∃ n : Nat, A = (n : Int) := ⟨A.toNat, by omega⟩
        obtain ⟨n2, rfl⟩ : ∃ n : Nat, B = (n : Int) := ⟨B.toNat, by omega⟩
        rw [Int.toNat_natCast] at hc hc2
        generalize at0 T (n : Int) = x at *
        generalize at0 T (n2 : Int) = x2 at *
        clear etv
        cases x
        · obtain rfl : x2 = tv := etv'
          clear hcell p3 p4 p5
          go_wp2_with (at_builtin; refine wpList_append_own_at _ rfl _ _ 37 rfl g 4 i0 (.bool false) 1 1 Try.underlying37 hi0 hz0 hz1 hz2 rfl (by decide) (.slice (some ⟨d, 0, none⟩) k c2) k RV rfl (o1.alloc _) ⟨W1.heap.size, 0, none⟩ 1 1 [.bool x2] rfl rfl (new_one W1 _ _) (by simp [Value.oneCell']) (by unfold maxLen; omega) (by omega) (by simp; omega) ?_; intro v3 w3 hown3 hgrow3 hnil3 hloc3; obtain ⟨gb, c3, rfl⟩ := own_slice hown3 (by omega))
          go_roundw
          case rel => exact rel_next HET.out HRV.out o1 B1 s1 hown3 hgrow3 (by omega)
          case measure => simp [intOf]; omega
        · obtain rfl : true = tv := etv'
          clear hcell p3 p4 p5
          go_wp2_with (at_builtin; refine wpList_append_own_at _ rfl _ _ 37 rfl g 4 i0 (.bool false) 1 1 Try.underlying37 hi0 hz0 hz1 hz2 rfl (by decide) (.slice (some ⟨d, 0, none⟩) k c2) k RV rfl (o1.alloc _) ⟨W1.heap.size, 0, none⟩ 1 1 [.bool true] rfl rfl (new_one W1 _ _) (by simp [Value.oneCell']) (by unfold maxLen; omega) (by omega) (by simp; omega) ?_; intro v3 w3 hown3 hgrow3 hnil3 hloc3; obtain ⟨gb, c3, rfl⟩ := own_slice hown3 (by omega))
          go_roundw
          case rel => exact rel_next HET.out HRV.out o1 B1 s1 hown3 hgrow3 (by omega)
          case measure => simp [intOf]; omega
      obtain rfl : tv = false := by rw [← etv]; unfold truthN; simp [q2, q3, q4, q5, q6]
      have z2 : (kd == 2) = false := by simpa using q2
      have z3 : (kd == 3) = false := by simpa using q3
      have z4 : (kd == 4) = false := by simpa using q4
      have z5 : (kd == 5) = false := by simpa using q5
      have z6 : (kd == 6) = false := by simpa using q6
      clear etv q2 q3 q4 q5 q6
      clear hcell p3 p4 p5
      go_wp2_with (at_builtin; refine wpList_append_own_at _ rfl _ _ 37 rfl g 4 i0 (.bool false) 1 1 Try.underlying37 hi0 hz0 hz1 hz2 rfl (by decide) (.slice (some ⟨d, 0, none⟩) k c2) k RV rfl (o1.alloc _) ⟨W1.heap.size, 0, none⟩ 1 1 [.bool false] rfl rfl (new_one W1 _ _) (by simp [Value.oneCell']) (by unfold maxLen; omega) (by omega) (by simp; omega) ?_; intro v3 w3 hown3 hgrow3 hnil3 hloc3; obtain ⟨gb, c3, rfl⟩ := own_slice hown3 (by omega))
      go_roundw
      case rel => exact rel_next HET.out HRV.out o1 B1 s1 hown3 hgrow3 (by omega)
      case measure => simp [intOf]; omega
    · obtain rfl : k = i + 1 := by omega
      have ho := HO.out
      obtain ⟨b9, off9, e9, c9⟩ := at_bool (lies_of_owns ho) (i := i) (by rw [truths_len, List.length_take, full_length]; have := HM.out; omega)
      simp only [Option.some.injEq, Addr.mk.injEq, and_true] at e9
      obtain ⟨rfl, rfl⟩ := e9
      rw [Nat.zero_add, EY.out] at c9
      clear ho
      go_wp2
      go_ret
      subst hgg
      exact ⟨rfl, HB.out⟩
end Go.Proofs.Ytmeomfnnachkoaa.REv
