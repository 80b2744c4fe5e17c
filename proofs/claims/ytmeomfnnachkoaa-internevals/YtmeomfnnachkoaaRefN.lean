/- The document's table of nodes: a list that is gone through. -/
import Derived.Test.YtmeomfnnachkoaaPlayL
namespace Go.Proofs.Ytmeomfnnachkoaa.RefN
open Go.RowKit Go.Maps Mem NdNum TabL NumL DoL DoA PlayL

theorem rowR : (34 : TypeId) < Try.prog.types.size := of_decide_eq_true (by kernel_rfl)
theorem wideR : (match Try.prog.underlying 34 with | some (.array _ _) | some (.struct _) => true | _ => false) = true := by rw [Try.underlying34]
theorem lawR : Keyed Try.prog 34 := Keyed.of_law (deep_law_laid laidOut (m := 2) (by omega) rowR (by kernel_rfl) wideR)
theorem keyTypeR : Try.prog.keyType 34 = true := by kernel_rfl
theorem cellsR : Try.prog.cellsOf 34 = 3 := by kernel_rfl
theorem key_someR (n : Nd) (h : Wf n) : ∃ l, keyOf Try.prog 34 (node n) = some l := by
  obtain ⟨h1, h2, h3⟩ := h
  obtain ⟨m, hm⟩ : ∃ m, Try.prog.types.size + 1 = m + 1 + 1 := ⟨Try.prog.types.size - 1, by have h0 : 0 < Try.prog.types.size := Nat.lt_of_le_of_lt (Nat.zero_le _) rowR; omega⟩
  unfold keyOf
  rw [Try.underlying34, hm]
  simp [keyTypeR, node, Value.formed, Try.underlying34, cellsR, Value.cells, Program.keyLits, cellsI, Try.underlying3, h1, h2, h3]
theorem equalR (w : World) (n k : Nd) (hn : Wf n) (hk : Wf k) : (Op.equal 34 (node n) (node k)).run Try.prog w = .ok (n == k) w := by
  obtain ⟨l1, e1⟩ := key_someR n hn
  obtain ⟨l2, e2⟩ := key_someR k hk
  obtain ⟨r, h1, h2⟩ := run_equal_deep (P := Try.prog) w (m := 2) (by omega) (k := 34) (by kernel_rfl) wideR e1 e2
  rw [h1]
  congr 1
  rw [Bool.eq_iff_iff, h2, beq_iff_eq]
  constructor
  · intro h; rw [h] at e1; exact node_inj (lawR.inj e1 e2)
  · intro h; rw [h, e2] at e1; simpa using e1.symm
theorem eqlR (w : World) (n k : Nd) (hn : Wf n) (hk : Wf k) :
    (binOp .eql 34 (.agg #[.int .i64 n.1, .int .i64 n.2.1, .int .i64 n.2.2]) (.agg #[.int .i64 k.1, .int .i64 k.2.1, .int .i64 k.2.2])).run Try.prog w = .ok (.bool (n == k)) w := by
  have h := equalR w n k hn hk
  unfold node at h
  simp only [binOp]
  simp [h]
theorem infoR : (Try.prog.info? 34).map (fun i => (i.zero, i.size, i.bytes)) = some (some (node (0, 0, 0)), 3, 24) := by kernel_rfl

/-- The list of nodes lies in block b. -/
def Lst (w : World) (b c : Nat) (N : List Nd) : Prop := InForm N ∧ w.ownsRow 0 34 3 (.slice (some ⟨b, 0, none⟩) (N.length + 2) c) (N.length + 2) (flat (full N))
theorem Lst.below {w w' : World} {b c : Nat} {N : List Nd} (h : Lst w b c N) (hb : Below w.heap.size w w') : Lst w' b c N := ⟨h.1, keep3 h.2 hb⟩
theorem Lst.lt {w : World} {b c : Nat} {N : List Nd} (h : Lst w b c N) : b < w.heap.size := (h.2.lt b rfl).2
theorem row_at {w : World} {g : Nat} {e : TypeId} {c n cap : Nat} {N : List Nd} (h : w.ownsRow g e 3 (.slice (some ⟨c, 0, none⟩) n cap) n (flat (full N))) (hn : N.length + 2 = n) {k : Nat} (hk : k < n) :
    w.cell? ⟨c, k * 3, none⟩ = some (.int .i64 (nd N k).1) ∧ w.cell? ⟨c, k * 3 + 1, none⟩ = some (.int .i64 (nd N k).2.1) ∧ w.cell? ⟨c, k * 3 + 2, none⟩ = some (.int .i64 (nd N k).2.2) := by
  have e1 : (full N)[k]? = some (nd N k) := by
    unfold nd
    rw [List.getElem?_eq_getElem (by rw [full_length]; omega)]
    rfl
  obtain ⟨f0, f1, f2⟩ := flat_get _ _ _ e1
  exact ⟨by rw [h.cellAt _ (by omega)]; exact f0, by rw [h.cellAt _ (by omega)]; exact f1, by rw [h.cellAt _ (by omega)]; exact f2⟩
/-- What goes on with the list leaves. -/
def Gone (b : Nat) (N : List Nd) (w w' : World) (v : Value) : Prop := ∃ b' c', v = .slice (some ⟨b', 0, none⟩) (N.length + 2) c' ∧ Lst w' b' c' N ∧ w.grownBy w' (some b) ∧ (b' = b ∨ w.heap.size ≤ b')
theorem grown_below {w w' : World} {b : Nat} (h : Below w.heap.size w w') : w.grownBy w' (some b) := ⟨h.os, h.tape, h.output, h.size, fun k hk _ => h.block k hk⟩
theorem gone_same {w w' : World} {b c : Nat} {N : List Nd} (h : Lst w b c N) (hb : Below w.heap.size w w') : Gone b N w w' (.slice (some ⟨b, 0, none⟩) (N.length + 2) c) := ⟨b, c, rfl, h.below hb, grown_below hb, .inl rfl⟩
theorem start_any (w : World) : Calls Try.prog 21 #[] w fun e w' => e = .returned (.slice (some ⟨w.heap.size, 0, none⟩) 2 2) ∧ Lst w' w.heap.size 2 [] ∧ Below w.heap.size w w' := by
  have ho := World.ownsRow_lit (base := 0) (e := 34) (size := 3) w #[.int .i64 1, .int .i64 0, .int .i64 0, .int .i64 2, .int .i64 0, .int .i64 0] 2 (Nat.zero_le _) (by decide) rfl
  go_enter Try.func21, Try.ntmps21
  go_wp2
  go_ret
  exact ⟨rfl, ⟨inForm_nil, ho⟩, (Below.refl _ _).alloc (Nat.le_refl _) _⟩
theorem find_at {N : List Nd} {n : Nd} (hi : InForm N) {k : Nat} (hk : k < N.length + 2) (h3 : 3 ≤ n.1) (he : nd N k = n) : num N n = (N, some (k : Int)) := by
  have h2 : 2 ≤ k := by
    rcases Nat.lt_or_ge k 2 with h | h
    · rcases (show k = 0 ∨ k = 1 by omega) with rfl | rfl
      · rw [nd_zero] at he; subst he; simp at h3
      · rw [nd_one] at he; subst he; simp at h3
    · exact h
  have hm : n ∈ N := by rw [← he]; exact nd_mem h2 hk
  obtain ⟨j, rfl⟩ : ∃ j, k = j + 2 := ⟨k - 2, by omega⟩
  have hj : j < N.length := by omega
  have he2 : N[j] = n := by rw [← he, nd_behind, List.getElem?_eq_getElem hj]; rfl
  unfold num
  rw [if_pos hm]
  have : N.idxOf n = j := by
    have h1 : N.idxOf n < N.length := List.idxOf_lt_length_iff.2 hm
    have h4 : N[N.idxOf n] = n := List.getElem_idxOf h1
    rcases Nat.lt_trichotomy (N.idxOf n) j with h5 | h5 | h5
    · exact absurd (h4.trans he2.symm) (List.pairwise_iff_getElem.1 hi.once _ _ h1 hj h5)
    · exact h5
    · exact absurd (he2.trans h4.symm) (List.pairwise_iff_getElem.1 hi.once _ _ hj h1 h5)
  rw [this]
  refine Prod.ext rfl ?_
  show some (((j : Nat) : Int) + 2) = some (((j + 2 : Nat) : Int))
  congr 1
theorem find_out {N : List Nd} {n : Nd} (h : ∀ j, j < N.length + 2 → nd N j ≠ n) : n ∉ N := by
  intro hm
  obtain ⟨j, hj, e⟩ := List.getElem_of_mem hm
  refine h (j + 2) (by omega) ?_
  rw [nd_behind, List.getElem?_eq_getElem hj, ← e]
  rfl
set_option maxRecDepth 20000 in
set_option maxHeartbeats 1000000 in
theorem find_any {w : World} {b c : Nat} {N : List Nd} (h : Lst w b c N) (n : Nd) (hw : Wf n) (h3 : 3 ≤ n.1) (hi : InForm (num N n).1) :
    Calls Try.prog 30 #[.slice (some ⟨b, 0, none⟩) (N.length + 2) c, node n] w fun e w' => ∃ v, e = .returned (.tuple #[v, .int .i64 ((num N n).2.getD (-1))]) ∧ Gone b (num N n).1 w w' v := by
  obtain ⟨i0, hi0, hz0, hz1, hz2⟩ := info_parts infoR
  obtain ⟨W0, eW0⟩ : ∃ W0, w.alloc (.cells #[.int .i64 n.1, .int .i64 n.2.1, .int .i64 n.2.2] 34) = W0 := ⟨_, rfl⟩
  have B0 : Below w.heap.size w W0 := by rw [← eW0]; exact (Below.refl _ w).alloc (Nat.le_refl _) _
  have k0 : W0.heap[w.heap.size]? = some (.cells #[.int .i64 n.1, .int .i64 n.2.1, .int .i64 n.2.2] 34) := by rw [← eW0]; exact heap_alloc_new w _
  have lt0 := heap_lt k0
  have HK : Hid (W0.heap[w.heap.size]? = some (.cells #[.int .i64 n.1, .int .i64 n.2.1, .int .i64 n.2.2] 34)) := k0
  have HL : Hid (Lst w b c N) := h
  have hlen := h.1.len
  obtain ⟨M, eM⟩ : ∃ M : Nat, N.length + 2 = M := ⟨_, rfl⟩
  have HM : Hid (N.length + 2 = M) := eM
  have hM : M ≤ 20000 := by omega
  have HB0 : Hid (Below w.heap.size w W0) := B0
  obtain ⟨R, eR⟩ : ∃ R, num N n = R := ⟨_, rfl⟩
  rw [eR] at hi ⊢
  have HI : Hid (InForm R.1) := hi
  have HR : Hid (num N n = R) := eR
  rw [eM]
  clear k0 B0 h eM hlen hi eR
  unfold node
  go_enter Try.func30, Try.ntmps30
  go_wp2
  go_loopw [10] (fun iv wr => ∃ k : Nat, k ≤ M ∧ iv = .int .i64 k ∧ Hid (∀ j, j < k → nd N j ≠ n) ∧ Hid (Below W0.heap.size W0 wr)) (fun iv _ => M - (intOf iv).toNat)
  case atStart => exact ⟨0, Nat.zero_le _, rfl, fun j hj => by omega, Below.refl _ _⟩
  case round =>
    obtain ⟨k, hk, rfl, HE, HB⟩ := hrel
    have hb1 : Below w.heap.size w wr := bt HB0.out HB.out
    obtain ⟨x0, x1, x2⟩ := cells3 ((HB.out.block _ lt0).trans HK.out)
    have lt1 : w.heap.size < wr.heap.size := Nat.lt_of_lt_of_le lt0 HB.out.size
    by_cases hlt : k < M
    · have hkn : k < N.length + 2 := by have := HM.out; omega
      obtain ⟨d0, d1, d2⟩ := row_at (HL.out.below hb1).2 rfl hkn
      have q := fun (w : World) => eqlR w (nd N k) n (nd_wf HL.out.1 hkn) hw
      have x0' := cell_alloc x0 (.cells #[.int .i64 (nd N k).1, .int .i64 (nd N k).2.1, .int .i64 (nd N k).2.2] 34)
      have x1' := cell_alloc x1 (.cells #[.int .i64 (nd N k).1, .int .i64 (nd N k).2.1, .int .i64 (nd N k).2.2] 34)
      have x2' := cell_alloc x2 (.cells #[.int .i64 (nd N k).1, .int .i64 (nd N k).2.1, .int .i64 (nd N k).2.2] 34)
      by_cases he : nd N k = n
      · have e1 : (nd N k == n) = true := by simpa using he
        rw [e1] at q
        have en := find_at HL.out.1 hkn h3 he
        obtain rfl : R = (N, some (k : Int)) := HR.out.symm.trans en
        have FIN : Hid (Gone b N w (wr.alloc (.cells #[.int .i64 (nd N k).1, .int .i64 (nd N k).2.1, .int .i64 (nd N k).2.2] 34)) (.slice (some ⟨b, 0, none⟩) M c)) := by
          unfold Hid
          rw [← HM.out]
          exact gone_same HL.out (hb1.alloc hb1.size _)
        clear he en e1
        generalize nd N k = n2 at *
        go_wp2
        go_ret2
        exact ⟨_, rfl, FIN.out⟩
      · have e1 : (nd N k == n) = false := by simpa using he
        rw [e1] at q
        have HE2 : Hid (∀ j, j < k + 1 → nd N j ≠ n) := fun j hj => by
          rcases Nat.lt_or_ge j k with h | h
          · exact HE.out j h
          · obtain rfl : j = k := by omega
            exact he
        clear he e1 HE
        generalize nd N k = n2 at *
        go_wp2
        go_roundw
        case rel => exact ⟨k + 1, by omega, by simp, HE2, HB.out.alloc HB.out.size _⟩
        case measure => simp [intOf]; omega
    · have ek : k = M := by omega
      have hno : n ∉ N := find_out (fun j hj => HE.out j (by have := HM.out; omega))
      have hM2 := HM.out
      by_cases hf : 20000 ≤ M
      · have en : num N n = (N, none) := by unfold num; rw [if_neg hno, if_pos (by omega)]
        obtain rfl : R = (N, none) := HR.out.symm.trans en
        have FIN : Hid (Gone b N w wr (.slice (some ⟨b, 0, none⟩) M c)) := by
          unfold Hid
          rw [← HM.out]
          exact gone_same HL.out hb1
        obtain rfl : M = 20000 := by omega
        subst ek
        clear HE hno en hM2 hlt
        go_wp2
        go_ret2
        exact ⟨_, rfl, FIN.out⟩
      · have en : num N n = (N ++ [n], some ((N.length : Int) + 2)) := by unfold num; rw [if_neg hno, if_neg (by omega)]
        obtain rfl : R = (N ++ [n], some ((N.length : Int) + 2)) := HR.out.symm.trans en
        have e5 : (N.length : Int) + 2 = (M : Int) := by omega
        have ro := (HL.out.below hb1).2
        rw [hM2] at ro
        have ro2 := ro.alloc (.cells #[.int .i64 n.1, .int .i64 n.2.1, .int .i64 n.2.2] 34)
        have hfi : ¬ (20000 : Int) ≤ (M : Int) := by omega
        have E5 : Hid ((N.length : Int) + 2 = (M : Int)) := e5
        subst ek
        clear HE hno en hM2 hlt ro e5 hf
        go_wp2_with (at_builtin; refine wpList_append_own_at _ rfl _ _ 28 rfl 0 34 i0 (node (0, 0, 0)) 3 24 Try.underlying28 hi0 hz0 hz1 hz2 rfl (by decide) (.slice (some ⟨b, 0, none⟩) k c) _ _ rfl ro2 ⟨wr.heap.size, 0, none⟩ 1 1 [.int .i64 n.1, .int .i64 n.2.1, .int .i64 n.2.2] rfl rfl (news_at wr _ _ _ _) (by simp [Value.oneCell']) (by unfold maxLen; omega) (by omega) (Nat.zero_le _) ?_; intro v3 w3 hown3 hgrow3 hnil3 hloc3; obtain ⟨gb, cb, rfl⟩ := own_slice hown3 (by omega))
        go_ret2
        refine ⟨.slice (some ⟨gb, 0, none⟩) (k + 1) cb, ?_, gb, cb, ?_, ⟨HI.out, ?_⟩, ?_, ?_⟩
        · show Ending.returned (Value.tuple #[.slice (some ⟨gb, 0, none⟩) (k + 1) cb, .int .i64 (k : Int)]) = Ending.returned (Value.tuple #[.slice (some ⟨gb, 0, none⟩) (k + 1) cb, .int .i64 ((N.length : Int) + 2)])
          rw [E5.out]
        · have := HM.out; simp only [List.length_append, List.length_cons, List.length_nil]; rw [show N.length + (0 + 1) + 2 = k + 1 by omega]
        · have e6 : (N ++ [n]).length + 2 = k + 1 := by have := HM.out; simp; omega
          have e7 : flat (full (N ++ [n])) = flat (full N) ++ [.int .i64 n.1, .int .i64 n.2.1, .int .i64 n.2.2] := by
            show flat ((1, 0, 0) :: (2, 0, 0) :: (N ++ [n])) = _
            rw [show ((1, 0, 0) : Nd) :: (2, 0, 0) :: (N ++ [n]) = full N ++ [n] from rfl, flat_append]
            rfl
          simp only [e6, e7]
          exact hown3
        · refine ⟨hgrow3.os.trans hb1.os, hgrow3.tape.trans hb1.tape, hgrow3.output.trans hb1.output, Nat.le_trans hb1.size (Nat.le_trans (by simp) hgrow3.size), fun j hj hne => ?_⟩
          have hj2 : j < wr.heap.size := Nat.lt_of_lt_of_le hj hb1.size
          rw [hgrow3.block j (by simp; omega) (by simpa [Value.ownBlock] using hne), Below.heap_alloc _ _ _ hj2]
          exact hb1.block j hj
        · rcases hloc3 with h5 | h5
          · left; simpa [Value.ownBlock] using h5
          · right; simp [Value.ownBlock] at h5; omega
theorem not_ref {N : List Nd} (hi : InForm N) {a : Int} (b : Int) (ha : hasN N a = true) : ((nd N a.toNat).1 == 4 && (nd N a.toNat).2.1 == b) = isNotN N a b := by
  have h := hasN_iff.1 ha
  unfold isNotN
  by_cases h2 : 2 ≤ a
  · have hf := hi.fine a.toNat (by omega) (by omega)
    unfold Fine at hf
    generalize nd N a.toNat = n at *
    obtain ⟨n1, n2, n3⟩ := n
    simp only at hf
    rw [Bool.eq_iff_iff]
    simp
    intro h4 h5
    rcases hf with hf | hf | hf <;> omega
  · rcases (show a = 0 ∨ a = 1 by omega) with rfl | rfl <;> rfl
theorem refnot_any {w : World} {b c : Nat} {N : List Nd} (h : Lst w b c N) (x y : Int) (hx : hasN N x = true) :
    Calls Try.prog 31 #[.slice (some ⟨b, 0, none⟩) (N.length + 2) c, .int .i64 x, .int .i64 y] w fun e w' => e = .returned (.bool (isNotN N x y)) ∧ w' = w := by
  rw [← not_ref h.1 y hx]
  have h1 := hasN_iff.1 hx
  obtain ⟨i, ei⟩ : ∃ i : Nat, x = (i : Int) := ⟨x.toNat, by omega⟩
  subst ei
  rw [show ((i : Int)).toNat = i by omega]
  obtain ⟨d0, d1, _⟩ := row_at h.2 rfl (k := i) (by omega)
  have hlen := h.1.len
  obtain ⟨M, eM⟩ : ∃ M : Nat, N.length + 2 = M := ⟨_, rfl⟩
  have hi : (i : Int) < (M : Int) := by omega
  rw [eM]
  generalize nd N i = n at *
  clear h eM hx h1
  by_cases h4 : n.1 = 4
  · have e4 : (n.1 == 4) = true := by simpa using h4
    rw [e4]
    go_enter Try.func31, Try.ntmps31
    go_wp2
    go_ret
    exact ⟨rfl, rfl⟩
  · have e4 : (n.1 == 4) = false := by simpa using h4
    rw [e4]
    go_enter Try.func31, Try.ntmps31
    go_wp2
    go_ret
    exact ⟨rfl, rfl⟩
end Go.Proofs.Ytmeomfnnachkoaa.RefN
