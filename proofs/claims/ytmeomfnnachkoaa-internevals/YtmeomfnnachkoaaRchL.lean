/- Node and parts of a table; slices.Reverse laid at this program; Reach. -/
import Derived.Shelf.Lay
import Derived.Shelf.LaySoft
import Derived.Shelf.Slices.Reverse
import Derived.Sort.OwnSortedInts
import Derived.Test.YtmeomfnnachkoaaEvA
import Derived.Test.YtmeomfnnachkoaaRchN
import Derived.Test.YtmeomfnnachkoaaPlR
namespace Go.Proofs
open Go.Shelf
shelf_lay Lays.n112 Nm 112 at Try as Try.lays112
end Go.Proofs
namespace Go.Proofs.Ytmeomfnnachkoaa.RchL
open Go.RowKit Go.Maps Go.Sort Mem NdNum TabL NumL DoL DoA PlayL MeanN EvL EvA RchN PlR

theorem tnode_any {w : World} {g r m : Nat} {N : List Nd} (h : Tab w g r m N) (a : Int) :
    Calls Try.prog 17 #[.pointer (some ⟨g, 0, none⟩), .int .i64 a] w fun e w' => e = .returned (.tuple #[node (if hasN N a = true then nd N a.toNat else (0, 0, 0)), .bool (hasN N a)]) ∧ Below w.heap.size w w' := by
  have B0 : Below w.heap.size w (w.alloc (.cells #[.int .i64 0, .int .i64 0, .int .i64 0] 33)) := (Below.refl _ w).alloc (Nat.le_refl _) _
  obtain ⟨W0, eW0⟩ : ∃ W0, w.alloc (.cells #[.int .i64 0, .int .i64 0, .int .i64 0] 33) = W0 := ⟨_, rfl⟩
  have k0 : W0.heap[w.heap.size]? = some (boxN (.int .i64 0) (.int .i64 0) (.int .i64 0)) := by rw [← eW0]; exact heap_alloc_new w _
  rw [eW0] at B0
  have h0 := h.below B0
  have lt0 := heap_lt k0
  have cH := has_any h0 a
  obtain ⟨x0, x1, x2⟩ := boxN_cells k0
  have xf := boxN_frozen k0
  by_cases ha : hasN N a = true
  · have cN := node_any h0 a ha
    rw [if_pos ha, ha]
    rw [ha] at cH
    generalize nd N a.toNat = n at *
    unfold node at cN
    clear ha
    go_enter Try.func17, Try.ntmps17
    go_wp2_with (first
      | (go_at_call 23; refine cH.mono ?_; rintro e w1 ⟨rfl, hw⟩; have hw2 := hw.symm; clear hw; subst hw2)
      | (go_at_call 20; refine cN.mono ?_; rintro e w2 ⟨rfl, b2⟩; have k2 : w2.heap[w.heap.size]? = some (boxN (.int .i64 0) (.int .i64 0) (.int .i64 0)) := (b2.block _ lt0).trans k0; obtain ⟨y0, y1, y2⟩ := boxN_cells k2; have yf := boxN_frozen k2))
    have k3 := boxN_set k2 (.int .i64 n.1) (.int .i64 n.2.1) (.int .i64 n.2.2)
    have b3 := boxN_below (bt B0 b2) (Nat.le_refl _) (.int .i64 n.1) (.int .i64 n.2.1) (.int .i64 n.2.2)
    generalize (((w2.setCell _ _).setCell _ _).setCell _ _) = W3 at *
    obtain ⟨z0, z1, z2⟩ := boxN_cells k3
    refine bodyPost_ret (v := .tuple #[node n, .bool true]) ?_ rfl ?_
    · simp [results, go_sem, node, z0, z1, z2]
    · exact ⟨rfl, b3⟩
  · have hf : hasN N a = false := by simpa using ha
    rw [if_neg ha, hf]
    rw [hf] at cH
    clear ha
    go_enter Try.func17, Try.ntmps17
    go_wp2_with (go_at_call 23; refine cH.mono ?_; rintro e w1 ⟨rfl, hw⟩; have hw2 := hw.symm; clear hw; subst hw2)
    have k3 := boxN_set k0 (.int .i64 0) (.int .i64 0) (.int .i64 0)
    have b3 := boxN_below B0 (Nat.le_refl _) (.int .i64 0) (.int .i64 0) (.int .i64 0)
    generalize (((W0.setCell _ _).setCell _ _).setCell _ _) = W3 at *
    obtain ⟨z0, z1, z2⟩ := boxN_cells k3
    refine bodyPost_ret (v := .tuple #[node (0, 0, 0), .bool false]) ?_ rfl ?_
    · simp [results, go_sem, node, z0, z1, z2]
    · exact ⟨rfl, b3⟩
/-- The numbers in memory. -/
def zs (L : List Int) : List Value := L.map (Value.int .i64)
theorem parts_any (n : Nd) (w : World) :
    Calls Try.prog 28 #[node n] w fun e w' => ∃ o c, e = .returned (.slice o (partsN n).length c) ∧ w'.ownsRow w.heap.size 3 1 (.slice o (partsN n).length c) (partsN n).length (zs (partsN n)) ∧ Below w.heap.size w w' := by
  obtain ⟨k, a, b⟩ := n
  obtain ⟨W0, eW0⟩ : ∃ W0, w.alloc (.cells #[.int .i64 k, .int .i64 a, .int .i64 b] 33) = W0 := ⟨_, rfl⟩
  have B0 : Below w.heap.size w W0 := by rw [← eW0]; exact (Below.refl _ w).alloc (Nat.le_refl _) _
  have k0 : W0.heap[w.heap.size]? = some (.cells #[.int .i64 k, .int .i64 a, .int .i64 b] 33) := by rw [← eW0]; exact heap_alloc_new w _
  obtain ⟨d0, d1, d2⟩ := cells3 k0
  unfold node
  by_cases k4 : k = 4
  · subst k4
    rw [show partsN (4, a, b) = [a] from rfl]
    have ho := World.ownsRow_lit (base := w.heap.size) (e := 3) (size := 1) W0 #[.int .i64 a] 1 B0.size (by decide) rfl
    have hb1 : Below w.heap.size w (W0.alloc (.cells #[.int .i64 a] 3)) := B0.alloc B0.size _
    go_enter Try.func28, Try.ntmps28
    go_wp2
    go_ret
    exact ⟨_, _, rfl, ho, hb1⟩
  by_cases k5 : k = 5
  · subst k5
    rw [show partsN (5, a, b) = [a, b] from rfl]
    have ho := World.ownsRow_lit (base := w.heap.size) (e := 3) (size := 1) W0 #[.int .i64 a, .int .i64 b] 2 B0.size (by decide) rfl
    have hb1 : Below w.heap.size w (W0.alloc (.cells #[.int .i64 a, .int .i64 b] 3)) := B0.alloc B0.size _
    go_enter Try.func28, Try.ntmps28
    go_wp2
    go_ret
    exact ⟨_, _, rfl, ho, hb1⟩
  by_cases k6 : k = 6
  · subst k6
    rw [show partsN (6, a, b) = [a, b] from rfl]
    have ho := World.ownsRow_lit (base := w.heap.size) (e := 3) (size := 1) W0 #[.int .i64 a, .int .i64 b] 2 B0.size (by decide) rfl
    have hb1 : Below w.heap.size w (W0.alloc (.cells #[.int .i64 a, .int .i64 b] 3)) := B0.alloc B0.size _
    go_enter Try.func28, Try.ntmps28
    go_wp2
    go_ret
    exact ⟨_, _, rfl, ho, hb1⟩
  rw [show partsN (k, a, b) = [] by unfold partsN; simp [k4, k5, k6]]
  have q4 : (k == 4) = false := by simpa using k4
  have q5 : (k == 5) = false := by simpa using k5
  have q6 : (k == 6) = false := by simpa using k6
  go_enter Try.func28, Try.ntmps28
  go_wp2
  go_ret
  exact ⟨none, 0, rfl, World.ownsRow_nil _ _ _ _, B0⟩
/-- slices.Reverse of a row of one's own. -/
theorem reverse_any {w : World} {base d c : Nat} {L : List Int} (h : w.ownsRow base 3 1 (.slice (some ⟨d, 0, none⟩) L.length c) L.length (zs L)) (hm : L.length ≤ 20000) :
    Calls Try.prog 29 #[.slice (some ⟨d, 0, none⟩) L.length c] w fun e w' => e = .returned (.tuple #[]) ∧ Lies w' (some ⟨d, 0, none⟩) c (zs L.reverse) ∧ w.grownBy w' (some d) := by
  have hH : Go.Sort.Holds (Value.int .i64) w d 0 L.toArray := fun j hj => by
    simp only [List.size_toArray] at hj
    refine ⟨?_, h.frozenAt _⟩
    rw [Nat.zero_add, h.cellAt j (by omega)]
    unfold zs
    rw [List.getElem?_map, List.getElem?_eq_getElem hj]
    simp [hj]
  refine (Any.slices_Reverse_int Try.lays112 d 0 c L w hH (by omega)).mono ?_
  rintro e w' ⟨rfl, n, rfl⟩
  have hH2 := Go.Sort.holds_putRow (Value.int .i64) (Go.Sort.ahead w n) d 0 L.toArray L.reverse.toArray (Go.Sort.holds_ahead _ _ _ _ _ _ hH) (by simp)
  have hg := grownBy_sortedI (w := w) (g := d) (n := n) (os := #[]) L.reverse.toArray
  rw [Go.Sort.grow_empty] at hg
  refine ⟨rfl, ⟨by simp [zs]; have := (lies_of_owns h).1; simpa [zs] using this, (lies_of_owns h).2.1, fun hn => by simp at hn, fun _ => ⟨d, 0, rfl, ?_, fun i hi => ?_⟩⟩, hg⟩
  · have := (h.lt d rfl).2
    simpa using this
  · simp [zs] at hi
    have := (hH2 i (by simpa using hi)).1
    rw [this]
    unfold zs
    rw [List.getElem?_map]
    simp [hi]
/-- The row of what is reached. -/
def bs (S : List Bool) : List Value := S.map Value.bool
theorem bs_len (S : List Bool) : (bs S).length = S.length := by simp [bs]
theorem bs_set (S : List Bool) (k : Nat) (x : Bool) : (bs S).set k (.bool x) = bs (S.set k x) := by simp [bs, List.map_set]
theorem bs_at {w : World} {base c n cap k : Nat} {S : List Bool} (h : w.ownsRow base 4 1 (.slice (some ⟨c, 0, none⟩) n cap) n (bs S)) (hS : S.length = n) (hk : k < n) : w.cell? ⟨c, k, none⟩ = some (.bool (at0 S (k : Int))) := by
  rw [h.cellAt k (by omega)]
  unfold bs at0
  rw [List.getElem?_map, Int.toNat_natCast, List.getElem?_eq_getElem (by omega)]
  rfl
theorem bs_store {w : World} {base c n cap : Nat} {S : List Bool} (h : w.ownsRow base 4 1 (.slice (some ⟨c, 0, none⟩) n cap) n (bs S)) (k : Nat) (x : Bool) : (w.setCell ⟨c, k, none⟩ (.bool x)).ownsRow base 4 1 (.slice (some ⟨c, 0, none⟩) n cap) n (bs (S.set k x)) := by
  have := (h.stored k (.bool x)).1
  rwa [bs_set] at this
def nats (L : List Nat) : List Int := L.map (fun n : Nat => (n : Int))
theorem nats_snoc (L : List Nat) (k : Nat) : zs (nats (L ++ [k])) = zs (nats L) ++ [.int .i64 (k : Int)] := by simp [zs, nats]
theorem nats_len (L : List Nat) : (nats L).length = L.length := by simp [nats]
theorem nats_rev (L : List Nat) : (nats L).reverse = nats L.reverse := by simp [nats]
theorem start_row (I : Nat) : ((madeCells (Value.bool false).cells (I + 1)).toList).set I (.bool true) = bs (startN I) := by
  rw [show (madeCells (Value.bool false).cells (I + 1)).toList = List.replicate (I + 1) (.bool false) from toList_madeCells_one _ _]
  unfold startN bs
  simp [List.map_set]
theorem own_set {w : World} {base : Nat} {e : TypeId} {v : Value} {n : Nat} {xs : List Value} {c : Nat} (h : w.ownsRow base e 1 v n xs) (hc : c < base) (k : Nat) (x : Value) : (w.setCell ⟨c, k, none⟩ x).ownsRow base e 1 v n xs := by
  refine h.kept (grown_set w c k x) ?_
  cases hb : v.ownBlock with
  | none => exact .inl rfl
  | some b => right; have := (h.lt b hb).1; simp; omega
theorem row_beside {w w' : World} {c n cap k : Nat} {S : List Bool} {v : Value} {xs : List Value} {o : Obj} {e : TypeId} (h : w.ownsRow c 4 1 (.slice (some ⟨c, 0, none⟩) n cap) n (bs S)) (hl : w.ownsRow (c + 1) e 1 v k xs) (hg : (w.alloc o).grownBy w' v.ownBlock) :
    w'.ownsRow c 4 1 (.slice (some ⟨c, 0, none⟩) n cap) n (bs S) := by
  refine (h.alloc o).kept hg (.inr ?_)
  show some c ≠ v.ownBlock
  intro hb
  have := (hl.lt c hb.symm).1
  omega
theorem _root_.Go.World.ownsRow.rebase {w : World} {base base' : Nat} {e : TypeId} {size : Nat} {v : Value} {n : Nat} {xs : List Value} (h : w.ownsRow base e size v n xs) (hb : base' ≤ base) : w.ownsRow base' e size v n xs := by
  refine ⟨h.1, ?_⟩
  rcases h.2 with h' | ⟨g, cap, cur, h1, h2, h3⟩
  · exact .inl h'
  · exact .inr ⟨g, cap, cur, h1, by omega, h3⟩
theorem zs_at {w : World} {base k n : Nat} {o : Option Addr} {cap : Nat} {L : List Int} (h : w.ownsRow base 3 1 (.slice o n cap) n (zs L)) (hk : k < n) (hn : L.length = n) : ∃ b, o = some ⟨b, 0, none⟩ ∧ w.cell? ⟨b, k, none⟩ = some (.int .i64 (L[k]?.getD 0)) := by
  obtain ⟨b, cc, e⟩ := own_slice h (by omega)
  simp only [Value.slice.injEq, true_and] at e
  obtain ⟨rfl, rfl⟩ := e
  refine ⟨b, rfl, ?_⟩
  rw [h.cellAt k (by omega)]
  unfold zs
  rw [List.getElem?_map, List.getElem?_eq_getElem (by omega)]
  rfl
theorem setAll_next (S : List Bool) (ps : List Int) {j : Nat} (h : j < ps.length) : setAll S (ps.take (j + 1)) = (setAll S (ps.take j)).set (ps[j]?.getD 0).toNat true := by
  rw [List.take_add_one, List.getElem?_eq_getElem h]
  unfold setAll
  rw [List.foldl_append]
  rfl
/-- How far Reach has come: m numbers are left. -/
structure RS (w wr : World) (c I : Nat) (N : List Nd) (F : List Bool) (R : List Nat) (m : Nat) (v6 : Value) (S : List Bool) (O : List Nat) : Prop where
  len : S.length = I + 1
  fin : (rrun N m S).1 = F
  out : O ++ (rrun N m S).2 = R
  row : wr.ownsRow c 4 1 (.slice (some ⟨c, 0, none⟩) (I + 1) (I + 1)) (I + 1) (bs S)
  list : wr.ownsRow (c + 1) 3 1 v6 O.length (zs (nats O))
  low : Below c w wr
set_option maxRecDepth 20000 in
set_option maxHeartbeats 2000000 in
theorem reach_any {w : World} {g r m : Nat} {N : List Nd} (h : Tab w g r m N) (i : Int) :
    Calls Try.prog 16 #[.pointer (some ⟨g, 0, none⟩), .int .i64 i] w fun e w' => ∃ o c, e = .returned (.slice o (reachN N i).length c) ∧ Lies w' o c (zs (nats (reachN N i))) ∧ Below w.heap.size w w' := by
  obtain ⟨i0, hi0, hz0, hz1, hz2⟩ := info_parts infoB
  obtain ⟨j0, hj0, hy0, hy1, hy2⟩ := info_parts infoI
  have cH := has_any h i
  by_cases ha : hasN N i = true
  · rw [ha] at cH
    have h1 := hasN_iff.1 ha
    obtain ⟨I, rfl⟩ : ∃ I : Nat, i = (I : Int) := ⟨i.toNat, by omega⟩
    have hI : I < N.length + 2 := by omega
    have hl := h.1.len
    have hI2 : I < 20000 := by omega
    obtain ⟨R, eR⟩ : ∃ R, (rrun N (I + 1) (startN I)).2 = R := ⟨_, rfl⟩
    obtain ⟨F, eF⟩ : ∃ F, (rrun N (I + 1) (startN I)).1 = F := ⟨_, rfl⟩
    have eRR : reachN N (I : Int) = R.reverse := by unfold reachN; rw [if_pos ha, Int.toNat_natCast, eR]
    rw [eRR]
    have hRl : R.length ≤ I + 1 := by rw [← eR]; exact rrun_out_len _ _ _
    have HT : Hid (Tab w g r m N) := h
    have HI : Hid (I < N.length + 2) := hI
    have HS0 : Hid ((rrun N (I + 1) (startN I)).1 = F ∧ (rrun N (I + 1) (startN I)).2 = R) := ⟨eF, eR⟩
    clear h1 ha h hI hl eR eF eRR
    generalize hRL : R.length = RL at *
    rw [List.length_reverse, hRL]
    go_enter Try.func16, Try.ntmps16
    go_wp2_with (first
      | (go_at_call 23; refine cH.mono ?_; rintro e w1 ⟨rfl, hw1⟩; have hw2 := hw1.symm; clear hw1; subst hw2)
      | (at_make; refine wpList_make_full _ rfl _ _ 37 rfl w.heap.size 4 i0 (.bool false) 1 Try.underlying37 hi0 hz0 hz1 .i64 .i64 ((I : Int) + 1) ((I : Int) + 1) (I + 1) rfl rfl (by simp) (by simp) (by rw [hz2]; omega) (by unfold maxLen; omega) (Nat.le_refl _) ?_; intro w2 hown2 hgr2; rw [Nat.mul_one] at hown2; have fz := hown2.frozenAt; have cl0 := hown2.cellAt I (by omega); rw [show (madeCells (Value.bool false).cells (I + 1)).toList = List.replicate (I + 1) (.bool false) from toList_madeCells_one _ _, List.getElem?_replicate, if_pos (by omega)] at cl0))
    have hb2 : Below w.heap.size w w2 := (Below.refl _ w).grown hgr2 (Nat.le_refl _) (by simp)
    have ho3 := (hown2.stored I (.bool true)).1
    rw [start_row] at ho3
    have hb3 : Below w.heap.size w (w2.setCell ⟨w.heap.size, I, none⟩ (.bool true)) := hb2.setCell (Nat.le_refl _) _
    have rs0 : RS w (w2.setCell ⟨w.heap.size, I, none⟩ (.bool true)) w.heap.size I N F R (I + 1) (.slice none 0 0) (startN I) [] := ⟨startN_len I, HS0.out.1, by rw [List.nil_append]; exact HS0.out.2, ho3, World.ownsRow_nil _ _ _ _, hb3⟩
    clear hgr2 cH hown2 fz cl0 ho3 hb3 hb2
    generalize w2.setCell ⟨w.heap.size, I, none⟩ (.bool true) = w3 at *
    generalize hgg : w.heap.size = c at *
    go_loopw [6, 7] (fun v6 kv wr => ∃ (m : Nat) (S : List Bool) (O : List Nat) (vv : Value), m ≤ I + 1 ∧ kv = .int .i64 ((m : Int) - 1) ∧ vv = v6 ∧ Hid (RS w wr c I N F R m vv S O)) (fun _ kv _ => ((intOf kv) + 1).toNat)
    case atStart => exact ⟨I + 1, startN I, [], _, Nat.le_refl _, by simp, rfl, rs0⟩
    case round =>
      clear rs0
      obtain ⟨m, S, O, v6, hm, rfl, rfl, HR⟩ := hrel
      by_cases hlt : 0 < m
      · obtain ⟨k, rfl⟩ : ∃ k, m = k + 1 := ⟨m - 1, by omega⟩
        rw [show ((k + 1 : Nat) : Int) - 1 = (k : Int) by omega]
        have hr := HR.out
        have hkI : k < I + 1 := by omega
        have ck := bs_at hr.row hr.len hkI
        have hcl := (hr.row.lt c rfl).2
        cases hS : at0 S (k : Int) with
        | false =>
          rw [hS] at ck
          have hr2 : Hid (RS w wr c I N F R k v6 S O) := by
            have e := step_off (N := N) hS
            have f := hr.fin
            have o := hr.out
            simp only [rrun, hS, e] at f o
            exact ⟨hr.len, f, by simpa using o, hr.row, hr.list, hr.low⟩
          clear hr hS
          go_wp2
          go_roundw
          case rel => exact ⟨k, S, O, _, by omega, rfl, rfl, hr2⟩
          case measure => simp [intOf]
        | true =>
          rw [hS] at ck
          have hkN : k < N.length + 2 := by have := HI.out; omega
          have hol : O.length ≤ 20000 := by have := congrArg List.length hr.out; rw [List.length_append, hRL] at this; omega
          have o6 := hr.list
          obtain ⟨nO, enO⟩ : ∃ n, O.length = n := ⟨_, rfl⟩
          rw [enO] at o6 hol
          have hbw := hr.low
          rw [← hgg] at hbw
          have TB := fun (W : World) (hb : Below w.heap.size w W) => node_any (HT.out.below hb) (k : Int) (hasN_iff.2 (by omega))
          rw [Int.toNat_natCast] at TB
          have hpl := parts_lt HT.out.1 hkN
          have hpn : (partsN (nd N k)).length ≤ 2 := by unfold partsN; split; simp; split <;> simp
          have hst : stepN N k S = setAll S (partsN (nd N k)) := by unfold stepN; rw [if_pos hS]
          have hnx := hr.fin
          have hox := hr.out
          simp only [rrun, hS, hst, if_true] at hnx hox
          have cP := fun (W : World) => parts_any (nd N k) W
          generalize hPS : partsN (nd N k) = ps at *
          generalize nd N k = n at *
          generalize hPL : ps.length = pl at *
          have HX : Hid ((rrun N k (setAll S ps)).1 = F ∧ O ++ k :: (rrun N k (setAll S ps)).2 = R ∧ ps.length = pl ∧ O.length = nO ∧ (∀ p ∈ ps, 0 ≤ p ∧ p < (k : Int)) ∧ S.length = I + 1) := ⟨hnx, hox, hPL, enO, hpl, hr.len⟩
          have row6 := hr.row
          unfold node at TB cP
          clear hnx hox hPL enO hpl hr hst hPS HR hS hkN
          go_wp2_with (first
            | (at_builtin; refine wpList_append_own_at _ rfl _ _ 24 rfl (c + 1) 3 j0 (.int .i64 0) 1 8 Try.underlying24 hj0 hy0 hy1 hy2 rfl (by decide) v6 nO (zs (nats O)) rfl (o6.alloc _) ⟨wr.heap.size, 0, none⟩ 1 1 [.int .i64 (k : Int)] rfl rfl (new_one wr _ _) (by simp [Value.oneCell']) (by unfold maxLen; omega) (by omega) (by simp; omega) ?_; intro v7 w4 hown4 hgrow4 hnil4 hloc4; have row4 := row_beside row6 o6 hgrow4; have b4 : Below w.heap.size w w4 := (hbw.alloc (by omega) _).grown hgrow4 (by simp; omega) (fun j hj => by have := (o6.lt j hj).1; omega))
            | (go_at_call 20; refine (TB _ b4).mono ?_; rintro e w5 ⟨rfl, b5⟩)
            | (go_at_call 28; refine (cP _).mono ?_; rintro e w6 ⟨po, pc, rfl, pown, b6⟩))
          have c46 := bt b5 b6
          have row7 : Hid (w6.ownsRow c 4 1 (.slice (some ⟨c, 0, none⟩) (I + 1) (I + 1)) (I + 1) (bs (setAll S (ps.take 0)))) := keep row4 c46
          have list7 : Hid (w6.ownsRow (c + 1) 3 1 v7 (nO + 1) (zs (nats (O ++ [k])))) := by unfold Hid; rw [nats_snoc]; exact keep hown4 c46
          have b7 : Hid (Below c w w6) := by have x := bt b4 c46; rwa [hgg] at x
          have c4 : c < w4.heap.size := (row4.lt c rfl).2
          have c5 : c < w5.heap.size := by have := b5.size; omega
          have pown7 : Hid (w6.ownsRow (c + 1) 3 1 (.slice po pl pc) pl (zs ps)) := pown.rebase (by omega)
          clear row4 hown4 c46 b4 b5 b6 pown hgrow4 row6 o6 TB cP ck hbw
          go_loopw [39] (fun jv wr => ∃ j : Nat, j ≤ pl ∧ jv = .int .i64 j ∧ Hid (wr.ownsRow c 4 1 (.slice (some ⟨c, 0, none⟩) (I + 1) (I + 1)) (I + 1) (bs (setAll S (ps.take j)))) ∧ Hid (wr.ownsRow (c + 1) 3 1 v7 (nO + 1) (zs (nats (O ++ [k])))) ∧ Hid (wr.ownsRow (c + 1) 3 1 (.slice po pl pc) pl (zs ps)) ∧ Hid (Below c w wr)) (fun jv _ => pl - (intOf jv).toNat)
          case atStart => exact ⟨0, Nat.zero_le _, rfl, row7, list7, pown7, b7⟩
          case round =>
            clear row7 list7 pown7 b7
            obtain ⟨j, hj, rfl, H1, H2, H3, H4⟩ := hrel
            by_cases hjl : j < pl
            · obtain ⟨pb, rfl, hc⟩ := zs_at H3.out hjl HX.out.2.2.1
              have hnx := setAll_next S ps (j := j) (by rw [HX.out.2.2.1]; exact hjl)
              have hpr := HX.out.2.2.2.2.1 (ps[j]?.getD 0) (by rw [List.getElem?_eq_getElem (by rw [HX.out.2.2.1]; exact hjl)]; exact List.getElem_mem _)
              generalize ps[j]?.getD 0 = p at *
              obtain ⟨q, rfl⟩ : ∃ q : Nat, p = (q : Int) := ⟨p.toNat, by omega⟩
              rw [Int.toNat_natCast] at hnx
              have hqI : q < I + 1 := by omega
              have cq := bs_at H1.out (by rw [setAll_len]; exact HX.out.2.2.2.2.2) hqI
              have fz := H1.out.frozenAt
              go_wp2
              go_roundw
              case rel => exact ⟨j + 1, by omega, by simp, by unfold Hid; rw [hnx]; exact bs_store H1.out q true, own_set H2.out (by omega) _ _, own_set H3.out (by omega) _ _, H4.out.setCell (Nat.le_refl _) _⟩
              case measure => simp [intOf]; omega
            · obtain rfl : j = pl := by omega
              rw [List.take_of_length_le (by rw [HX.out.2.2.1]; exact Nat.le_refl _)] at H1
              go_wp2
              go_roundw
              case rel => exact ⟨k, setAll S ps, O ++ [k], _, by omega, rfl, rfl, ⟨by rw [setAll_len]; exact HX.out.2.2.2.2.2, HX.out.1, by rw [List.append_assoc]; exact HX.out.2.1, H1.out, by rw [List.length_append, HX.out.2.2.2.1]; exact H2.out, H4.out⟩⟩
              case measure => simp [intOf]
      · obtain rfl : m = 0 := by omega
        have hr := HR.out
        obtain rfl : O = R := by have := hr.out; simpa [rrun] using this
        have hpos : 0 < RL := by
          have e := HS0.out.2
          simp only [rrun] at e
          rw [if_pos (by simp [startN, at0])] at e
          rw [← hRL, ← e]
          simp
        have hlist := hr.list
        rw [hRL] at hlist
        obtain ⟨d, cc, rfl⟩ := own_slice hlist hpos
        have hd := (hlist.lt d rfl).1
        have cR := reverse_any (L := nats O) (w := wr) (base := c + 1) (d := d) (c := cc) (by rw [nats_len, hRL]; exact hlist) (by rw [nats_len]; omega)
        rw [nats_len, hRL, nats_rev] at cR
        have hlow := hr.low
        clear hr hlist
        go_wp2_with (go_at_call 29; refine cR.mono ?_; rintro e w9 ⟨rfl, l9, g9⟩)
        go_ret
        subst hgg
        exact ⟨_, _, rfl, l9, hlow.grown g9 hlow.size (fun j hj => by simp at hj; omega)⟩
  · have h0 : hasN N i = false := by simpa using ha
    rw [h0] at cH
    rw [show reachN N i = [] by unfold reachN; rw [if_neg ha]]
    clear ha h0
    go_enter Try.func16, Try.ntmps16
    go_wp2_with (go_at_call 23; refine cH.mono ?_; rintro e w1 ⟨rfl, hw1⟩; have hw2 := hw1.symm; clear hw1; subst hw2)
    go_ret
    exact ⟨none, 0, rfl, ⟨by simp [zs, nats], by decide, fun _ => rfl, fun hp => by simp [zs, nats] at hp⟩, Below.refl _ _⟩
end Go.Proofs.Ytmeomfnnachkoaa.RchL
