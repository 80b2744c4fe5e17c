/- Rows of nodes and operations in memory; few; Play. -/
import Derived.Test.YtmeomfnnachkoaaDoA
namespace Go.Proofs.Ytmeomfnnachkoaa.PlayL
open Go.RowKit Go.Maps Mem NdNum TabL NumL DoL DoA

/-- The slice at address ao, of capacity cap, holds these. -/
def Li (w : World) (ao : Option Addr) (cap : Nat) (L : List Nd) : Prop :=
  L.length ≤ cap ∧ cap ≤ maxLen ∧ (ao = none → cap = 0) ∧ (0 < L.length → ∃ b off, ao = some ⟨b, off, none⟩ ∧ b < w.heap.size ∧ ∀ j u, (flat L)[j]? = some u → w.cell? ⟨b, off + j, none⟩ = some u)
theorem Li.below {w w' : World} {B : Nat} {ao : Option Addr} {cap : Nat} {L : List Nd} (h : Li w ao cap L) (hb : Below B w w') (hB : w.heap.size ≤ B) : Li w' ao cap L := by
  obtain ⟨h1, h2, h3, h4⟩ := h
  refine ⟨h1, h2, h3, fun hp => ?_⟩
  obtain ⟨b, off, rfl, hlt, hc⟩ := h4 hp
  refine ⟨b, off, rfl, Nat.lt_of_lt_of_le hlt hb.size, fun j u hj => ?_⟩
  rw [hb.cell (p := ⟨b, off + j, none⟩) (Nat.lt_of_lt_of_le hlt hB)]
  exact hc j u hj
theorem li_of_owns {w : World} {base : Nat} {e : TypeId} {ao : Option Addr} {cap : Nat} {L : List Nd} (h : w.ownsRow base e 3 (.slice ao L.length cap) L.length (flat L)) : Li w ao cap L := by
  rcases h.2 with ⟨h', h0⟩ | ⟨g, cap', cur, h', hb, hg, hnc, hcm, hcs, htake⟩
  · simp only [Value.slice.injEq] at h'
    obtain ⟨rfl, _, rfl⟩ := h'
    exact ⟨by omega, by decide, fun _ => rfl, fun hp => by omega⟩
  · simp only [Value.slice.injEq] at h'
    obtain ⟨rfl, _, rfl⟩ := h'
    refine ⟨by omega, hcm, fun hn => by simp at hn, fun hp => ⟨g, 0, rfl, (h.lt g rfl).2, fun j u hj => ?_⟩⟩
    have := h.cells (g := g) rfl j u hj
    rw [Go.WideShapes.add_plain] at this
    exact this
theorem Li.take {w : World} {ao : Option Addr} {cap : Nat} {L : List Nd} (h : Li w ao cap L) (n : Nat) : Li w ao cap (L.take n) := by
  obtain ⟨h1, h2, h3, h4⟩ := h
  have hl : (L.take n).length ≤ L.length := by simp; omega
  refine ⟨by omega, h2, h3, fun hp => ?_⟩
  obtain ⟨b, off, rfl, hlt, hc⟩ := h4 (by omega)
  refine ⟨b, off, rfl, hlt, fun j u hj => hc j u ?_⟩
  rw [← flat_take, List.getElem?_take] at hj
  split at hj
  · exact hj
  · simp at hj
theorem Li.at {w : World} {ao : Option Addr} {cap : Nat} {L : List Nd} (h : Li w ao cap L) {i : Nat} {n : Nd} (hi : L[i]? = some n) : ∃ b off, ao = some ⟨b, off, none⟩ ∧ b < w.heap.size ∧
    w.cell? ⟨b, off + i * 3, none⟩ = some (.int .i64 n.1) ∧ w.cell? ⟨b, off + i * 3 + 1, none⟩ = some (.int .i64 n.2.1) ∧ w.cell? ⟨b, off + i * 3 + 2, none⟩ = some (.int .i64 n.2.2) := by
  have hlt : i < L.length := by
    rcases Nat.lt_or_ge i L.length with h1 | h1
    · exact h1
    · rw [List.getElem?_eq_none h1] at hi; simp at hi
  obtain ⟨b, off, rfl, hb, hc⟩ := h.2.2.2 (by omega)
  obtain ⟨f0, f1, f2⟩ := flat_get L i n hi
  exact ⟨b, off, rfl, hb, hc _ _ f0, hc _ _ f1, hc _ _ f2⟩
theorem wpList_append_li {P : Program} (w : World) {ops : Array Oper} {rest : List Oper} {o : Oper} {a : Act} {Q : Exit → Act → World → Prop} (hgd : o.guard = none) (s x : Operand) (t : TypeId)
    (ho : o.op = .call { callee := .builtin .append, args := #[s, x], argTypes := #[t, t] })
    (base : Nat) (e : TypeId) (i : TypeInfo) (z : Value) (bytes : Nat) (ht : P.underlying t = some (.slice e)) (hi : P.info? e = some i) (hz : i.zero = some z)
    (hsize : i.size = 3) (hby : i.bytes = bytes) (hzs : z.cells.size = 3)
    (v : Value) (n : Nat) (xs : List Value) (hs : a.eval s = v) (hown : w.ownsRow base e 3 v n xs)
    (ao : Option Addr) (c : Nat) (L : List Nd) (hx : a.eval x = .slice ao L.length c) (hl : Li w ao c L)
    (h63 : n + L.length ≤ maxLen) (hbytes : (n + L.length) * bytes ≤ 140737488355328) (hbase : base ≤ w.heap.size)
    (h : ∀ v' w', w'.ownsRow base e 3 v' (n + L.length) (xs ++ flat L) → w.grownBy w' v.ownBlock → wpList P ops Q rest (a.put o.dst v') w') : wpList P ops Q (o :: rest) a w := by
  cases ao with
  | none =>
    have h0 := hl.2.2.1 rfl
    have h2 := hl.1
    obtain rfl : c = 0 := h0
    obtain rfl : L = [] := List.length_eq_zero_iff.1 (by omega)
    exact wpList_append_own_none hgd s x t ho base e i 3 ht hi v n xs hs hown hx (h v w (by simpa [flat] using hown) ⟨rfl, rfl, rfl, Nat.le_refl _, fun _ _ _ => rfl⟩)
  | some ad =>
    refine wpList_append_own w hgd s x t ho base e i z 3 bytes ht hi hz hsize hby hzs (by decide) v n xs hs hown ad L.length c (flat L) hx (flat_length L) ?_ (flat_one L) h63 hbytes hbase (fun v' w' h2 h3 _ => h v' w' h2 h3)
    intro j u hj
    have hp : 0 < L.length := by
      rcases Nat.eq_zero_or_pos L.length with h1 | h1
      · rw [List.length_eq_zero_iff.1 h1] at hj; simp [flat] at hj
      · exact h1
    obtain ⟨b, off, e1, _, hc⟩ := hl.2.2.2 hp
    simp only [Option.some.injEq] at e1
    subst e1
    rw [Go.WideShapes.add_plain]
    exact hc j u hj
theorem infoO : (Try.prog.info? 36).map (fun i => (i.zero, i.size, i.bytes)) = some (some (node (0, 0, 0)), 3, 24) := by kernel_rfl
theorem infoI : (Try.prog.info? 3).map (fun i => (i.zero, i.size, i.bytes)) = some (some (.int .i64 0), 1, 8) := by kernel_rfl
theorem owns_slice {w : World} {base : Nat} {e : TypeId} {size : Nat} {v : Value} {n : Nat} {xs : List Value} (h : w.ownsRow base e size v n xs) : ∃ ao cap, v = .slice ao n cap := by
  rcases h.2 with ⟨h', h0⟩ | ⟨g, cap', cur, h', _⟩
  · exact ⟨none, 0, by rw [h', h0]⟩
  · exact ⟨_, _, h'⟩
theorem few_any (L : List Nd) (ao : Option Addr) (cap : Nat) (w : World) (h : Li w ao cap L) :
    Calls Try.prog 8 #[.slice ao L.length cap] w fun e w' => ∃ o c, e = .returned (.slice o (L.take 200).length c) ∧ w'.ownsRow w.heap.size 36 3 (.slice o (L.take 200).length c) (L.take 200).length (flat (L.take 200)) ∧ Below w.heap.size w w' := by
  obtain ⟨i0, hi, hz0, hz1, hz2⟩ := info_parts infoO
  have m2 := h.1
  have m3 := h.2.1
  unfold maxLen at m3
  have h3 := (h.take 200).below ((Below.refl _ w).alloc (Nat.le_refl _) (.cells #[] 36)) (Nat.le_refl _)
  have hb0 : Below w.heap.size w (w.alloc (.cells #[] 36)) := (Below.refl _ w).alloc (Nat.le_refl _) _
  have hm := World.ownsRow_made (base := w.heap.size) (e := 36) (size := 3) w #[] 0 (Nat.le_refl _) (by decide) rfl
  by_cases hl : 200 < L.length
  · have e : (L.take 200).length = 200 := by rw [List.length_take]; omega
    obtain ⟨b, off, rfl, _, _⟩ := h.2.2.2 (by omega)
    have q1 : (200 : Int) < (L.length : Int) := by omega
    have q2 : (200 : Int) ≤ (cap : Int) := by omega
    clear h m2 m3
    generalize L.take 200 = T at *
    generalize L.length = M at *
    rw [e]
    go_enter Try.func8, Try.ntmps8
    go_wp2_with (at_builtin; refine wpList_append_li _ rfl _ _ 22 rfl w.heap.size 36 i0 (node (0, 0, 0)) 24 Try.underlying22 hi hz0 hz1 hz2 rfl _ 0 [] rfl hm (some ⟨b, off, none⟩) cap T (by rw [e]; rfl) h3 (by unfold maxLen; omega) (by omega) (by simp) ?_; intro v2 w2 hown2 hgr2; obtain ⟨o2, c2, rfl⟩ := owns_slice hown2)
    go_ret
    rw [Nat.zero_add, e] at *
    exact ⟨_, _, rfl, hown2, hb0.grown hgr2 (by simp) (fun k hk => (hm.lt k hk).1)⟩
  · have e : L.take 200 = L := List.take_of_length_le (by omega)
    rw [e] at h3 ⊢
    have q1 : ¬ (200 : Int) < (L.length : Int) := by omega
    clear h e
    go_enter Try.func8, Try.ntmps8
    go_wp2_with (at_builtin; refine wpList_append_li _ rfl _ _ 22 rfl w.heap.size 36 i0 (node (0, 0, 0)) 24 Try.underlying22 hi hz0 hz1 hz2 rfl _ 0 [] rfl hm ao cap L rfl h3 (by unfold maxLen; omega) (by omega) (by simp) ?_; intro v2 w2 hown2 hgr2; obtain ⟨o2, c2, rfl⟩ := owns_slice hown2)
    go_ret
    rw [Nat.zero_add] at *
    exact ⟨_, _, rfl, hown2, hb0.grown hgr2 (by simp) (fun k hk => (hm.lt k hk).1)⟩
/-! Play. -/
def ansL (rs : List (Option Int)) : List Value := rs.map (fun r => .int .i64 (r.getD (-1)))
theorem ansL_length (rs : List (Option Int)) : (ansL rs).length = rs.length := by simp [ansL]
theorem ansL_snoc (rs : List (Option Int)) (r : Option Int) : ansL (rs ++ [r]) = ansL rs ++ [.int .i64 (r.getD (-1))] := by simp [ansL]
theorem fill_up (A : List Value) (k : Nat) (z u : Value) : (A ++ List.replicate (k + 1) z).set A.length u = (A ++ [u]) ++ List.replicate k z := by
  induction A with
  | nil => simp [List.replicate_succ]
  | cons a A ih => simp only [List.cons_append, List.length_cons, List.set_cons_succ, ih]
theorem owns_block {w w' : World} {B a n c : Nat} {e : TypeId} {size : Nat} {xs : List Value} (h : w.ownsRow B e size (.slice (some ⟨a, 0, none⟩) n c) n xs) (hb : w'.heap[a]? = w.heap[a]?) : w'.ownsRow B e size (.slice (some ⟨a, 0, none⟩) n c) n xs := by
  refine ⟨h.1, ?_⟩
  rcases h.2 with ⟨h', h0⟩ | ⟨g, cap, cur, h', h2, h3, h4⟩
  · simp at h'
  · simp only [Value.slice.injEq, Option.some.injEq, Addr.mk.injEq, and_true, true_and] at h'
    obtain ⟨rfl, rfl⟩ := h'
    exact .inr ⟨a, c, cur, rfl, h2, by rw [hb]; exact h3, h4⟩
theorem tab_away {w w' : World} {g r m a i : Nat} {N : List Nd} {v : Value} (h : Tab w g r m N) (hw : w' = w.setCell ⟨a, i, none⟩ v) (h1 : a ≠ g) (h23 : N = [] ∨ (a ≠ r ∧ a ≠ m)) : Tab w' g r m N := by
  subst hw
  obtain ⟨a0, sv, mv, a1, a2⟩ := h
  refine ⟨a0, sv, mv, by rw [Below.heap_setCell _ _ _ _ (Ne.symm h1)]; exact a1, ?_⟩
  rcases a2 with a2 | ⟨b0, b1, b2, b3, ⟨cap, rfl⟩, b5, b6, D, b7, b8⟩
  · exact .inl a2
  · obtain ⟨h2, h3⟩ : a ≠ r ∧ a ≠ m := h23.resolve_left b0
    exact .inr ⟨b0, b1, b2, b3, ⟨cap, rfl⟩, b5.kept (grown_set _ _ _ _) (.inr (by simpa [Value.ownBlock] using Ne.symm h2)), b6, D, b7.kept (grown_set _ _ _ _) (by simpa using Ne.symm h3), b8⟩
theorem set3_take (X : List Value) (k : Nat) (a b c : Value) (h : k + 3 ≤ X.length) : (((X.set k a).set (k + 1) b).set (k + 2) c).take (k + 3) = X.take k ++ [a, b, c] := by
  induction X generalizing k with
  | nil => simp at h
  | cons x X ih =>
    cases k with
    | zero =>
      match X, h with
      | y :: z :: X, _ => simp
    | succ k =>
      have h2 : k + 3 ≤ X.length := by simp at h; omega
      have := ih k h2
      rw [show k + 1 + 1 = k + 1 + 1 from rfl, show k + 1 + 2 = (k + 2) + 1 from rfl, show k + 1 + 3 = (k + 3) + 1 from rfl]
      simp only [List.set_cons_succ, List.take_succ_cons, this, List.cons_append]
theorem play_row {w w2 : World} {g r m k n : Nat} {P : List (Option Int)} {o : Obj} (hO : w.ownsRow g 3 1 (.slice (some ⟨g + 1, 0, none⟩) n n) n (ansL P ++ List.replicate (n - k) (.int .i64 0))) (t2 : Away g r m (w.alloc o) w2) (hk : k < n) (hz : g + 2 ≤ w.heap.size) (hr : (r = g ∨ g + 1 < r) ∧ (m = g ∨ g + 1 < m)) (hp : P.length = k) :
    w2.ownsRow g 3 1 (.slice (some ⟨g + 1, 0, none⟩) n n) n (ansL P ++ List.replicate (n - k) (.int .i64 0)) ∧ w2.cell? ⟨g + 1, k, none⟩ = some (.int .i64 0) ∧ w2.frozen? ⟨g + 1, k, none⟩ = false := by
  have blk : w2.heap[g + 1]? = w.heap[g + 1]? := (t2.block (g + 1) (by simp; omega) (by omega) (by omega) (by omega)).trans (Below.heap_alloc w _ _ (by omega))
  have ro := owns_block hO blk
  refine ⟨ro, ?_, ro.frozenAt k⟩
  rw [ro.cellAt k (by omega), List.getElem?_append_right (by rw [ansL_length]; omega), ansL_length, hp, Nat.sub_self, List.getElem?_replicate, if_pos (by omega)]
theorem play_step {w0 w w2 : World} {g r m r' m' k n : Nat} {N : List Nd} {P : List (Option Int)} {o : Obj} (hO : w.ownsRow g 3 1 (.slice (some ⟨g + 1, 0, none⟩) n n) n (ansL P ++ List.replicate (n - k) (.int .i64 0))) (hB : Below g w0 w)
    (t1 : Tab w2 g r' m' N) (t2 : Away g r m (w.alloc o) w2) (t3 : r' = r ∨ (w.alloc o).heap.size ≤ r') (t4 : m' = m ∨ (w.alloc o).heap.size ≤ m') (hk : k < n) (hz : g + 2 ≤ w.heap.size) (hr : (r = g ∨ g + 1 < r) ∧ (m = g ∨ g + 1 < m)) (hp : P.length = k) (x : Int) :
    Tab (w2.setCell ⟨g + 1, k, none⟩ (.int .i64 x)) g r' m' N ∧ ((r' = g ∨ g + 1 < r') ∧ (m' = g ∨ g + 1 < m')) ∧
    (w2.setCell ⟨g + 1, k, none⟩ (.int .i64 x)).ownsRow g 3 1 (.slice (some ⟨g + 1, 0, none⟩) n n) n ((ansL P ++ [.int .i64 x]) ++ List.replicate (n - (k + 1)) (.int .i64 0)) ∧ Below g w0 (w2.setCell ⟨g + 1, k, none⟩ (.int .i64 x)) ∧ g + 2 ≤ (w2.setCell ⟨g + 1, k, none⟩ (.int .i64 x)).heap.size := by
  obtain ⟨ro, _, _⟩ := play_row hO t2 hk hz hr hp
  have hr' : (r' = g ∨ g + 1 < r') ∧ (m' = g ∨ g + 1 < m') := by
    simp at t3 t4
    omega
  have hs := t2.size
  simp at hs
  refine ⟨tab_away t1 rfl (by omega) (.inr ⟨by omega, by omega⟩), hr', ?_, ?_, by simp [World.setCell]; omega⟩
  · have := (ro.stored k (.int .i64 x)).1
    rw [show n - k = (n - (k + 1)) + 1 by omega] at this
    have e := fill_up (ansL P) (n - (k + 1)) (.int .i64 0) (.int .i64 x)
    rw [ansL_length, hp] at e
    rw [e] at this
    exact this
  · have b1 : Below g w0 (w.alloc o) := hB.alloc (by omega) _
    have b2 : Below g (w.alloc o) w2 := t2.below (Nat.le_refl _) (by omega) (by omega) (by simp; omega)
    exact (b1.trans b2).setCell (by show g ≤ g + 1; omega) _
theorem row_some {w : World} {g c n cap e : Nat} {X : List Value} (h : w.ownsRow g e 3 (.slice (some ⟨c, 0, none⟩) n cap) n X) (hX : X.length = n * 3) (j : Nat) (hj : j < n * 3) : ∃ x, w.cell? ⟨c, j, none⟩ = some x :=
  ⟨X[j]'(by omega), by rw [h.cellAt j hj, List.getElem?_eq_getElem (by omega)]⟩
theorem tab_lt {w : World} {g r m : Nat} {N : List Nd} (h : Tab w g r m N) : r < w.heap.size ∧ m < w.heap.size ∨ N = [] := by
  obtain ⟨_, sv, mv, h1, h2⟩ := h
  rcases h2 with ⟨h3, _⟩ | ⟨_, _, _, _, ⟨cap, rfl⟩, h5, _, D, h7, _⟩
  · exact .inr h3
  · exact .inl ⟨(h5.lt r rfl).2, h7.lt⟩
set_option maxRecDepth 20000 in
set_option maxHeartbeats 1000000 in
theorem play_any (L : List Nd) (ao : Option Addr) (cap : Nat) (w : World) (h : Li w ao cap L) (hw : ∀ n ∈ L, Wf n) (hl : L.length ≤ 200) :
    Calls Try.prog 9 #[.slice ao L.length cap] w fun e w' => ∃ o1 c1 o2 c2, e = .returned (.tuple #[.slice o1 L.length c1, .slice o2 ((playN [] L).1.length + 2) c2]) ∧
      w'.ownsRow w.heap.size 3 1 (.slice o1 L.length c1) L.length (ansL (playN [] L).2) ∧ w'.ownsRow w.heap.size 33 3 (.slice o2 ((playN [] L).1.length + 2) c2) ((playN [] L).1.length + 2) (flat (full (playN [] L).1)) ∧ Below w.heap.size w w' := by
  obtain ⟨i0, hi, hz0, hz1, hz2⟩ := info_parts infoI
  obtain ⟨j0, hj, hy0, hy1, hy2⟩ := info_parts infoN
  have cNew := new_any w
  have T0 := tab_new w
  have hb0 : Below w.heap.size w (w.alloc (boxT (.slice none 0 0) (.map none))) := (Below.refl _ w).alloc (Nat.le_refl _) _
  have z0 : (w.alloc (boxT (.slice none 0 0) (.map none))).heap.size = w.heap.size + 1 := by simp
  generalize w.alloc (boxT (.slice none 0 0) (.map none)) = W0 at *
  have HL : Hid (Li w ao cap L) := h
  obtain ⟨P, eP⟩ : ∃ P, playN [] L = P := ⟨_, rfl⟩
  rw [eP]
  obtain ⟨M, eM⟩ : ∃ M : Nat, P.1.length + 2 = M := ⟨_, rfl⟩
  rw [eM]
  have EP0 : Hid (playN [] L = P ∧ P.1.length + 2 = M) := ⟨eP, eM⟩
  clear h eP eM
  go_enter Try.func9, Try.ntmps9
  go_wp2_with (first
    | (go_at_call 19; refine cNew.mono ?_; rintro e w1 ⟨rfl, hw1⟩; have hw2 := hw1.symm; clear hw1; subst hw2)
    | (at_make; refine wpList_make_full _ rfl _ _ 24 rfl w.heap.size 3 i0 (.int .i64 0) 1 Try.underlying24 hi hz0 hz1 .i64 .i64 (L.length : Int) (L.length : Int) L.length rfl rfl rfl rfl (by rw [hz2]; omega) (by unfold maxLen; omega) hb0.size ?_; intro w2 hown2 hgr2))
  have hb2 : Below w.heap.size w w2 := hb0.grown hgr2 hb0.size (by simp)
  have T2 : Tab w2 w.heap.size w.heap.size w.heap.size [] := T0.below ⟨hgr2.os, hgr2.tape, hgr2.output, hgr2.size, fun k hk => hgr2.block k hk (by simp)⟩
  rw [z0] at hown2
  have z2 : w.heap.size + 2 ≤ w2.heap.size := by have := (hown2.lt (w.heap.size + 1) rfl).2; omega
  rw [Nat.mul_one] at hown2
  have e0 : (madeCells (Value.int IntKind.i64 0).cells L.length).toList = ansL (playN [] (L.take 0)).2 ++ List.replicate (L.length - 0) (.int .i64 0) := toList_madeCells_one _ _
  rw [e0] at hown2
  clear hgr2 cNew T0 hb0 z0 e0
  generalize hgg : w.heap.size = g at *
  go_loopw [18] (fun iv wr => ∃ (k r m : Nat), k ≤ L.length ∧ iv = .int .i64 k ∧ Hid (Tab wr g r m (playN [] (L.take k)).1) ∧ Hid ((r = g ∨ g + 1 < r) ∧ (m = g ∨ g + 1 < m)) ∧
      Hid (wr.ownsRow g 3 1 (.slice (some ⟨g + 1, 0, none⟩) L.length L.length) L.length (ansL (playN [] (L.take k)).2 ++ List.replicate (L.length - k) (.int .i64 0))) ∧ Hid (Below g w wr) ∧ Hid (g + 2 ≤ wr.heap.size)) (fun iv _ => L.length - (intOf iv).toNat)
  case atStart => exact ⟨0, g, g, Nat.zero_le _, rfl, T2, ⟨.inl rfl, .inl rfl⟩, hown2, hb2, z2⟩
  case round =>
    clear hown2 hb2 T2 z2
    obtain ⟨k, r, m, hk, rfl, HT, HR, HO, HB, HZ⟩ := hrel
    by_cases hlt : k < L.length
    · have ek : L[k]? = some L[k] := List.getElem?_eq_getElem hlt
      have hwk := hw L[k] (List.getElem_mem _)
      have hz := HZ.out
      have HB' := HB.out
      obtain ⟨b, off, rfl, hbl, d0, d1, d2⟩ := (HL.out.below HB' (by omega)).at ek
      have D0 : Below wr.heap.size wr (wr.alloc (.cells #[.int .i64 L[k].1, .int .i64 L[k].2.1, .int .i64 L[k].2.2] 36)) := (Below.refl _ _).alloc (Nat.le_refl _) _
      have cD := do_any (HT.out.below D0) L[k] hwk
      have E1 : Hid (playN [] (L.take (k + 1)) = ((doN (playN [] (L.take k)).1 L[k]).1, (playN [] (L.take k)).2 ++ [(doN (playN [] (L.take k)).1 L[k]).2])) := by
        unfold Hid; rw [List.take_add_one, ek]; exact playN_snoc _ _ _
      have EP : Hid ((playN [] (L.take k)).2.length = k) := by unfold Hid; rw [playN_len]; simp; omega
      generalize playN [] (L.take k) = P at *
      generalize L[k] = n at *
      have hk2 : k < L.length := hlt
      generalize doN P.1 n = q at *
      obtain ⟨N2, ra⟩ := q
      unfold ans node at cD
      simp only at cD E1
      clear ek hwk HL hw
      cases ra with
      | none =>
        simp only [Option.getD_none, Option.isSome_none] at cD
        go_wp2_with (go_at_call 15; refine cD.mono ?_; rintro e w2 ⟨rfl, r', m', t1, t2, t3, t4⟩; obtain ⟨ro, c5, f5⟩ := play_row HO.out t2 hk2 hz HR.out EP.out)
        go_roundw
        case rel =>
          have hs := play_step HO.out HB.out t1 t2 t3 t4 hk2 hz HR.out EP.out (-1)
          exact ⟨k + 1, r', m', by omega, by simp, by unfold Hid; rw [E1.out]; exact hs.1, hs.2.1, by unfold Hid; rw [E1.out, ansL_snoc]; exact hs.2.2.1, hs.2.2.2.1, hs.2.2.2.2⟩
        case measure => simp [intOf]; omega
      | some x =>
        simp only [Option.getD_some, Option.isSome_some] at cD
        go_wp2_with (go_at_call 15; refine cD.mono ?_; rintro e w2 ⟨rfl, r', m', t1, t2, t3, t4⟩; obtain ⟨ro, c5, f5⟩ := play_row HO.out t2 hk2 hz HR.out EP.out)
        go_roundw
        case rel =>
          have hs := play_step HO.out HB.out t1 t2 t3 t4 hk2 hz HR.out EP.out x
          exact ⟨k + 1, r', m', by omega, by simp, by unfold Hid; rw [E1.out]; exact hs.1, hs.2.1, by unfold Hid; rw [E1.out, ansL_snoc]; exact hs.2.2.1, hs.2.2.2.1, hs.2.2.2.2⟩
        case measure => simp [intOf]; omega
    · obtain rfl : k = L.length := by omega
      rw [List.take_of_length_le (Nat.le_refl _)] at HT HO
      rw [Nat.sub_self, List.replicate_zero, List.append_nil] at HO
      rw [EP0.out.1] at HT HO
      have cL := len_any HT.out
      have hN := HT.out.1.len
      have eM := EP0.out.2
      have eMi : (P.1.length : Int) + 2 = (M : Int) := by omega
      rw [eMi] at cL
      have hM : M ≤ 20000 := by omega
      have HB' := HB.out
      have hgs : g ≤ wr.heap.size := by have := HZ.out; omega
      clear eM eMi hN
      go_wp2_with (first
        | (go_at_call 13; refine cL.mono ?_; rintro e w1 ⟨rfl, hw1⟩; have hw2 := hw1.symm; clear hw1; subst hw2)
        | (at_make; refine wpList_make_full _ rfl _ _ 25 rfl g 33 j0 (node (0, 0, 0)) 3 Try.underlying25 hj hy0 hy1 .i64 .i64 (M : Int) (M : Int) M rfl rfl rfl rfl (by rw [hy2]; omega) (by unfold maxLen; omega) hgs ?_; intro w2 hown2 hgr2))
      have hb2 : Below wr.heap.size wr w2 := ⟨hgr2.os, hgr2.tape, hgr2.output, hgr2.size, fun k hk => hgr2.block k hk (by simp)⟩
      have T2 : Hid (Tab w2 g r m P.1) := HT.out.below hb2
      have hlw := (hown2.lt _ rfl).2
      have hz3 := HZ.out
      have O2 : Hid (w2.ownsRow g 3 1 (.slice (some ⟨g + 1, 0, none⟩) L.length L.length) L.length (ansL P.2)) := keep3 HO.out hb2
      have B2 : Hid (Below g w w2) := HB.out.trans (hb2.mono (by omega))
      have rlt := tab_lt HT.out
      obtain ⟨c, ec⟩ : ∃ c, wr.heap.size = c := ⟨_, rfl⟩
      rw [ec] at hown2 hlw rlt hz3
      have EC : Hid (wr.heap.size = c) := ec
      rw [ec]
      go_loopw [41] (fun iv w3 => ∃ (k : Nat) (X : List Value), k ≤ M ∧ iv = .int .i64 k ∧ Hid (Tab w3 g r m P.1) ∧ Hid (w3.ownsRow g 33 3 (.slice (some ⟨c, 0, none⟩) M M) M X) ∧ Hid (X.length = M * 3 ∧ X.take (k * 3) = flat ((full P.1).take k)) ∧
          Hid (w3.ownsRow g 3 1 (.slice (some ⟨g + 1, 0, none⟩) L.length L.length) L.length (ansL P.2)) ∧ Hid (Below g w w3) ∧ Hid (c < w3.heap.size)) (fun iv _ => M - (intOf iv).toNat)
      case atStart => exact ⟨0, _, Nat.zero_le _, rfl, T2.out, hown2, ⟨hown2.1, by simp [flat]⟩, O2.out, B2.out, hlw⟩
      case round =>
        clear hown2 T2 O2 B2 cL hb2 hgr2
        obtain ⟨k, X, hk, rfl, HT3, HX, HE, HO3, HB3, HC⟩ := hrel
        by_cases hlt : k < M
        · have cN := node_any HT3.out (k : Int) (hasN_iff.2 ⟨by omega, by have := EP0.out.2; omega⟩)
          have en : ((k : Int)).toNat = k := by omega
          rw [en] at cN
          have EN : Hid ((full P.1)[k]? = some (nd P.1 k)) := by
            unfold Hid nd
            rw [List.getElem?_eq_getElem (by rw [full_length, EP0.out.2]; exact hlt)]
            rfl
          generalize nd P.1 k = n at *
          unfold node at cN
          have hcl := HC.out
          have hx := HX.out
          clear en
          go_wp2_with (go_at_call 20; refine cN.mono ?_; rintro e w4 ⟨rfl, hw4⟩; have ro := keep3 hx hw4; obtain ⟨x0, hx0⟩ := row_some ro HE.out.1 (k * 3) (by omega); obtain ⟨x1, hx1⟩ := row_some ro HE.out.1 (k * 3 + 1) (by omega); obtain ⟨x2, hx2⟩ := row_some ro HE.out.1 (k * 3 + 2) (by omega); have fz := ro.frozenAt)
          go_roundw
          case rel =>
            have ro2 := (((ro.stored (k * 3) (.int .i64 n.1)).1.stored (k * 3 + 1) (.int .i64 n.2.1)).1.stored (k * 3 + 2) (.int .i64 n.2.2)).1
            have hs4 := hw4.size
            refine ⟨k + 1, _, by omega, by simp, ?_, ro2, ⟨by simpa using HE.out.1, ?_⟩, ?_, ?_, ?_⟩
            · have hne : P.1 = [] ∨ (c ≠ r ∧ c ≠ m) := rlt.elim (fun h => .inr ⟨by omega, by omega⟩) .inl
              exact tab_away (tab_away (tab_away (HT3.out.below hw4) rfl (by omega) hne) rfl (by omega) hne) rfl (by omega) hne
            · rw [show (k + 1) * 3 = k * 3 + 3 by omega, set3_take _ _ _ _ _ (by rw [HE.out.1]; omega), HE.out.2, List.take_add_one, EN.out, flat_append]
              rfl
            · have o4 := keep3 HO3.out hw4
              exact owns_block o4 (by rw [Below.heap_setCell _ _ _ _ (by show g + 1 ≠ c; omega), Below.heap_setCell _ _ _ _ (by show g + 1 ≠ c; omega), Below.heap_setCell _ _ _ _ (by show g + 1 ≠ c; omega)])
            · have b4 := HB3.out.trans (hw4.mono (by omega))
              exact ((b4.setCell (by show g ≤ c; omega) _).setCell (by show g ≤ c; omega) _).setCell (by show g ≤ c; omega) _
            · show c < _
              simp [World.setCell]
              omega
          case measure => simp [intOf]; omega
        · obtain rfl : k = M := by omega
          go_wp2
          go_ret2
          have e1 : X = flat (full P.1) := by
            have := HE.out.2
            rw [List.take_of_length_le (by rw [HE.out.1]; omega), List.take_of_length_le (by rw [full_length, EP0.out.2]; omega)] at this
            exact this
          exact ⟨_, _, _, _, rfl, HO3.out, by rw [← e1]; exact HX.out, HB3.out⟩
end Go.Proofs.Ytmeomfnnachkoaa.PlayL
