/- A table of nodes in memory, and what its small functions answer. -/
import Derived.Test.YtmeomfnnachkoaaNdNum
import Derived.Test.YtmeomfnnachkoaaMem
import Derived.BigRegion
namespace Go.Proofs.Ytmeomfnnachkoaa.TabL
open Go.RowKit Go.Maps Mem NdNum

theorem laidOut : laidOutB Try.prog = true := by kernel_rfl
theorem rowN : (33 : TypeId) < Try.prog.types.size := of_decide_eq_true (by kernel_rfl)
theorem wideN : (match Try.prog.underlying 33 with | some (.array _ _) | some (.struct _) => true | _ => false) = true := by rw [Try.underlying33]
theorem law : Keyed Try.prog 33 := Keyed.of_law (deep_law_laid laidOut (m := 2) (by omega) rowN (by kernel_rfl) wideN)
theorem zeroE (w : World) : (zeroValue 3).run Try.prog w = .ok (.int .i64 0) w := by kernel_rfl
theorem keyTypeN : Try.prog.keyType 33 = true := by kernel_rfl
theorem cellsN : Try.prog.cellsOf 33 = 3 := by kernel_rfl
theorem cellsI : Try.prog.cellsOf 3 = 1 := by kernel_rfl
theorem key_some (n : Nd) (h : Wf n) : ∃ l, keyOf Try.prog 33 (node n) = some l := by
  obtain ⟨h1, h2, h3⟩ := h
  obtain ⟨m, hm⟩ : ∃ m, Try.prog.types.size + 1 = m + 1 + 1 := ⟨Try.prog.types.size - 1, by have h0 : 0 < Try.prog.types.size := Nat.lt_of_le_of_lt (Nat.zero_le _) rowN; omega⟩
  unfold keyOf
  rw [Try.underlying33, hm]
  simp [keyTypeN, node, Value.formed, Try.underlying33, cellsN, Value.cells, Program.keyLits, cellsI, Try.underlying3, h1, h2, h3]
noncomputable def kl (n : Nd) : Lit := (keyOf Try.prog 33 (node n)).getD (.bool false)
theorem kl_is (n : Nd) (h : Wf n) : keyOf Try.prog 33 (node n) = some (kl n) := by
  obtain ⟨l, hl⟩ := key_some n h
  rw [kl, hl]; rfl
theorem node_inj {n m : Nd} (h : node n = node m) : n = m := by
  obtain ⟨a, b, c⟩ := n
  obtain ⟨a', b', c'⟩ := m
  simp [node] at h
  obtain ⟨rfl, rfl, rfl⟩ := h
  rfl
theorem kl_inj {n m : Nd} (hn : Wf n) (hm : Wf m) (h : kl n = kl m) : n = m := node_inj (law.inj (kl_is n hn) (by rw [h]; exact kl_is m hm))

/-- A map in which each node of a list has its number. -/
def MapOf (D : DataW Unit) (N : List Nd) : Prop :=
  IsMap D ∧ ∀ n, Wf n → (n ∈ N → has D (kl n) = true ∧ D.atKey (kl n) (.lit (.int .i64 0)) = .lit (.int .i64 ((N.idxOf n : Nat) + 2 : Int))) ∧ (n ∉ N → has D (kl n) = false)
theorem mapOf_nil : MapOf (.map []) [] := ⟨isMap_empty, fun n _ => ⟨fun h => by simp at h, fun _ => rfl⟩⟩
theorem MapOf.add {D : DataW Unit} {N : List Nd} {n : Nd} (h : MapOf D N) (hw : Wf n) (hn : n ∉ N) : MapOf (D.put (kl n) (.lit (.int .i64 ((N.length : Int) + 2)))) (N ++ [n]) := by
  refine ⟨h.1.put _ _, fun x hx => ?_⟩
  have hk := law.key (kl_is n hw)
  by_cases e : x = n
  · subst e
    refine ⟨fun _ => ⟨has_put_same h.1 hk _, ?_⟩, fun h2 => absurd (by simp) h2⟩
    rw [atKey_put_same h.1 hk, List.idxOf_append, if_neg hn]
    simp
  · have hne : kl x ≠ kl n := fun h2 => e (kl_inj hx hw h2)
    rw [has_put_other hne, atKey_put_other hne]
    obtain ⟨h1, h2⟩ := h.2 x hx
    refine ⟨fun h3 => ?_, fun h3 => h2 (fun h4 => h3 (by simp [h4]))⟩
    have h4 : x ∈ N := by simpa [e] using h3
    obtain ⟨h5, h6⟩ := h1 h4
    refine ⟨h5, ?_⟩
    rw [h6, List.idxOf_append, if_pos h4]

/-- A table's two cells. -/
def boxT (a b : Value) : Obj := .cells #[a, b] 54
/-- What its two cells hold: nothing yet, or a row and a map. -/
def Holds (w : World) (g r m : Nat) (N : List Nd) (sv mv : Value) : Prop :=
  (N = [] ∧ sv = .slice none 0 0 ∧ mv = .map none) ∨
  (N ≠ [] ∧ r ≠ g ∧ m ≠ g ∧ r ≠ m ∧ (∃ cap, sv = .slice (some ⟨r, 0, none⟩) N.length cap) ∧ w.ownsRow 0 33 3 sv N.length (flat N) ∧ mv = .map (some m) ∧
    ∃ D : DataW Unit, w.ownsMap Try.prog 33 (plainElem Try.prog 3) m N.length D ∧ MapOf D N)
/-- Block g is a table of these nodes, its row in block r, its map in block m. -/
def Tab (w : World) (g r m : Nat) (N : List Nd) : Prop := InForm N ∧ ∃ sv mv, w.heap[g]? = some (boxT sv mv) ∧ Holds w g r m N sv mv
/-- Nothing old has turned but a table's own blocks. -/
structure Away (g r m : Nat) (w w' : World) : Prop where
  os : w'.os = w.os
  tape : w'.tape = w.tape
  output : w'.output = w.output
  size : w.heap.size ≤ w'.heap.size
  block : ∀ k, k < w.heap.size → k ≠ g → k ≠ r → k ≠ m → w'.heap[k]? = w.heap[k]?
theorem Away.refl (g r m : Nat) (w : World) : Away g r m w w := ⟨rfl, rfl, rfl, Nat.le_refl _, fun _ _ _ _ _ => rfl⟩
theorem Away.below {g r m B : Nat} {w w' : World} (h : Away g r m w w') (hg : B ≤ g) (hr : B ≤ r) (hm : B ≤ m) (hB : B ≤ w.heap.size) : Below B w w' :=
  ⟨h.os, h.tape, h.output, h.size, fun k hk => h.block k (by omega) (by omega) (by omega) (by omega)⟩
theorem away_of_below {g r m : Nat} {w w' : World} (h : Below w.heap.size w w') : Away g r m w w' := ⟨h.os, h.tape, h.output, h.size, fun k hk _ _ _ => h.block k hk⟩
theorem Away.trans {g r m r' m' : Nat} {a b c : World} (h : Away g r m a b) (k : Away g r' m' b c) (hr : r' = r ∨ a.heap.size ≤ r') (hm : m' = m ∨ a.heap.size ≤ m') : Away g r m a c :=
  ⟨k.os.trans h.os, k.tape.trans h.tape, k.output.trans h.output, Nat.le_trans h.size k.size, fun i hi h1 h2 h3 =>
    (k.block i (Nat.lt_of_lt_of_le hi h.size) h1 (by rcases hr with rfl | hr; exact h2; omega) (by rcases hm with rfl | hm; exact h3; omega)).trans (h.block i hi h1 h2 h3)⟩
theorem Away.trod {g r m : Nat} {a b c : World} (h : Away g r m a b) (k : Below b.heap.size b c) : Away g r m a c :=
  h.trans (away_of_below (g := g) (r := r) (m := m) k) (.inl rfl) (.inl rfl)
theorem keep3 {w w' : World} {base : Nat} {e : TypeId} {size : Nat} {v : Value} {n : Nat} {xs : List Value} (h : w.ownsRow base e size v n xs) (hb : Below w.heap.size w w') : w'.ownsRow base e size v n xs :=
  h.kept (grown_of_below hb) (by cases v.ownBlock <;> simp)
theorem heap_lt {w : World} {g : Nat} {o : Obj} (h : w.heap[g]? = some o) : g < w.heap.size := (Array.getElem?_eq_some_iff.1 h).1
theorem Tab.below {w w' : World} {g r m : Nat} {N : List Nd} (h : Tab w g r m N) (hb : Below w.heap.size w w') : Tab w' g r m N := by
  obtain ⟨h1, sv, mv, h2, h3⟩ := h
  refine ⟨h1, sv, mv, by rw [hb.block g (heap_lt h2)]; exact h2, ?_⟩
  rcases h3 with h3 | ⟨a0, a1, a2, a3, a4, a5, a6, D, a7, a8⟩
  · exact .inl h3
  · exact .inr ⟨a0, a1, a2, a3, a4, keep3 a5 hb, a6, D, a7.kept (grown_of_below hb) (by simp), a8⟩
theorem cellsT {w : World} {g : Nat} {a b : Value} (h : w.heap[g]? = some (boxT a b)) : w.cell? ⟨g, 0, none⟩ = some a ∧ w.cell? ⟨g, 1, none⟩ = some b := by
  constructor <;> simp [World.cell?, h, boxT]
theorem frozenT {w : World} {g : Nat} {a b : Value} (h : w.heap[g]? = some (boxT a b)) (i : Nat) : w.frozen? ⟨g, i, none⟩ = false := by simp [World.frozen?, h, boxT]
theorem Tab.slice {w : World} {g r m : Nat} {N : List Nd} (h : Tab w g r m N) : ∃ ao cap, w.cell? ⟨g, 0, none⟩ = some (.slice ao N.length cap) := by
  obtain ⟨h1, sv, mv, h2, h3⟩ := h
  obtain ⟨c0, c1⟩ := cellsT h2
  rcases h3 with ⟨rfl, rfl, rfl⟩ | ⟨_, _, _, _, ⟨cap, rfl⟩, _⟩
  · exact ⟨_, _, c0⟩
  · exact ⟨_, _, c0⟩
theorem len_any {w : World} {g r m : Nat} {N : List Nd} (h : Tab w g r m N) :
    Calls Try.prog 13 #[.pointer (some ⟨g, 0, none⟩)] w fun e w' => e = .returned (.int .i64 ((N.length : Int) + 2)) ∧ w' = w := by
  obtain ⟨ao, cap, c0⟩ := h.slice
  have hl := h.1.len
  go_enter Try.func13, Try.ntmps13
  go_wp2
  go_ret
  exact ⟨ret_int (by omega), rfl⟩
theorem has_any {w : World} {g r m : Nat} {N : List Nd} (h : Tab w g r m N) (a : Int) :
    Calls Try.prog 23 #[.pointer (some ⟨g, 0, none⟩), .int .i64 a] w fun e w' => e = .returned (.bool (hasN N a)) ∧ w' = w := by
  have cL := len_any h
  by_cases h0 : 0 ≤ a
  · go_enter Try.func23, Try.ntmps23
    go_wp2_with (go_at_call 13; refine cL.mono ?_; rintro e w1 ⟨rfl, hw⟩; have hw2 := hw.symm; clear hw; subst hw2)
    go_ret
    exact ⟨by simp [hasN, h0], rfl⟩
  · go_enter Try.func23, Try.ntmps23
    go_wp2
    go_ret
    exact ⟨by rw [show hasN N a = false by simp only [hasN]; rw [decide_eq_false (by omega)]; rfl]; rfl, rfl⟩
theorem Tab.cells {w : World} {g r m : Nat} {N : List Nd} (h : Tab w g r m N) {i : Nat} (h1 : 2 ≤ i) (h2 : i < N.length + 2) : ∃ cap, w.cell? ⟨g, 0, none⟩ = some (.slice (some ⟨r, 0, none⟩) N.length cap) ∧
    w.cell? ⟨r, (i - 2) * 3, none⟩ = some (.int .i64 (nd N i).1) ∧ w.cell? ⟨r, (i - 2) * 3 + 1, none⟩ = some (.int .i64 (nd N i).2.1) ∧ w.cell? ⟨r, (i - 2) * 3 + 2, none⟩ = some (.int .i64 (nd N i).2.2) := by
  obtain ⟨h0, sv, mv, h3, h4⟩ := h
  obtain ⟨c0, c1⟩ := cellsT h3
  rcases h4 with ⟨rfl, _⟩ | ⟨_, a1, a2, a3, ⟨cap, rfl⟩, a5, _⟩
  · simp at h2; omega
  · obtain ⟨j, rfl⟩ : ∃ j, i = j + 2 := ⟨i - 2, by omega⟩
    have hj : j < N.length := by omega
    have e1 : N[j]? = some (nd N (j + 2)) := by rw [nd_behind, List.getElem?_eq_getElem hj]; rfl
    obtain ⟨f0, f1, f2⟩ := flat_get N j _ e1
    have hc := a5.cells (g := r) rfl
    have k0 := hc _ _ f0
    have k1 := hc _ _ f1
    have k2 := hc _ _ f2
    rw [Go.WideShapes.add_plain] at k0 k1 k2
    refine ⟨cap, c0, ?_, ?_, ?_⟩
    · rw [← k0]; simp
    · rw [← k1]; simp
    · rw [← k2]; simp
theorem cell_alloc {w : World} {p : Addr} {v : Value} (h : w.cell? p = some v) (o : Obj) : (w.alloc o).cell? p = some v := by
  rw [← h]
  exact World.cell?_of_block (Below.heap_alloc w o _ (World.block_lt_of_cell? w p h))
def boxN (a b c : Value) : Obj := .cells #[a, b, c] 33
theorem boxN_cells {w : World} {g : Nat} {a b c : Value} (h : w.heap[g]? = some (boxN a b c)) : w.cell? ⟨g, 0, none⟩ = some a ∧ w.cell? ⟨g, 1, none⟩ = some b ∧ w.cell? ⟨g, 2, none⟩ = some c := by
  refine ⟨?_, ?_, ?_⟩ <;> simp [World.cell?, h, boxN]
theorem boxN_frozen {w : World} {g : Nat} {a b c : Value} (h : w.heap[g]? = some (boxN a b c)) (i : Nat) : w.frozen? ⟨g, i, none⟩ = false := by simp [World.frozen?, h, boxN]
theorem boxN_set {w : World} {g : Nat} {a b c : Value} (h : w.heap[g]? = some (boxN a b c)) (a' b' c' : Value) :
    (((w.setCell ⟨g, 0, none⟩ a').setCell ⟨g, 1, none⟩ b').setCell ⟨g, 2, none⟩ c').heap[g]? = some (boxN a' b' c') := by
  have h1 : (w.setCell ⟨g, 0, none⟩ a').heap[g]? = some (boxN a' b c) := by rw [heap_setCell_same w g 0 _ _ _ h]; rfl
  have h2 : ((w.setCell ⟨g, 0, none⟩ a').setCell ⟨g, 1, none⟩ b').heap[g]? = some (boxN a' b' c) := by rw [heap_setCell_same _ g 1 _ _ _ h1]; rfl
  rw [heap_setCell_same _ g 2 _ _ _ h2]; rfl
theorem boxN_below {w W : World} {B g : Nat} (h : Below B w W) (hg : B ≤ g) (a b c : Value) : Below B w (((W.setCell ⟨g, 0, none⟩ a).setCell ⟨g, 1, none⟩ b).setCell ⟨g, 2, none⟩ c) :=
  ((h.setCell hg _).setCell hg _).setCell hg _
theorem node_any {w : World} {g r m : Nat} {N : List Nd} (h : Tab w g r m N) (a : Int) (ha : hasN N a = true) :
    Calls Try.prog 20 #[.pointer (some ⟨g, 0, none⟩), .int .i64 a] w fun e w' => e = .returned (node (nd N a.toNat)) ∧ Below w.heap.size w w' := by
  have hh := hasN_iff.1 ha
  have hl := h.1.len
  by_cases h2 : 2 ≤ a
  · obtain ⟨cap, c0, k0, k1, k2⟩ := h.cells (i := a.toNat) (by omega) (by omega)
    obtain ⟨i, ei⟩ : ∃ i, a.toNat = i + 2 := ⟨a.toNat - 2, by omega⟩
    obtain rfl : a = (i : Int) + 2 := by omega
    rw [ei] at k0 k1 k2
    have e1 : (((i : Int) + 2)).toNat = i + 2 := by omega
    rw [e1]
    have c0' := cell_alloc c0 (.cells #[.int .i64 0, .int .i64 0, .int .i64 0] 33)
    have hi1 : (i : Int) < (N.length : Int) := by omega
    have hi2 : i < 20000 := by omega
    simp only [Nat.add_sub_cancel] at k0 k1 k2
    have k0' := cell_alloc k0 (.cells #[.int .i64 0, .int .i64 0, .int .i64 0] 33)
    have k1' := cell_alloc k1 (.cells #[.int .i64 0, .int .i64 0, .int .i64 0] 33)
    have k2' := cell_alloc k2 (.cells #[.int .i64 0, .int .i64 0, .int .i64 0] 33)
    clear k0 k1 k2 c0 h2 ha hh ei e1
    generalize nd N (i + 2) = n at *
    go_enter Try.func20, Try.ntmps20
    go_wp2
    refine bodyPost_ret (v := node n) ?_ rfl ?_
    · simp [results, go_sem, node]
    · exact ⟨rfl, (Below.refl _ _).alloc (Nat.le_refl _) _⟩
  · rcases (show a = 0 ∨ a = 1 by omega) with rfl | rfl
    · go_enter Try.func20, Try.ntmps20
      go_wp2
      refine bodyPost_ret (v := node (1, 0, 0)) ?_ rfl ?_
      · simp [results, go_sem, node]
      · exact ⟨rfl, (Below.refl _ _).alloc (Nat.le_refl _) _⟩
    · go_enter Try.func20, Try.ntmps20
      go_wp2
      refine bodyPost_ret (v := node (2, 0, 0)) ?_ rfl ?_
      · simp [results, go_sem, node]
      · exact ⟨rfl, (Below.refl _ _).alloc (Nat.le_refl _) _⟩
theorem new_any (w : World) :
    Calls Try.prog 19 #[] w fun e w' => e = .returned (.pointer (some ⟨w.heap.size, 0, none⟩)) ∧ w' = w.alloc (boxT (.slice none 0 0) (.map none)) := by
  go_enter Try.func19, Try.ntmps19
  go_wp2
  go_ret
  exact ⟨rfl, rfl⟩
theorem tab_new (w : World) : Tab (w.alloc (boxT (.slice none 0 0) (.map none))) w.heap.size w.heap.size w.heap.size [] :=
  ⟨inForm_nil, _, _, heap_alloc_new _ _, .inl ⟨rfl, rfl, rfl⟩⟩
end Go.Proofs.Ytmeomfnnachkoaa.TabL
