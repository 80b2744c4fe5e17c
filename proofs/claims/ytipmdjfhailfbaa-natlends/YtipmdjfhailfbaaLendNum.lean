/- Writing into rows that were answered: what stays. -/
import Derived.Test.YtipmdjfhailfbaaMem
import Derived.Laws.OwnMore
namespace Go.Proofs.Ytipmdjfhailfbaa.LendNum
open Go.RowKit Mem

theorem own_parts {w : World} {base : Nat} {e : TypeId} {v : Value} {n : Nat} {xs : List Value} (h : w.ownsRow base e 1 v n xs) (hn : 0 < n) : ∃ g c, v = .slice (some ⟨g, 0, none⟩) n c ∧ n ≤ c ∧ base ≤ g ∧ g < w.heap.size := by
  obtain ⟨o, c, rfl⟩ := owns_shape h
  have hl := h.1
  rcases h.2 with ⟨h', h0⟩ | ⟨g, cap', cur, h', hb, hg, hnc, r⟩
  · omega
  · simp only [Value.slice.injEq] at h'
    obtain ⟨rfl, _, rfl⟩ := h'
    exact ⟨g, c, rfl, by omega, hb, (h.lt g rfl).2⟩
/-- A row that may be written, in a block from lo on and below hi. -/
def Wri (w : World) (o : Option Addr) (n lo hi : Nat) : Prop :=
  0 < n → ∃ g, o = some ⟨g, 0, none⟩ ∧ lo ≤ g ∧ g < hi ∧ ∀ i, i < n → (∃ v, w.cell? ⟨g, i, none⟩ = some v) ∧ w.frozen? ⟨g, i, none⟩ = false
theorem Wri.set {w : World} {o : Option Addr} {n lo hi : Nat} (h : Wri w o n lo hi) (p : Addr) (v : Value) : Wri (w.setCell p v) o n lo hi := by
  intro hn
  obtain ⟨g, e, h1, h2, h3⟩ := h hn
  refine ⟨g, e, h1, h2, fun i hi => ?_⟩
  obtain ⟨⟨u, hu⟩, hf⟩ := h3 i hi
  exact ⟨cell?_setCell_some hu, by rw [World.frozen?_setCell]; exact hf⟩
theorem wri_of_owns {w : World} {base : Nat} {e : TypeId} {o : Option Addr} {n c : Nat} {xs : List Value} (h : w.ownsRow base e 1 (.slice o n c) n xs) {lo hi : Nat} (hlo : lo ≤ base) (hhi : w.heap.size ≤ hi) : Wri w o n lo hi := by
  intro hn
  obtain ⟨g, c', e1, _, hb, hlt⟩ := own_parts h hn
  simp only [Value.slice.injEq] at e1
  obtain ⟨rfl, _, _⟩ := e1
  have hl : xs.length = n := by have := h.1; omega
  refine ⟨g, rfl, by omega, by omega, fun i hi => ⟨⟨xs[i]'(by omega), ?_⟩, h.frozenAt i⟩⟩
  rw [h.cellAt i (by omega), List.getElem?_eq_getElem (by omega)]
theorem Wri.below {w w' : World} {o : Option Addr} {n lo hi : Nat} (h : Wri w o n lo hi) (hb : Below hi w w') : Wri w' o n lo hi := by
  intro hn
  obtain ⟨g, e, h1, h2, h3⟩ := h hn
  refine ⟨g, e, h1, h2, fun i hi => ?_⟩
  obtain ⟨⟨u, hu⟩, hf⟩ := h3 i hi
  refine ⟨⟨u, ?_⟩, ?_⟩
  · rw [hb.cell (p := ⟨g, i, none⟩) h2]; exact hu
  · have := hb.block g h2
    simp only [World.frozen?] at hf ⊢
    rw [this]; exact hf
theorem Wri.mono {w : World} {o : Option Addr} {n lo hi hi' : Nat} (h : Wri w o n lo hi) (hh : hi ≤ hi') : Wri w o n lo hi' := fun hn => by
  obtain ⟨g, e, h1, h2, h3⟩ := h hn
  exact ⟨g, e, h1, by omega, h3⟩
/-- What the writing keeps: all that lay there before, the row t, and the four rows of the list at block K. -/
structure Lent (w7 wr : World) (lo hi K bt nt : Nat) (tv : Value) (e : TypeId) (T : List Value) : Prop where
  below : Below lo w7 wr
  own : wr.ownsRow bt e 1 tv nt T
  rows : ∀ k, k < 4 → ∃ o n c, wr.cell? ⟨K, k, none⟩ = some (.slice o n c) ∧ n ≤ maxLen ∧ Wri wr o n lo hi
theorem Lent.set {w7 wr : World} {lo hi K bt nt : Nat} {tv : Value} {e : TypeId} {T : List Value} (h : Lent w7 wr lo hi K bt nt tv e T) {g i : Nat} (h1 : lo ≤ g) (h2 : g < hi) (hK : hi ≤ K) (hbt : hi ≤ bt) (v : Value) : Lent w7 (wr.setCell ⟨g, i, none⟩ v) lo hi K bt nt tv e T := by
  refine ⟨h.below.setCell h1 v, ?_, fun k hk => ?_⟩
  · refine h.own.kept (row := some g) ⟨rfl, rfl, rfl, by simp [World.setCell], fun j hj hne => heap_setCell_other _ _ _ _ (by intro e; exact hne (by rw [e]))⟩ (.inr (fun e => by have := (h.own.lt g e).1; omega))
  · obtain ⟨o, n, c, h3, h4, h5⟩ := h.rows k hk
    refine ⟨o, n, c, ?_, h4, h5.set _ _⟩
    have e2 := heap_setCell_other wr ⟨g, i, none⟩ K v (by show K ≠ g; omega)
    simp only [World.cell?] at h3 ⊢
    rw [e2]
    exact h3
end Go.Proofs.Ytipmdjfhailfbaa.LendNum
