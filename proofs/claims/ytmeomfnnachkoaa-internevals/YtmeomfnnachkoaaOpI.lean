/- Operations that came in, as plain data. -/
import Derived.Test.YtmeomfnnachkoaaPlayL
import Derived.Deep.Slices
import Derived.Lib.SmallJoins
namespace Go.Proofs.Ytmeomfnnachkoaa.OpI
open Go.RowKit Go.ChangeShapes Go.WideShapes Go.Deep Mem NdNum TabL PlayL

theorem cells_of_fn {W : World} {a : Addr} {len : Nat} {f : Nat → Nd} (h : ∀ i, i < len → W.cell? (a.add (i * 3)) = some (.int .i64 (f i).1) ∧ W.cell? (a.add (i * 3 + 1)) = some (.int .i64 (f i).2.1) ∧ W.cell? (a.add (i * 3 + 2)) = some (.int .i64 (f i).2.2)) :
    ∀ j u, (flat ((List.range len).map f))[j]? = some u → W.cell? (a.add j) = some u := by
  intro j u hj
  have hlt : j < len * 3 := by
    rcases Nat.lt_or_ge j (len * 3) with h1 | h1
    · exact h1
    · rw [List.getElem?_eq_none (by rw [flat_length]; simpa using h1)] at hj; simp at hj
  have hi : j / 3 < len := by omega
  have e1 : ((List.range len).map f)[j / 3]? = some (f (j / 3)) := by rw [List.getElem?_map, List.getElem?_range hi]; rfl
  obtain ⟨f0, f1, f2⟩ := flat_get _ _ _ e1
  obtain ⟨c0, c1, c2⟩ := h _ hi
  rcases (show j = j / 3 * 3 ∨ j = j / 3 * 3 + 1 ∨ j = j / 3 * 3 + 2 by omega) with e | e | e
  · rw [e] at hj ⊢; rw [f0] at hj; rw [c0]; exact hj
  · rw [e] at hj ⊢; rw [f1] at hj; rw [c1]; exact hj
  · rw [e] at hj ⊢; rw [f2] at hj; rw [c2]; exact hj
theorem cellsO : Try.prog.cellsOf 36 = 3 := by kernel_rfl
theorem open_ops {H : Type} {enc : TypeId × Value → H} {W : World} {base : Nat} {held : Bool} {fuel : Nat} {x : Value} {y : DataW H × List MemPlace} (h : DataW.trod enc Try.prog W base (fun _ => true) held fuel 22 [x] = some y) :
    ∃ (a : Option Addr) (cap : Nat) (L : List Nd), x = .slice a L.length cap ∧ Li W a cap L ∧ ∀ n ∈ L, Wf n := by
  rcases open_slice Try.underlying22 h with ⟨hcs, _⟩ | ⟨a, len, cap, m, n, D, Pl, hcs, hb, hl, hm, hmm, _, hx⟩
  · simp at hcs
    subst hcs
    exact ⟨none, 0, [], rfl, ⟨by simp, by decide, fun _ => rfl, fun hp => by simp at hp⟩, fun n hn => by simp at hn⟩
  · simp at hcs
    subst hcs
    obtain rfl : m = cap := by simpa using hmm
    have each : ∀ i, i < len → ∃ q : Nd, Wf q ∧ W.cell? (a.add (i * 3)) = some (.int .i64 q.1) ∧ W.cell? (a.add (i * 3 + 1)) = some (.int .i64 q.2.1) ∧ W.cell? (a.add (i * 3 + 2)) = some (.int .i64 q.2.2) := by
      intro i hi
      obtain ⟨cs', h1, h2⟩ := hx i (by omega)
      rw [cellsO] at h1
      obtain ⟨_, hlen, hcell⟩ := World.cells?_some h1
      obtain ⟨xs, k, _, _, _, hxl, hf⟩ := DataW.trod_struct Try.underlying36 h2
      match cs', hlen with
      | [v0, v1, v2], _ =>
        have g0 := hf 0 _ rfl
        have g1 := hf 1 _ rfl
        have g2 := hf 2 _ rfl
        match xs, hxl with
        | [y0, y1, y2], _ =>
          simp [cellsI] at g0 g1 g2
          obtain ⟨a0, e0, _, w0⟩ := DataW.trod_int Try.underlying3 g0
          obtain ⟨a1, e1, _, w1⟩ := DataW.trod_int Try.underlying3 g1
          obtain ⟨a2, e2, _, w2⟩ := DataW.trod_int Try.underlying3 g2
          simp at e0 e1 e2
          subst e0 e1 e2
          have k0 := hcell 0 (by omega)
          have k1 := hcell 1 (by omega)
          have k2 := hcell 2 (by omega)
          rw [add_add] at k0 k1 k2
          exact ⟨(a0, a1, a2), ⟨w0, w1, w2⟩, by simpa using k0, by simpa using k1, by simpa using k2⟩
    obtain ⟨f, hf⟩ := choose_lt each
    have hc := cells_of_fn (a := a) (f := f) (fun i hi => (hf i hi).2)
    refine ⟨some a, m, (List.range len).map f, by simp, ⟨by simpa using hl, hm, fun hn => by simp at hn, fun hp => ?_⟩, fun n hn => ?_⟩
    · simp at hp
      obtain ⟨b, off, spot⟩ := a
      have hspot : spot = none := by simpa [Addr.add] using World.cell?_spot (hf 0 hp).2.1
      subst hspot
      refine ⟨b, off, rfl, ?_, fun j u hj => ?_⟩
      · have h0 := World.block_lt_of_cell? W _ (hf 0 hp).2.1
        rw [add_plain] at h0
        exact h0
      · have := hc j u hj
        rw [add_plain] at this
        exact this
    · simp only [List.mem_map, List.mem_range] at hn
      obtain ⟨i, hi, rfl⟩ := hn
      exact (hf i hi).1
end Go.Proofs.Ytmeomfnnachkoaa.OpI
