/- A slice of pairs that came in: its data opened. -/
import Derived.Test.YtdliookkkgobbaaSetAV
import Derived.Deep.Slices
namespace Go.Proofs.Ytdliookkkgobbaa.OpE
open Go.RowKit Go.ChangeShapes Go.WideShapes Go.Deep Mem LimbNum OpD

theorem cellsD : Try.prog.cellsOf 47 = 6 := by kernel_rfl
theorem list6 {α : Type} {cs : List α} (h : cs.length = 6) : ∃ u0 u1 u2 u3 u4 u5, cs = [u0, u1, u2, u3, u4, u5] := by
  match cs, h with
  | [u0, u1, u2, u3, u4, u5], _ => exact ⟨u0, u1, u2, u3, u4, u5, rfl⟩
set_option maxRecDepth 20000 in
theorem open_ds {H : Type} {enc : TypeId × Value → H} {W : World} {base : Nat} {held : Bool} {fuel : Nat} {x : Value} {y : DataW H × List MemPlace} (h : DataW.trod enc Try.prog W base (fun _ => true) held fuel 69 [x] = some y) :
    ∃ (o : Option Addr) (n cap : Nat), x = .slice o n cap ∧ (0 < n → ∃ g off, o = some ⟨g, off, none⟩ ∧ g < W.heap.size ∧ ∀ k, k < n → ∃ u0 u1 u2 u3 u4 u5 : Value, W.cell? ⟨g, off + k * 6, none⟩ = some u0 ∧ W.cell? ⟨g, off + k * 6 + 1, none⟩ = some u1 ∧ W.cell? ⟨g, off + k * 6 + 2, none⟩ = some u2 ∧ W.cell? ⟨g, off + k * 6 + 3, none⟩ = some u3 ∧ W.cell? ⟨g, off + k * 6 + 4, none⟩ = some u4 ∧ W.cell? ⟨g, off + k * 6 + 5, none⟩ = some u5 ∧
      NIn W [u0, u1, u2] ∧ NIn W [u3, u4, u5]) := by
  rcases open_slice Try.underlying69 h with ⟨hcs, _⟩ | ⟨a, len, cap, m, n, D, Pl, hcs, hb, hl, hm, hmm, _, hx⟩
  · simp at hcs
    subst hcs
    exact ⟨none, 0, 0, rfl, fun hp => by omega⟩
  · simp at hcs
    subst hcs
    obtain rfl : m = cap := by simpa using hmm
    have each : ∀ i, i < len → ∃ u0 u1 u2 u3 u4 u5 : Value, W.cell? (a.add (i * 6)) = some u0 ∧ W.cell? (a.add (i * 6 + 1)) = some u1 ∧ W.cell? (a.add (i * 6 + 2)) = some u2 ∧ W.cell? (a.add (i * 6 + 3)) = some u3 ∧ W.cell? (a.add (i * 6 + 4)) = some u4 ∧ W.cell? (a.add (i * 6 + 5)) = some u5 ∧ NIn W [u0, u1, u2] ∧ NIn W [u3, u4, u5] := by
      intro i hi
      obtain ⟨cs', h1, h2⟩ := hx i (by omega)
      rw [cellsD] at h1
      obtain ⟨_, hlen, hcell⟩ := World.cells?_some h1
      obtain ⟨_, n1, n2⟩ := open_d6 h2
      obtain ⟨u0, u1, u2, u3, u4, u5, rfl⟩ := list6 hlen
      have k0 := hcell 0 (by omega)
      have k1 := hcell 1 (by omega)
      have k2 := hcell 2 (by omega)
      have k3 := hcell 3 (by omega)
      have k4 := hcell 4 (by omega)
      have k5 := hcell 5 (by omega)
      rw [add_add] at k0 k1 k2 k3 k4 k5
      exact ⟨u0, u1, u2, u3, u4, u5, by simpa using k0, by simpa using k1, by simpa using k2, by simpa using k3, by simpa using k4, by simpa using k5, by simpa using n1, by simpa using n2⟩
    refine ⟨some a, len, m, rfl, fun hp => ?_⟩
    obtain ⟨b, off, spot⟩ := a
    have h0 := each 0 hp
    obtain ⟨v0, _, _, _, _, _, c0, _⟩ := h0
    have hspot : spot = none := by simpa [Addr.add] using World.cell?_spot c0
    subst hspot
    have hlt := World.block_lt_of_cell? W _ c0
    rw [add_plain] at hlt
    refine ⟨b, off, rfl, hlt, fun k hk => ?_⟩
    obtain ⟨u0, u1, u2, u3, u4, u5, k0, k1, k2, k3, k4, k5, n1, n2⟩ := each k hk
    rw [add_plain] at k0 k1 k2 k3 k4 k5
    exact ⟨u0, u1, u2, u3, u4, u5, k0, k1, k2, k3, k4, k5, n1, n2⟩
end Go.Proofs.Ytdliookkkgobbaa.OpE
