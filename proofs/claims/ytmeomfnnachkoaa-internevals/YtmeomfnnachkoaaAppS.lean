/- append onto a row of one's own from whatever slice, as a step of a region that draws its order; truths that came in. -/
import Derived.Test.YtmeomfnnachkoaaPlayL
import Derived.Deep.Grids
namespace Go.Proofs.Ytmeomfnnachkoaa.AppS
open Go.RowKit Go.Maps Go.ChangeShapes Go.WideShapes Go.Deep Mem NdNum TabL NumL PlayL

theorem step_append_lies {P : Program} {ops : Array Oper} {o : Oper} {a : Act} {w : World} {K : Act → World → Prop} {Q : Exit → Act → World → Prop} {E : Prop}
    (hg : o.guard = none) (s x : Operand) (t : TypeId) (hop : o.op = Op.call { callee := Callee.builtin Builtin.append, args := #[s, x], argTypes := #[t, t] })
    (base : Nat) (e : TypeId) (i : TypeInfo) (z : Value) (bytes : Nat) (h1 : P.underlying t = some (.slice e)) (h2 : P.info? e = some i) (h3 : i.zero = some z) (h4 : i.size = 1) (h5 : i.bytes = bytes) (h6 : z.cells.size = 1)
    (v : Value) (n : Nat) (xs : List Value) (hs : a.eval s = v) (hown : w.ownsRow base e 1 v n xs)
    (ao : Option Addr) (m c : Nat) (news : List Value) (hx : a.eval x = .slice ao m c) (hn : news.length = m) (hl : Lies w ao c news) (h1c : ∀ u ∈ news, u.oneCell' = true)
    (b1 : n + m ≤ maxLen) (b2 : (n + m) * bytes ≤ 140737488355328) (hbase : base ≤ w.heap.size)
    (hK : ∀ v' w', w'.ownsRow base e 1 v' (n + m) (xs ++ news) → w.grownBy w' v.ownBlock → K (a.put o.dst v') w') :
    if Region.wanted o (yielded ops a.tmps) = true then Oper.wp P o a w K Q else E := by
  have hw : Region.wanted o (yielded ops a.tmps) = true := by simp [Region.wanted, hg]
  rw [if_pos hw]
  cases ao with
  | none =>
    have h0 := hl.2.2.1 rfl
    have h2' := hl.1
    obtain rfl : c = 0 := h0
    obtain rfl : news = [] := List.length_eq_zero_iff.1 (by omega)
    obtain rfl : m = 0 := hn.symm
    have hrun := run_append_owned_none (P := P) (w := w) base t o.type e i 1 h1 h2 v n xs hown
    unfold Oper.wp
    simp [execOp, hop, resolve, invoke, builtin, hs, hx, hrun, Result.andThen]
    exact hK v w (by simpa using hown) ⟨rfl, rfl, rfl, Nat.le_refl _, fun _ _ _ => rfl⟩
  | some ad =>
    obtain ⟨v', w', hrun, r1, r2, _, r3⟩ := run_append_own_at (P := P) w base t o.type e i z 1 bytes h1 h2 h3 h4 h5 h6 (by decide) v n xs hown ad m c news (by omega) hl.src h1c b1 b2 hbase
    unfold Oper.wp
    simp [execOp, hop, resolve, invoke, builtin, hs, hx, hrun, Result.andThen]
    exact hK v' w' r1 r2
theorem cellsB : Try.prog.cellsOf 4 = 1 := by kernel_rfl
/-- Truths that came in: the row, and how much room it has. -/
theorem open_vals {H : Type} {enc : TypeId × Value → H} {W : World} {base : Nat} {held : Bool} {fuel : Nat} {x : Value} {y : DataW H × List MemPlace} (h : DataW.trod enc Try.prog W base (fun _ => true) held fuel 37 [x] = some y) :
    ∃ (a : Option Addr) (cap : Nat) (V : List Bool), x = .slice a V.length cap ∧ Lies W a cap (V.map Value.bool) ∧ (cap = 0 ∨ ∃ elems spare, y.1 = .slice elems spare ∧ elems.length + spare.length = cap) := by
  rcases open_bools Try.underlying37 Try.underlying4 cellsB h with ⟨hcs, _⟩ | ⟨a, len, cap, B, hcs, hb, hl, hm, hx, hc⟩
  · simp at hcs
    subst hcs
    exact ⟨none, 0, [], rfl, ⟨by simp, by decide, fun _ => rfl, fun hp => by simp at hp⟩, .inl rfl⟩
  · simp at hcs
    subst hcs
    refine ⟨some a, cap, (List.range len).map B, by simp, ⟨by simpa using hl, hm, fun hn => by simp at hn, fun hp => ?_⟩, .inr ?_⟩
    · simp at hp
      obtain ⟨b, off, spot⟩ := a
      have hspot : spot = none := by simpa [Addr.add] using World.cell?_spot (hc 0 (by omega))
      subst hspot
      refine ⟨b, off, rfl, ?_, fun j hj => ?_⟩
      · have h0 := World.block_lt_of_cell? W _ (hc 0 (by omega))
        rw [add_plain] at h0
        exact h0
      · simp at hj
        have := hc j (by omega)
        rw [add_plain] at this
        rw [this]
        simp [hj]
    · rw [hx]
      exact ⟨_, _, rfl, by simp; omega⟩
end Go.Proofs.Ytmeomfnnachkoaa.AppS
