/- Numbers and pairs of numbers that came in: their data opened. -/
import Derived.Test.YtefckmkcbgckfaaGreatDoorRows
import Derived.WalkKit
import Derived.ProofKit
import Derived.OpenShut
import Derived.ShutString
import Derived.ChangeOld
import Derived.Below
import Derived.Lib.SmallJoins
import Derived.Test.YtefckmkcbgckfaaGreatDoorSetAQ
namespace Go.Proofs.YtefckmkcbgckfaaGreatDoor.OpD
open Go.Joins Go.Deep Go.ChangeShapes Go.WideShapes Go.ChangeAt Go.RowKit
open Mem LimbNum

/-- A slice of limbs that came in. -/
theorem open_row {H : Type} {enc : TypeId × Value → H} {W : World} {base : Nat} {held : Bool} {fuel : Nat} {x : Value} {y : DataW H × List MemPlace} (h : DataW.trod enc Tryz.prog W base (fun _ => true) held fuel 22 [x] = some y) :
    ∃ (a : Option Addr) (cap : Nat) (A : List Nat), x = .slice a A.length cap ∧ Lies W a cap (ints .u32 A) ∧ Small A := by
  rcases open_ints Tryz.underlying22 Tryz.underlying48 (by kernel_rfl) h with ⟨hcs, _⟩ | ⟨x', l, c, zs, hcs, _, hl, hm, hz, _, hcell, hwz⟩
  · simp at hcs
    subst hcs
    obtain ⟨A, e, h1, h2⟩ := lies_of_row (k := .u32) (w := W) (a := none) (len := 0) (cap := 0) (zs := []) nonneg_u32 (.inl ⟨rfl, rfl, rfl, rfl⟩)
    exact ⟨none, 0, A, by rw [e], h1, fun n hn => by have := (bounds_u32 (h2 n hn)).2; omega⟩
  · simp at hcs
    subst hcs
    obtain ⟨A, e, h1, h2⟩ := lies_of_row (k := .u32) (w := W) (a := some x') (len := l) (cap := c) (zs := zs) nonneg_u32 (.inr ⟨_, rfl, hl, hm, by simpa using hz, hcell, hwz⟩)
    exact ⟨some x', c, A, by rw [e], h1, fun n hn => by have := (bounds_u32 (h2 n hn)).2; omega⟩
theorem list3 {α : Type} {cs : List α} (h : cs.length = 3) : ∃ c0 c1 c2, cs = [c0, c1, c2] := by
  match cs, h with
  | [c0, c1, c2], _ => exact ⟨c0, c1, c2, rfl⟩
/-- The data of a number: three cells. -/
structure NIn (W : World) (cs : List Value) : Prop where
  is : ∃ (b : Bool) (ao : Option Addr) (ca : Nat) (A : List Nat) (bo : Option Addr) (cb : Nat) (B : List Nat), cs = [.bool b, .slice ao A.length ca, .slice bo B.length cb] ∧ Lies W ao ca (ints .u32 A) ∧ Lies W bo cb (ints .u32 B) ∧ Small A ∧ Small B
theorem open_n {H : Type} {enc : TypeId × Value → H} {W : World} {base : Nat} {held : Bool} {fuel : Nat} {cs : List Value} {y : DataW H × List MemPlace} (h : DataW.trod enc Tryz.prog W base (fun _ => true) held fuel 24 cs = some y) : NIn W cs := by
  obtain ⟨y0, y1, y2, n, _, hl, h0, h1, h2⟩ := trod_struct3 Tryz.underlying24 h
  obtain ⟨c0, c1, c2, rfl⟩ := list3 (hl.trans (show Tryz.prog.cellsOf 24 = 3 by kernel_rfl))
  have g0 : DataW.trod enc Tryz.prog W base (fun _ => true) held n 4 [c0] = some y0 := by
    have e : Tryz.prog.cellsOf 4 = 1 := by kernel_rfl
    simpa [e] using h0
  have g1 : DataW.trod enc Tryz.prog W base (fun _ => true) held n 22 [c1] = some y1 := by
    have e : Tryz.prog.cellsOf 22 = 1 := by kernel_rfl
    simpa [e] using h1
  have g2 : DataW.trod enc Tryz.prog W base (fun _ => true) held n 22 [c2] = some y2 := by
    have e : Tryz.prog.cellsOf 22 = 1 := by kernel_rfl
    simpa [e] using h2
  obtain ⟨b, hb, _⟩ := DataW.trod_bool Tryz.underlying4 g0
  simp at hb
  subst hb
  obtain ⟨ao, ca, A, rfl, la, sa⟩ := open_row g1
  obtain ⟨bo, cb, B, rfl, lb, sb⟩ := open_row g2
  exact ⟨b, ao, ca, A, bo, cb, B, rfl, la, lb, sa, sb⟩
set_option maxRecDepth 20000 in
theorem open_n1 {H : Type} {enc : TypeId × Value → H} {W : World} {base base2 : Nat} {held : Bool} {v : Value} {d : DataW H} {p : List MemPlace} (hv : Value.okWide Tryz.prog W .any base2 24 v) (h : DataW.Trod enc Tryz.prog W base (fun _ => true) held 24 v d p) :
    ∃ (b0 : Bool) (ao0 : Option Addr) (ca0 : Nat) (A0 : List Nat) (bo0 : Option Addr) (cb0 : Nat) (B0 : List Nat),
      v = .agg #[.bool b0, .slice ao0 A0.length ca0, .slice bo0 B0.length cb0] ∧ Lies W ao0 ca0 (ints .u32 A0) ∧ Lies W bo0 cb0 (ints .u32 B0) ∧ Small A0 ∧ Small B0 := by
  obtain ⟨cs, rfl, hsz⟩ := okWide_struct Tryz.underlying24 hv
  obtain ⟨fuel, hf⟩ := h
  obtain ⟨b0, ao0, ca0, A0, bo0, cb0, B0, e0, f0⟩ := open_n hf
  refine ⟨b0, ao0, ca0, A0, bo0, cb0, B0, ?_, f0⟩
  simp only [Value.cells] at e0
  congr 1
  apply Array.ext'
  simpa using e0
end Go.Proofs.YtefckmkcbgckfaaGreatDoor.OpD
