/- The library's strings.Cut and strings.CutPrefix, laid at this program; a text cut at a byte, and at its sign. -/
import Derived.Shelf.Lay
import Derived.Shelf.LaySoft
import Derived.Shelf.LaysM
import Derived.Shelf.Strings.Cut
import Derived.Shelf.Strings.Prefix
import Derived.Test.YtefckmkcbgckfaaGreatDoorProg
import Derived.Test.YtefckmkcbgckfaaGreatDoorSetAE
namespace Go.Proofs
open Go.Shelf
shelf_lay Lays.n206 Nm 206 at Tryz as Tryz.lays206
shelf_lay LaysM.n145 Nm 145 at Tryz as Tryz.laysM145
namespace YtefckmkcbgckfaaGreatDoor.ShelfC
open Go.RowKit Mem LimbNum DigNum DigL StrL TxN

/-- The library's variable holds some int. -/
def ML (w : World) : Prop := ∃ m, w.cell? ⟨Tryz.laysM145_ren.g 1, 0, none⟩ = some (.int .i64 m)
theorem ML.of {w : World} (h : w.ShapedOpen Tryz.prog) : ML w := Tryz.laysM145.s1_3 w h
theorem ML.below {w w' : World} (h : ML w) (hb : Below w.heap.size w w') : ML w' := by
  obtain ⟨m, hm⟩ := h
  exact ⟨m, by rw [hb.cell (World.block_lt_of_cell? w _ hm)]; exact hm⟩
theorem below_drewN (w : World) (n : Nat) : Below w.heap.size w (w.drewN n) := by
  induction n with
  | zero => exact Below.refl _ _
  | succ n ih => exact ih.drew
theorem cut_any (l : List Nat) (c : Nat) (w : World) (hl : B8 l) (hc : c < 256) (hs : l.length ≤ 4000000000) (hm : ML w) :
    Calls Tryz.prog 62 #[.string (bs l), .string (bs [c])] w fun e w' => e = .returned (.tuple #[.string (bs (cutN c l).1), .string (bs (cutN c l).2.1), .bool (cutN c l).2.2]) ∧ Below w.heap.size w w' := by
  obtain ⟨m, hm⟩ := hm
  refine (Any.strings_Cut { Tryz.laysM145 with } (bs l) (bs [c]) m w (by rw [bs_size]; omega) hm).mono ?_
  rintro e w' ⟨rfl, n, rfl⟩
  refine ⟨?_, below_drewN w n⟩
  rw [show (bs [c]).data.toList = [UInt8.ofNat c] from rfl, cut_bs hc l hl]
  rfl
theorem has_prefix (l : List Nat) (hl : B8 l) : Lib.hasPrefix (bs l).data.toList (bs [45]).data.toList = (signM l).1 := by
  rw [bs_data]
  cases l with
  | nil => rfl
  | cons x t =>
    have e1 : Lib.hasPrefix (List.map UInt8.ofNat (x :: t)) (bs [45]).data.toList = decide (45 = x) := by
      rw [bs_data]
      simp only [Lib.hasPrefix, List.map_cons, List.map_nil, List.isPrefixOf, Bool.and_true]
      exact of_inj (by omega) (hl x (List.mem_cons_self ..))
    rw [e1]
    by_cases h : x = 45
    · subst h; simp [signM]
    · rw [decide_eq_false (fun e => h e.symm)]
      unfold signM
      split
      · simp_all
      · rfl
theorem sign_drop (l : List Nat) (h : (signM l).1 = true) : (signM l).2 = l.drop 1 ∧ 0 < l.length := by
  unfold signM at h ⊢
  split
  · exact ⟨rfl, by simp⟩
  · simp_all
theorem sign_same (l : List Nat) (h : (signM l).1 = false) : (signM l).2 = l := by
  unfold signM at h ⊢
  split
  · simp_all
  · rfl
theorem lprefix_any (l : List Nat) (w : World) (hl : B8 l) (hs : l.length ≤ 4000000000) :
    Calls Tryz.prog 61 #[.string (bs l), .string (bs [45])] w fun e w' => e = .returned (.tuple #[.string (bs (signM l).2), .bool (signM l).1]) ∧ Below w.heap.size w w' := by
  have cP := Any.stringslite_HasPrefix { Tryz.lays206 with } (bs l) (bs [45]) w
  rw [has_prefix l hl] at cP
  cases h : (signM l).1
  · rw [h] at cP
    rw [sign_same l h]
    go_enter Tryz.func61, Tryz.ntmps61
    go_wp2_with (go_at_call 76; refine cP.mono ?_; rintro e w1 ⟨rfl, rfl⟩)
    go_ret2
    exact ⟨rfl, Below.refl _ _⟩
  · rw [h] at cP
    obtain ⟨h2, h3⟩ := sign_drop l h
    have e1 : (bs l).extract 1 (bs l).size = bs (l.drop 1) := by
      rw [bs_size, extract_bs, List.take_length]
    have q0 : (bs [45]).size ≤ (bs l).size := by rw [bs_size, bs_size]; simp; omega
    have q1 : ((bs [45]).size : Int) ≤ ((bs l).size : Int) := by omega
    rw [h2, ← e1]
    go_enter Tryz.func61, Tryz.ntmps61
    go_wp2_with (go_at_call 76; refine cP.mono ?_; rintro e w1 ⟨rfl, rfl⟩)
    go_ret2
    exact ⟨rfl, Below.refl _ _⟩
theorem prefix_any (l : List Nat) (w : World) (hl : B8 l) (hs : l.length ≤ 4000000000) :
    Calls Tryz.prog 32 #[.string (bs l), .string (bs [45])] w fun e w' => e = .returned (.tuple #[.string (bs (signM l).2), .bool (signM l).1]) ∧ Below w.heap.size w w' := by
  go_enter Tryz.func32, Tryz.ntmps32
  go_wp2_with (go_at_call 61; refine (lprefix_any l _ hl hs).mono ?_; rintro e w1 ⟨rfl, hb⟩)
  go_ret2
  exact ⟨rfl, hb⟩
end YtefckmkcbgckfaaGreatDoor.ShelfC
end Go.Proofs
