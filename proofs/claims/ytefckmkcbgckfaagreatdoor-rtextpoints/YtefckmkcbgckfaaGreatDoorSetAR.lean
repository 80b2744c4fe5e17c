/- Products of rational numbers in words; Products of rational numbers. -/
import Derived.Shelf.Lay
import Derived.Shelf.LaySoft
import Derived.Shelf.Bits.Mul64
import Derived.Test.YtefckmkcbgckfaaGreatDoorSetAQ
import Derived.Test.YtefckmkcbgckfaaGreatDoorSetAA
import Derived.Deep.CutRange
/- Products of rational numbers in words. -/
namespace Go.Proofs
open Go.Shelf
shelf_lay Lays.n264 Nm 264 at Tryz as Tryz.lays264
open Go.RowKit in
theorem Tryz.bits_Mul64 (x y : Nat) (hx : x < 18446744073709551616) (hy : y < 18446744073709551616) (w : World) :
    Calls Tryz.prog 65 #[.int .u64 x, .int .u64 y] w fun e w' => e = .returned (.tuple #[.int .u64 ((x * y / 18446744073709551616 : Nat) : Int), .int .u64 ((x * y % 18446744073709551616 : Nat) : Int)]) ∧ w' = w := Any.bits_Mul64 Tryz.lays264 x y hx hy w
end Go.Proofs
namespace Go.Proofs.YtefckmkcbgckfaaGreatDoor.MulW
open Go.RowKit Mem LimbNum RatL RatM RatN RatF MulN

theorem in_heap {w : World} {g : Nat} {o : Obj} (h : w.heap[g]? = some o) : g < w.heap.size := (Array.getElem?_eq_some_iff.1 h).1
theorem eight_kept {W w5 : World} {g h : Nat} {a0 a1 a2 a3 b0 b1 b2 b3 : Value} (hb : Below W.heap.size W w5) (H : W.cell? ⟨g, 0, none⟩ = some a0 ∧ W.cell? ⟨g, 1, none⟩ = some a1 ∧ W.cell? ⟨g, 2, none⟩ = some a2 ∧ W.cell? ⟨g, 3, none⟩ = some a3 ∧ W.cell? ⟨h, 0, none⟩ = some b0 ∧ W.cell? ⟨h, 1, none⟩ = some b1 ∧ W.cell? ⟨h, 2, none⟩ = some b2 ∧ W.cell? ⟨h, 3, none⟩ = some b3) : w5.cell? ⟨g, 0, none⟩ = some a0 ∧ w5.cell? ⟨g, 1, none⟩ = some a1 ∧ w5.cell? ⟨g, 2, none⟩ = some a2 ∧ w5.cell? ⟨g, 3, none⟩ = some a3 ∧ w5.cell? ⟨h, 0, none⟩ = some b0 ∧ w5.cell? ⟨h, 1, none⟩ = some b1 ∧ w5.cell? ⟨h, 2, none⟩ = some b2 ∧ w5.cell? ⟨h, 3, none⟩ = some b3 := by
  have kc : ∀ {p : Addr} {v : Value}, W.cell? p = some v → w5.cell? p = some v := fun {p v} h => by rw [hb.cell (World.block_lt_of_cell? W p h)]; exact h
  exact ⟨kc H.1, kc H.2.1, kc H.2.2.1, kc H.2.2.2.1, kc H.2.2.2.2.1, kc H.2.2.2.2.2.1, kc H.2.2.2.2.2.2.1, kc H.2.2.2.2.2.2.2⟩
set_option maxRecDepth 20000 in
theorem short_wild (b : Bool) (n d : Nat) (w : World) (h2 : d < 18446744073709551616) :
    Calls Tryz.prog 41 #[.bool b, .int .u64 (n : Int), .int .u64 (d : Int)] w fun e w' => (∃ x z, e = .returned (.agg #[.bool x, .int .u64 (n : Int), .int .u64 z, .pointer none]) ∧ (1 ≤ d → x = (b && decide (n ≠ 0)) ∧ z = (d : Int) - 1)) ∧ Below w.heap.size w w' := by
  by_cases h1 : 1 ≤ d
  · refine (short_any b n d w h1 h2).mono ?_
    rintro e w' ⟨rfl, hb⟩
    exact ⟨⟨_, _, rfl, fun _ => ⟨rfl, rfl⟩⟩, hb⟩
  · obtain rfl : d = 0 := by omega
    obtain ⟨N, eN⟩ : ∃ x : Int, x = (n : Int) := ⟨_, rfl⟩
    rw [← eN]
    have b0 : ∀ o : Obj, Below w.heap.size w (w.alloc o) := fun o => (Below.refl _ _).alloc (Nat.le_refl _) _
    clear eN h1 h2
    cases b
    all_goals
      go_enter Tryz.func41, Tryz.ntmps41
      go_wp2
    · refine bodyPost_ret (v := .agg #[.bool false, .int .u64 N, .int .u64 (IntKind.u64.wrap (-1)), .pointer none]) ?_ rfl ?_
      · simp [results, go_sem]
      · exact ⟨⟨_, _, rfl, fun h => by omega⟩, b0 _⟩
    · refine bodyPost_ret (v := .agg #[.bool (N != 0), .int .u64 N, .int .u64 (IntKind.u64.wrap (-1)), .pointer none]) ?_ rfl ?_
      · simp [results, go_sem]
      · exact ⟨⟨_, _, rfl, fun h => by omega⟩, b0 _⟩
end Go.Proofs.YtefckmkcbgckfaaGreatDoor.MulW

/- Products of rational numbers. -/
namespace Go.Proofs.YtefckmkcbgckfaaGreatDoor.MulL
open Go.RowKit Mem LimbNum Limb1 NatL GcdA RatL RatM RatN RatF MulN MulW

theorem part_nl (n g : Nat) (o1 o2 : Option Addr) (c1 c2 : Nat) (w : World) (h1 : Lies w o1 c1 (ints .u32 (nl n))) (h2 : Lies w o2 c2 (ints .u32 (nl g))) (h0 : g ≠ 0) (l1 : (nl n).length ≤ 35184372088832) (l2 : (nl g).length ≤ 35184372088832) :
    Calls Tryz.prog 39 #[.slice o1 (nl n).length c1, .slice o2 (nl g).length c2] w fun e w' => ∃ o c, e = .returned (.slice o (nl (n / g)).length c) ∧ Lies w' o c (ints .u32 (nl (n / g))) ∧ Below w.heap.size w w' := by
  have := part_any (nl n) (nl g) o1 o2 c1 c2 w h1 h2 (by rw [val_nl]) (small_nl _) (by rw [val_nl]; exact h0) l1 l2
  rw [val_nl, val_nl] at this
  exact this
theorem mul_nl (x y : Nat) (o1 o2 : Option Addr) (c1 c2 : Nat) (w : World) (h1 : Lies w o1 c1 (ints .u32 (nl x))) (h2 : Lies w o2 c2 (ints .u32 (nl y))) (l1 : (nl x).length ≤ 35184372088832) (l2 : (nl y).length ≤ 35184372088832) :
    Calls Tryz.prog 52 #[.slice o1 (nl x).length c1, .slice o2 (nl y).length c2] w fun e w' => ∃ o c, e = .returned (.slice o (nl (x * y)).length c) ∧ Lies w' o c (ints .u32 (nl (x * y))) ∧ Below w.heap.size w w' := by
  have := mul_any (nl x) (nl y) o1 o2 c1 c2 w h1 h2 (small_nl _) (small_nl _) (by omega)
  rw [val_nl, val_nl] at this
  refine this.mono ?_
  rintro e w' ⟨o, c, rfl, ho, hb⟩
  exact ⟨o, c, rfl, lies_of_owns ho, hb⟩
theorem gcd_nl (x y : Nat) (o1 o2 : Option Addr) (c1 c2 : Nat) (w : World) (h1 : Lies w o1 c1 (ints .u32 (nl x))) (h2 : Lies w o2 c2 (ints .u32 (nl y))) (l1 : (nl x).length ≤ 35184372088832) (l2 : (nl y).length ≤ 35184372088832) :
    Calls Tryz.prog 37 #[.slice o1 (nl x).length c1, .slice o2 (nl y).length c2] w fun e w' => ∃ o c, e = .returned (.slice o (nl (Nat.gcd x y)).length c) ∧ Lies w' o c (ints .u32 (nl (Nat.gcd x y))) ∧ Below w.heap.size w w' := by
  have := gcd_any (nl x) (nl y) o1 o2 c1 c2 w h1 h2 (small_nl _) (small_nl _) l1 l2
  rw [val_nl, val_nl] at this
  refine this.mono ?_
  rintro e w' ⟨o, c, rfl, ho, hb⟩
  exact ⟨o, c, rfl, lies_of_owns ho, hb⟩
theorem two_kept {W w5 : World} {g h : Nat} {a b : Value} (hb : Below W.heap.size W w5) (H : W.cell? ⟨g, 0, none⟩ = some a ∧ W.cell? ⟨h, 0, none⟩ = some b) : w5.cell? ⟨g, 0, none⟩ = some a ∧ w5.cell? ⟨h, 0, none⟩ = some b := by
  have kc : ∀ {p : Addr} {v : Value}, W.cell? p = some v → w5.cell? p = some v := fun {p v} h => by rw [hb.cell (World.block_lt_of_cell? W p h)]; exact h
  exact ⟨kc H.1, kc H.2⟩
theorem two_off {W W' : World} {g h : Nat} {a b : Value} (hg : W'.heap[g]? = W.heap[g]?) (hh : W'.heap[h]? = W.heap[h]?) (H : W.cell? ⟨g, 0, none⟩ = some a ∧ W.cell? ⟨h, 0, none⟩ = some b) : W'.cell? ⟨g, 0, none⟩ = some a ∧ W'.cell? ⟨h, 0, none⟩ = some b := by
  simp only [World.cell?, hg, hh] at H ⊢
  exact H
end Go.Proofs.YtefckmkcbgckfaaGreatDoor.MulL
