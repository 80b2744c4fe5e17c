/- The document's rational numbers: what the reference's functions answer; The document's rational numbers: whole ones, products, inverses; The document's rational numbers: products and whole ones; The document's rational numbers: whole ones; What making a rational number, and telling its parts, answer; What making a rational number, and telling its parts, answer (2); What a quotient of two ints answ. -/
import Derived.Test.YtefckmkcbgckfaaSetAP
import Derived.Test.YtefckmkcbgckfaaSetAQ
import Derived.Test.YtefckmkcbgckfaaSetAC
import Derived.Deep.RegionHeld3
/- The document's rational numbers: what the reference's functions answer. -/
namespace Go.Proofs.Ytefckmkcbgckfaa.RefR
open Go.RowKit Mem LimbNum Limb1 Limb2 RefL RefA BitMul BitDiv RGcd Words RatL

/-- The reference's value v is n / d, below 0 if neg. -/
def IsRef (w : World) (v : Value) (neg : Bool) (n d : Nat) : Prop := ∃ o1 c1 o2 c2, v = .agg #[.bool neg, .slice o1 (nb n).length c1, .slice o2 (nb d).length c2] ∧
  w.ownsRow 0 4 1 (.slice o1 (nb n).length c1) (nb n).length (bools (nb n)) ∧ w.ownsRow 0 4 1 (.slice o2 (nb d).length c2) (nb d).length (bools (nb d))
theorem IsRef.below {w w' : World} {v : Value} {neg : Bool} {n d : Nat} (h : IsRef w v neg n d) (hb : Below w.heap.size w w') : IsRef w' v neg n d := by
  obtain ⟨o1, c1, o2, c2, e, h1, h2⟩ := h
  exact ⟨o1, c1, o2, c2, e, keep h1 hb, keep h2 hb⟩
theorem own_off {w W : World} {g base : Nat} {e t : TypeId} {v : Value} {n : Nat} {xs : List Value} {cs : Array Value} (h : w.ownsRow base e 1 v n xs) (hk : w.heap[g]? = some (.cells cs t)) (hne : t ≠ e) (hW : ∀ k, k ≠ g → W.heap[k]? = w.heap[k]?) : W.ownsRow base e 1 v n xs := by
  refine ⟨h.1, ?_⟩
  rcases h.2 with h' | ⟨g', cap', cur, h', hb', hg, r⟩
  · exact .inl h'
  · have : g' ≠ g := by
      rintro rfl
      rw [hg] at hk
      simp only [Option.some.injEq, Obj.cells.injEq] at hk
      exact hne hk.2.1.symm
    exact .inr ⟨g', cap', cur, h', hb', by rw [hW g' this]; exact hg, r⟩
def box3 (a b c : Value) : Obj := .cells #[a, b, c] 33
theorem box3_cells {w : World} {g : Nat} {a b c : Value} (h : w.heap[g]? = some (box3 a b c)) : w.cell? ⟨g, 0, none⟩ = some a ∧ w.cell? ⟨g, 1, none⟩ = some b ∧ w.cell? ⟨g, 2, none⟩ = some c := by
  refine ⟨?_, ?_, ?_⟩ <;> simp [World.cell?, h, box3]
theorem box3F {w : World} {g : Nat} {a b c : Value} (h : w.heap[g]? = some (box3 a b c)) (i : Nat) : w.frozen? ⟨g, i, none⟩ = false := by simp [World.frozen?, h, box3]
theorem box3_set {w : World} {g : Nat} {a b c : Value} (h : w.heap[g]? = some (box3 a b c)) (a' b' c' : Value) :
    (((w.setCell ⟨g, 0, none⟩ a').setCell ⟨g, 1, none⟩ b').setCell ⟨g, 2, none⟩ c').heap[g]? = some (box3 a' b' c') := by
  have h1 : (w.setCell ⟨g, 0, none⟩ a').heap[g]? = some (box3 a' b c) := by rw [heap_setCell_same w g 0 _ _ _ h]; rfl
  have h2 : ((w.setCell ⟨g, 0, none⟩ a').setCell ⟨g, 1, none⟩ b').heap[g]? = some (box3 a' b' c) := by rw [heap_setCell_same _ g 1 _ _ _ h1]; rfl
  rw [heap_setCell_same _ g 2 _ _ _ h2]; rfl
theorem box3_new (w : World) (a b c : Value) : (w.alloc (box3 a b c)).heap[w.heap.size]? = some (box3 a b c) := heap_alloc_new _ _
theorem box3_below {w W : World} {B g : Nat} (h : Below B w W) (hg : B ≤ g) (a b c : Value) : Below B w (((W.setCell ⟨g, 0, none⟩ a).setCell ⟨g, 1, none⟩ b).setCell ⟨g, 2, none⟩ c) :=
  ((h.setCell hg _).setCell hg _).setCell hg _
theorem set3_off (w : World) (g : Nat) (a b c : Value) : ∀ k, k ≠ g → (((w.setCell ⟨g, 0, none⟩ a).setCell ⟨g, 1, none⟩ b).setCell ⟨g, 2, none⟩ c).heap[k]? = w.heap[k]? := by
  intro k hk
  rw [heap_setCell_other _ _ _ _ hk, heap_setCell_other _ _ _ _ hk, heap_setCell_other _ _ _ _ hk]
theorem IsRef.off {w W : World} {g : Nat} {x y z : Value} {v : Value} {b : Bool} {n d : Nat} (h : IsRef w v b n d) (hk : w.heap[g]? = some (box3 x y z)) (hW : ∀ k, k ≠ g → W.heap[k]? = w.heap[k]?) : IsRef W v b n d := by
  obtain ⟨o1, c1, o2, c2, e, h1, h2⟩ := h
  exact ⟨o1, c1, o2, c2, e, own_off h1 hk (by decide) hW, own_off h2 hk (by decide) hW⟩
theorem nb_gt (n : Nat) : decide (0 < (nb n).length) = decide (n ≠ 0) := by
  rw [Bool.eq_iff_iff, decide_eq_true_iff, decide_eq_true_iff]
  constructor
  · rintro h rfl; rw [nb_zero] at h; simp at h
  · intro h; rw [nb_pos h]; simp
theorem nb_one_iff (n : Nat) : (nb n).length = 1 ↔ n = 1 := by
  constructor
  · intro h
    have h1 := fromL_lt (nb n)
    rw [fromL_nb, h] at h1
    have h2 : n ≠ 0 := by rintro rfl; rw [nb_zero] at h; simp at h
    omega
  · rintro rfl; rw [nb_pos (by decide), show 1 / 2 = 0 by decide, nb_zero]; rfl
set_option maxRecDepth 20000 in
set_option maxHeartbeats 1000000 in
theorem rof_any (b : Bool) (x y : Nat) (o1 o2 : Option Addr) (c1 c2 : Nat) (w : World) (h1 : w.ownsRow 0 4 1 (.slice o1 (nb x).length c1) (nb x).length (bools (nb x))) (h2 : w.ownsRow 0 4 1 (.slice o2 (nb y).length c2) (nb y).length (bools (nb y))) (hl1 : (nb x).length ≤ 1000000) (hl2 : (nb y).length ≤ 1000000) (hy : y ≠ 0) :
    Calls Try.prog 28 #[.bool b, .slice o1 (nb x).length c1, .slice o2 (nb y).length c2] w fun e w' => ∃ v, e = .returned v ∧ IsRef w' v (b && decide (x / Nat.gcd x y ≠ 0)) (x / Nat.gcd x y) (y / Nat.gcd x y) ∧ Below w.heap.size w w' := by
  have hb0 : Below w.heap.size w (w.alloc (.cells #[.bool false, .slice none 0 0, .slice none 0 0] 33)) := (Below.refl _ _).alloc (Nat.le_refl _) _
  by_cases h : y = 1
  · subst h
    have e1 : (nb 1).length = 1 := (nb_one_iff 1).2 rfl
    rw [Nat.gcd_one_right, Nat.div_one, Nat.div_one, ← nb_gt]
    have H1 : Hid (w.ownsRow 0 4 1 (.slice o1 (nb x).length c1) (nb x).length (bools (nb x))) := h1
    have H2 : Hid (w.ownsRow 0 4 1 (.slice o2 (nb 1).length c2) (nb 1).length (bools (nb 1))) := h2
    have HQ : Hid (∀ o : Obj, Below w.heap.size w (w.alloc o)) := fun o => (Below.refl _ _).alloc (Nat.le_refl _) o
    clear h1 h2 hl1 hl2 hy
    cases b
    all_goals
      go_enter Try.func28, Try.ntmps28
      go_wp2
    · refine bodyPost_ret (v := .agg #[.bool false, .slice o1 (nb x).length c1, .slice o2 1 c2]) ?_ rfl ?_
      · simp [results, go_sem]
      · exact ⟨_, rfl, ⟨o1, c1, o2, c2, by rw [e1]; rfl, keep H1.out (HQ.out _), keep H2.out (HQ.out _)⟩, HQ.out _⟩
    · refine bodyPost_ret (v := .agg #[.bool (decide (0 < (nb x).length)), .slice o1 (nb x).length c1, .slice o2 1 c2]) ?_ rfl ?_
      · simp [results, go_sem]
      · exact ⟨_, rfl, ⟨o1, c1, o2, c2, by rw [e1]; rfl, keep H1.out (HQ.out _), keep H2.out (HQ.out _)⟩, HQ.out _⟩
  · have hg0 : Nat.gcd x y ≠ 0 := fun h => hy (Nat.gcd_eq_zero_iff.1 h).2
    have e1 : (nb y).length ≠ 1 := fun e => h ((nb_one_iff y).1 e)
    have e2 : (((nb y).length : Int) == 1) = false := by rw [beq_eq_false_iff_ne]; omega
    have cG := fun (W : World) (hb : Below w.heap.size w W) => rgcd_any x y o1 o2 c1 c2 W (keep h1 hb) (keep h2 hb) hl1 hl2
    have cD1 := fun (W : World) (hb : Below w.heap.size w W) (o : Option Addr) (c : Nat) (hg : Lies W o c (bools (nb (Nat.gcd x y)))) => rdiv_core (nb x) (Nat.gcd x y) (x / Nat.gcd x y) (x % Nat.gcd x y) (by unfold Hid; rw [fromL_nb]) (by unfold Hid; rw [fromL_nb]) (Nat.pos_of_ne_zero hg0) o1 o c1 c W (lies_of_owns (keep h1 hb)) hg hl1
    have cD2 := fun (W : World) (hb : Below w.heap.size w W) (o : Option Addr) (c : Nat) (hg : Lies W o c (bools (nb (Nat.gcd x y)))) => rdiv_core (nb y) (Nat.gcd x y) (y / Nat.gcd x y) (y % Nat.gcd x y) (by unfold Hid; rw [fromL_nb]) (by unfold Hid; rw [fromL_nb]) (Nat.pos_of_ne_zero hg0) o2 o c2 c W (lies_of_owns (keep h2 hb)) hg hl2
    rw [← nb_gt]
    generalize x / Nat.gcd x y = n at *
    generalize x % Nat.gcd x y = r1 at *
    generalize y / Nat.gcd x y = d at *
    generalize y % Nat.gcd x y = r2 at *
    generalize Nat.gcd x y = g at *
    clear h1 h2 hl1 hl2 hy h hg0 e1
    cases b
    all_goals
      go_enter Try.func28, Try.ntmps28
      go_wp2_with (first
        | (go_at_call 62; refine (cG _ hb0).mono ?_; rintro e w1 ⟨o3, c3, rfl, hown3, hb1⟩; have H1 := bt hb0 hb1)
        | (go_at_call_of 49 (Value.slice o1 (nb x).length c1); refine (cD1 _ H1 _ _ (lies_of_owns hown3)).mono ?_; rintro e w2 ⟨o4, c4, o5, c5, rfl, hown4, hown5, hb2⟩; have H2 := bt H1 hb2)
        | (go_at_call_of 49 (Value.slice o2 (nb y).length c2); refine (cD2 _ H2 _ _ (lies_of_owns (keep hown3 hb2))).mono ?_; rintro e w3 ⟨o6, c6, o7, c7, rfl, hown6, hown7, hb3⟩; have H3 := bt H2 hb3; have k1 := box_kept (box3_new w _ _ _) (bt (bt hb1 hb2) hb3) (by simp); obtain ⟨d0, d1, d2⟩ := box3_cells k1; have ff := box3F k1))
    · have k2 := box3_set k1 (.bool false) (.slice o4 (nb n).length c4) (.slice o6 (nb d).length c6)
      have hB := box3_below H3 (Nat.le_refl _) (.bool false) (.slice o4 (nb n).length c4) (.slice o6 (nb d).length c6)
      have hW := set3_off w3 w.heap.size (.bool false) (.slice o4 (nb n).length c4) (.slice o6 (nb d).length c6)
      have q1 := own_off (owns_base (keep hown4 hb3) (Nat.zero_le _)) k1 (by decide) hW
      have q2 := own_off (owns_base hown6 (Nat.zero_le _)) k1 (by decide) hW
      generalize World.setCell _ _ _ = W' at *
      obtain ⟨y0, y1, y2⟩ := box3_cells k2
      refine bodyPost_ret (v := .agg #[.bool false, .slice o4 (nb n).length c4, .slice o6 (nb d).length c6]) ?_ rfl ?_
      · simp [results, go_sem, y0, y1, y2]
      · exact ⟨_, rfl, ⟨_, _, _, _, rfl, q1, q2⟩, hB⟩
    · have k2 := box3_set k1 (.bool (decide (0 < (nb n).length))) (.slice o4 (nb n).length c4) (.slice o6 (nb d).length c6)
      have hB := box3_below H3 (Nat.le_refl _) (.bool (decide (0 < (nb n).length))) (.slice o4 (nb n).length c4) (.slice o6 (nb d).length c6)
      have hW := set3_off w3 w.heap.size (.bool (decide (0 < (nb n).length))) (.slice o4 (nb n).length c4) (.slice o6 (nb d).length c6)
      have q1 := own_off (owns_base (keep hown4 hb3) (Nat.zero_le _)) k1 (by decide) hW
      have q2 := own_off (owns_base hown6 (Nat.zero_le _)) k1 (by decide) hW
      generalize World.setCell _ _ _ = W' at *
      obtain ⟨y0, y1, y2⟩ := box3_cells k2
      refine bodyPost_ret (v := .agg #[.bool (decide (0 < (nb n).length)), .slice o4 (nb n).length c4, .slice o6 (nb d).length c6]) ?_ rfl ?_
      · simp [results, go_sem, y0, y1, y2]
      · exact ⟨_, rfl, ⟨_, _, _, _, rfl, q1, q2⟩, hB⟩
end Go.Proofs.Ytefckmkcbgckfaa.RefR

/- The document's rational numbers: whole ones, products, inverses. -/
namespace Go.Proofs.Ytefckmkcbgckfaa.RefT
open Go.RowKit Mem LimbNum Limb1 Limb2 RefL RefA BitMul BitDiv RGcd Words RatL RefR

theorem three_kept {W w5 : World} {g : Nat} {a b c : Value} (h : W.cell? ⟨g, 0, none⟩ = some a ∧ W.cell? ⟨g, 1, none⟩ = some b ∧ W.cell? ⟨g, 2, none⟩ = some c) (hb : Below W.heap.size W w5) :
    w5.cell? ⟨g, 0, none⟩ = some a ∧ w5.cell? ⟨g, 1, none⟩ = some b ∧ w5.cell? ⟨g, 2, none⟩ = some c := by
  have hg := cell_lt h.1
  rw [hb.cell (p := ⟨g, 0, none⟩) hg, hb.cell (p := ⟨g, 1, none⟩) hg, hb.cell (p := ⟨g, 2, none⟩) hg]
  exact h
theorem cell_set3 (W : World) (g' : Nat) (x y z : Value) (g i : Nat) (hne : g ≠ g') : (((W.setCell ⟨g', 0, none⟩ x).setCell ⟨g', 1, none⟩ y).setCell ⟨g', 2, none⟩ z).cell? ⟨g, i, none⟩ = W.cell? ⟨g, i, none⟩ := by
  simp only [World.cell?]
  rw [set3_off W g' x y z g hne]
theorem three_set {W : World} {g g' : Nat} {a b c x y z : Value} (hne : g ≠ g') (h : W.cell? ⟨g, 0, none⟩ = some a ∧ W.cell? ⟨g, 1, none⟩ = some b ∧ W.cell? ⟨g, 2, none⟩ = some c) :
    (((W.setCell ⟨g', 0, none⟩ x).setCell ⟨g', 1, none⟩ y).setCell ⟨g', 2, none⟩ z).cell? ⟨g, 0, none⟩ = some a ∧ (((W.setCell ⟨g', 0, none⟩ x).setCell ⟨g', 1, none⟩ y).setCell ⟨g', 2, none⟩ z).cell? ⟨g, 1, none⟩ = some b ∧ (((W.setCell ⟨g', 0, none⟩ x).setCell ⟨g', 1, none⟩ y).setCell ⟨g', 2, none⟩ z).cell? ⟨g, 2, none⟩ = some c := by
  rw [cell_set3 _ _ _ _ _ _ _ hne, cell_set3 _ _ _ _ _ _ _ hne, cell_set3 _ _ _ _ _ _ _ hne]; exact h
theorem six_kept {W w5 : World} {g h : Nat} {a b c d e f : Value} (H : W.cell? ⟨g, 0, none⟩ = some a ∧ W.cell? ⟨g, 1, none⟩ = some b ∧ W.cell? ⟨g, 2, none⟩ = some c ∧ W.cell? ⟨h, 0, none⟩ = some d ∧ W.cell? ⟨h, 1, none⟩ = some e ∧ W.cell? ⟨h, 2, none⟩ = some f) (hb : Below W.heap.size W w5) :
    w5.cell? ⟨g, 0, none⟩ = some a ∧ w5.cell? ⟨g, 1, none⟩ = some b ∧ w5.cell? ⟨g, 2, none⟩ = some c ∧ w5.cell? ⟨h, 0, none⟩ = some d ∧ w5.cell? ⟨h, 1, none⟩ = some e ∧ w5.cell? ⟨h, 2, none⟩ = some f := by
  obtain ⟨h1, h2, h3, h4, h5, h6⟩ := H
  obtain ⟨a1, a2, a3⟩ := three_kept ⟨h1, h2, h3⟩ hb
  obtain ⟨b1, b2, b3⟩ := three_kept ⟨h4, h5, h6⟩ hb
  exact ⟨a1, a2, a3, b1, b2, b3⟩
theorem six_set {W : World} {g h k : Nat} {a b c d e f x y z : Value} (n1 : g ≠ k) (n2 : h ≠ k) (H : W.cell? ⟨g, 0, none⟩ = some a ∧ W.cell? ⟨g, 1, none⟩ = some b ∧ W.cell? ⟨g, 2, none⟩ = some c ∧ W.cell? ⟨h, 0, none⟩ = some d ∧ W.cell? ⟨h, 1, none⟩ = some e ∧ W.cell? ⟨h, 2, none⟩ = some f) :
    (((W.setCell ⟨k, 0, none⟩ x).setCell ⟨k, 1, none⟩ y).setCell ⟨k, 2, none⟩ z).cell? ⟨g, 0, none⟩ = some a ∧ (((W.setCell ⟨k, 0, none⟩ x).setCell ⟨k, 1, none⟩ y).setCell ⟨k, 2, none⟩ z).cell? ⟨g, 1, none⟩ = some b ∧ (((W.setCell ⟨k, 0, none⟩ x).setCell ⟨k, 1, none⟩ y).setCell ⟨k, 2, none⟩ z).cell? ⟨g, 2, none⟩ = some c ∧
    (((W.setCell ⟨k, 0, none⟩ x).setCell ⟨k, 1, none⟩ y).setCell ⟨k, 2, none⟩ z).cell? ⟨h, 0, none⟩ = some d ∧ (((W.setCell ⟨k, 0, none⟩ x).setCell ⟨k, 1, none⟩ y).setCell ⟨k, 2, none⟩ z).cell? ⟨h, 1, none⟩ = some e ∧ (((W.setCell ⟨k, 0, none⟩ x).setCell ⟨k, 1, none⟩ y).setCell ⟨k, 2, none⟩ z).cell? ⟨h, 2, none⟩ = some f := by
  obtain ⟨h1, h2, h3, h4, h5, h6⟩ := H
  obtain ⟨a1, a2, a3⟩ := three_set (x := x) (y := y) (z := z) n1 ⟨h1, h2, h3⟩
  obtain ⟨b1, b2, b3⟩ := three_set (x := x) (y := y) (z := z) n2 ⟨h4, h5, h6⟩
  exact ⟨a1, a2, a3, b1, b2, b3⟩
end Go.Proofs.Ytefckmkcbgckfaa.RefT

/- The document's rational numbers: products and whole ones. -/
namespace Go.Proofs.Ytefckmkcbgckfaa.RefU
open Go.RowKit Mem LimbNum Limb1 Limb2 RefL RefA BitMul BitDiv RGcd Words RatL RefR RefT

theorem mul_bits (x y k l : Nat) (hx : (nb x).length ≤ k) (hy : (nb y).length ≤ l) : (nb (x * y)).length ≤ k + l := by
  apply nb_lt
  have h1 := fromL_lt (nb x)
  have h2 := fromL_lt (nb y)
  rw [fromL_nb] at h1 h2
  rw [Nat.pow_add]
  exact Nat.mul_lt_mul'' (Nat.lt_of_lt_of_le h1 (Nat.pow_le_pow_right (by omega) hx)) (Nat.lt_of_lt_of_le h2 (Nat.pow_le_pow_right (by omega) hy))
theorem rmul_nb (x y : Nat) (o1 o2 : Option Addr) (c1 c2 : Nat) (w : World) (h1 : Lies w o1 c1 (bools (nb x))) (h2 : Lies w o2 c2 (bools (nb y))) (hl1 : (nb x).length ≤ 100000) (hl2 : (nb y).length ≤ 100000) :
    Calls Try.prog 31 #[.slice o1 (nb x).length c1, .slice o2 (nb y).length c2] w fun e w' => ∃ ao cap, e = .returned (.slice ao (nb (x * y)).length cap) ∧ w'.ownsRow w.heap.size 4 1 (.slice ao (nb (x * y)).length cap) (nb (x * y)).length (bools (nb (x * y))) ∧ Below w.heap.size w w' :=
  rmul_core (nb x) (nb y) (x * y) (by unfold Hid; rw [fromL_nb, fromL_nb]) o1 o2 c1 c2 w h1 h2 (by omega) hl2
end Go.Proofs.Ytefckmkcbgckfaa.RefU

/- The document's rational numbers: whole ones. -/
namespace Go.Proofs.Ytefckmkcbgckfaa.RefI
open Go.RowKit Mem LimbNum Limb1 Limb2 RefL RefA BitMul BitDiv RGcd Words RatL RefR RefT RefU

theorem radd_nb (x y : Nat) (o1 o2 : Option Addr) (c1 c2 : Nat) (w : World) (h1 : Lies w o1 c1 (bools (nb x))) (h2 : Lies w o2 c2 (bools (nb y))) (hl1 : (nb x).length ≤ 1073741824) (hl2 : (nb y).length ≤ 1073741824) :
    Calls Try.prog 30 #[.slice o1 (nb x).length c1, .slice o2 (nb y).length c2] w fun e w' => ∃ ao cap, e = .returned (.slice ao (nb (x + y)).length cap) ∧ w'.ownsRow w.heap.size 4 1 (.slice ao (nb (x + y)).length cap) (nb (x + y)).length (bools (nb (x + y))) ∧ Below w.heap.size w w' :=
  radd_core (nb x) (nb y) (x + y) (by unfold Hid; rw [fromL_nb, fromL_nb]) o1 o2 c1 c2 w h1 h2 hl1 hl2
set_option maxRecDepth 20000 in
set_option maxHeartbeats 1000000 in
theorem rint_any (i : Int) (w : World) (h0 : -9223372036854775808 ≤ i) (h1 : i ≤ 9223372036854775807) :
    Calls Try.prog 27 #[.int .i64 i] w fun e w' => ∃ v, e = .returned v ∧ IsRef w' v (decide (i < 0)) i.natAbs 1 ∧ Below w.heap.size w w' := by
  have hb0 : Below w.heap.size w (w.alloc (.cells #[.bool false, .slice none 0 0, .slice none 0 0] 33)) := (Below.refl _ _).alloc (Nat.le_refl _) _
  have cW1 := fun (W : World) => rword_any 1 W (by omega)
  have e1 : (((1 : Nat) : Int)) = 1 := rfl
  rw [e1] at cW1
  have l1 : (nb 1).length ≤ 64 := nb_lt 64 1 (by omega)
  have t1 : True := trivial
  have t2 : True := trivial
  by_cases hi : i < 0
  · have cW2 := fun (W : World) => rword_any ((-(i + 1)).toNat) W (by omega)
    have l2 : (nb ((-(i + 1)).toNat)).length ≤ 64 := nb_lt 64 _ (by omega)
    have e2 : (((-(i + 1)).toNat : Nat) : Int) = -(i + 1) := by omega
    rw [e2] at cW2
    have e3 : (-(i + 1)).toNat + 1 = i.natAbs := by omega
    have cA := fun (W : World) (o o' : Option Addr) (c c' : Nat) (h : Lies W o c (bools (nb ((-(i + 1)).toNat)))) (h' : Lies W o' c' (bools (nb 1))) => radd_nb ((-(i + 1)).toNat) 1 o o' c c' W h h' (by omega) (by omega)
    rw [e3] at cA
    rw [decide_eq_true hi]
    generalize (-(i + 1)).toNat = U at *
    clear e1 e2 e3 l1 l2
    generalize i.natAbs = n at *
    go_enter Try.func27, Try.ntmps27
    go_wp2_with (first
      | (go_at_call 32; have _t := t1; clear _t t1; refine (cW2 _).mono ?_; rintro e w1 ⟨o5, c5, rfl, hown5, hb1⟩)
      | (go_at_call 32; have _t := t2; clear _t t2; refine (cW1 _).mono ?_; rintro e w2 ⟨o6, c6, rfl, hown6, hb2⟩)
      | (go_at_call 30; refine (cA _ _ _ _ _ (lies_of_owns (keep hown5 hb2)) (lies_of_owns hown6)).mono ?_; rintro e w3 ⟨o7, c7, rfl, hown7, hb3⟩)
      | (go_at_call 32; refine (cW1 _).mono ?_; rintro e w4 ⟨o8, c8, rfl, hown8, hb4⟩; have k1 := box_kept (box3_new w _ _ _) (bt (bt (bt hb1 hb2) hb3) hb4) (by simp); obtain ⟨d0, d1, d2⟩ := box3_cells k1; have ff := box3F k1))
    have k2 := box3_set k1 (.bool true) (.slice o7 (nb n).length c7) (.slice o8 (nb 1).length c8)
    have hB := box3_below (bt (bt (bt (bt hb0 hb1) hb2) hb3) hb4) (Nat.le_refl _) (.bool true) (.slice o7 (nb n).length c7) (.slice o8 (nb 1).length c8)
    have hW := set3_off w4 w.heap.size (.bool true) (.slice o7 (nb n).length c7) (.slice o8 (nb 1).length c8)
    have q1 := own_off (owns_base (keep hown7 hb4) (Nat.zero_le _)) k1 (by decide) hW
    have q2 := own_off (owns_base hown8 (Nat.zero_le _)) k1 (by decide) hW
    generalize World.setCell _ _ _ = W' at *
    obtain ⟨y0, y1, y2⟩ := box3_cells k2
    refine bodyPost_ret (v := .agg #[.bool true, .slice o7 (nb n).length c7, .slice o8 (nb 1).length c8]) ?_ rfl ?_
    · simp [results, go_sem, y0, y1, y2]
    · exact ⟨_, rfl, ⟨_, _, _, _, rfl, q1, q2⟩, hB⟩
  · have cW2 := fun (W : World) => rword_any i.natAbs W (by omega)
    have e2 : ((i.natAbs : Nat) : Int) = i := by omega
    rw [e2] at cW2
    rw [decide_eq_false hi]
    clear e1 e2 l1
    generalize i.natAbs = n at *
    go_enter Try.func27, Try.ntmps27
    go_wp2_with (first
      | (go_at_call 32; have _t := t1; clear _t t1; refine (cW2 _).mono ?_; rintro e w1 ⟨o7, c7, rfl, hown7, hb1⟩)
      | (go_at_call 32; refine (cW1 _).mono ?_; rintro e w4 ⟨o8, c8, rfl, hown8, hb4⟩; have k1 := box_kept (box3_new w _ _ _) (bt hb1 hb4) (by simp); obtain ⟨d0, d1, d2⟩ := box3_cells k1; have ff := box3F k1))
    have k2 := box3_set k1 (.bool false) (.slice o7 (nb n).length c7) (.slice o8 (nb 1).length c8)
    have hB := box3_below (bt (bt hb0 hb1) hb4) (Nat.le_refl _) (.bool false) (.slice o7 (nb n).length c7) (.slice o8 (nb 1).length c8)
    have hW := set3_off w4 w.heap.size (.bool false) (.slice o7 (nb n).length c7) (.slice o8 (nb 1).length c8)
    have q1 := own_off (owns_base (keep hown7 hb4) (Nat.zero_le _)) k1 (by decide) hW
    have q2 := own_off (owns_base hown8 (Nat.zero_le _)) k1 (by decide) hW
    generalize World.setCell _ _ _ = W' at *
    obtain ⟨y0, y1, y2⟩ := box3_cells k2
    refine bodyPost_ret (v := .agg #[.bool false, .slice o7 (nb n).length c7, .slice o8 (nb 1).length c8]) ?_ rfl ?_
    · simp [results, go_sem, y0, y1, y2]
    · exact ⟨_, rfl, ⟨_, _, _, _, rfl, q1, q2⟩, hB⟩
end Go.Proofs.Ytefckmkcbgckfaa.RefI

/- What making a rational number, and telling its parts, answer. -/
namespace Go.Proofs.Ytefckmkcbgckfaa.RatM
open Go.RowKit Mem LimbNum Limb1 Limb2 Limb3 Limb4 NatNum DivNum NatL NearL GcdA CopyL Words DivMod DivAll RatL

theorem fits64 (n : Nat) : decide ((nb n).length ≤ 64) = decide (n < 18446744073709551616) := by
  rw [Bool.eq_iff_iff, decide_eq_true_iff, decide_eq_true_iff]
  constructor
  · intro h
    have h3 := fromL_lt (nb n)
    rw [fromL_nb] at h3
    have h4 : (2 : Nat) ^ (nb n).length ≤ 2 ^ 64 := Nat.pow_le_pow_right (by omega) h
    omega
  · exact nb_lt 64 n
theorem low_is (n : Nat) (ao : Option Addr) (cap : Nat) (w : World) (h : Lies w ao cap (ints .u32 (nl n))) :
    Calls Try.prog 74 #[.slice ao (nl n).length cap] w fun e w' => e = .returned (.tuple #[.int .u64 ((n % 18446744073709551616 : Nat) : Int), .bool (decide (n < 18446744073709551616))]) ∧ w' = w := by
  have := low_any (nl n) ao cap w h (small_nl _)
  rw [val_nl, fits64] at this
  exact this
theorem Low.of_gcd {b : Bool} {n d : Nat} (h1 : 1 ≤ d) (h2 : Nat.gcd n d = 1) : Low (b && decide (n ≠ 0)) n d := ⟨h1, h2, fun h => by simp [h]⟩
set_option maxRecDepth 20000 in
set_option maxHeartbeats 1000000 in
theorem fit_any (b : Bool) (n d : Nat) (o1 o2 : Option Addr) (c1 c2 : Nat) (w : World) (h1 : Lies w o1 c1 (ints .u32 (nl n))) (h2 : Lies w o2 c2 (ints .u32 (nl d))) (hd : 1 ≤ d) (hg : Nat.gcd n d = 1) :
    Calls Try.prog 55 #[.bool b, .slice o1 (nl n).length c1, .slice o2 (nl d).length c2] w fun e w' => ∃ v, e = .returned v ∧ IsRat w' v (b && decide (n ≠ 0)) n d ∧ Below w.heap.size w w' := by
  have cL1 := fun (W : World) (hb : Below w.heap.size w W) => low_is n o1 c1 W (h1.below hb (Nat.le_refl _))
  have cL2 := fun (W : World) (hb : Below w.heap.size w W) => low_is d o2 c2 W (h2.below hb (Nat.le_refl _))
  have hb0 : Below w.heap.size w (w.alloc (.cells #[.bool false, .int .u64 0, .int .u64 0, .pointer none] 25)) := (Below.refl _ _).alloc (Nat.le_refl _) _
  have t1 : True := trivial
  by_cases hf : n < 18446744073709551616 ∧ d < 18446744073709551616
  · have cS := fun (W : World) => short_any b n d W hd hf.2
    rw [Nat.mod_eq_of_lt hf.1, decide_eq_true hf.1] at cL1
    rw [Nat.mod_eq_of_lt hf.2, decide_eq_true hf.2] at cL2
    have HL : Hid (Low (b && decide (n ≠ 0)) n d ∧ n < 18446744073709551616 ∧ d < 18446744073709551616) := ⟨Low.of_gcd hd hg, hf⟩
    clear h1 h2 hd hg hf
    generalize (b && decide (n ≠ 0)) = b2 at *
    go_enter Try.func55, Try.ntmps55
    go_wp2_with (first
      | (go_at_call 74; have _t := t1; clear _t t1; refine (cL1 _ hb0).mono ?_; rintro e w1 ⟨rfl, hw⟩; have hw2 := hw.symm; clear hw; subst hw2)
      | (go_at_call 74; refine (cL2 _ hb0).mono ?_; rintro e w1 ⟨rfl, hw⟩; have hw2 := hw.symm; clear hw; subst hw2)
      | (go_at_call 65; refine (cS _).mono ?_; rintro e w1 ⟨rfl, hb1⟩; have k1 := box_kept (box_new w _ _ _ _) hb1 (by simp); obtain ⟨d0, d1, d2, d3⟩ := box0 k1; have ff := boxF k1))
    have k2 := box_set k1 (.bool b2) (.int .u64 (n : Int)) (.int .u64 ((d : Int) - 1)) (.pointer none)
    have hB := box_below (bt hb0 hb1) (Nat.le_refl _) (.bool b2) (.int .u64 (n : Int)) (.int .u64 ((d : Int) - 1)) (.pointer none)
    generalize World.setCell _ _ _ = W' at *
    obtain ⟨y0, y1, y2, y3⟩ := box0 k2
    refine bodyPost_ret (v := .agg #[.bool b2, .int .u64 (n : Int), .int .u64 ((d : Int) - 1), .pointer none]) ?_ rfl ?_
    · simp [results, go_sem, y0, y1, y2, y3]
    · exact ⟨_, rfl, ⟨HL.out.1, .inl ⟨HL.out.2.1, HL.out.2.2, rfl⟩⟩, hB⟩
  · have hn0 : n ≠ 0 := by rintro rfl; rw [Nat.gcd_zero_left] at hg; exact hf (by omega)
    have eb : (b && decide (n ≠ 0)) = b := by simp [hn0]
    rw [eb]
    have HL : Hid (Low b n d) := ⟨hd, hg, fun h => absurd h hn0⟩
    have HF : Hid (¬ (n < 18446744073709551616 ∧ d < 18446744073709551616)) := hf
    have H1 : Hid (Lies w o1 c1 (ints .u32 (nl n))) := h1
    have H2 : Hid (Lies w o2 c2 (ints .u32 (nl d))) := h2
    have hp : (decide (n < 18446744073709551616) && decide (d < 18446744073709551616)) = false := by rw [Bool.and_eq_false_iff]; simp; omega
    generalize ((n % 18446744073709551616 : Nat) : Int) = NI at *
    generalize ((d % 18446744073709551616 : Nat) : Int) = DI at *
    generalize decide (n < 18446744073709551616) = p at *
    generalize decide (d < 18446744073709551616) = q at *
    clear h1 h2 hd hg hf hn0 eb
    cases p
    all_goals cases q
    case true.true => simp at hp
    all_goals
      clear hp
      go_enter Try.func55, Try.ntmps55
      go_wp2_with (first
        | (go_at_call 74; have _t := t1; clear _t t1; refine (cL1 _ hb0).mono ?_; rintro e w1 ⟨rfl, hw⟩; have hw2 := hw.symm; clear hw; subst hw2)
        | (go_at_call 74; refine (cL2 _ hb0).mono ?_; rintro e w1 ⟨rfl, hw⟩; have hw2 := hw.symm; clear hw; subst hw2))
      refine bodyPost_ret (v := .agg #[.bool b, .int .u64 0, .int .u64 0, .pointer (some ⟨w.heap.size + 1, 0, none⟩)]) ?_ rfl ?_
      · simp [results, go_sem]
      · have hB : Below w.heap.size w ((w.alloc (.cells #[.bool b, .int .u64 0, .int .u64 0, .pointer (some ⟨w.heap.size + 1, 0, none⟩)] 25)).alloc (.cells #[.slice o1 (nl n).length c1, .slice o2 (nl d).length c2] 105)) := ((Below.refl _ _).alloc (Nat.le_refl _) _).alloc (by simp) _
        exact ⟨_, rfl, ⟨HL.out, .inr ⟨HF.out, w.heap.size + 1, o1, c1, o2, c2, rfl, by simp, by simp, by simp, H1.out.below hB (Nat.le_refl _), H2.out.below hB (Nat.le_refl _)⟩⟩, hB⟩
/-- Both numbers as lists. -/
theorem spread_any (v : Value) (b : Bool) (n d : Nat) (w : World) (h : IsRat w v b n d) :
    Calls Try.prog 51 #[v] w fun e w' => ∃ o1 c1 o2 c2, e = .returned (.tuple #[.slice o1 (nl n).length c1, .slice o2 (nl d).length c2]) ∧ Lies w' o1 c1 (ints .u32 (nl n)) ∧ Lies w' o2 c2 (ints .u32 (nl d)) ∧ Below w.heap.size w w' := by
  obtain ⟨hL, ⟨hn, hd, rfl⟩ | ⟨_, g, o1, c1, o2, c2, rfl, hg, e1, e2, l1, l2⟩⟩ := h
  · have cW1 := fun (W : World) => word_any n W hn
    have cW2 := fun (W : World) => word_any d W hd
    have hd1 := hL.pos
    have cD := fun (W : World) => den_any b (n : Int) (d : Int) none W (by omega) (by omega)
    clear hL hn hd hd1
    go_enter Try.func51, Try.ntmps51
    go_wp2
    have hb0 : Below w.heap.size w (w.alloc (.cells #[.bool b, .int .u64 (n : Int), .int .u64 ((d : Int) - 1), .pointer none] 25)) := (Below.refl _ _).alloc (Nat.le_refl _) _
    go_region_held3 (fun w' => w'.cell? ⟨w.heap.size, 0, none⟩ = some (.bool b) ∧ w'.cell? ⟨w.heap.size, 1, none⟩ = some (.int .u64 (n : Int)) ∧ w'.cell? ⟨w.heap.size, 2, none⟩ = some (.int .u64 ((d : Int) - 1)) ∧ w'.cell? ⟨w.heap.size, 3, none⟩ = some (.pointer none))
      (first | exact four_new _ _ _ _ _ | exact four_kept (by assumption) (by assumption)) (first
      | (go_at_call_of 73 (Value.int IntKind.u64 (n : Int)); refine (cW1 _).mono ?_; rintro e w5 ⟨o5, c5, rfl, hown5, hb5⟩)
      | (go_at_call 82; refine (cD _).mono ?_; rintro e w6 ⟨rfl, hb6⟩)
      | (go_at_call_of 73 (Value.int IntKind.u64 (d : Int)); refine (cW2 _).mono ?_; rintro e w7 ⟨o7, c7, rfl, hown7, hb7⟩))
    all_goals go_wp2
    all_goals go_ret2
    all_goals exact ⟨_, _, _, _, rfl, lies_of_owns (keep (keep hown5 hb6) hb7), lies_of_owns hown7, bt (bt (bt (below_drewN hb0 _) hb5) hb6) hb7⟩
  · have hb0 : Below w.heap.size w (w.alloc (.cells #[.bool b, .int .u64 0, .int .u64 0, .pointer (some ⟨g, 0, none⟩)] 25)) := (Below.refl _ _).alloc (Nat.le_refl _) _
    have H1 := l1.below hb0 (Nat.le_refl _)
    have H2 := l2.below hb0 (Nat.le_refl _)
    clear hL l1 l2
    go_enter Try.func51, Try.ntmps51
    go_wp2
    go_region
    all_goals go_wp2
    all_goals go_ret2
    all_goals exact ⟨_, _, _, _, rfl, H1, H2, below_drewN hb0 _⟩
end Go.Proofs.Ytefckmkcbgckfaa.RatM

/- What making a rational number, and telling its parts, answer (2). -/
namespace Go.Proofs.Ytefckmkcbgckfaa.RatN
open Go.RowKit Mem LimbNum Limb1 Limb2 Limb3 Limb4 NatNum DivNum NatL NearL GcdA CopyL Words DivMod DivAll RatL RatM

theorem make_no (b : Bool) (A B : List Nat) (ao1 ao2 : Option Addr) (cap1 cap2 : Nat) (w : World) (h2 : Lies w ao2 cap2 (ints .u32 B)) (hB : Small B) (hl : B.length ≤ 70368744177664) (h0 : val B = 0) :
    Calls Try.prog 24 #[.bool b, .slice ao1 A.length cap1, .slice ao2 B.length cap2] w fun e w' => e = .returned (.tuple #[.agg #[.bool false, .int .u64 0, .int .u64 0, .pointer none], .bool false]) ∧ Below w.heap.size w w' := by
  have cB := fun (W : World) (hb : Below w.heap.size w W) => bits_any B ao2 cap2 W (h2.below hb (Nat.le_refl _)) hB hl
  rw [h0] at cB
  have e2 : ((bitLen 0 : Nat) : Int) = 0 := by rfl
  rw [e2] at cB
  have hb0 : Below w.heap.size w (w.alloc (.cells #[.bool false, .int .u64 0, .int .u64 0, .pointer none] 25)) := (Below.refl _ _).alloc (Nat.le_refl _) _
  clear h2 hB hl h0 e2
  go_enter Try.func24, Try.ntmps24
  go_wp2_with (go_at_call 48; refine (cB _ hb0).mono ?_; rintro e w1 ⟨rfl, hw⟩; have hw2 := hw.symm; clear hw; subst hw2)
  refine bodyPost_ret (v := .tuple #[.agg #[.bool false, .int .u64 0, .int .u64 0, .pointer none], .bool false]) ?_ rfl ?_
  · simp [results, go_sem]
  · exact ⟨rfl, hb0⟩
set_option maxRecDepth 20000 in
set_option maxHeartbeats 1000000 in
theorem make_any (b : Bool) (A B : List Nat) (ao1 ao2 : Option Addr) (cap1 cap2 : Nat) (w : World) (h1 : Lies w ao1 cap1 (ints .u32 A)) (h2 : Lies w ao2 cap2 (ints .u32 B)) (hA : Small A) (hB : Small B) (hlA : A.length ≤ 35184372088832) (hlB : B.length ≤ 35184372088832) (h0 : val B ≠ 0) :
    Calls Try.prog 24 #[.bool b, .slice ao1 A.length cap1, .slice ao2 B.length cap2] w fun e w' => ∃ v, e = .returned (.tuple #[v, .bool true]) ∧
      IsRat w' v (b && decide (val A / Nat.gcd (val A) (val B) ≠ 0)) (val A / Nat.gcd (val A) (val B)) (val B / Nat.gcd (val A) (val B)) ∧ Below w.heap.size w w' := by
  have kA := nl_len A hA
  have kB := nl_len B hB
  have cB := fun (W : World) (hb : Below w.heap.size w W) => bits_any B ao2 cap2 W (h2.below hb (Nat.le_refl _)) hB (by omega)
  have cG := fun (W : World) (hb : Below w.heap.size w W) => gcd_any A B ao1 ao2 cap1 cap2 W (h1.below hb (Nat.le_refl _)) (h2.below hb (Nat.le_refl _)) hA hB hlA hlB
  have cN1 := fun (W : World) (hb : Below w.heap.size w W) => norm_any A ao1 cap1 W (h1.below hb (Nat.le_refl _)) hA (by omega)
  have cN2 := fun (W : World) (hb : Below w.heap.size w W) => norm_any B ao2 cap2 W (h2.below hb (Nat.le_refl _)) hB (by omega)
  have hg0 : Nat.gcd (val A) (val B) ≠ 0 := fun h => h0 (Nat.gcd_eq_zero_iff.1 h).2
  have hgle : Nat.gcd (val A) (val B) ≤ val B := Nat.gcd_le_right _ (Nat.pos_of_ne_zero h0)
  have kg := nl_mono _ _ hgle
  have cP1 := fun (W : World) (o1 o2 : Option Addr) (c1 c2 : Nat) (h1 : Lies W o1 c1 (ints .u32 (nl (val A)))) (h2 : Lies W o2 c2 (ints .u32 (nl (Nat.gcd (val A) (val B))))) => part_any (nl (val A)) (nl (Nat.gcd (val A) (val B))) o1 o2 c1 c2 W h1 h2 (by rw [val_nl]) (small_nl _) (by rw [val_nl]; exact hg0) (by omega) (by omega)
  have cP2 := fun (W : World) (o1 o2 : Option Addr) (c1 c2 : Nat) (h1 : Lies W o1 c1 (ints .u32 (nl (val B)))) (h2 : Lies W o2 c2 (ints .u32 (nl (Nat.gcd (val A) (val B))))) => part_any (nl (val B)) (nl (Nat.gcd (val A) (val B))) o1 o2 c1 c2 W h1 h2 (by rw [val_nl]) (small_nl _) (by rw [val_nl]; exact hg0) (by omega) (by omega)
  rw [val_nl, val_nl] at cP1 cP2
  have hd1 : 1 ≤ val B / Nat.gcd (val A) (val B) := (Nat.one_le_div_iff (Nat.pos_of_ne_zero hg0)).2 hgle
  have hco : Nat.gcd (val A / Nat.gcd (val A) (val B)) (val B / Nat.gcd (val A) (val B)) = 1 := Nat.coprime_div_gcd_div_gcd (Nat.pos_of_ne_zero hg0)
  have cF := fun (W : World) (o1 o2 : Option Addr) (c1 c2 : Nat) (h1 : Lies W o1 c1 (ints .u32 (nl (val A / Nat.gcd (val A) (val B))))) (h2 : Lies W o2 c2 (ints .u32 (nl (val B / Nat.gcd (val A) (val B))))) => fit_any b (val A / Nat.gcd (val A) (val B)) (val B / Nat.gcd (val A) (val B)) o1 o2 c1 c2 W h1 h2 hd1 hco
  have e2 : ((bitLen (val B) : Nat) : Int) ≠ 0 := by unfold bitLen; rw [if_neg h0]; omega
  have e3 : (((bitLen (val B) : Nat) : Int) == 0) = false := by rw [beq_eq_false_iff_ne]; exact e2
  have hb0 : Below w.heap.size w (w.alloc (.cells #[.bool false, .int .u64 0, .int .u64 0, .pointer none] 25)) := (Below.refl _ _).alloc (Nat.le_refl _) _
  generalize ((bitLen (val B) : Nat) : Int) = BL at *
  clear h1 h2 hA hB h0 kA kB hg0 hgle kg hd1 hco
  generalize val A / Nat.gcd (val A) (val B) = n at *
  generalize val B / Nat.gcd (val A) (val B) = d at *
  generalize Nat.gcd (val A) (val B) = g at *
  generalize (b && decide (n ≠ 0)) = b2 at *
  have t1 : True := trivial
  have t2 : True := trivial
  go_enter Try.func24, Try.ntmps24
  go_wp2_with (first
    | (go_at_call 48; refine (cB _ hb0).mono ?_; rintro e w1 ⟨rfl, hw⟩; have hw2 := hw.symm; clear hw; subst hw2)
    | (go_at_call 52; refine (cG _ hb0).mono ?_; rintro e w2 ⟨o2, c2, rfl, hown2, hb2⟩; have H2 := bt hb0 hb2)
    | (go_at_call 61; have _t := t1; clear _t t1; refine (cN1 _ H2).mono ?_; rintro e w3 ⟨o3, c3, rfl, hown3, hb3⟩; have H3 := bt H2 hb3)
    | (go_at_call 53; have _t := t2; clear _t t2; refine (cP1 _ _ _ _ _ (lies_of_owns hown3) (lies_of_owns (keep hown2 hb3))).mono ?_; rintro e w4 ⟨o4, c4, rfl, l4, hb4⟩; have H4 := bt H3 hb4)
    | (go_at_call 61; refine (cN2 _ H4).mono ?_; rintro e w5 ⟨o5, c5, rfl, hown5, hb5⟩; have H5 := bt H4 hb5)
    | (go_at_call 53; refine (cP2 _ _ _ _ _ (lies_of_owns hown5) (lies_of_owns (keep (keep (keep hown2 hb3) hb4) hb5))).mono ?_; rintro e w6 ⟨o6, c6, rfl, l6, hb6⟩; have H6 := bt H5 hb6)
    | (go_at_call 55; refine (cF _ _ _ _ _ ((l4.below hb5 (Nat.le_refl _)).below hb6 (Nat.le_refl _)) l6).mono ?_; rintro e w7 ⟨v, rfl, hR, hb7⟩; obtain ⟨VA, VL, vp, rfl⟩ := hR.shape; have k1 := box_kept (box_new w _ _ _ _) (bt (bt (bt (bt (bt hb2 hb3) hb4) hb5) hb6) hb7) (by simp); obtain ⟨d0, d1, d2, d3⟩ := box0 k1; have ff := boxF k1))
  have k2 := box_set k1 (.bool b2) (.int .u64 VA) (.int .u64 VL) (.pointer vp)
  have hB := box_below (bt H6 hb7) (Nat.le_refl _) (.bool b2) (.int .u64 VA) (.int .u64 VL) (.pointer vp)
  have hR2 := hR.set4 k1 (.bool b2) (.int .u64 VA) (.int .u64 VL) (.pointer vp)
  generalize World.setCell _ _ _ = W' at *
  obtain ⟨y0, y1, y2, y3⟩ := box0 k2
  refine bodyPost_ret (v := .tuple #[.agg #[.bool b2, .int .u64 VA, .int .u64 VL, .pointer vp], .bool true]) ?_ rfl ?_
  · simp [results, go_sem, y0, y1, y2, y3]
  · exact ⟨_, rfl, hR2, hB⟩
set_option maxRecDepth 20000 in
theorem parts_any (v : Value) (b : Bool) (n d : Nat) (w : World) (h : IsRat w v b n d) (hn : (nl n).length ≤ 35184372088832) (hd : (nl d).length ≤ 35184372088832) :
    Calls Try.prog 33 #[v] w fun e w' => ∃ o1 c1 o2 c2, e = .returned (.tuple #[.bool b, .slice o1 (nl n).length c1, .slice o2 (nl d).length c2]) ∧
      w'.ownsRow w.heap.size 73 1 (.slice o1 (nl n).length c1) (nl n).length (ints .u32 (nl n)) ∧ w'.ownsRow w.heap.size 73 1 (.slice o2 (nl d).length c2) (nl d).length (ints .u32 (nl d)) ∧ Below w.heap.size w w' := by
  obtain ⟨A, L, p, rfl⟩ := h.shape
  have hb0 : Below w.heap.size w (w.alloc (.cells #[.bool b, .int .u64 A, .int .u64 L, .pointer p] 25)) := (Below.refl _ _).alloc (Nat.le_refl _) _
  have cS := spread_any _ b n d _ (h.below hb0)
  have cN1 := fun (W : World) (o : Option Addr) (c : Nat) (h : Lies W o c (ints .u32 (nl n))) => norm_any (nl n) o c W h (small_nl _) (by omega)
  have cN2 := fun (W : World) (o : Option Addr) (c : Nat) (h : Lies W o c (ints .u32 (nl d))) => norm_any (nl d) o c W h (small_nl _) (by omega)
  rw [val_nl] at cN1 cN2
  clear h hn hd
  go_enter Try.func33, Try.ntmps33
  go_wp2_with (go_at_call 51; refine cS.mono ?_; rintro e w1 ⟨o1, c1, o2, c2, rfl, l1, l2, hb1⟩)
  have f4 := four_kept (four_new w _ _ _ _) hb1
  go_region_held3 (fun w' => w'.cell? ⟨w.heap.size, 0, none⟩ = some (.bool b) ∧ w'.cell? ⟨w.heap.size, 1, none⟩ = some (.int .u64 A) ∧ w'.cell? ⟨w.heap.size, 2, none⟩ = some (.int .u64 L) ∧ w'.cell? ⟨w.heap.size, 3, none⟩ = some (.pointer p))
    (first | exact f4 | exact four_kept (by assumption) (by assumption)) (first
    | (go_at_call_of 61 (Value.slice o1 (nl n).length c1); refine (cN1 _ _ _ ?_).mono ?_; exact l1; rintro e w5 ⟨o5, c5, rfl, hown5, hb5⟩)
    | (go_at_call_of 61 (Value.slice o2 (nl d).length c2); refine (cN2 _ _ _ ?_).mono ?_; exact (show Lies w1.drew _ _ _ from l2).below hb5 (Nat.le_refl _); rintro e w6 ⟨o6, c6, rfl, hown6, hb6⟩))
  all_goals go_wp2
  all_goals go_ret3
  all_goals exact ⟨_, _, _, _, rfl, owns_base (keep hown5 hb6) (below_drewN (bt hb0 hb1) _).size, owns_base hown6 (bt (below_drewN (bt hb0 hb1) _) hb5).size, bt (bt (below_drewN (bt hb0 hb1) _) hb5) hb6⟩
/-- The sign. -/
def sgn (b : Bool) (n : Nat) : Int := if n = 0 then 0 else if b then -1 else 1
theorem sign_any (v : Value) (b : Bool) (n d : Nat) (w : World) (h : IsRat w v b n d) :
    Calls Try.prog 9 #[v] w fun e w' => e = .returned (.int .i64 (sgn b n)) ∧ Below w.heap.size w w' := by
  have hb0 : ∀ x : Obj, Below w.heap.size w (w.alloc x) := fun x => (Below.refl _ _).alloc (Nat.le_refl _) _
  obtain ⟨hL, ⟨hn, hd, rfl⟩ | ⟨hf, g, o1, c1, o2, c2, rfl, hg, e1, e2, l1, l2⟩⟩ := h
  · cases b
    · by_cases hn0 : n = 0
      · subst hn0
        go_enter Try.func9, Try.ntmps9
        go_wp2
        go_ret
        exact ⟨rfl, hb0 _⟩
      · have e : sgn false n = 1 := by simp [sgn, hn0]
        rw [e]
        have e3 : ((n : Int) == 0) = false := by rw [beq_eq_false_iff_ne]; omega
        go_enter Try.func9, Try.ntmps9
        go_wp2
        go_ret
        exact ⟨rfl, hb0 _⟩
    · have hn0 : n ≠ 0 := fun h => by have := hL.sg h; simp at this
      have e : sgn true n = -1 := by simp [sgn, hn0]
      rw [e]
      go_enter Try.func9, Try.ntmps9
      go_wp2
      go_ret
      exact ⟨rfl, hb0 _⟩
  · have hn0 : n ≠ 0 := by
      rintro rfl
      have := hL.one
      rw [Nat.gcd_zero_left] at this
      exact hf (by omega)
    clear e1 e2 l1 l2 hf
    cases b
    · have e : sgn false n = 1 := by simp [sgn, hn0]
      rw [e]
      go_enter Try.func9, Try.ntmps9
      go_wp2
      go_ret
      exact ⟨rfl, hb0 _⟩
    · have e : sgn true n = -1 := by simp [sgn, hn0]
      rw [e]
      go_enter Try.func9, Try.ntmps9
      go_wp2
      go_ret
      exact ⟨rfl, hb0 _⟩
theorem int_any (i : Int) (w : World) (h0 : -9223372036854775808 ≤ i) (h1 : i ≤ 9223372036854775807) :
    Calls Try.prog 39 #[.int .i64 i] w fun e w' => ∃ v, e = .returned v ∧ IsRat w' v (decide (i < 0)) i.natAbs 1 ∧ Below w.heap.size w w' := by
  have cZ := fun (W : World) => size_any i W h0 h1
  have cS := fun (W : World) => short_any (decide (i < 0)) i.natAbs 1 W (by omega) (by omega)
  have eb : (decide (i < 0) && decide (i.natAbs ≠ 0)) = decide (i < 0) := by rw [Bool.eq_iff_iff]; simp; omega
  rw [eb] at cS
  have e1 : (((1 : Nat) : Int)) = 1 := rfl
  rw [e1] at cS
  have e0 : (1 : Int) - 1 = 0 := rfl
  rw [e0] at cS
  have HL : Hid (Low (decide (i < 0)) i.natAbs 1 ∧ i.natAbs < 18446744073709551616) := ⟨⟨by omega, Nat.gcd_one_right _, fun h => by simp; omega⟩, by omega⟩
  have hb0 : Below w.heap.size w (w.alloc (.cells #[.bool false, .int .u64 0, .int .u64 0, .pointer none] 25)) := (Below.refl _ _).alloc (Nat.le_refl _) _
  obtain ⟨b, ebb⟩ : ∃ b, decide (i < 0) = b := ⟨_, rfl⟩
  rw [ebb] at HL cS ⊢
  generalize i.natAbs = n at *
  clear h0 h1 eb e1 e0
  go_enter Try.func39, Try.ntmps39
  go_wp2_with (first
    | (go_at_call 66; refine (cZ _).mono ?_; rintro e w1 ⟨rfl, hw⟩; have hw2 := hw.symm; clear hw; subst hw2)
    | (go_at_call 65; refine (cS _).mono ?_; rintro e w1 ⟨rfl, hb1⟩; have k1 := box_kept (box_new w _ _ _ _) hb1 (by simp); obtain ⟨d0, d1, d2, d3⟩ := box0 k1; have ff := boxF k1))
  have k2 := box_set k1 (.bool b) (.int .u64 (n : Int)) (.int .u64 0) (.pointer none)
  have hB := box_below (bt hb0 hb1) (Nat.le_refl _) (.bool b) (.int .u64 (n : Int)) (.int .u64 0) (.pointer none)
  generalize World.setCell _ _ _ = W' at *
  obtain ⟨y0, y1, y2, y3⟩ := box0 k2
  refine bodyPost_ret (v := .agg #[.bool b, .int .u64 (n : Int), .int .u64 0, .pointer none]) ?_ rfl ?_
  · simp [results, go_sem, y0, y1, y2, y3]
  · exact ⟨_, rfl, ⟨HL.out.1, .inl ⟨HL.out.2, by omega, rfl⟩⟩, hB⟩
end Go.Proofs.Ytefckmkcbgckfaa.RatN

/- What a quotient of two ints answers. -/
namespace Go.Proofs.Ytefckmkcbgckfaa.RatF
open Go.RowKit Mem LimbNum Limb1 Limb2 Limb3 Limb4 NatNum DivNum NatL NearL GcdA CopyL Words DivMod DivAll RatL RatM RatN

theorem tdiv_nat (a b : Nat) : ((a : Int)).tdiv (b : Int) = ((a / b : Nat) : Int) := by rw [Int.tdiv_eq_ediv_of_nonneg (Int.natCast_nonneg _)]; exact (Int.natCast_ediv _ _).symm
end Go.Proofs.Ytefckmkcbgckfaa.RatF

/- What the opposite and the size of a rational number are. -/
namespace Go.Proofs.Ytefckmkcbgckfaa.RatO
open Go.RowKit Mem LimbNum RatL RatM RatN

theorem IsRat.sign {w : World} {b x : Bool} {n d : Nat} {A L : Int} {p : Option Addr} (h : IsRat w (.agg #[.bool b, .int .u64 A, .int .u64 L, .pointer p]) b n d) (hx : n = 0 → x = false) : IsRat w (.agg #[.bool x, .int .u64 A, .int .u64 L, .pointer p]) x n d := by
  obtain ⟨h1, ⟨h2, h3, e⟩ | ⟨h2, g, o1, c1, o2, c2, e, h3⟩⟩ := h
  · simp only [Value.agg.injEq, Array.mk.injEq, List.cons.injEq, Value.int.injEq, Value.pointer.injEq, and_true, true_and] at e
    obtain ⟨rfl, rfl, rfl⟩ := e
    exact ⟨⟨h1.pos, h1.one, hx⟩, .inl ⟨h2, h3, rfl⟩⟩
  · simp only [Value.agg.injEq, Array.mk.injEq, List.cons.injEq, Value.int.injEq, Value.pointer.injEq, and_true, true_and] at e
    obtain ⟨rfl, rfl, rfl⟩ := e
    exact ⟨⟨h1.pos, h1.one, hx⟩, .inr ⟨h2, g, o1, c1, o2, c2, rfl, h3⟩⟩
theorem set1_off (w : World) (g i : Nat) (a : Value) : (∀ k, k ≠ g → (w.setCell ⟨g, i, none⟩ a).heap[k]? = w.heap[k]?) ∧ (w.setCell ⟨g, i, none⟩ a).heap.size = w.heap.size :=
  ⟨fun _ hk => heap_setCell_other _ _ _ _ hk, by simp [World.setCell]⟩
set_option maxRecDepth 20000 in
theorem neg_any (v : Value) (b : Bool) (n d : Nat) (w : World) (h : IsRat w v b n d) :
    Calls Try.prog 57 #[v] w fun e w' => ∃ v', e = .returned v' ∧ IsRat w' v' (decide (0 < sgn b n)) n d ∧ Below w.heap.size w w' := by
  obtain ⟨A, L, p, rfl⟩ := h.shape
  obtain ⟨W0, eW0⟩ : ∃ W0 : World, (w.alloc (.cells #[.bool b, .int .u64 A, .int .u64 L, .pointer p] 25)).alloc (.cells #[.bool false, .int .u64 0, .int .u64 0, .pointer none] 25) = W0 := ⟨_, rfl⟩
  have hb0 : Below w.heap.size w W0 := by rw [← eW0]; exact ((Below.refl _ _).alloc (Nat.le_refl _) _).alloc (by simp) _
  have z1 : (w.alloc (.cells #[.bool b, .int .u64 A, .int .u64 L, .pointer p] 25)).heap.size = w.heap.size + 1 := by simp
  have k0 : W0.heap[w.heap.size]? = some (box4 (.bool b) (.int .u64 A) (.int .u64 L) (.pointer p)) := by rw [← eW0, heap_alloc_old _ _ (by omega)]; exact box_new _ _ _ _ _
  have k1 : W0.heap[w.heap.size + 1]? = some (box4 (.bool false) (.int .u64 0) (.int .u64 0) (.pointer none)) := by rw [← eW0, ← z1]; exact box_new _ _ _ _ _
  have hlt : w.heap.size + 1 < W0.heap.size := by rw [← eW0]; simp
  have cS := sign_any _ b n d W0 (h.below hb0)
  have hx : n = 0 → decide (0 < sgn b n) = false := by rintro rfl; simp [sgn]
  have HR0 : Hid (IsRat W0 (.agg #[.bool b, .int .u64 A, .int .u64 L, .pointer p]) b n d) := h.below hb0
  generalize sgn b n = S at *
  obtain ⟨x, ex⟩ : ∃ x, decide (0 < S) = x := ⟨_, rfl⟩
  rw [ex] at hx ⊢
  have EW : Hid ((w.alloc (.cells #[.bool b, .int .u64 A, .int .u64 L, .pointer p] 25)).alloc (.cells #[.bool false, .int .u64 0, .int .u64 0, .pointer none] 25) = W0) := eW0
  clear h eW0 z1
  go_enter Try.func57, Try.ntmps57
  go_wp2_with (go_at_call 9; (rw [EW.out]); refine cS.mono ?_; rintro e w1 ⟨rfl, hb1⟩; have q0 := box_kept k0 hb1 (by omega); have q1 := box_kept k1 hb1 hlt; obtain ⟨a0, a1, a2, a3⟩ := box0 q0; have ff := boxF q0; have gg := boxF q1; obtain ⟨b0, b1, b2, b3⟩ := box0 q1; have q2 : (w1.setCell ⟨w.heap.size, 0, none⟩ (.bool x)).heap[w.heap.size]? = some (box4 (.bool x) (.int .u64 A) (.int .u64 L) (.pointer p)) := (by rw [heap_setCell_same w1 w.heap.size 0 _ _ _ q0]; rfl); have q3 : (w1.setCell ⟨w.heap.size, 0, none⟩ (.bool x)).heap[w.heap.size + 1]? = some (box4 (.bool false) (.int .u64 0) (.int .u64 0) (.pointer none)) := (by rw [heap_setCell_other _ _ _ _ (by show w.heap.size + 1 ≠ w.heap.size; omega)]; exact q1); obtain ⟨c0, c1, c2, c3⟩ := box0 q2; obtain ⟨e0, e1, e2, e3⟩ := box0 q3; have f2 := boxF q2; have f3 := boxF q3)
  have k2 := box_set q3 (.bool x) (.int .u64 A) (.int .u64 L) (.pointer p)
  have hB := box_below ((bt hb0 hb1).setCell (p := ⟨w.heap.size, 0, none⟩) (Nat.le_refl _) (.bool x)) (Nat.le_succ _) (.bool x) (.int .u64 A) (.int .u64 L) (.pointer p)
  have R1 := IsRat.sign (HR0.out.below hb1) hx
  have R2 := R1.off q0 (set1_off w1 w.heap.size 0 (.bool x)).1 (set1_off w1 w.heap.size 0 (.bool x)).2
  have R3 := R2.set4 q3 (.bool x) (.int .u64 A) (.int .u64 L) (.pointer p)
  generalize World.setCell _ _ _ = W' at *
  obtain ⟨y0, y1, y2, y3⟩ := box0 k2
  refine bodyPost_ret (v := .agg #[.bool x, .int .u64 A, .int .u64 L, .pointer p]) ?_ rfl ?_
  · simp [results, go_sem, y0, y1, y2, y3]
  · exact ⟨_, rfl, R3, hB⟩
end Go.Proofs.Ytefckmkcbgckfaa.RatO

/- What the statements of rat lean on: few, Is, awake. -/
namespace Go.Proofs.Ytefckmkcbgckfaa.Law5
open Go.RowKit Mem LimbNum Limb1 Limb2 RefL Words RatL RatM RatN RatF RefR

theorem few5 (A : List Nat) (ao : Option Addr) (cap : Nat) (w : World) (h : Lies w ao cap (ints .u32 A)) :
    Calls Try.prog 36 #[.slice ao A.length cap] w fun e w' => ∃ ao' cap', e = .returned (.slice ao' (A.take 8).length cap') ∧ w'.ownsRow w.heap.size 73 1 (.slice ao' (A.take 8).length cap') (A.take 8).length (ints .u32 (A.take 8)) ∧ Below w.heap.size w w' := by
  have m1 := h.size
  have m2 := h.1
  have m3 := h.2.1
  rw [ints_length] at m1 m2
  unfold maxLen at m1 m3
  by_cases hl : 8 < A.length
  · have h3 := h.take 8
    rw [← ints_take] at h3
    have e : (A.take 8).length = 8 := by rw [List.length_take]; omega
    have cC := copy_any (A.take 8) ao cap w h3 (by omega)
    rw [e] at cC ⊢
    obtain ⟨b, off, rfl, _, _⟩ := h.2.2.2 (by rw [ints_length]; omega)
    have q1 : (8 : Int) < (A.length : Int) := by omega
    have q2 : (8 : Int) ≤ (cap : Int) := by omega
    clear h h3 e m1 m2 m3
    generalize A.take 8 = T at *
    generalize A.length = L at *
    go_enter Try.func36, Try.ntmps36
    go_wp2_with (go_at_call 38; refine cC.mono ?_; rintro e w2 ⟨o2, c2, rfl, hown2, hb2⟩)
    go_ret
    exact ⟨_, _, rfl, hown2, hb2⟩
  · have e : A.take 8 = A := List.take_of_length_le (by omega)
    rw [e]
    have cC := copy_any A ao cap w h (by omega)
    clear h e
    go_enter Try.func36, Try.ntmps36
    go_wp2_with (go_at_call 38; refine cC.mono ?_; rintro e w2 ⟨o2, c2, rfl, hown2, hb2⟩)
    go_ret
    exact ⟨_, _, rfl, hown2, hb2⟩
set_option maxRecDepth 20000 in
set_option maxHeartbeats 1000000 in
/-- Is: of the same number yes. -/
theorem is_yes (v q : Value) (b : Bool) (n d : Nat) (w : World) (h : IsRat w v b n d) (hq : IsRef w q b n d) (hn : (nb n).length ≤ 1000000) (hd : (nb d).length ≤ 1000000) :
    Calls Try.prog 11 #[v, q] w fun e w' => e = .returned (.bool true) ∧ Below w.heap.size w w' := by
  have kn : (nl n).length ≤ 1000000 := by
    have h1 := fromL_lt (nb n)
    rw [fromL_nb] at h1
    exact Nat.le_trans (nl_lt (nb n).length n (Nat.lt_of_lt_of_le h1 (Nat.pow_le_pow_left (by omega) _))) hn
  have kd : (nl d).length ≤ 1000000 := by
    have h1 := fromL_lt (nb d)
    rw [fromL_nb] at h1
    exact Nat.le_trans (nl_lt (nb d).length d (Nat.lt_of_lt_of_le h1 (Nat.pow_le_pow_left (by omega) _))) hd
  obtain ⟨A, L, p, rfl⟩ := h.shape
  obtain ⟨o1, c1, o2, c2, rfl, r1, r2⟩ := hq
  have hb0 : Below w.heap.size w ((w.alloc (.cells #[.bool b, .int .u64 A, .int .u64 L, .pointer p] 25)).alloc (.cells #[.bool b, .slice o1 (nb n).length c1, .slice o2 (nb d).length c2] 33)) := ((Below.refl _ _).alloc (Nat.le_refl _) _).alloc (by simp) _
  have z1 : (w.alloc (.cells #[.bool b, .int .u64 A, .int .u64 L, .pointer p] 25)).heap.size = w.heap.size + 1 := by simp
  have hk1 : ((w.alloc (.cells #[.bool b, .int .u64 A, .int .u64 L, .pointer p] 25)).alloc (.cells #[.bool b, .slice o1 (nb n).length c1, .slice o2 (nb d).length c2] 33)).heap[w.heap.size + 1]? = some (box3 (.bool b) (.slice o1 (nb n).length c1) (.slice o2 (nb d).length c2)) := by rw [← z1, heap_alloc_new]; rfl
  have cP := parts_any _ b n d _ (h.below hb0) (by omega) (by omega)
  have cT1 := fun (W : World) (hb : Below w.heap.size w W) => to_any (nb n) o1 c1 W (lies_of_owns (keep r1 hb)) (by omega)
  have cT2 := fun (W : World) (hb : Below w.heap.size w W) => to_any (nb d) o2 c2 W (lies_of_owns (keep r2 hb)) (by omega)
  rw [fromL_nb] at cT1 cT2
  have cS1 := fun (W : World) (o o' : Option Addr) (c c' : Nat) (h1 : Lies W o c (ints .u32 (nl n))) (h2 : Lies W o' c' (ints .u32 (nl n))) => same_any (nl n) (nl n) o o' c c' W h1 h2
  have cS2 := fun (W : World) (o o' : Option Addr) (c c' : Nat) (h1 : Lies W o c (ints .u32 (nl d))) (h2 : Lies W o' c' (ints .u32 (nl d))) => same_any (nl d) (nl d) o o' c c' W h1 h2
  simp only [decide_true] at cS1 cS2
  have hbb : (b == b) = true := by cases b <;> rfl
  clear h r1 r2 hn hd kn kd z1
  have t1 : True := trivial
  have t2 : True := trivial
  go_enter Try.func11, Try.ntmps11
  go_wp2_with (first
    | (go_at_call 33; refine cP.mono ?_; rintro e w1 ⟨o3, c3, o4, c4, rfl, hown3, hown4, hb1⟩; have H1 := bt hb0 hb1; have k1 := box_kept hk1 hb1 (by simp); obtain ⟨d0, d1, d2⟩ := box3_cells k1)
    | (go_at_call 35; have _t := t1; clear _t t1; refine (cT1 _ H1).mono ?_; rintro e w2 ⟨o5, c5, rfl, hown5, hb2⟩; have H2 := bt H1 hb2)
    | (go_at_call 34; have _t := t2; clear _t t2; refine (cS1 _ _ _ _ _ (lies_of_owns (keep hown3 hb2)) (lies_of_owns hown5)).mono ?_; rintro e w3 ⟨rfl, hb3⟩; have H3 := bt H2 hb3; have k3 := box_kept (box_kept k1 hb2 (by have := cell_lt d0; exact this)) hb3 (by have := hb2.size; have := cell_lt d0; omega); obtain ⟨e0, e1, e2⟩ := box3_cells k3)
    | (go_at_call 35; refine (cT2 _ H3).mono ?_; rintro e w4 ⟨o6, c6, rfl, hown6, hb4⟩; have H4 := bt H3 hb4)
    | (go_at_call 34; refine (cS2 _ _ _ _ _ (lies_of_owns (keep (keep (keep hown4 hb2) hb3) hb4)) (lies_of_owns hown6)).mono ?_; rintro e w5 ⟨rfl, hb5⟩; have H5 := bt H4 hb5))
  all_goals go_ret
  all_goals exact ⟨rfl, H5⟩
end Go.Proofs.Ytefckmkcbgckfaa.Law5

/- What the statements of rat lean on: awake. -/
namespace Go.Proofs.Ytefckmkcbgckfaa.Aw5
open Go.RowKit Mem LimbNum Limb1 Limb2 Limb4 RefL Words DivOne RatL RatM RatN RatF RefR Law5

end Go.Proofs.Ytefckmkcbgckfaa.Aw5

/- Which rational numbers are whole, and which are ints. -/
namespace Go.Proofs.Ytefckmkcbgckfaa.RatW
open Go.RowKit Mem LimbNum Limb3 NearL RatL RatM RatN RatO

theorem bits_one (d : Nat) (hd : 1 ≤ d) : (((bitLen d : Nat) : Int) == 1) = decide (d = 1) := by
  rw [Bool.eq_iff_iff, beq_iff_eq, decide_eq_true_iff]
  constructor
  · intro e
    have h4 := fromL_lt (nb d)
    rw [fromL_nb, len_nb, show bitLen d = 1 by omega] at h4
    omega
  · rintro rfl; rfl
theorem whole_any (v : Value) (b : Bool) (n d : Nat) (w : World) (h : IsRat w v b n d) (hl : (nl d).length ≤ 70368744177664) :
    Calls Try.prog 41 #[v] w fun e w' => e = .returned (.bool (decide (d = 1))) ∧ Below w.heap.size w w' := by
  obtain ⟨hL, ⟨hn, hd, rfl⟩ | ⟨_, g, o1, c1, o2, c2, rfl, hg, e1, e2, l1, l2⟩⟩ := h
  · have hp := hL.pos
    have e : (((d : Int) - 1) == 0) = decide (d = 1) := by rw [Bool.eq_iff_iff]; simp; omega
    rw [← e]
    generalize (d : Int) - 1 = D at *
    clear e hL
    go_enter Try.func41, Try.ntmps41
    go_wp2
    go_ret
    exact ⟨rfl, (Below.refl _ _).alloc (Nat.le_refl _) _⟩
  · have hb0 : Below w.heap.size w (w.alloc (.cells #[.bool b, .int .u64 0, .int .u64 0, .pointer (some ⟨g, 0, none⟩)] 25)) := (Below.refl _ _).alloc (Nat.le_refl _) _
    have cB := bits_any (nl d) o2 c2 _ (l2.below hb0 (Nat.le_refl _)) (small_nl _) hl
    rw [val_nl] at cB
    rw [← bits_one d hL.pos]
    generalize ((bitLen d : Nat) : Int) = BL at *
    have f2 : (w.alloc (.cells #[.bool b, .int .u64 0, .int .u64 0, .pointer (some ⟨g, 0, none⟩)] 25)).cell? ⟨g, 1, none⟩ = some (.slice o2 (nl d).length c2) := by rw [hb0.cell (p := ⟨g, 1, none⟩) hg]; exact e2
    clear hL l1 l2 e1
    go_enter Try.func41, Try.ntmps41
    go_wp2_with (go_at_call 48; refine cB.mono ?_; rintro e w1 ⟨rfl, hw⟩; have hw2 := hw.symm; clear hw; subst hw2)
    go_ret
    exact ⟨rfl, hb0⟩
end Go.Proofs.Ytefckmkcbgckfaa.RatW
