/- The document's rational numbers: what the reference's functions answer; The document's rational numbers: whole ones, products, inverses; The document's rational numbers: products and whole ones; The document's rational numbers: whole ones; What the statements of rat lean on: few, Is, awake; What the statements of rat lean on: awake. -/
import Derived.Test.YtefckmkcbgckfaaGreatDoorSetAQ
import Derived.Test.YtefckmkcbgckfaaGreatDoorSetAS
import Derived.Test.YtefckmkcbgckfaaGreatDoorSetAF
import Derived.Deep.RegionHeld3
/- The document's rational numbers: what the reference's functions answer. -/
namespace Go.Proofs.YtefckmkcbgckfaaGreatDoor.RefR
open Go.RowKit Mem LimbNum Limb1 Limb2 RefL RefA BitMul BitDiv RGcd Words RatL

/-- The reference's value v is n / d, below 0 if neg. -/
def IsRef (w : World) (v : Value) (neg : Bool) (n d : Nat) : Prop := ∃ o1 c1 o2 c2, v = .agg #[.bool neg, .slice o1 (nb n).length c1, .slice o2 (nb d).length c2] ∧
  w.ownsRow 0 4 1 (.slice o1 (nb n).length c1) (nb n).length (bools (nb n)) ∧ w.ownsRow 0 4 1 (.slice o2 (nb d).length c2) (nb d).length (bools (nb d))
theorem IsRef.below {w w' : World} {v : Value} {neg : Bool} {n d : Nat} (h : IsRef w v neg n d) (hb : Below w.heap.size w w') : IsRef w' v neg n d := by
  obtain ⟨o1, c1, o2, c2, e, h1, h2⟩ := h
  exact ⟨o1, c1, o2, c2, e, keep h1 hb, keep h2 hb⟩
theorem own_off {w W : World} {g base : Nat} {e t : TypeId} {v : Value} {n : Nat} {xs : List Value} {cs : Array Value} (h : w.ownsRow base e 1 v n xs) (hk : w.heap[g]? = some (.cells cs t)) (hne : t ≠ e) (hW : ∀ k, k ≠ g → W.heap[k]? = w.heap[k]?) : W.ownsRow base e 1 v n xs := by
  refine ⟨h.1, ?_⟩
  rcases h.2 with h' | ⟨g', cap', cur, h', hb', hg, r⟩
  · exact .inl h'
  · have : g' ≠ g := by
      rintro rfl
      rw [hg] at hk
      simp only [Option.some.injEq, Obj.cells.injEq] at hk
      exact hne hk.2.1.symm
    exact .inr ⟨g', cap', cur, h', hb', by rw [hW g' this]; exact hg, r⟩
def box3 (a b c : Value) : Obj := .cells #[a, b, c] 31
theorem box3_cells {w : World} {g : Nat} {a b c : Value} (h : w.heap[g]? = some (box3 a b c)) : w.cell? ⟨g, 0, none⟩ = some a ∧ w.cell? ⟨g, 1, none⟩ = some b ∧ w.cell? ⟨g, 2, none⟩ = some c := by
  refine ⟨?_, ?_, ?_⟩ <;> simp [World.cell?, h, box3]
theorem box3F {w : World} {g : Nat} {a b c : Value} (h : w.heap[g]? = some (box3 a b c)) (i : Nat) : w.frozen? ⟨g, i, none⟩ = false := by simp [World.frozen?, h, box3]
theorem box3_set {w : World} {g : Nat} {a b c : Value} (h : w.heap[g]? = some (box3 a b c)) (a' b' c' : Value) :
    (((w.setCell ⟨g, 0, none⟩ a').setCell ⟨g, 1, none⟩ b').setCell ⟨g, 2, none⟩ c').heap[g]? = some (box3 a' b' c') := by
  have h1 : (w.setCell ⟨g, 0, none⟩ a').heap[g]? = some (box3 a' b c) := by rw [heap_setCell_same w g 0 _ _ _ h]; rfl
  have h2 : ((w.setCell ⟨g, 0, none⟩ a').setCell ⟨g, 1, none⟩ b').heap[g]? = some (box3 a' b' c) := by rw [heap_setCell_same _ g 1 _ _ _ h1]; rfl
  rw [heap_setCell_same _ g 2 _ _ _ h2]; rfl
theorem box3_new (w : World) (a b c : Value) : (w.alloc (box3 a b c)).heap[w.heap.size]? = some (box3 a b c) := heap_alloc_new _ _
theorem box3_below {w W : World} {B g : Nat} (h : Below B w W) (hg : B ≤ g) (a b c : Value) : Below B w (((W.setCell ⟨g, 0, none⟩ a).setCell ⟨g, 1, none⟩ b).setCell ⟨g, 2, none⟩ c) :=
  ((h.setCell hg _).setCell hg _).setCell hg _
theorem set3_off (w : World) (g : Nat) (a b c : Value) : ∀ k, k ≠ g → (((w.setCell ⟨g, 0, none⟩ a).setCell ⟨g, 1, none⟩ b).setCell ⟨g, 2, none⟩ c).heap[k]? = w.heap[k]? := by
  intro k hk
  rw [heap_setCell_other _ _ _ _ hk, heap_setCell_other _ _ _ _ hk, heap_setCell_other _ _ _ _ hk]
theorem IsRef.off {w W : World} {g : Nat} {x y z : Value} {v : Value} {b : Bool} {n d : Nat} (h : IsRef w v b n d) (hk : w.heap[g]? = some (box3 x y z)) (hW : ∀ k, k ≠ g → W.heap[k]? = w.heap[k]?) : IsRef W v b n d := by
  obtain ⟨o1, c1, o2, c2, e, h1, h2⟩ := h
  exact ⟨o1, c1, o2, c2, e, own_off h1 hk (by decide) hW, own_off h2 hk (by decide) hW⟩
theorem nb_gt (n : Nat) : decide (0 < (nb n).length) = decide (n ≠ 0) := by
  rw [Bool.eq_iff_iff, decide_eq_true_iff, decide_eq_true_iff]
  constructor
  · rintro h rfl; rw [nb_zero] at h; simp at h
  · intro h; rw [nb_pos h]; simp
theorem nb_one_iff (n : Nat) : (nb n).length = 1 ↔ n = 1 := by
  constructor
  · intro h
    have h1 := fromL_lt (nb n)
    rw [fromL_nb, h] at h1
    have h2 : n ≠ 0 := by rintro rfl; rw [nb_zero] at h; simp at h
    omega
  · rintro rfl; rw [nb_pos (by decide), show 1 / 2 = 0 by decide, nb_zero]; rfl
set_option maxRecDepth 20000 in
set_option maxHeartbeats 1000000 in
theorem rof_any (b : Bool) (x y : Nat) (o1 o2 : Option Addr) (c1 c2 : Nat) (w : World) (h1 : w.ownsRow 0 4 1 (.slice o1 (nb x).length c1) (nb x).length (bools (nb x))) (h2 : w.ownsRow 0 4 1 (.slice o2 (nb y).length c2) (nb y).length (bools (nb y))) (hl1 : (nb x).length ≤ 1000000) (hl2 : (nb y).length ≤ 1000000) (hy : y ≠ 0) :
    Calls Tryz.prog 18 #[.bool b, .slice o1 (nb x).length c1, .slice o2 (nb y).length c2] w fun e w' => ∃ v, e = .returned v ∧ IsRef w' v (b && decide (x / Nat.gcd x y ≠ 0)) (x / Nat.gcd x y) (y / Nat.gcd x y) ∧ Below w.heap.size w w' := by
  have hb0 : Below w.heap.size w (w.alloc (.cells #[.bool false, .slice none 0 0, .slice none 0 0] 31)) := (Below.refl _ _).alloc (Nat.le_refl _) _
  by_cases h : y = 1
  · subst h
    have e1 : (nb 1).length = 1 := (nb_one_iff 1).2 rfl
    rw [Nat.gcd_one_right, Nat.div_one, Nat.div_one, ← nb_gt]
    have H1 : Hid (w.ownsRow 0 4 1 (.slice o1 (nb x).length c1) (nb x).length (bools (nb x))) := h1
    have H2 : Hid (w.ownsRow 0 4 1 (.slice o2 (nb 1).length c2) (nb 1).length (bools (nb 1))) := h2
    have HQ : Hid (∀ o : Obj, Below w.heap.size w (w.alloc o)) := fun o => (Below.refl _ _).alloc (Nat.le_refl _) o
    clear h1 h2 hl1 hl2 hy
    cases b
    all_goals
      go_enter Tryz.func18, Tryz.ntmps18
      go_wp2
    · refine bodyPost_ret (v := .agg #[.bool false, .slice o1 (nb x).length c1, .slice o2 1 c2]) ?_ rfl ?_
      · simp [results, go_sem]
      · exact ⟨_, rfl, ⟨o1, c1, o2, c2, by rw [e1]; rfl, keep H1.out (HQ.out _), keep H2.out (HQ.out _)⟩, HQ.out _⟩
    · refine bodyPost_ret (v := .agg #[.bool (decide (0 < (nb x).length)), .slice o1 (nb x).length c1, .slice o2 1 c2]) ?_ rfl ?_
      · simp [results, go_sem]
      · exact ⟨_, rfl, ⟨o1, c1, o2, c2, by rw [e1]; rfl, keep H1.out (HQ.out _), keep H2.out (HQ.out _)⟩, HQ.out _⟩
  · have hg0 : Nat.gcd x y ≠ 0 := fun h => hy (Nat.gcd_eq_zero_iff.1 h).2
    have e1 : (nb y).length ≠ 1 := fun e => h ((nb_one_iff y).1 e)
    have e2 : (((nb y).length : Int) == 1) = false := by rw [beq_eq_false_iff_ne]; omega
    have cG := fun (W : World) (hb : Below w.heap.size w W) => rgcd_any x y o1 o2 c1 c2 W (keep h1 hb) (keep h2 hb) hl1 hl2
    have cD1 := fun (W : World) (hb : Below w.heap.size w W) (o : Option Addr) (c : Nat) (hg : Lies W o c (bools (nb (Nat.gcd x y)))) => rdiv_core (nb x) (Nat.gcd x y) (x / Nat.gcd x y) (x % Nat.gcd x y) (by unfold Hid; rw [fromL_nb]) (by unfold Hid; rw [fromL_nb]) (Nat.pos_of_ne_zero hg0) o1 o c1 c W (lies_of_owns (keep h1 hb)) hg hl1
    have cD2 := fun (W : World) (hb : Below w.heap.size w W) (o : Option Addr) (c : Nat) (hg : Lies W o c (bools (nb (Nat.gcd x y)))) => rdiv_core (nb y) (Nat.gcd x y) (y / Nat.gcd x y) (y % Nat.gcd x y) (by unfold Hid; rw [fromL_nb]) (by unfold Hid; rw [fromL_nb]) (Nat.pos_of_ne_zero hg0) o2 o c2 c W (lies_of_owns (keep h2 hb)) hg hl2
    rw [← nb_gt]
    generalize x / Nat.gcd x y = n at *
    generalize x % Nat.gcd x y = r1 at *
    generalize y / Nat.gcd x y = d at *
    generalize y % Nat.gcd x y = r2 at *
    generalize Nat.gcd x y = g at *
    clear h1 h2 hl1 hl2 hy h hg0 e1
    cases b
    all_goals
      go_enter Tryz.func18, Tryz.ntmps18
      go_wp2_with (first
        | (go_at_call 44; refine (cG _ hb0).mono ?_; rintro e w1 ⟨o3, c3, rfl, hown3, hb1⟩; have H1 := bt hb0 hb1)
        | (go_at_call_of 27 (Value.slice o1 (nb x).length c1); refine (cD1 _ H1 _ _ (lies_of_owns hown3)).mono ?_; rintro e w2 ⟨o4, c4, o5, c5, rfl, hown4, hown5, hb2⟩; have H2 := bt H1 hb2)
        | (go_at_call_of 27 (Value.slice o2 (nb y).length c2); refine (cD2 _ H2 _ _ (lies_of_owns (keep hown3 hb2))).mono ?_; rintro e w3 ⟨o6, c6, o7, c7, rfl, hown6, hown7, hb3⟩; have H3 := bt H2 hb3; have k1 := box_kept (box3_new w _ _ _) (bt (bt hb1 hb2) hb3) (by simp); obtain ⟨d0, d1, d2⟩ := box3_cells k1; have ff := box3F k1))
    · have k2 := box3_set k1 (.bool false) (.slice o4 (nb n).length c4) (.slice o6 (nb d).length c6)
      have hB := box3_below H3 (Nat.le_refl _) (.bool false) (.slice o4 (nb n).length c4) (.slice o6 (nb d).length c6)
      have hW := set3_off w3 w.heap.size (.bool false) (.slice o4 (nb n).length c4) (.slice o6 (nb d).length c6)
      have q1 := own_off (owns_base (keep hown4 hb3) (Nat.zero_le _)) k1 (by decide) hW
      have q2 := own_off (owns_base hown6 (Nat.zero_le _)) k1 (by decide) hW
      generalize World.setCell _ _ _ = W' at *
      obtain ⟨y0, y1, y2⟩ := box3_cells k2
      refine bodyPost_ret (v := .agg #[.bool false, .slice o4 (nb n).length c4, .slice o6 (nb d).length c6]) ?_ rfl ?_
      · simp [results, go_sem, y0, y1, y2]
      · exact ⟨_, rfl, ⟨_, _, _, _, rfl, q1, q2⟩, hB⟩
    · have k2 := box3_set k1 (.bool (decide (0 < (nb n).length))) (.slice o4 (nb n).length c4) (.slice o6 (nb d).length c6)
      have hB := box3_below H3 (Nat.le_refl _) (.bool (decide (0 < (nb n).length))) (.slice o4 (nb n).length c4) (.slice o6 (nb d).length c6)
      have hW := set3_off w3 w.heap.size (.bool (decide (0 < (nb n).length))) (.slice o4 (nb n).length c4) (.slice o6 (nb d).length c6)
      have q1 := own_off (owns_base (keep hown4 hb3) (Nat.zero_le _)) k1 (by decide) hW
      have q2 := own_off (owns_base hown6 (Nat.zero_le _)) k1 (by decide) hW
      generalize World.setCell _ _ _ = W' at *
      obtain ⟨y0, y1, y2⟩ := box3_cells k2
      refine bodyPost_ret (v := .agg #[.bool (decide (0 < (nb n).length)), .slice o4 (nb n).length c4, .slice o6 (nb d).length c6]) ?_ rfl ?_
      · simp [results, go_sem, y0, y1, y2]
      · exact ⟨_, rfl, ⟨_, _, _, _, rfl, q1, q2⟩, hB⟩
end Go.Proofs.YtefckmkcbgckfaaGreatDoor.RefR

/- The document's rational numbers: whole ones, products, inverses. -/
namespace Go.Proofs.YtefckmkcbgckfaaGreatDoor.RefT
open Go.RowKit Mem LimbNum Limb1 Limb2 RefL RefA BitMul BitDiv RGcd Words RatL RefR

theorem three_kept {W w5 : World} {g : Nat} {a b c : Value} (h : W.cell? ⟨g, 0, none⟩ = some a ∧ W.cell? ⟨g, 1, none⟩ = some b ∧ W.cell? ⟨g, 2, none⟩ = some c) (hb : Below W.heap.size W w5) :
    w5.cell? ⟨g, 0, none⟩ = some a ∧ w5.cell? ⟨g, 1, none⟩ = some b ∧ w5.cell? ⟨g, 2, none⟩ = some c := by
  have hg := cell_lt h.1
  rw [hb.cell (p := ⟨g, 0, none⟩) hg, hb.cell (p := ⟨g, 1, none⟩) hg, hb.cell (p := ⟨g, 2, none⟩) hg]
  exact h
theorem cell_set3 (W : World) (g' : Nat) (x y z : Value) (g i : Nat) (hne : g ≠ g') : (((W.setCell ⟨g', 0, none⟩ x).setCell ⟨g', 1, none⟩ y).setCell ⟨g', 2, none⟩ z).cell? ⟨g, i, none⟩ = W.cell? ⟨g, i, none⟩ := by
  simp only [World.cell?]
  rw [set3_off W g' x y z g hne]
theorem three_set {W : World} {g g' : Nat} {a b c x y z : Value} (hne : g ≠ g') (h : W.cell? ⟨g, 0, none⟩ = some a ∧ W.cell? ⟨g, 1, none⟩ = some b ∧ W.cell? ⟨g, 2, none⟩ = some c) :
    (((W.setCell ⟨g', 0, none⟩ x).setCell ⟨g', 1, none⟩ y).setCell ⟨g', 2, none⟩ z).cell? ⟨g, 0, none⟩ = some a ∧ (((W.setCell ⟨g', 0, none⟩ x).setCell ⟨g', 1, none⟩ y).setCell ⟨g', 2, none⟩ z).cell? ⟨g, 1, none⟩ = some b ∧ (((W.setCell ⟨g', 0, none⟩ x).setCell ⟨g', 1, none⟩ y).setCell ⟨g', 2, none⟩ z).cell? ⟨g, 2, none⟩ = some c := by
  rw [cell_set3 _ _ _ _ _ _ _ hne, cell_set3 _ _ _ _ _ _ _ hne, cell_set3 _ _ _ _ _ _ _ hne]; exact h
theorem six_kept {W w5 : World} {g h : Nat} {a b c d e f : Value} (H : W.cell? ⟨g, 0, none⟩ = some a ∧ W.cell? ⟨g, 1, none⟩ = some b ∧ W.cell? ⟨g, 2, none⟩ = some c ∧ W.cell? ⟨h, 0, none⟩ = some d ∧ W.cell? ⟨h, 1, none⟩ = some e ∧ W.cell? ⟨h, 2, none⟩ = some f) (hb : Below W.heap.size W w5) :
    w5.cell? ⟨g, 0, none⟩ = some a ∧ w5.cell? ⟨g, 1, none⟩ = some b ∧ w5.cell? ⟨g, 2, none⟩ = some c ∧ w5.cell? ⟨h, 0, none⟩ = some d ∧ w5.cell? ⟨h, 1, none⟩ = some e ∧ w5.cell? ⟨h, 2, none⟩ = some f := by
  obtain ⟨h1, h2, h3, h4, h5, h6⟩ := H
  obtain ⟨a1, a2, a3⟩ := three_kept ⟨h1, h2, h3⟩ hb
  obtain ⟨b1, b2, b3⟩ := three_kept ⟨h4, h5, h6⟩ hb
  exact ⟨a1, a2, a3, b1, b2, b3⟩
theorem six_set {W : World} {g h k : Nat} {a b c d e f x y z : Value} (n1 : g ≠ k) (n2 : h ≠ k) (H : W.cell? ⟨g, 0, none⟩ = some a ∧ W.cell? ⟨g, 1, none⟩ = some b ∧ W.cell? ⟨g, 2, none⟩ = some c ∧ W.cell? ⟨h, 0, none⟩ = some d ∧ W.cell? ⟨h, 1, none⟩ = some e ∧ W.cell? ⟨h, 2, none⟩ = some f) :
    (((W.setCell ⟨k, 0, none⟩ x).setCell ⟨k, 1, none⟩ y).setCell ⟨k, 2, none⟩ z).cell? ⟨g, 0, none⟩ = some a ∧ (((W.setCell ⟨k, 0, none⟩ x).setCell ⟨k, 1, none⟩ y).setCell ⟨k, 2, none⟩ z).cell? ⟨g, 1, none⟩ = some b ∧ (((W.setCell ⟨k, 0, none⟩ x).setCell ⟨k, 1, none⟩ y).setCell ⟨k, 2, none⟩ z).cell? ⟨g, 2, none⟩ = some c ∧
    (((W.setCell ⟨k, 0, none⟩ x).setCell ⟨k, 1, none⟩ y).setCell ⟨k, 2, none⟩ z).cell? ⟨h, 0, none⟩ = some d ∧ (((W.setCell ⟨k, 0, none⟩ x).setCell ⟨k, 1, none⟩ y).setCell ⟨k, 2, none⟩ z).cell? ⟨h, 1, none⟩ = some e ∧ (((W.setCell ⟨k, 0, none⟩ x).setCell ⟨k, 1, none⟩ y).setCell ⟨k, 2, none⟩ z).cell? ⟨h, 2, none⟩ = some f := by
  obtain ⟨h1, h2, h3, h4, h5, h6⟩ := H
  obtain ⟨a1, a2, a3⟩ := three_set (x := x) (y := y) (z := z) n1 ⟨h1, h2, h3⟩
  obtain ⟨b1, b2, b3⟩ := three_set (x := x) (y := y) (z := z) n2 ⟨h4, h5, h6⟩
  exact ⟨a1, a2, a3, b1, b2, b3⟩
end Go.Proofs.YtefckmkcbgckfaaGreatDoor.RefT

/- The document's rational numbers: products and whole ones. -/
namespace Go.Proofs.YtefckmkcbgckfaaGreatDoor.RefU
open Go.RowKit Mem LimbNum Limb1 Limb2 RefL RefA BitMul BitDiv RGcd Words RatL RefR RefT

theorem mul_bits (x y k l : Nat) (hx : (nb x).length ≤ k) (hy : (nb y).length ≤ l) : (nb (x * y)).length ≤ k + l := by
  apply nb_lt
  have h1 := fromL_lt (nb x)
  have h2 := fromL_lt (nb y)
  rw [fromL_nb] at h1 h2
  rw [Nat.pow_add]
  exact Nat.mul_lt_mul'' (Nat.lt_of_lt_of_le h1 (Nat.pow_le_pow_right (by omega) hx)) (Nat.lt_of_lt_of_le h2 (Nat.pow_le_pow_right (by omega) hy))
theorem rmul_nb (x y : Nat) (o1 o2 : Option Addr) (c1 c2 : Nat) (w : World) (h1 : Lies w o1 c1 (bools (nb x))) (h2 : Lies w o2 c2 (bools (nb y))) (hl1 : (nb x).length ≤ 100000) (hl2 : (nb y).length ≤ 100000) :
    Calls Tryz.prog 28 #[.slice o1 (nb x).length c1, .slice o2 (nb y).length c2] w fun e w' => ∃ ao cap, e = .returned (.slice ao (nb (x * y)).length cap) ∧ w'.ownsRow w.heap.size 4 1 (.slice ao (nb (x * y)).length cap) (nb (x * y)).length (bools (nb (x * y))) ∧ Below w.heap.size w w' :=
  rmul_core (nb x) (nb y) (x * y) (by unfold Hid; rw [fromL_nb, fromL_nb]) o1 o2 c1 c2 w h1 h2 (by omega) hl2
end Go.Proofs.YtefckmkcbgckfaaGreatDoor.RefU

/- The document's rational numbers: whole ones. -/
namespace Go.Proofs.YtefckmkcbgckfaaGreatDoor.RefI
open Go.RowKit Mem LimbNum Limb1 Limb2 RefL RefA BitMul BitDiv RGcd Words RatL RefR RefT RefU

theorem radd_nb (x y : Nat) (o1 o2 : Option Addr) (c1 c2 : Nat) (w : World) (h1 : Lies w o1 c1 (bools (nb x))) (h2 : Lies w o2 c2 (bools (nb y))) (hl1 : (nb x).length ≤ 1073741824) (hl2 : (nb y).length ≤ 1073741824) :
    Calls Tryz.prog 43 #[.slice o1 (nb x).length c1, .slice o2 (nb y).length c2] w fun e w' => ∃ ao cap, e = .returned (.slice ao (nb (x + y)).length cap) ∧ w'.ownsRow w.heap.size 4 1 (.slice ao (nb (x + y)).length cap) (nb (x + y)).length (bools (nb (x + y))) ∧ Below w.heap.size w w' :=
  radd_core (nb x) (nb y) (x + y) (by unfold Hid; rw [fromL_nb, fromL_nb]) o1 o2 c1 c2 w h1 h2 hl1 hl2
set_option maxRecDepth 20000 in
set_option maxHeartbeats 1000000 in
theorem rint_any (i : Int) (w : World) (h0 : -9223372036854775808 ≤ i) (h1 : i ≤ 9223372036854775807) :
    Calls Tryz.prog 17 #[.int .i64 i] w fun e w' => ∃ v, e = .returned v ∧ IsRef w' v (decide (i < 0)) i.natAbs 1 ∧ Below w.heap.size w w' := by
  have hb0 : Below w.heap.size w (w.alloc (.cells #[.bool false, .slice none 0 0, .slice none 0 0] 31)) := (Below.refl _ _).alloc (Nat.le_refl _) _
  have cW1 := fun (W : World) => rword_any 1 W (by omega)
  have e1 : (((1 : Nat) : Int)) = 1 := rfl
  rw [e1] at cW1
  have l1 : (nb 1).length ≤ 64 := nb_lt 64 1 (by omega)
  have t1 : True := trivial
  have t2 : True := trivial
  by_cases hi : i < 0
  · have cW2 := fun (W : World) => rword_any ((-(i + 1)).toNat) W (by omega)
    have l2 : (nb ((-(i + 1)).toNat)).length ≤ 64 := nb_lt 64 _ (by omega)
    have e2 : (((-(i + 1)).toNat : Nat) : Int) = -(i + 1) := by omega
    rw [e2] at cW2
    have e3 : (-(i + 1)).toNat + 1 = i.natAbs := by omega
    have cA := fun (W : World) (o o' : Option Addr) (c c' : Nat) (h : Lies W o c (bools (nb ((-(i + 1)).toNat)))) (h' : Lies W o' c' (bools (nb 1))) => radd_nb ((-(i + 1)).toNat) 1 o o' c c' W h h' (by omega) (by omega)
    rw [e3] at cA
    rw [decide_eq_true hi]
    generalize (-(i + 1)).toNat = U at *
    clear e1 e2 e3 l1 l2
    generalize i.natAbs = n at *
    go_enter Tryz.func17, Tryz.ntmps17
    go_wp2_with (first
      | (go_at_call 29; have _t := t1; clear _t t1; refine (cW2 _).mono ?_; rintro e w1 ⟨o5, c5, rfl, hown5, hb1⟩)
      | (go_at_call 29; have _t := t2; clear _t t2; refine (cW1 _).mono ?_; rintro e w2 ⟨o6, c6, rfl, hown6, hb2⟩)
      | (go_at_call 43; refine (cA _ _ _ _ _ (lies_of_owns (keep hown5 hb2)) (lies_of_owns hown6)).mono ?_; rintro e w3 ⟨o7, c7, rfl, hown7, hb3⟩)
      | (go_at_call 29; refine (cW1 _).mono ?_; rintro e w4 ⟨o8, c8, rfl, hown8, hb4⟩; have k1 := box_kept (box3_new w _ _ _) (bt (bt (bt hb1 hb2) hb3) hb4) (by simp); obtain ⟨d0, d1, d2⟩ := box3_cells k1; have ff := box3F k1))
    have k2 := box3_set k1 (.bool true) (.slice o7 (nb n).length c7) (.slice o8 (nb 1).length c8)
    have hB := box3_below (bt (bt (bt (bt hb0 hb1) hb2) hb3) hb4) (Nat.le_refl _) (.bool true) (.slice o7 (nb n).length c7) (.slice o8 (nb 1).length c8)
    have hW := set3_off w4 w.heap.size (.bool true) (.slice o7 (nb n).length c7) (.slice o8 (nb 1).length c8)
    have q1 := own_off (owns_base (keep hown7 hb4) (Nat.zero_le _)) k1 (by decide) hW
    have q2 := own_off (owns_base hown8 (Nat.zero_le _)) k1 (by decide) hW
    generalize World.setCell _ _ _ = W' at *
    obtain ⟨y0, y1, y2⟩ := box3_cells k2
    refine bodyPost_ret (v := .agg #[.bool true, .slice o7 (nb n).length c7, .slice o8 (nb 1).length c8]) ?_ rfl ?_
    · simp [results, go_sem, y0, y1, y2]
    · exact ⟨_, rfl, ⟨_, _, _, _, rfl, q1, q2⟩, hB⟩
  · have cW2 := fun (W : World) => rword_any i.natAbs W (by omega)
    have e2 : ((i.natAbs : Nat) : Int) = i := by omega
    rw [e2] at cW2
    rw [decide_eq_false hi]
    clear e1 e2 l1
    generalize i.natAbs = n at *
    go_enter Tryz.func17, Tryz.ntmps17
    go_wp2_with (first
      | (go_at_call 29; have _t := t1; clear _t t1; refine (cW2 _).mono ?_; rintro e w1 ⟨o7, c7, rfl, hown7, hb1⟩)
      | (go_at_call 29; refine (cW1 _).mono ?_; rintro e w4 ⟨o8, c8, rfl, hown8, hb4⟩; have k1 := box_kept (box3_new w _ _ _) (bt hb1 hb4) (by simp); obtain ⟨d0, d1, d2⟩ := box3_cells k1; have ff := box3F k1))
    have k2 := box3_set k1 (.bool false) (.slice o7 (nb n).length c7) (.slice o8 (nb 1).length c8)
    have hB := box3_below (bt (bt hb0 hb1) hb4) (Nat.le_refl _) (.bool false) (.slice o7 (nb n).length c7) (.slice o8 (nb 1).length c8)
    have hW := set3_off w4 w.heap.size (.bool false) (.slice o7 (nb n).length c7) (.slice o8 (nb 1).length c8)
    have q1 := own_off (owns_base (keep hown7 hb4) (Nat.zero_le _)) k1 (by decide) hW
    have q2 := own_off (owns_base hown8 (Nat.zero_le _)) k1 (by decide) hW
    generalize World.setCell _ _ _ = W' at *
    obtain ⟨y0, y1, y2⟩ := box3_cells k2
    refine bodyPost_ret (v := .agg #[.bool false, .slice o7 (nb n).length c7, .slice o8 (nb 1).length c8]) ?_ rfl ?_
    · simp [results, go_sem, y0, y1, y2]
    · exact ⟨_, rfl, ⟨_, _, _, _, rfl, q1, q2⟩, hB⟩
end Go.Proofs.YtefckmkcbgckfaaGreatDoor.RefI

/- What the statements of rat lean on: few, Is, awake. -/
namespace Go.Proofs.YtefckmkcbgckfaaGreatDoor.Law5
open Go.RowKit Mem LimbNum Limb1 Limb2 RefL Words RatL RatM RatN RatF RefR

theorem few5 (A : List Nat) (ao : Option Addr) (cap : Nat) (w : World) (h : Lies w ao cap (ints .u32 A)) :
    Calls Tryz.prog 12 #[.slice ao A.length cap] w fun e w' => ∃ ao' cap', e = .returned (.slice ao' (A.take 8).length cap') ∧ w'.ownsRow w.heap.size 48 1 (.slice ao' (A.take 8).length cap') (A.take 8).length (ints .u32 (A.take 8)) ∧ Below w.heap.size w w' := by
  have m1 := h.size
  have m2 := h.1
  have m3 := h.2.1
  rw [ints_length] at m1 m2
  unfold maxLen at m1 m3
  by_cases hl : 8 < A.length
  · have h3 := h.take 8
    rw [← ints_take] at h3
    have e : (A.take 8).length = 8 := by rw [List.length_take]; omega
    have cC := copy_any (A.take 8) ao cap w h3 (by omega)
    rw [e] at cC ⊢
    obtain ⟨b, off, rfl, _, _⟩ := h.2.2.2 (by rw [ints_length]; omega)
    have q1 : (8 : Int) < (A.length : Int) := by omega
    have q2 : (8 : Int) ≤ (cap : Int) := by omega
    clear h h3 e m1 m2 m3
    generalize A.take 8 = T at *
    generalize A.length = L at *
    go_enter Tryz.func12, Tryz.ntmps12
    go_wp2_with (go_at_call 15; refine cC.mono ?_; rintro e w2 ⟨o2, c2, rfl, hown2, hb2⟩)
    go_ret
    exact ⟨_, _, rfl, hown2, hb2⟩
  · have e : A.take 8 = A := List.take_of_length_le (by omega)
    rw [e]
    have cC := copy_any A ao cap w h (by omega)
    clear h e
    go_enter Tryz.func12, Tryz.ntmps12
    go_wp2_with (go_at_call 15; refine cC.mono ?_; rintro e w2 ⟨o2, c2, rfl, hown2, hb2⟩)
    go_ret
    exact ⟨_, _, rfl, hown2, hb2⟩
end Go.Proofs.YtefckmkcbgckfaaGreatDoor.Law5

/- What the statements of rat lean on: awake. -/
namespace Go.Proofs.YtefckmkcbgckfaaGreatDoor.Aw5
open Go.RowKit Mem LimbNum Limb1 Limb2 Limb4 RefL Words DivOne RatL RatM RatN RatF RefR Law5

end Go.Proofs.YtefckmkcbgckfaaGreatDoor.Aw5
