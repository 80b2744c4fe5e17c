/- The document's rational numbers: whole ones, products, inverses. -/
import Derived.Test.YtfhhmpgldmakjaaRefR
import Derived.Deep.RegionHeld3
namespace Go.Proofs.Ytfhhmpgldmakjaa.RefT
open Go.RowKit Mem LimbNum Limb1 Limb2 RefL RefA BitMul BitDiv RGcd Words RatL RefR

theorem three_kept {W w5 : World} {g : Nat} {a b c : Value} (h : W.cell? ⟨g, 0, none⟩ = some a ∧ W.cell? ⟨g, 1, none⟩ = some b ∧ W.cell? ⟨g, 2, none⟩ = some c) (hb : Below W.heap.size W w5) :
    w5.cell? ⟨g, 0, none⟩ = some a ∧ w5.cell? ⟨g, 1, none⟩ = some b ∧ w5.cell? ⟨g, 2, none⟩ = some c := by
  have hg := cell_lt h.1
  rw [hb.cell (p := ⟨g, 0, none⟩) hg, hb.cell (p := ⟨g, 1, none⟩) hg, hb.cell (p := ⟨g, 2, none⟩) hg]
  exact h
theorem cell_set3 (W : World) (g' : Nat) (x y z : Value) (g i : Nat) (hne : g ≠ g') : (((W.setCell ⟨g', 0, none⟩ x).setCell ⟨g', 1, none⟩ y).setCell ⟨g', 2, none⟩ z).cell? ⟨g, i, none⟩ = W.cell? ⟨g, i, none⟩ := by
  simp only [World.cell?]
  rw [set3_off W g' x y z g hne]
theorem three_set {W : World} {g g' : Nat} {a b c x y z : Value} (hne : g ≠ g') (h : W.cell? ⟨g, 0, none⟩ = some a ∧ W.cell? ⟨g, 1, none⟩ = some b ∧ W.cell? ⟨g, 2, none⟩ = some c) :
    (((W.setCell ⟨g', 0, none⟩ x).setCell ⟨g', 1, none⟩ y).setCell ⟨g', 2, none⟩ z).cell? ⟨g, 0, none⟩ = some a ∧ (((W.setCell ⟨g', 0, none⟩ x).setCell ⟨g', 1, none⟩ y).setCell ⟨g', 2, none⟩ z).cell? ⟨g, 1, none⟩ = some b ∧ (((W.setCell ⟨g', 0, none⟩ x).setCell ⟨g', 1, none⟩ y).setCell ⟨g', 2, none⟩ z).cell? ⟨g, 2, none⟩ = some c := by
  rw [cell_set3 _ _ _ _ _ _ _ hne, cell_set3 _ _ _ _ _ _ _ hne, cell_set3 _ _ _ _ _ _ _ hne]; exact h
theorem six_kept {W w5 : World} {g h : Nat} {a b c d e f : Value} (H : W.cell? ⟨g, 0, none⟩ = some a ∧ W.cell? ⟨g, 1, none⟩ = some b ∧ W.cell? ⟨g, 2, none⟩ = some c ∧ W.cell? ⟨h, 0, none⟩ = some d ∧ W.cell? ⟨h, 1, none⟩ = some e ∧ W.cell? ⟨h, 2, none⟩ = some f) (hb : Below W.heap.size W w5) :
    w5.cell? ⟨g, 0, none⟩ = some a ∧ w5.cell? ⟨g, 1, none⟩ = some b ∧ w5.cell? ⟨g, 2, none⟩ = some c ∧ w5.cell? ⟨h, 0, none⟩ = some d ∧ w5.cell? ⟨h, 1, none⟩ = some e ∧ w5.cell? ⟨h, 2, none⟩ = some f := by
  obtain ⟨h1, h2, h3, h4, h5, h6⟩ := H
  obtain ⟨a1, a2, a3⟩ := three_kept ⟨h1, h2, h3⟩ hb
  obtain ⟨b1, b2, b3⟩ := three_kept ⟨h4, h5, h6⟩ hb
  exact ⟨a1, a2, a3, b1, b2, b3⟩
theorem six_set {W : World} {g h k : Nat} {a b c d e f x y z : Value} (n1 : g ≠ k) (n2 : h ≠ k) (H : W.cell? ⟨g, 0, none⟩ = some a ∧ W.cell? ⟨g, 1, none⟩ = some b ∧ W.cell? ⟨g, 2, none⟩ = some c ∧ W.cell? ⟨h, 0, none⟩ = some d ∧ W.cell? ⟨h, 1, none⟩ = some e ∧ W.cell? ⟨h, 2, none⟩ = some f) :
    (((W.setCell ⟨k, 0, none⟩ x).setCell ⟨k, 1, none⟩ y).setCell ⟨k, 2, none⟩ z).cell? ⟨g, 0, none⟩ = some a ∧ (((W.setCell ⟨k, 0, none⟩ x).setCell ⟨k, 1, none⟩ y).setCell ⟨k, 2, none⟩ z).cell? ⟨g, 1, none⟩ = some b ∧ (((W.setCell ⟨k, 0, none⟩ x).setCell ⟨k, 1, none⟩ y).setCell ⟨k, 2, none⟩ z).cell? ⟨g, 2, none⟩ = some c ∧
    (((W.setCell ⟨k, 0, none⟩ x).setCell ⟨k, 1, none⟩ y).setCell ⟨k, 2, none⟩ z).cell? ⟨h, 0, none⟩ = some d ∧ (((W.setCell ⟨k, 0, none⟩ x).setCell ⟨k, 1, none⟩ y).setCell ⟨k, 2, none⟩ z).cell? ⟨h, 1, none⟩ = some e ∧ (((W.setCell ⟨k, 0, none⟩ x).setCell ⟨k, 1, none⟩ y).setCell ⟨k, 2, none⟩ z).cell? ⟨h, 2, none⟩ = some f := by
  obtain ⟨h1, h2, h3, h4, h5, h6⟩ := H
  obtain ⟨a1, a2, a3⟩ := three_set (x := x) (y := y) (z := z) n1 ⟨h1, h2, h3⟩
  obtain ⟨b1, b2, b3⟩ := three_set (x := x) (y := y) (z := z) n2 ⟨h4, h5, h6⟩
  exact ⟨a1, a2, a3, b1, b2, b3⟩
set_option maxRecDepth 20000 in
set_option maxHeartbeats 1000000 in
theorem rinv_any (v : Value) (b : Bool) (n d : Nat) (w : World) (h : IsRef w v b n d) (hd : d ≠ 0) :
    Calls Try.prog 20 #[v] w fun e w' => ∃ v', e = .returned v' ∧ IsRef w' v' b d n ∧ Below w.heap.size w w' := by
  have cL := fun (W : World) (hb : Below w.heap.size w W) => rlow_any v b n d W (h.below hb) hd
  obtain ⟨o1, c1, o2, c2, rfl, h1, h2⟩ := h
  have hb0 : Below w.heap.size w ((w.alloc (box3 (.bool b) (.slice o1 (nb n).length c1) (.slice o2 (nb d).length c2))).alloc (box3 (.bool false) (.slice none 0 0) (.slice none 0 0))) := ((Below.refl _ _).alloc (Nat.le_refl _) _).alloc (by simp) _
  have z1 : (w.alloc (box3 (.bool b) (.slice o1 (nb n).length c1) (.slice o2 (nb d).length c2))).heap.size = w.heap.size + 1 := by simp
  have hk0 : ((w.alloc (box3 (.bool b) (.slice o1 (nb n).length c1) (.slice o2 (nb d).length c2))).alloc (box3 (.bool false) (.slice none 0 0) (.slice none 0 0))).heap[w.heap.size]? = some (box3 (.bool b) (.slice o1 (nb n).length c1) (.slice o2 (nb d).length c2)) := by rw [heap_alloc_old _ _ (by omega), heap_alloc_new]
  have hk1 : ((w.alloc (box3 (.bool b) (.slice o1 (nb n).length c1) (.slice o2 (nb d).length c2))).alloc (box3 (.bool false) (.slice none 0 0) (.slice none 0 0))).heap[w.heap.size + 1]? = some (box3 (.bool false) (.slice none 0 0) (.slice none 0 0)) := by rw [← z1, heap_alloc_new]
  have hlt : w.heap.size + 1 < ((w.alloc (box3 (.bool b) (.slice o1 (nb n).length c1) (.slice o2 (nb d).length c2))).alloc (box3 (.bool false) (.slice none 0 0) (.slice none 0 0))).heap.size := by simp
  have hne : w.heap.size ≠ w.heap.size + 1 := by omega
  have H1 : Hid (w.ownsRow 0 4 1 (.slice o1 (nb n).length c1) (nb n).length (bools (nb n))) := h1
  clear h1 h2
  go_enter Try.func20, Try.ntmps20
  go_wp2
  go_region_held3 (fun w' => w'.cell? ⟨w.heap.size, 0, none⟩ = some (.bool b) ∧ w'.cell? ⟨w.heap.size, 1, none⟩ = some (.slice o1 (nb n).length c1) ∧ w'.cell? ⟨w.heap.size, 2, none⟩ = some (.slice o2 (nb d).length c2))
    (first | exact box3_cells (w := World.drew _) hk0 | exact three_kept (by assumption) (by assumption) | exact three_set hne (by assumption)) (first
    | (go_at_call 62; refine (cL _ ?_).mono ?_; exact below_drewN hb0 _; rintro e w5 ⟨o5, c5, rfl, hown5, hb5⟩; have k1 := box_kept (w := World.drew _) hk1 hb5 hlt; obtain ⟨d0, d1, d2⟩ := box3_cells k1; have ff := box3F k1))
  all_goals go_wp2
  all_goals
    have H5 := bt (below_drewN hb0 _) hb5
    have k2 := box3_set k1 (.bool b) (.slice o5 (nb d).length c5) (.slice o1 (nb n).length c1)
    have hB := box3_below H5 (Nat.le_succ _) (.bool b) (.slice o5 (nb d).length c5) (.slice o1 (nb n).length c1)
    have hW := set3_off w5 (w.heap.size + 1) (.bool b) (.slice o5 (nb d).length c5) (.slice o1 (nb n).length c1)
    have q1 := own_off (keep H1.out H5) k1 (by decide) hW
    have q2 := own_off hown5 k1 (by decide) hW
    generalize World.setCell _ _ _ = W' at *
    obtain ⟨y0, y1, y2⟩ := box3_cells k2
    refine bodyPost_ret (v := .agg #[.bool b, .slice o5 (nb d).length c5, .slice o1 (nb n).length c1]) ?_ rfl ?_
    · simp [results, go_sem, y0, y1, y2]
    · exact ⟨_, rfl, ⟨_, _, _, _, rfl, q2, q1⟩, hB⟩
end Go.Proofs.Ytfhhmpgldmakjaa.RefT
