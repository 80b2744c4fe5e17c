/- The document's rational numbers: what the reference's functions answer. -/
import Derived.Test.YtfhhmpgldmakjaaRatL
import Derived.Test.YtfhhmpgldmakjaaRGcd
import Derived.Test.YtfhhmpgldmakjaaRefA
import Derived.Test.YtfhhmpgldmakjaaBitMul
namespace Go.Proofs.Ytfhhmpgldmakjaa.RefR
open Go.RowKit Mem LimbNum Limb1 Limb2 RefL RefA BitMul BitDiv RGcd Words RatL

/-- The reference's value v is n / d, below 0 if neg. -/
def IsRef (w : World) (v : Value) (neg : Bool) (n d : Nat) : Prop := ∃ o1 c1 o2 c2, v = .agg #[.bool neg, .slice o1 (nb n).length c1, .slice o2 (nb d).length c2] ∧
  w.ownsRow 0 4 1 (.slice o1 (nb n).length c1) (nb n).length (bools (nb n)) ∧ w.ownsRow 0 4 1 (.slice o2 (nb d).length c2) (nb d).length (bools (nb d))
theorem IsRef.below {w w' : World} {v : Value} {neg : Bool} {n d : Nat} (h : IsRef w v neg n d) (hb : Below w.heap.size w w') : IsRef w' v neg n d := by
  obtain ⟨o1, c1, o2, c2, e, h1, h2⟩ := h
  exact ⟨o1, c1, o2, c2, e, keep h1 hb, keep h2 hb⟩
theorem own_off {w W : World} {g base : Nat} {e t : TypeId} {v : Value} {n : Nat} {xs : List Value} {cs : Array Value} (h : w.ownsRow base e 1 v n xs) (hk : w.heap[g]? = some (.cells cs t)) (hne : t ≠ e) (hW : ∀ k, k ≠ g → W.heap[k]? = w.heap[k]?) : W.ownsRow base e 1 v n xs := by
  refine ⟨h.1, ?_⟩
  rcases h.2 with h' | ⟨g', cap', cur, h', hb', hg, r⟩
  · exact .inl h'
  · have : g' ≠ g := by
      rintro rfl
      rw [hg] at hk
      simp only [Option.some.injEq, Obj.cells.injEq] at hk
      exact hne hk.2.1.symm
    exact .inr ⟨g', cap', cur, h', hb', by rw [hW g' this]; exact hg, r⟩
def box3 (a b c : Value) : Obj := .cells #[a, b, c] 38
theorem box3_cells {w : World} {g : Nat} {a b c : Value} (h : w.heap[g]? = some (box3 a b c)) : w.cell? ⟨g, 0, none⟩ = some a ∧ w.cell? ⟨g, 1, none⟩ = some b ∧ w.cell? ⟨g, 2, none⟩ = some c := by
  refine ⟨?_, ?_, ?_⟩ <;> simp [World.cell?, h, box3]
theorem box3F {w : World} {g : Nat} {a b c : Value} (h : w.heap[g]? = some (box3 a b c)) (i : Nat) : w.frozen? ⟨g, i, none⟩ = false := by simp [World.frozen?, h, box3]
theorem box3_set {w : World} {g : Nat} {a b c : Value} (h : w.heap[g]? = some (box3 a b c)) (a' b' c' : Value) :
    (((w.setCell ⟨g, 0, none⟩ a').setCell ⟨g, 1, none⟩ b').setCell ⟨g, 2, none⟩ c').heap[g]? = some (box3 a' b' c') := by
  have h1 : (w.setCell ⟨g, 0, none⟩ a').heap[g]? = some (box3 a' b c) := by rw [heap_setCell_same w g 0 _ _ _ h]; rfl
  have h2 : ((w.setCell ⟨g, 0, none⟩ a').setCell ⟨g, 1, none⟩ b').heap[g]? = some (box3 a' b' c) := by rw [heap_setCell_same _ g 1 _ _ _ h1]; rfl
  rw [heap_setCell_same _ g 2 _ _ _ h2]; rfl
theorem box3_new (w : World) (a b c : Value) : (w.alloc (box3 a b c)).heap[w.heap.size]? = some (box3 a b c) := heap_alloc_new _ _
theorem box3_below {w W : World} {B g : Nat} (h : Below B w W) (hg : B ≤ g) (a b c : Value) : Below B w (((W.setCell ⟨g, 0, none⟩ a).setCell ⟨g, 1, none⟩ b).setCell ⟨g, 2, none⟩ c) :=
  ((h.setCell hg _).setCell hg _).setCell hg _
theorem set3_off (w : World) (g : Nat) (a b c : Value) : ∀ k, k ≠ g → (((w.setCell ⟨g, 0, none⟩ a).setCell ⟨g, 1, none⟩ b).setCell ⟨g, 2, none⟩ c).heap[k]? = w.heap[k]? := by
  intro k hk
  rw [heap_setCell_other _ _ _ _ hk, heap_setCell_other _ _ _ _ hk, heap_setCell_other _ _ _ _ hk]
theorem IsRef.off {w W : World} {g : Nat} {x y z : Value} {v : Value} {b : Bool} {n d : Nat} (h : IsRef w v b n d) (hk : w.heap[g]? = some (box3 x y z)) (hW : ∀ k, k ≠ g → W.heap[k]? = w.heap[k]?) : IsRef W v b n d := by
  obtain ⟨o1, c1, o2, c2, e, h1, h2⟩ := h
  exact ⟨o1, c1, o2, c2, e, own_off h1 hk (by decide) hW, own_off h2 hk (by decide) hW⟩
theorem nb_gt (n : Nat) : decide (0 < (nb n).length) = decide (n ≠ 0) := by
  rw [Bool.eq_iff_iff, decide_eq_true_iff, decide_eq_true_iff]
  constructor
  · rintro h rfl; rw [nb_zero] at h; simp at h
  · intro h; rw [nb_pos h]; simp
theorem nb_one_iff (n : Nat) : (nb n).length = 1 ↔ n = 1 := by
  constructor
  · intro h
    have h1 := fromL_lt (nb n)
    rw [fromL_nb, h] at h1
    have h2 : n ≠ 0 := by rintro rfl; rw [nb_zero] at h; simp at h
    omega
  · rintro rfl; rw [nb_pos (by decide), show 1 / 2 = 0 by decide, nb_zero]; rfl
set_option maxRecDepth 20000 in
set_option maxHeartbeats 1000000 in
theorem rof_any (b : Bool) (x y : Nat) (o1 o2 : Option Addr) (c1 c2 : Nat) (w : World) (h1 : w.ownsRow 0 4 1 (.slice o1 (nb x).length c1) (nb x).length (bools (nb x))) (h2 : w.ownsRow 0 4 1 (.slice o2 (nb y).length c2) (nb y).length (bools (nb y))) (hl1 : (nb x).length ≤ 1000000) (hl2 : (nb y).length ≤ 1000000) (hy : y ≠ 0) :
    Calls Try.prog 15 #[.bool b, .slice o1 (nb x).length c1, .slice o2 (nb y).length c2] w fun e w' => ∃ v, e = .returned v ∧ IsRef w' v (b && decide (x / Nat.gcd x y ≠ 0)) (x / Nat.gcd x y) (y / Nat.gcd x y) ∧ Below w.heap.size w w' := by
  have hb0 : Below w.heap.size w (w.alloc (.cells #[.bool false, .slice none 0 0, .slice none 0 0] 38)) := (Below.refl _ _).alloc (Nat.le_refl _) _
  by_cases h : y = 1
  · subst h
    have e1 : (nb 1).length = 1 := (nb_one_iff 1).2 rfl
    rw [Nat.gcd_one_right, Nat.div_one, Nat.div_one, ← nb_gt]
    have H1 : Hid (w.ownsRow 0 4 1 (.slice o1 (nb x).length c1) (nb x).length (bools (nb x))) := h1
    have H2 : Hid (w.ownsRow 0 4 1 (.slice o2 (nb 1).length c2) (nb 1).length (bools (nb 1))) := h2
    have HQ : Hid (∀ o : Obj, Below w.heap.size w (w.alloc o)) := fun o => (Below.refl _ _).alloc (Nat.le_refl _) o
    clear h1 h2 hl1 hl2 hy
    cases b
    all_goals
      go_enter Try.func15, Try.ntmps15
      go_wp2
    · refine bodyPost_ret (v := .agg #[.bool false, .slice o1 (nb x).length c1, .slice o2 1 c2]) ?_ rfl ?_
      · simp [results, go_sem]
      · exact ⟨_, rfl, ⟨o1, c1, o2, c2, by rw [e1]; rfl, keep H1.out (HQ.out _), keep H2.out (HQ.out _)⟩, HQ.out _⟩
    · refine bodyPost_ret (v := .agg #[.bool (decide (0 < (nb x).length)), .slice o1 (nb x).length c1, .slice o2 1 c2]) ?_ rfl ?_
      · simp [results, go_sem]
      · exact ⟨_, rfl, ⟨o1, c1, o2, c2, by rw [e1]; rfl, keep H1.out (HQ.out _), keep H2.out (HQ.out _)⟩, HQ.out _⟩
  · have hg0 : Nat.gcd x y ≠ 0 := fun h => hy (Nat.gcd_eq_zero_iff.1 h).2
    have e1 : (nb y).length ≠ 1 := fun e => h ((nb_one_iff y).1 e)
    have e2 : (((nb y).length : Int) == 1) = false := by rw [beq_eq_false_iff_ne]; omega
    have cG := fun (W : World) (hb : Below w.heap.size w W) => rgcd_any x y o1 o2 c1 c2 W (keep h1 hb) (keep h2 hb) hl1 hl2
    have cD1 := fun (W : World) (hb : Below w.heap.size w W) (o : Option Addr) (c : Nat) (hg : Lies W o c (bools (nb (Nat.gcd x y)))) => rdiv_core (nb x) (Nat.gcd x y) (x / Nat.gcd x y) (x % Nat.gcd x y) (by unfold Hid; rw [fromL_nb]) (by unfold Hid; rw [fromL_nb]) (Nat.pos_of_ne_zero hg0) o1 o c1 c W (lies_of_owns (keep h1 hb)) hg hl1
    have cD2 := fun (W : World) (hb : Below w.heap.size w W) (o : Option Addr) (c : Nat) (hg : Lies W o c (bools (nb (Nat.gcd x y)))) => rdiv_core (nb y) (Nat.gcd x y) (y / Nat.gcd x y) (y % Nat.gcd x y) (by unfold Hid; rw [fromL_nb]) (by unfold Hid; rw [fromL_nb]) (Nat.pos_of_ne_zero hg0) o2 o c2 c W (lies_of_owns (keep h2 hb)) hg hl2
    rw [← nb_gt]
    generalize x / Nat.gcd x y = n at *
    generalize x % Nat.gcd x y = r1 at *
    generalize y / Nat.gcd x y = d at *
    generalize y % Nat.gcd x y = r2 at *
    generalize Nat.gcd x y = g at *
    clear h1 h2 hl1 hl2 hy h hg0 e1
    cases b
    all_goals
      go_enter Try.func15, Try.ntmps15
      go_wp2_with (first
        | (go_at_call 57; refine (cG _ hb0).mono ?_; rintro e w1 ⟨o3, c3, rfl, hown3, hb1⟩; have H1 := bt hb0 hb1)
        | (go_at_call_of 58 (Value.slice o1 (nb x).length c1); refine (cD1 _ H1 _ _ (lies_of_owns hown3)).mono ?_; rintro e w2 ⟨o4, c4, o5, c5, rfl, hown4, hown5, hb2⟩; have H2 := bt H1 hb2)
        | (go_at_call_of 58 (Value.slice o2 (nb y).length c2); refine (cD2 _ H2 _ _ (lies_of_owns (keep hown3 hb2))).mono ?_; rintro e w3 ⟨o6, c6, o7, c7, rfl, hown6, hown7, hb3⟩; have H3 := bt H2 hb3; have k1 := box_kept (box3_new w _ _ _) (bt (bt hb1 hb2) hb3) (by simp); obtain ⟨d0, d1, d2⟩ := box3_cells k1; have ff := box3F k1))
    · have k2 := box3_set k1 (.bool false) (.slice o4 (nb n).length c4) (.slice o6 (nb d).length c6)
      have hB := box3_below H3 (Nat.le_refl _) (.bool false) (.slice o4 (nb n).length c4) (.slice o6 (nb d).length c6)
      have hW := set3_off w3 w.heap.size (.bool false) (.slice o4 (nb n).length c4) (.slice o6 (nb d).length c6)
      have q1 := own_off (owns_base (keep hown4 hb3) (Nat.zero_le _)) k1 (by decide) hW
      have q2 := own_off (owns_base hown6 (Nat.zero_le _)) k1 (by decide) hW
      generalize World.setCell _ _ _ = W' at *
      obtain ⟨y0, y1, y2⟩ := box3_cells k2
      refine bodyPost_ret (v := .agg #[.bool false, .slice o4 (nb n).length c4, .slice o6 (nb d).length c6]) ?_ rfl ?_
      · simp [results, go_sem, y0, y1, y2]
      · exact ⟨_, rfl, ⟨_, _, _, _, rfl, q1, q2⟩, hB⟩
    · have k2 := box3_set k1 (.bool (decide (0 < (nb n).length))) (.slice o4 (nb n).length c4) (.slice o6 (nb d).length c6)
      have hB := box3_below H3 (Nat.le_refl _) (.bool (decide (0 < (nb n).length))) (.slice o4 (nb n).length c4) (.slice o6 (nb d).length c6)
      have hW := set3_off w3 w.heap.size (.bool (decide (0 < (nb n).length))) (.slice o4 (nb n).length c4) (.slice o6 (nb d).length c6)
      have q1 := own_off (owns_base (keep hown4 hb3) (Nat.zero_le _)) k1 (by decide) hW
      have q2 := own_off (owns_base hown6 (Nat.zero_le _)) k1 (by decide) hW
      generalize World.setCell _ _ _ = W' at *
      obtain ⟨y0, y1, y2⟩ := box3_cells k2
      refine bodyPost_ret (v := .agg #[.bool (decide (0 < (nb n).length)), .slice o4 (nb n).length c4, .slice o6 (nb d).length c6]) ?_ rfl ?_
      · simp [results, go_sem, y0, y1, y2]
      · exact ⟨_, rfl, ⟨_, _, _, _, rfl, q1, q2⟩, hB⟩
theorem rlow_any (v : Value) (b : Bool) (n d : Nat) (w : World) (h : IsRef w v b n d) (hd : d ≠ 0) :
    Calls Try.prog 62 #[v] w fun e w' => ∃ o c, e = .returned (.slice o (nb d).length c) ∧ w'.ownsRow 0 4 1 (.slice o (nb d).length c) (nb d).length (bools (nb d)) ∧ Below w.heap.size w w' := by
  obtain ⟨o1, c1, o2, c2, rfl, h1, h2⟩ := h
  have hl : 0 < (nb d).length := by rw [nb_pos hd]; simp
  have e2 : (((nb d).length : Int) == 0) = false := by rw [beq_eq_false_iff_ne]; omega
  have hb0 : Below w.heap.size w (w.alloc (.cells #[.bool b, .slice o1 (nb n).length c1, .slice o2 (nb d).length c2] 38)) := (Below.refl _ _).alloc (Nat.le_refl _) _
  have H2 := keep h2 hb0
  clear h1 h2 hl hd
  go_enter Try.func62, Try.ntmps62
  go_wp2
  go_ret
  exact ⟨_, _, rfl, H2, hb0⟩
end Go.Proofs.Ytfhhmpgldmakjaa.RefR
