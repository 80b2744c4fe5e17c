/- RatMakes, walked; What stays where two result cells are written (for law05.Both); What the statements of rat lean on: Both, where what is below the bar is not nought; What the statements of rat lean on: Both, where what is below the bar is nought. -/
import Derived.Test.YtefckmkcbgckfaaGreatDoorSetAT
import Derived.Deep.CutRange
import Derived.Deep.RegionWith
/- RatMakes, walked. -/
namespace Go.Proofs.YtefckmkcbgckfaaGreatDoor.Mk5
open Go.RowKit Mem LimbNum Limb1 Limb2 Limb4 RefL Words DivOne RatL RatM RatN RatF RefR RefT RefU RefI Law5 Aw5

theorem three_newN (w : World) (a b c : Value) (t : TypeId) : (w.alloc (.cells #[a, b, c] t)).cell? ⟨w.heap.size, 0, none⟩ = some a ∧ (w.alloc (.cells #[a, b, c] t)).cell? ⟨w.heap.size, 1, none⟩ = some b ∧ (w.alloc (.cells #[a, b, c] t)).cell? ⟨w.heap.size, 2, none⟩ = some c := by
  refine ⟨?_, ?_, ?_⟩ <;> simp
theorem three_alloc {W : World} {g : Nat} {a b c : Value} (h : W.cell? ⟨g, 0, none⟩ = some a ∧ W.cell? ⟨g, 1, none⟩ = some b ∧ W.cell? ⟨g, 2, none⟩ = some c) (o : Obj) : (W.alloc o).cell? ⟨g, 0, none⟩ = some a ∧ (W.alloc o).cell? ⟨g, 1, none⟩ = some b ∧ (W.alloc o).cell? ⟨g, 2, none⟩ = some c :=
  three_kept h ((Below.refl _ _).alloc (Nat.le_refl _) o)
theorem cell_set4 (W : World) (g' : Nat) (x y z u : Value) (g i : Nat) (hne : g ≠ g') : ((((W.setCell ⟨g', 0, none⟩ x).setCell ⟨g', 1, none⟩ y).setCell ⟨g', 2, none⟩ z).setCell ⟨g', 3, none⟩ u).cell? ⟨g, i, none⟩ = W.cell? ⟨g, i, none⟩ := by
  simp only [World.cell?]
  rw [(set4_off W g' x y z u).1 g hne]
theorem three_set4 {W : World} {g g' : Nat} {a b c x y z u : Value} {p : Bool} {q r : Int} {s : Option Addr} (hb : ∃ o n d, b = .slice o n d) (hk : W.heap[g']? = some (box4 (.bool p) (.int .u64 q) (.int .u64 r) (.pointer s))) (h : W.cell? ⟨g, 0, none⟩ = some a ∧ W.cell? ⟨g, 1, none⟩ = some b ∧ W.cell? ⟨g, 2, none⟩ = some c) :
    ((((W.setCell ⟨g', 0, none⟩ x).setCell ⟨g', 1, none⟩ y).setCell ⟨g', 2, none⟩ z).setCell ⟨g', 3, none⟩ u).cell? ⟨g, 0, none⟩ = some a ∧ ((((W.setCell ⟨g', 0, none⟩ x).setCell ⟨g', 1, none⟩ y).setCell ⟨g', 2, none⟩ z).setCell ⟨g', 3, none⟩ u).cell? ⟨g, 1, none⟩ = some b ∧ ((((W.setCell ⟨g', 0, none⟩ x).setCell ⟨g', 1, none⟩ y).setCell ⟨g', 2, none⟩ z).setCell ⟨g', 3, none⟩ u).cell? ⟨g, 2, none⟩ = some c := by
  have hne : g ≠ g' := by
    rintro rfl
    obtain ⟨o, n, d, rfl⟩ := hb
    exact (box_cells hk h.2.1).2 _ _ _ rfl
  rw [cell_set4 _ _ _ _ _ _ _ _ hne, cell_set4 _ _ _ _ _ _ _ _ hne, cell_set4 _ _ _ _ _ _ _ _ hne]; exact h
theorem heap_lt {w : World} {g : Nat} {o : Obj} (h : w.heap[g]? = some o) : g < w.heap.size := by
  rcases Nat.lt_or_ge g w.heap.size with h6 | h6
  · exact h6
  · rw [Array.getElem?_eq_none h6] at h; simp at h
theorem boxc_new (w : World) : (w.alloc (.cells #[.bool false, .int .u64 0, .int .u64 0, .pointer none] 28)).heap[w.heap.size]? = some (box4 (.bool false) (.int .u64 0) (.int .u64 0) (.pointer none)) := box_new _ _ _ _ _
theorem alloc_lt (w : World) (o : Obj) : w.heap.size < (w.alloc o).heap.size := by simp
/-- Where r lies. -/
structure Rlies (w : World) (g : Nat) (b : Bool) (n d : Nat) (VA VL : Int) (vp : Option Addr) : Prop where
  box : w.heap[g]? = some (box4 (.bool b) (.int .u64 VA) (.int .u64 VL) (.pointer vp))
  is : IsRat w (.agg #[.bool b, .int .u64 VA, .int .u64 VL, .pointer vp]) b n d
theorem Rlies.new {w : World} {b : Bool} {n d : Nat} {VA VL : Int} {vp : Option Addr} (h : IsRat w (.agg #[.bool b, .int .u64 VA, .int .u64 VL, .pointer vp]) b n d) : Rlies (w.alloc (.cells #[.bool b, .int .u64 VA, .int .u64 VL, .pointer vp] 28)) w.heap.size b n d VA VL vp :=
  ⟨box_new _ _ _ _ _, h.below ((Below.refl _ _).alloc (Nat.le_refl _) _)⟩
theorem Rlies.set {w : World} {g : Nat} {b : Bool} {n d : Nat} {VA VL : Int} {vp : Option Addr} {p : Bool} {q r : Int} {s : Option Addr} (h : IsRat w (.agg #[.bool b, .int .u64 VA, .int .u64 VL, .pointer vp]) b n d) (hk : w.heap[g]? = some (box4 (.bool p) (.int .u64 q) (.int .u64 r) (.pointer s))) :
    Rlies ((((w.setCell ⟨g, 0, none⟩ (.bool b)).setCell ⟨g, 1, none⟩ (.int .u64 VA)).setCell ⟨g, 2, none⟩ (.int .u64 VL)).setCell ⟨g, 3, none⟩ (.pointer vp)) g b n d VA VL vp :=
  ⟨box_set hk _ _ _ _, h.set4 hk _ _ _ _⟩
theorem Rlies.below {w w' : World} {g : Nat} {b : Bool} {n d : Nat} {VA VL : Int} {vp : Option Addr} (h : Rlies w g b n d VA VL vp) (hb : Below w.heap.size w w') : Rlies w' g b n d VA VL vp :=
  ⟨box_kept h.box hb (heap_lt h.box), h.is.below hb⟩
theorem seven_kept {W w5 : World} {g h : Nat} {a b c d e f k : Value} (H : W.cell? ⟨g, 0, none⟩ = some a ∧ W.cell? ⟨g, 1, none⟩ = some b ∧ W.cell? ⟨g, 2, none⟩ = some c ∧ W.cell? ⟨g, 3, none⟩ = some d ∧ W.cell? ⟨h, 0, none⟩ = some e ∧ W.cell? ⟨h, 1, none⟩ = some f ∧ W.cell? ⟨h, 2, none⟩ = some k) (hb : Below W.heap.size W w5) :
    w5.cell? ⟨g, 0, none⟩ = some a ∧ w5.cell? ⟨g, 1, none⟩ = some b ∧ w5.cell? ⟨g, 2, none⟩ = some c ∧ w5.cell? ⟨g, 3, none⟩ = some d ∧ w5.cell? ⟨h, 0, none⟩ = some e ∧ w5.cell? ⟨h, 1, none⟩ = some f ∧ w5.cell? ⟨h, 2, none⟩ = some k := by
  obtain ⟨h1, h2, h3, h4, h5, h6, h7⟩ := H
  obtain ⟨a1, a2, a3, a4⟩ := four_kept ⟨h1, h2, h3, h4⟩ hb
  obtain ⟨b1, b2, b3⟩ := three_kept ⟨h5, h6, h7⟩ hb
  exact ⟨a1, a2, a3, a4, b1, b2, b3⟩
theorem is_zero (w : World) : IsRat w (.agg #[.bool false, .int .u64 0, .int .u64 0, .pointer none]) false 0 1 := ⟨⟨by omega, by decide, fun _ => rfl⟩, .inl ⟨by omega, by omega, rfl⟩⟩
theorem small_take8 (A : List Nat) (h : Small A) : Small (A.take 8) := fun x hx => h x (List.mem_of_mem_take hx)
theorem bits8 (P : List Nat) (hs : Small P) (h : P.length ≤ 8) : (nb (val P)).length ≤ 256 := nb_lt _ _ (by
  have h1 := val_lt P hs
  have h2 : (4294967296 : Nat) ^ P.length ≤ 4294967296 ^ 8 := Nat.pow_le_pow_right (by omega) h
  exact Nat.lt_of_lt_of_le h1 h2)
theorem bits_div (x g k : Nat) (h : (nb x).length ≤ k) : (nb (x / g)).length ≤ k := Nat.le_trans (nb_mono _ _ (Nat.div_le_self _ _)) h
/-- i / j in lowest terms, by the reference's way. -/
theorem frac_ref (a b : Nat) : a * 1 / Nat.gcd (a * 1) (1 * b) = a / Nat.gcd a b ∧ 1 * b / Nat.gcd (a * 1) (1 * b) = b / Nat.gcd a b := by
  rw [Nat.mul_one, Nat.one_mul]; exact ⟨rfl, rfl⟩
end Go.Proofs.YtefckmkcbgckfaaGreatDoor.Mk5

/- What stays where two result cells are written (for law05.Both). -/
namespace Go.Proofs.YtefckmkcbgckfaaGreatDoor.Bo5
open Go.RowKit Mem LimbNum Limb1 Limb2 Limb4 RefL Words DivOne RatL RatM RatN RatF RefR RefT RefU RefI Law5 Aw5 Mk5

theorem seven_off {W W' : World} {g h : Nat} {a b c d e f k : Value} (hg : W'.heap[g]? = W.heap[g]?) (hh : W'.heap[h]? = W.heap[h]?) (H : W.cell? ⟨g, 0, none⟩ = some a ∧ W.cell? ⟨g, 1, none⟩ = some b ∧ W.cell? ⟨g, 2, none⟩ = some c ∧ W.cell? ⟨g, 3, none⟩ = some d ∧ W.cell? ⟨h, 0, none⟩ = some e ∧ W.cell? ⟨h, 1, none⟩ = some f ∧ W.cell? ⟨h, 2, none⟩ = some k) :
    W'.cell? ⟨g, 0, none⟩ = some a ∧ W'.cell? ⟨g, 1, none⟩ = some b ∧ W'.cell? ⟨g, 2, none⟩ = some c ∧ W'.cell? ⟨g, 3, none⟩ = some d ∧ W'.cell? ⟨h, 0, none⟩ = some e ∧ W'.cell? ⟨h, 1, none⟩ = some f ∧ W'.cell? ⟨h, 2, none⟩ = some k := by
  simp only [World.cell?, hg, hh] at H ⊢
  exact H
theorem box3_kinds {w : World} {g i : Nat} {p : Bool} {o1 o2 : Option Addr} {n1 n2 c1 c2 : Nat} {v : Value} (hk : w.heap[g]? = some (box3 (.bool p) (.slice o1 n1 c1) (.slice o2 n2 c2))) (h : w.cell? ⟨g, i, none⟩ = some v) : (∀ k z, v ≠ .int k z) ∧ (i = 0 → ∀ o n c, v ≠ .slice o n c) := by
  simp only [World.cell?, hk, box3] at h
  match i, h with
  | 0, h => simp at h; subst h; exact ⟨fun k z e => by simp at e, fun _ o n c e => by simp at e⟩
  | 1, h => simp at h; subst h; exact ⟨fun k z e => by simp at e, fun e => by omega⟩
  | 2, h => simp at h; subst h; exact ⟨fun k z e => by simp at e, fun e => by omega⟩
  | (i + 3), h => simp at h
theorem lies_off3 {w W : World} {g : Nat} {p : Bool} {o1 o2 : Option Addr} {n1 n2 c1 c2 : Nat} {o : Option Addr} {c : Nat} {A : List Nat} (h : Lies w o c (ints .u32 A)) (hk : w.heap[g]? = some (box3 (.bool p) (.slice o1 n1 c1) (.slice o2 n2 c2)))
    (hW : ∀ k, k ≠ g → W.heap[k]? = w.heap[k]?) (hs : W.heap.size = w.heap.size) : Lies W o c (ints .u32 A) := by
  obtain ⟨h1, h2, h3, h4⟩ := h
  refine ⟨h1, h2, h3, fun hp => ?_⟩
  obtain ⟨b, off, rfl, hlt, hc⟩ := h4 hp
  have hne : b ≠ g := by
    rintro rfl
    have h0 := hc 0 hp
    rw [ints_get _ _ _ (by rw [ints_length] at hp; exact hp)] at h0
    exact (box3_kinds hk h0).1 _ _ rfl
  refine ⟨b, off, rfl, by omega, fun i hi => ?_⟩
  rw [← hc i hi]
  simp only [World.cell?, hW b hne]
theorem rat_off3 {w W : World} {g : Nat} {p : Bool} {o1 o2 : Option Addr} {n1 n2 c1 c2 : Nat} {v : Value} {b : Bool} {n d : Nat} (h : IsRat w v b n d) (hk : w.heap[g]? = some (box3 (.bool p) (.slice o1 n1 c1) (.slice o2 n2 c2)))
    (hW : ∀ k, k ≠ g → W.heap[k]? = w.heap[k]?) (hs : W.heap.size = w.heap.size) : IsRat W v b n d := by
  obtain ⟨h1, h2 | ⟨h2, g2, p1, q1, p2, q2, e, h3, h4, h5, h6, h7⟩⟩ := h
  · exact ⟨h1, .inl h2⟩
  · have hne : g2 ≠ g := by
      rintro rfl
      exact (box3_kinds hk h4).2 rfl _ _ _ rfl
    refine ⟨h1, .inr ⟨h2, g2, p1, q1, p2, q2, e, by omega, ?_, ?_, lies_off3 h6 hk hW hs, lies_off3 h7 hk hW hs⟩⟩
    · rw [← h4]; simp only [World.cell?, hW g2 hne]
    · rw [← h5]; simp only [World.cell?, hW g2 hne]
theorem set3_size (w : World) (g : Nat) (a b c : Value) : (((w.setCell ⟨g, 0, none⟩ a).setCell ⟨g, 1, none⟩ b).setCell ⟨g, 2, none⟩ c).heap.size = w.heap.size := by simp [World.setCell]
end Go.Proofs.YtefckmkcbgckfaaGreatDoor.Bo5

/- What the statements of rat lean on: Both, where what is below the bar is not nought. -/
namespace Go.Proofs.YtefckmkcbgckfaaGreatDoor.BoN
open Go.RowKit Mem LimbNum Limb1 Limb2 Limb4 RefL Words DivOne RatL RatM RatN RatF RefR RefT RefU RefI Law5 Aw5 Mk5 Bo5

theorem five_kept {W w5 : World} {g h : Nat} {a b c d e : Value} (H : W.cell? ⟨g, 0, none⟩ = some a ∧ W.cell? ⟨g, 1, none⟩ = some b ∧ W.cell? ⟨g, 2, none⟩ = some c ∧ W.cell? ⟨g, 3, none⟩ = some d ∧ W.cell? ⟨h, 0, none⟩ = some e) (hb : Below W.heap.size W w5) :
    w5.cell? ⟨g, 0, none⟩ = some a ∧ w5.cell? ⟨g, 1, none⟩ = some b ∧ w5.cell? ⟨g, 2, none⟩ = some c ∧ w5.cell? ⟨g, 3, none⟩ = some d ∧ w5.cell? ⟨h, 0, none⟩ = some e := by
  have kc : ∀ {p : Addr} {v : Value}, W.cell? p = some v → w5.cell? p = some v := fun {p v} h => by rw [hb.cell (World.block_lt_of_cell? W p h)]; exact h
  exact ⟨kc H.1, kc H.2.1, kc H.2.2.1, kc H.2.2.2.1, kc H.2.2.2.2⟩
theorem five_off {W W' : World} {g h : Nat} {a b c d e : Value} (hg : W'.heap[g]? = W.heap[g]?) (hh : W'.heap[h]? = W.heap[h]?) (H : W.cell? ⟨g, 0, none⟩ = some a ∧ W.cell? ⟨g, 1, none⟩ = some b ∧ W.cell? ⟨g, 2, none⟩ = some c ∧ W.cell? ⟨g, 3, none⟩ = some d ∧ W.cell? ⟨h, 0, none⟩ = some e) :
    W'.cell? ⟨g, 0, none⟩ = some a ∧ W'.cell? ⟨g, 1, none⟩ = some b ∧ W'.cell? ⟨g, 2, none⟩ = some c ∧ W'.cell? ⟨g, 3, none⟩ = some d ∧ W'.cell? ⟨h, 0, none⟩ = some e := by
  simp only [World.cell?, hg, hh] at H ⊢
  exact H
/-- What stands behind the two results' stores. -/
theorem both_end {w wc w10 : World} {G1 G2 gr : Nat} {b2 : Bool} {n d : Nat} {VA VL : Int} {vp : Option Addr} {o11 o12 : Option Addr} {c11 c12 : Nat} (HR : Rlies wc gr b2 n d VA VL vp) (hE : Below wc.heap.size wc w10) (hB : Below w.heap.size w wc)
    (m1 : w10.heap[G1]? = some (box4 (.bool false) (.int .u64 0) (.int .u64 0) (.pointer none))) (m2 : w10.heap[G2]? = some (box3 (.bool false) (.slice none 0 0) (.slice none 0 0))) (hG : w.heap.size ≤ G1 ∧ w.heap.size ≤ G2 ∧ G1 ≠ G2)
    (r11 : w10.ownsRow 0 4 1 (.slice o11 (nb n).length c11) (nb n).length (bools (nb n))) (r12 : w10.ownsRow 0 4 1 (.slice o12 (nb d).length c12) (nb d).length (bools (nb d))) :
    (((((((w10.setCell ⟨G1, 0, none⟩ (.bool b2)).setCell ⟨G1, 1, none⟩ (.int .u64 VA)).setCell ⟨G1, 2, none⟩ (.int .u64 VL)).setCell ⟨G1, 3, none⟩ (.pointer vp)).setCell ⟨G2, 0, none⟩ (.bool b2)).setCell ⟨G2, 1, none⟩ (.slice o11 (nb n).length c11)).setCell ⟨G2, 2, none⟩ (.slice o12 (nb d).length c12)).heap[G1]? = some (box4 (.bool b2) (.int .u64 VA) (.int .u64 VL) (.pointer vp)) ∧
    (((((((w10.setCell ⟨G1, 0, none⟩ (.bool b2)).setCell ⟨G1, 1, none⟩ (.int .u64 VA)).setCell ⟨G1, 2, none⟩ (.int .u64 VL)).setCell ⟨G1, 3, none⟩ (.pointer vp)).setCell ⟨G2, 0, none⟩ (.bool b2)).setCell ⟨G2, 1, none⟩ (.slice o11 (nb n).length c11)).setCell ⟨G2, 2, none⟩ (.slice o12 (nb d).length c12)).heap[G2]? = some (box3 (.bool b2) (.slice o11 (nb n).length c11) (.slice o12 (nb d).length c12)) ∧
    (IsRat (((((((w10.setCell ⟨G1, 0, none⟩ (.bool b2)).setCell ⟨G1, 1, none⟩ (.int .u64 VA)).setCell ⟨G1, 2, none⟩ (.int .u64 VL)).setCell ⟨G1, 3, none⟩ (.pointer vp)).setCell ⟨G2, 0, none⟩ (.bool b2)).setCell ⟨G2, 1, none⟩ (.slice o11 (nb n).length c11)).setCell ⟨G2, 2, none⟩ (.slice o12 (nb d).length c12)) (.agg #[.bool b2, .int .u64 VA, .int .u64 VL, .pointer vp]) b2 n d ∧
     IsRef (((((((w10.setCell ⟨G1, 0, none⟩ (.bool b2)).setCell ⟨G1, 1, none⟩ (.int .u64 VA)).setCell ⟨G1, 2, none⟩ (.int .u64 VL)).setCell ⟨G1, 3, none⟩ (.pointer vp)).setCell ⟨G2, 0, none⟩ (.bool b2)).setCell ⟨G2, 1, none⟩ (.slice o11 (nb n).length c11)).setCell ⟨G2, 2, none⟩ (.slice o12 (nb d).length c12)) (.agg #[.bool b2, .slice o11 (nb n).length c11, .slice o12 (nb d).length c12]) b2 n d) ∧
    Below w.heap.size w (((((((w10.setCell ⟨G1, 0, none⟩ (.bool b2)).setCell ⟨G1, 1, none⟩ (.int .u64 VA)).setCell ⟨G1, 2, none⟩ (.int .u64 VL)).setCell ⟨G1, 3, none⟩ (.pointer vp)).setCell ⟨G2, 0, none⟩ (.bool b2)).setCell ⟨G2, 1, none⟩ (.slice o11 (nb n).length c11)).setCell ⟨G2, 2, none⟩ (.slice o12 (nb d).length c12)) := by
  obtain ⟨h1, h2, h3⟩ := hG
  have q1 := box_set m1 (.bool b2) (.int .u64 VA) (.int .u64 VL) (.pointer vp)
  have f1 := set4_off w10 G1 (.bool b2) (.int .u64 VA) (.int .u64 VL) (.pointer vp)
  have i1 := (HR.is.below hE).set4 m1 (.bool b2) (.int .u64 VA) (.int .u64 VL) (.pointer vp)
  have m3 := (f1.1 G2 (fun e => h3 e.symm)).trans m2
  have a11 := own_off r11 m1 (by decide) f1.1
  have a12 := own_off r12 m1 (by decide) f1.1
  have bb := box_below (bt hB hE) h1 (.bool b2) (.int .u64 VA) (.int .u64 VL) (.pointer vp)
  generalize (((w10.setCell ⟨G1, 0, none⟩ (.bool b2)).setCell ⟨G1, 1, none⟩ (.int .u64 VA)).setCell ⟨G1, 2, none⟩ (.int .u64 VL)).setCell ⟨G1, 3, none⟩ (.pointer vp) = W at *
  have f2 := set3_off W G2 (.bool b2) (.slice o11 (nb n).length c11) (.slice o12 (nb d).length c12)
  refine ⟨(f2 G1 h3).trans q1, box3_set m3 _ _ _, ⟨rat_off3 i1 m3 f2 (set3_size _ _ _ _ _), ⟨o11, c11, o12, c12, rfl, own_off a11 m3 (by decide) f2, own_off a12 m3 (by decide) f2⟩⟩, box3_below bb h2 _ _ _⟩
set_option maxRecDepth 20000 in
set_option maxHeartbeats 2000000 in
theorem both_nz (b : Bool) (A B : List Nat) (ao bo : Option Addr) (cap1 cap2 : Nat) (w : World) (hl : Lies w ao cap1 (ints .u32 A)) (hl2 : Lies w bo cap2 (ints .u32 B)) (hA : Small A) (hB : Small B) (h0 : val (B.take 8) ≠ 0) :
    Calls Tryz.prog 4 #[.agg #[.bool b, .slice ao A.length cap1, .slice bo B.length cap2]] w fun e w' => ∃ v q, e = .returned (.tuple #[v, q]) ∧
      IsRat w' v (b && decide (val (A.take 8) / Nat.gcd (val (A.take 8)) (val (B.take 8)) ≠ 0)) (val (A.take 8) / Nat.gcd (val (A.take 8)) (val (B.take 8))) (val (B.take 8) / Nat.gcd (val (A.take 8)) (val (B.take 8))) ∧
      IsRef w' q (b && decide (val (A.take 8) / Nat.gcd (val (A.take 8)) (val (B.take 8)) ≠ 0)) (val (A.take 8) / Nat.gcd (val (A.take 8)) (val (B.take 8))) (val (B.take 8) / Nat.gcd (val (A.take 8)) (val (B.take 8))) ∧ Below w.heap.size w w' := by
  have cF1 := fun (W : World) (hb : Below w.heap.size w W) => few5 A ao cap1 W (hl.below hb (Nat.le_refl _))
  have cF2 := fun (W : World) (hb : Below w.heap.size w W) => few5 B bo cap2 W (hl2.below hb (Nat.le_refl _))
  have sA := small_take8 A hA
  have sB := small_take8 B hB
  have lA : (A.take 8).length ≤ 8 := by simp; omega
  have lB : (B.take 8).length ≤ 8 := by simp; omega
  clear hl hl2 hA hB
  have SAS : ∃ o n d, (.slice ao A.length cap1 : Value) = .slice o n d := ⟨_, _, _, rfl⟩
  obtain ⟨SA, eSA⟩ : ∃ v : Value, .slice ao A.length cap1 = v := ⟨_, rfl⟩
  obtain ⟨SB, eSB⟩ : ∃ v : Value, .slice bo B.length cap2 = v := ⟨_, rfl⟩
  rw [eSA] at cF1 SAS
  rw [eSB] at cF2
  rw [eSA, eSB]
  clear eSA eSB
  generalize A.take 8 = P at *
  generalize B.take 8 = Q at *
  obtain ⟨W0, eW0⟩ : ∃ W0 : World, ((w.alloc (.cells #[.bool b, SA, SB] 24)).alloc (.cells #[.bool false, .int .u64 0, .int .u64 0, .pointer none] 28)).alloc (.cells #[.bool false, .slice none 0 0, .slice none 0 0] 31) = W0 := ⟨_, rfl⟩
  have hb0 : Below w.heap.size w W0 := by rw [← eW0]; exact (((Below.refl _ _).alloc (Nat.le_refl _) _).alloc (by simp) _).alloc (by simp; omega) _
  have z1 : (w.alloc (.cells #[.bool b, SA, SB] 24)).heap.size = w.heap.size + 1 := by simp
  have z2 : ((w.alloc (.cells #[.bool b, SA, SB] 24)).alloc (.cells #[.bool false, .int .u64 0, .int .u64 0, .pointer none] 28)).heap.size = w.heap.size + 1 + 1 := by simp
  have k1 : W0.heap[w.heap.size + 1]? = some (box4 (.bool false) (.int .u64 0) (.int .u64 0) (.pointer none)) := by rw [← eW0, heap_alloc_old _ _ (by omega), ← z1]; exact boxc_new _
  have k2 : W0.heap[w.heap.size + 1 + 1]? = some (box3 (.bool false) (.slice none 0 0) (.slice none 0 0)) := by rw [← eW0, ← z2]; exact box3_new _ _ _ _
  have zW : w.heap.size + 3 ≤ W0.heap.size := by rw [← eW0]; simp
  have f0 : W0.cell? ⟨w.heap.size, 0, none⟩ = some (.bool b) ∧ W0.cell? ⟨w.heap.size, 1, none⟩ = some SA ∧ W0.cell? ⟨w.heap.size, 2, none⟩ = some SB := by
    rw [← eW0]; exact three_alloc (three_alloc (three_newN w _ _ _ _) _) _
  have f0d : W0.drew.cell? ⟨w.heap.size, 0, none⟩ = some (.bool b) ∧ W0.drew.cell? ⟨w.heap.size, 1, none⟩ = some SA ∧ W0.drew.cell? ⟨w.heap.size, 2, none⟩ = some SB := f0
  have hb0d : Below w.heap.size w W0.drew := hb0.drew
  have D0 : Below W0.heap.size W0 W0.drew := (Below.refl _ _).drew
  have cO2 := fun (W : World) (o : Option Addr) (c : Nat) (h : Lies W o c (ints .u32 Q)) => of_any Q o c W h sB (by omega)
  have cC1 := fun (W : World) (o : Option Addr) (c : Nat) (h : Lies W o c (ints .u32 P)) => copy_any P o c W h (by omega)
  have cC2 := fun (W : World) (o : Option Addr) (c : Nat) (h : Lies W o c (ints .u32 Q)) => copy_any Q o c W h (by omega)
  have lQ : 0 < (nb (val Q)).length := by rw [nb_pos h0]; simp
  have lQz : (((nb (val Q)).length : Int) == 0) = false := by rw [beq_eq_false_iff_ne]; omega
  have cM := fun (W : World) (o o' : Option Addr) (c c' : Nat) (h : Lies W o c (ints .u32 P)) (h' : Lies W o' c' (ints .u32 Q)) => make_any b P Q o o' c c' W h h' sA sB (by omega) (by omega) h0
  obtain ⟨b2, eb2⟩ : ∃ x, (b && decide (val P / Nat.gcd (val P) (val Q) ≠ 0)) = x := ⟨_, rfl⟩
  obtain ⟨n, en⟩ : ∃ x, val P / Nat.gcd (val P) (val Q) = x := ⟨_, rfl⟩
  obtain ⟨d, ed⟩ : ∃ x, val Q / Nat.gcd (val P) (val Q) = x := ⟨_, rfl⟩
  have EN : Hid ((b && decide (val P / Nat.gcd (val P) (val Q) ≠ 0)) = b2 ∧ val P / Nat.gcd (val P) (val Q) = n ∧ val Q / Nat.gcd (val P) (val Q) = d) := ⟨eb2, en, ed⟩
  rw [eb2, en, ed] at cM ⊢
  have EW : Hid (((w.alloc (.cells #[.bool b, SA, SB] 24)).alloc (.cells #[.bool false, .int .u64 0, .int .u64 0, .pointer none] 28)).alloc (.cells #[.bool false, .slice none 0 0, .slice none 0 0] 31) = W0) := eW0
  clear eb2 en ed eW0 z1 z2
  go_enter Tryz.func4, Tryz.ntmps4
  go_wp2
  rw [EW.out]
  go_region_held3 (fun w' => w'.cell? ⟨w.heap.size, 0, none⟩ = some (.bool b) ∧ w'.cell? ⟨w.heap.size, 1, none⟩ = some SA ∧ w'.cell? ⟨w.heap.size, 2, none⟩ = some SB)
    (first | with_reducible exact f0d | with_reducible exact three_kept (by assumption) (by assumption)) (first
    | (go_at_call_of 12 SA; refine (cF1 _ ?_).mono ?_; exact hb0d; rintro e w2 ⟨o2, c2, rfl, hown2, hb2⟩; have C2 := bt D0 hb2)
    | (go_at_call_of 12 SB; refine (cF2 _ ?_).mono ?_; exact bt hb0 C2; rintro e w3 ⟨o3, c3, rfl, hown3, hb3⟩; have C3 := bt C2 hb3))
  go_wp2_with (go_at_call 13; refine (cO2 _ _ _ (lies_of_owns hown3)).mono ?_; rintro e w4 ⟨o4, c4, rfl, hown4, hb4⟩; have C4 := bt C3 hb4)
  have RP := keep (keep hown2 hb3) hb4
  have RQ := keep hown3 hb4
  have f4 := three_kept f0 C4
  have f4d : w4.drew.cell? ⟨w.heap.size, 0, none⟩ = some (.bool b) ∧ w4.drew.cell? ⟨w.heap.size, 1, none⟩ = some SA ∧ w4.drew.cell? ⟨w.heap.size, 2, none⟩ = some SB := f4
  have f4z := three_alloc f4 (.cells #[.bool false, .int .u64 0, .int .u64 0, .pointer none] 28)
  have f4zd : (w4.alloc (.cells #[.bool false, .int .u64 0, .int .u64 0, .pointer none] 28)).drew.cell? ⟨w.heap.size, 0, none⟩ = some (.bool b) ∧ (w4.alloc (.cells #[.bool false, .int .u64 0, .int .u64 0, .pointer none] 28)).drew.cell? ⟨w.heap.size, 1, none⟩ = some SA ∧ (w4.alloc (.cells #[.bool false, .int .u64 0, .int .u64 0, .pointer none] 28)).drew.cell? ⟨w.heap.size, 2, none⟩ = some SB := f4z
  have D4 : Below w4.heap.size w4 w4.drew := (Below.refl _ _).drew
  have Dz : Below w4.heap.size w4 (w4.alloc (.cells #[.bool false, .int .u64 0, .int .u64 0, .pointer none] 28)).drew := ((Below.refl _ _).alloc (Nat.le_refl _) _).drew
  have kz : (w4.alloc (.cells #[.bool false, .int .u64 0, .int .u64 0, .pointer none] 28)).drew.heap[w4.heap.size]? = some (box4 (.bool false) (.int .u64 0) (.int .u64 0) (.pointer none)) := boxc_new _
  have ltz : w4.heap.size < (w4.alloc (.cells #[.bool false, .int .u64 0, .int .u64 0, .pointer none] 28)).drew.heap.size := alloc_lt _ _
  have RPd := keep RP D4
  have RPz := keep RP Dz
  clear hown2 hown3 hown4 hb2 hb3 hb4 C2 C3 f4z
  go_cut [6, 7] from 19 to 28 (fun v6 v7 wx => ∃ (gr : Nat) (VA VL : Int) (vp : Option Addr), v6 = .pointer (some ⟨gr, 0, none⟩) ∧ v7 = .bool true ∧ Hid (Rlies wx gr b2 n d VA VL vp) ∧ Hid (Below w4.heap.size w4 wx) ∧ Hid (w4.heap.size ≤ gr))
  case first =>
    go_region_held3 (fun w' => w'.cell? ⟨w.heap.size, 0, none⟩ = some (.bool b) ∧ w'.cell? ⟨w.heap.size, 1, none⟩ = some SA ∧ w'.cell? ⟨w.heap.size, 2, none⟩ = some SB)
      (first | with_reducible exact f4d | with_reducible exact f4zd | with_reducible exact s7 | with_reducible exact three_alloc s7 _ | with_reducible exact three_kept (by assumption) (by assumption) | with_reducible exact three_alloc (by assumption) _ | with_reducible exact three_set4 SAS kr7 (by assumption)) (first
      | (go_at_call_of 15 (Value.slice o2 P.length c2); refine (cC1 _ _ _ ?_).mono ?_; (first | with_reducible exact lies_of_owns RPd | with_reducible exact lies_of_owns RPz); rintro e w5 ⟨o5, c5, rfl, hown5, hb5⟩; (first | with_reducible have H5 := bt D4 hb5 | with_reducible have H5 := bt Dz hb5); (first | with_reducible have kr5 := box_kept kz hb5 ltz | skip); have RQ5 := keep RQ H5)
      | (go_at_call_of 15 (Value.slice o3 Q.length c3); refine (cC2 _ _ _ ?_).mono ?_; (first | with_reducible exact lies_of_owns RQ5 | with_reducible exact (lies_of_owns RQ5).alloc _); rintro e w6 ⟨o6, c6, rfl, hown6, hb6⟩; (first | with_reducible have H6 := bt H5 hb6 | with_reducible have H6 := bt (H5.alloc H5.size _) hb6); (first | with_reducible have hown7 := keep hown5 hb6 | with_reducible have hown7 := keep (hown5.alloc _) hb6); (first | with_reducible have kr6 := box_kept (boxc_new w5) hb6 (alloc_lt _ _) | with_reducible have kr6 := box_kept kr5 hb6 (heap_lt kr5) | skip))
      | (go_at_call 14; refine (cM _ _ _ _ _ ?_ ?_).mono ?_; (first | with_reducible exact lies_of_owns hown7 | with_reducible exact (lies_of_owns hown7).alloc _); (first | with_reducible exact lies_of_owns hown6 | with_reducible exact (lies_of_owns hown6).alloc _); rintro e w7 ⟨v, rfl, hR, hb7⟩; with_reducible have s7 := three_kept (by assumption) hb7; (first | with_reducible have H7 := bt H6 hb7 | with_reducible have H7 := bt (H6.alloc H6.size _) hb7); obtain ⟨VA, VL, vp, rfl⟩ := hR.shape; (first | with_reducible have kr7 := box_kept (boxc_new w6) hb7 (alloc_lt _ _) | with_reducible have kr7 := box_kept kr6 hb7 (heap_lt kr6) | skip); (first | (obtain ⟨d0, d1, d2, d3⟩ := box0 kr7; have ff := boxF kr7) | skip)))
    all_goals go_wp2
    all_goals go_meet
    all_goals first
      | exact ⟨_, VA, VL, vp, rfl, rfl, Rlies.new hR, H7.alloc H7.size _, H7.size⟩
      | exact ⟨_, VA, VL, vp, rfl, rfl, Rlies.set hR kr7, box_below H7 H6.size _ _ _ _, H6.size⟩
      | exact ⟨_, VA, VL, vp, rfl, rfl, Rlies.set hR kr7, box_below H7 H5.size _ _ _ _, H5.size⟩
      | exact ⟨_, VA, VL, vp, rfl, rfl, Rlies.set hR kr7, box_below H7 (Nat.le_refl _) _ _ _ _, Nat.le_refl _⟩
  case rest =>
    obtain ⟨gr, VA, VL, vp, rfl, rfl, HR, HB, HG⟩ := hcut
    have bP := bits8 P sA lA
    have bQ := bits8 Q sB lB
    have cO1 := fun (W : World) (o : Option Addr) (c : Nat) (h : Lies W o c (ints .u32 P)) => of_any P o c W h sA (by omega)
    have cRO := fun (W : World) (o o' : Option Addr) (c c' : Nat) (h : W.ownsRow 0 4 1 (.slice o (nb (val P)).length c) (nb (val P)).length (bools (nb (val P)))) (h' : W.ownsRow 0 4 1 (.slice o' (nb (val Q)).length c') (nb (val Q)).length (bools (nb (val Q)))) => rof_any b (val P) (val Q) o o' c c' W h h' (by omega) (by omega) h0
    rw [EN.out.1, EN.out.2.1, EN.out.2.2] at cRO
    have C5 := bt C4 HB.out
    have s4 := C4.size
    have kk1 := box_kept k1 C5 (by omega)
    have kk2 := box_kept k2 C5 (by omega)
    have fc := three_kept f4 HB.out
    have RPc := keep RP HB.out
    have RQc := keep RQ HB.out
    have Dc : Below wc.heap.size wc wc.drew := (Below.refl _ _).drew
    have hgr := HG.out
    have ne1 : gr ≠ w.heap.size + 1 := by omega
    have ne2 : w.heap.size ≠ w.heap.size + 1 := by omega
    have ne3 : gr ≠ w.heap.size + 1 + 1 := by omega
    have ne4 : w.heap.size ≠ w.heap.size + 1 + 1 := by omega
    have ne5 : w.heap.size + 1 + 1 ≠ w.heap.size + 1 := by omega
    have ne6 : w.heap.size + 1 ≠ w.heap.size + 1 + 1 := by omega
    obtain ⟨G1, eG1⟩ : ∃ G, w.heap.size + 1 = G := ⟨_, rfl⟩
    obtain ⟨G2, eG2⟩ : ∃ G, w.heap.size + 1 + 1 = G := ⟨_, rfl⟩
    rw [eG2, eG1] at ne5
    rw [eG1] at kk1 ne1 ne2
    rw [eG2] at kk2 ne3 ne4
    have s7 : wc.drew.cell? ⟨gr, 0, none⟩ = some (.bool b2) ∧ wc.drew.cell? ⟨gr, 1, none⟩ = some (.int .u64 VA) ∧ wc.drew.cell? ⟨gr, 2, none⟩ = some (.int .u64 VL) ∧ wc.drew.cell? ⟨gr, 3, none⟩ = some (.pointer vp) ∧ wc.drew.cell? ⟨w.heap.size, 0, none⟩ = some (.bool b) := by
      obtain ⟨x1, x2, x3, x4⟩ := box0 HR.out.box
      exact ⟨x1, x2, x3, x4, fc.1⟩
    have HK1 : Hid (wc.heap[G1]? = some (box4 (.bool false) (.int .u64 0) (.int .u64 0) (.pointer none))) := kk1
    have HK2 : Hid (wc.heap[G2]? = some (box3 (.bool false) (.slice none 0 0) (.slice none 0 0))) := kk2
    have HNE : Hid (gr ≠ G1 ∧ w.heap.size ≠ G1 ∧ gr ≠ G2 ∧ w.heap.size ≠ G2 ∧ G2 ≠ G1) := ⟨ne1, ne2, ne3, ne4, ne5⟩
    have HG12 : Hid (w.heap.size ≤ G1 ∧ w.heap.size ≤ G2 ∧ G1 ≠ G2) := ⟨by omega, by omega, by omega⟩
    have HBw : Hid (Below w.heap.size w wc) := bt hb0 C5
    clear bP bQ sA sB lA lB cF1 cF2 cC1 cC2 cM f0 f0d f4 f4d f4zd kz ltz RPd RPz D4 Dz hb0d D0 k1 k2 zW RP RQ fc hgr s4 kk1 kk2 ne1 ne2 ne3 ne4 ne5 ne6 C5 C4 hb0 EW HB HG
    go_wp2
    rw [eG2, eG1]
    clear eG1 eG2
    go_region_held3 (fun w' => w'.cell? ⟨gr, 0, none⟩ = some (.bool b2) ∧ w'.cell? ⟨gr, 1, none⟩ = some (.int .u64 VA) ∧ w'.cell? ⟨gr, 2, none⟩ = some (.int .u64 VL) ∧ w'.cell? ⟨gr, 3, none⟩ = some (.pointer vp) ∧ w'.cell? ⟨w.heap.size, 0, none⟩ = some (.bool b))
      (first | with_reducible exact s7 | with_reducible exact s8 | with_reducible exact s9 | with_reducible exact s10 | with_reducible exact s11 | with_reducible exact s12) (first
      | (go_at_call_of 13 (Value.slice o2 P.length c2); refine (cO1 _ _ _ ?_).mono ?_; exact lies_of_owns (keep RPc Dc); rintro e w8 ⟨o8, c8, rfl, hown8, hb8⟩; have E8 := bt Dc hb8; have s8 := five_kept s7 hb8)
      | (go_at_call_of 13 (Value.slice o3 Q.length c3); refine (cO2 _ _ _ ?_).mono ?_; exact lies_of_owns (keep RQc E8); rintro e w9 ⟨o9, c9, rfl, hown9, hb9⟩; have E9 := bt E8 hb9; have s9 := five_kept s8 hb9)
      | (go_at_call 18; refine (cRO _ _ _ _ _ ?_ ?_).mono ?_; exact owns_base (keep hown8 hb9) (Nat.zero_le _); exact owns_base hown9 (Nat.zero_le _); rintro e w10 ⟨q10, rfl, hq10, hb10⟩; have E10 := bt E9 hb10; have s10 := five_kept s9 hb10; obtain ⟨o11, c11, o12, c12, rfl, r11, r12⟩ := hq10; have m1 := box_kept HK1.out E10 (heap_lt HK1.out); have m2 := box_kept HK2.out E10 (heap_lt HK2.out); obtain ⟨d0, d1, d2, d3⟩ := box0 m1; have ff := boxF m1; have m3 := ((set4_off w10 G1 (.bool b2) (.int .u64 VA) (.int .u64 VL) (.pointer vp)).1 _ HNE.out.2.2.2.2).trans m2; obtain ⟨e0, e1, e2⟩ := box3_cells m3; have gg := box3F m3; have s11 := five_off ((set4_off w10 G1 (.bool b2) (.int .u64 VA) (.int .u64 VL) (.pointer vp)).1 _ HNE.out.1) ((set4_off w10 G1 (.bool b2) (.int .u64 VA) (.int .u64 VL) (.pointer vp)).1 _ HNE.out.2.1) s10; have s12 := five_off (set3_off _ G2 (.bool b2) (.slice o11 (nb n).length c11) (.slice o12 (nb d).length c12) _ HNE.out.2.2.1) (set3_off _ G2 (.bool b2) (.slice o11 (nb n).length c11) (.slice o12 (nb d).length c12) _ HNE.out.2.2.2.1) s11; have M1 : Hid (w10.heap[G1]? = some (box4 (.bool false) (.int .u64 0) (.int .u64 0) (.pointer none))) := m1; have M2 : Hid (w10.heap[G2]? = some (box3 (.bool false) (.slice none 0 0) (.slice none 0 0))) := m2; have HR1 : Hid (w10.ownsRow 0 4 1 (.slice o11 (nb n).length c11) (nb n).length (bools (nb n))) := r11; have HR2 : Hid (w10.ownsRow 0 4 1 (.slice o12 (nb d).length c12) (nb d).length (bools (nb d))) := r12; clear m1 m2 m3 r11 r12))
    all_goals go_wp2
    have E10' : Below wc.heap.size wc w10 := E10
    have fin := both_end HR.out E10' HBw.out M1.out M2.out HG12.out HR1.out HR2.out
    generalize ((((((w10.setCell _ _).setCell _ _).setCell _ _).setCell _ _).setCell _ _).setCell _ _).setCell _ _ = WF at *
    obtain ⟨x1, x2, x3, x4⟩ := fin
    obtain ⟨y0, y1, y2, y3⟩ := box0 x1
    obtain ⟨z0, z1, z2⟩ := box3_cells x2
    refine bodyPost_ret (v := .tuple #[.agg #[.bool b2, .int .u64 VA, .int .u64 VL, .pointer vp], .agg #[.bool b2, .slice o11 (nb n).length c11, .slice o12 (nb d).length c12]]) ?_ rfl ?_
    · simp [results, go_sem, y0, y1, y2, y3, z0, z1, z2]
    · exact ⟨_, _, rfl, x3.1, x3.2, x4⟩
end Go.Proofs.YtefckmkcbgckfaaGreatDoor.BoN

/- What the statements of rat lean on: Both, where what is below the bar is nought. -/
namespace Go.Proofs.YtefckmkcbgckfaaGreatDoor.BoZ
open Go.RowKit Mem LimbNum Limb1 Limb2 Limb4 RefL Words DivOne RatL RatM RatN RatF RefR RefT RefU RefI Law5 Aw5 Mk5 Bo5 BoN

set_option maxRecDepth 20000 in
set_option maxHeartbeats 2000000 in
theorem both_z (b : Bool) (A B Q : List Nat) (eQ : Q = [1]) (ao bo : Option Addr) (cap1 cap2 : Nat) (w : World) (hl : Lies w ao cap1 (ints .u32 A)) (hl2 : Lies w bo cap2 (ints .u32 B)) (hA : Small A) (hB : Small B) (hz : val (B.take 8) = 0) :
    Calls Tryz.prog 4 #[.agg #[.bool b, .slice ao A.length cap1, .slice bo B.length cap2]] w fun e w' => ∃ v q, e = .returned (.tuple #[v, q]) ∧
      IsRat w' v (b && decide (val (A.take 8) / Nat.gcd (val (A.take 8)) (val Q) ≠ 0)) (val (A.take 8) / Nat.gcd (val (A.take 8)) (val Q)) (val Q / Nat.gcd (val (A.take 8)) (val Q)) ∧
      IsRef w' q (b && decide (val (A.take 8) / Nat.gcd (val (A.take 8)) (val Q) ≠ 0)) (val (A.take 8) / Nat.gcd (val (A.take 8)) (val Q)) (val Q / Nat.gcd (val (A.take 8)) (val Q)) ∧ Below w.heap.size w w' := by
  have cF1 := fun (W : World) (hb : Below w.heap.size w W) => few5 A ao cap1 W (hl.below hb (Nat.le_refl _))
  have cF2 := fun (W : World) (hb : Below w.heap.size w W) => few5 B bo cap2 W (hl2.below hb (Nat.le_refl _))
  have sA := small_take8 A hA
  have sQB := small_take8 B hB
  have lA : (A.take 8).length ≤ 8 := by simp; omega
  have lQB : (B.take 8).length ≤ 8 := by simp; omega
  have sB : Small Q := by rw [eQ]; intro x hx; simp at hx; omega
  have hQl : Q.length = 1 := by rw [eQ]; rfl
  have lB : Q.length ≤ 8 := by omega
  have h0 : val Q ≠ 0 := by rw [eQ]; decide
  clear hl hl2 hA hB
  have SAS : ∃ o n d, (.slice ao A.length cap1 : Value) = .slice o n d := ⟨_, _, _, rfl⟩
  obtain ⟨SA, eSA⟩ : ∃ v : Value, .slice ao A.length cap1 = v := ⟨_, rfl⟩
  obtain ⟨SB, eSB⟩ : ∃ v : Value, .slice bo B.length cap2 = v := ⟨_, rfl⟩
  rw [eSA] at cF1 SAS
  rw [eSB] at cF2
  rw [eSA, eSB]
  clear eSA eSB
  generalize A.take 8 = P at *
  generalize B.take 8 = QB at *
  obtain ⟨W0, eW0⟩ : ∃ W0 : World, ((w.alloc (.cells #[.bool b, SA, SB] 24)).alloc (.cells #[.bool false, .int .u64 0, .int .u64 0, .pointer none] 28)).alloc (.cells #[.bool false, .slice none 0 0, .slice none 0 0] 31) = W0 := ⟨_, rfl⟩
  have hb0 : Below w.heap.size w W0 := by rw [← eW0]; exact (((Below.refl _ _).alloc (Nat.le_refl _) _).alloc (by simp) _).alloc (by simp; omega) _
  have z1 : (w.alloc (.cells #[.bool b, SA, SB] 24)).heap.size = w.heap.size + 1 := by simp
  have z2 : ((w.alloc (.cells #[.bool b, SA, SB] 24)).alloc (.cells #[.bool false, .int .u64 0, .int .u64 0, .pointer none] 28)).heap.size = w.heap.size + 1 + 1 := by simp
  have k1 : W0.heap[w.heap.size + 1]? = some (box4 (.bool false) (.int .u64 0) (.int .u64 0) (.pointer none)) := by rw [← eW0, heap_alloc_old _ _ (by omega), ← z1]; exact boxc_new _
  have k2 : W0.heap[w.heap.size + 1 + 1]? = some (box3 (.bool false) (.slice none 0 0) (.slice none 0 0)) := by rw [← eW0, ← z2]; exact box3_new _ _ _ _
  have zW : w.heap.size + 3 ≤ W0.heap.size := by rw [← eW0]; simp
  have f0 : W0.cell? ⟨w.heap.size, 0, none⟩ = some (.bool b) ∧ W0.cell? ⟨w.heap.size, 1, none⟩ = some SA ∧ W0.cell? ⟨w.heap.size, 2, none⟩ = some SB := by
    rw [← eW0]; exact three_alloc (three_alloc (three_newN w _ _ _ _) _) _
  have f0d : W0.drew.cell? ⟨w.heap.size, 0, none⟩ = some (.bool b) ∧ W0.drew.cell? ⟨w.heap.size, 1, none⟩ = some SA ∧ W0.drew.cell? ⟨w.heap.size, 2, none⟩ = some SB := f0
  have hb0d : Below w.heap.size w W0.drew := hb0.drew
  have D0 : Below W0.heap.size W0 W0.drew := (Below.refl _ _).drew
  have cOz := fun (W : World) (o : Option Addr) (c : Nat) (h : Lies W o c (ints .u32 QB)) => of_any QB o c W h sQB (by omega)
  rw [hz, nb_zero] at cOz
  simp only [List.length_nil] at cOz
  have cO2 := fun (W : World) (o : Option Addr) (c : Nat) (h : Lies W o c (ints .u32 Q)) => of_any Q o c W h sB (by omega)
  have cC1 := fun (W : World) (o : Option Addr) (c : Nat) (h : Lies W o c (ints .u32 P)) => copy_any P o c W h (by omega)
  have cC2 := fun (W : World) (o : Option Addr) (c : Nat) (h : Lies W o c (ints .u32 Q)) => copy_any Q o c W h (by omega)
  have lQ : 0 < (nb (val Q)).length := by rw [nb_pos h0]; simp
  have cM := fun (W : World) (o o' : Option Addr) (c c' : Nat) (h : Lies W o c (ints .u32 P)) (h' : Lies W o' c' (ints .u32 Q)) => make_any b P Q o o' c c' W h h' sA sB (by omega) (by omega) h0
  obtain ⟨b2, eb2⟩ : ∃ x, (b && decide (val P / Nat.gcd (val P) (val Q) ≠ 0)) = x := ⟨_, rfl⟩
  obtain ⟨n, en⟩ : ∃ x, val P / Nat.gcd (val P) (val Q) = x := ⟨_, rfl⟩
  obtain ⟨d, ed⟩ : ∃ x, val Q / Nat.gcd (val P) (val Q) = x := ⟨_, rfl⟩
  have EN : Hid ((b && decide (val P / Nat.gcd (val P) (val Q) ≠ 0)) = b2 ∧ val P / Nat.gcd (val P) (val Q) = n ∧ val Q / Nat.gcd (val P) (val Q) = d) := ⟨eb2, en, ed⟩
  rw [eb2, en, ed] at cM ⊢
  rw [hQl] at cM cC2 cO2
  have EW : Hid (((w.alloc (.cells #[.bool b, SA, SB] 24)).alloc (.cells #[.bool false, .int .u64 0, .int .u64 0, .pointer none] 28)).alloc (.cells #[.bool false, .slice none 0 0, .slice none 0 0] 31) = W0) := eW0
  clear eb2 en ed eW0 z1 z2
  go_enter Tryz.func4, Tryz.ntmps4
  go_wp2
  rw [EW.out]
  go_region_held3 (fun w' => w'.cell? ⟨w.heap.size, 0, none⟩ = some (.bool b) ∧ w'.cell? ⟨w.heap.size, 1, none⟩ = some SA ∧ w'.cell? ⟨w.heap.size, 2, none⟩ = some SB)
    (first | with_reducible exact f0d | with_reducible exact three_kept (by assumption) (by assumption)) (first
    | (go_at_call_of 12 SA; refine (cF1 _ ?_).mono ?_; exact hb0d; rintro e w2 ⟨o2, c2, rfl, hown2, hb2⟩; have C2 := bt D0 hb2)
    | (go_at_call_of 12 SB; refine (cF2 _ ?_).mono ?_; exact bt hb0 C2; rintro e w3 ⟨o3, c3, rfl, hown3, hb3⟩; have C3 := bt C2 hb3))
  go_upto_region 4 with (go_at_call 13; refine (cOz _ _ _ (lies_of_owns hown3)).mono ?_; rintro e w4a ⟨o4, c4, rfl, hown4, hb4⟩; have C4a := bt C3 hb4)
  have RQ : (w4a.alloc (.cells #[.int .u32 1] 48)).ownsRow 0 48 1 (.slice (some ⟨w4a.heap.size, 0, none⟩) 1 1) 1 (ints .u32 Q) := by rw [eQ]; exact World.ownsRow_lit (base := 0) (e := 48) (size := 1) w4a #[.int .u32 1] 1 (Nat.zero_le _) (by decide) rfl
  have bz : Below w4a.heap.size w4a (w4a.alloc (.cells #[.int .u32 1] 48)) := (Below.refl _ _).alloc (Nat.le_refl _) _
  have C4 := bt C4a bz
  have RP := keep (keep (keep hown2 hb3) hb4) bz
  generalize w4a.alloc (.cells #[.int .u32 1] 48) = w4 at *
  generalize (some ⟨w4a.heap.size, 0, none⟩ : Option Addr) = oQ at *
  clear bz C4a eQ hQl hz
  have f4 := three_kept f0 C4
  have f4d : w4.drew.cell? ⟨w.heap.size, 0, none⟩ = some (.bool b) ∧ w4.drew.cell? ⟨w.heap.size, 1, none⟩ = some SA ∧ w4.drew.cell? ⟨w.heap.size, 2, none⟩ = some SB := f4
  have f4z := three_alloc f4 (.cells #[.bool false, .int .u64 0, .int .u64 0, .pointer none] 28)
  have f4zd : (w4.alloc (.cells #[.bool false, .int .u64 0, .int .u64 0, .pointer none] 28)).drew.cell? ⟨w.heap.size, 0, none⟩ = some (.bool b) ∧ (w4.alloc (.cells #[.bool false, .int .u64 0, .int .u64 0, .pointer none] 28)).drew.cell? ⟨w.heap.size, 1, none⟩ = some SA ∧ (w4.alloc (.cells #[.bool false, .int .u64 0, .int .u64 0, .pointer none] 28)).drew.cell? ⟨w.heap.size, 2, none⟩ = some SB := f4z
  have D4 : Below w4.heap.size w4 w4.drew := (Below.refl _ _).drew
  have Dz : Below w4.heap.size w4 (w4.alloc (.cells #[.bool false, .int .u64 0, .int .u64 0, .pointer none] 28)).drew := ((Below.refl _ _).alloc (Nat.le_refl _) _).drew
  have kz : (w4.alloc (.cells #[.bool false, .int .u64 0, .int .u64 0, .pointer none] 28)).drew.heap[w4.heap.size]? = some (box4 (.bool false) (.int .u64 0) (.int .u64 0) (.pointer none)) := boxc_new _
  have ltz : w4.heap.size < (w4.alloc (.cells #[.bool false, .int .u64 0, .int .u64 0, .pointer none] 28)).drew.heap.size := alloc_lt _ _
  have RPd := keep RP D4
  have RPz := keep RP Dz
  clear hown2 hown3 hown4 hb2 hb3 hb4 C2 C3 f4z cOz
  go_cut [6, 7] from 19 to 28 (fun v6 v7 wx => ∃ (gr : Nat) (VA VL : Int) (vp : Option Addr), v6 = .pointer (some ⟨gr, 0, none⟩) ∧ v7 = .bool true ∧ Hid (Rlies wx gr b2 n d VA VL vp) ∧ Hid (Below w4.heap.size w4 wx) ∧ Hid (w4.heap.size ≤ gr))
  case first =>
    go_region_held3 (fun w' => w'.cell? ⟨w.heap.size, 0, none⟩ = some (.bool b) ∧ w'.cell? ⟨w.heap.size, 1, none⟩ = some SA ∧ w'.cell? ⟨w.heap.size, 2, none⟩ = some SB)
      (first | with_reducible exact f4d | with_reducible exact f4zd | with_reducible exact s7 | with_reducible exact three_alloc s7 _ | with_reducible exact three_kept (by assumption) (by assumption) | with_reducible exact three_alloc (by assumption) _ | with_reducible exact three_set4 SAS kr7 (by assumption)) (first
      | (go_at_call_of 15 (Value.slice o2 P.length c2); refine (cC1 _ _ _ ?_).mono ?_; (first | with_reducible exact lies_of_owns RPd | with_reducible exact lies_of_owns RPz); rintro e w5 ⟨o5, c5, rfl, hown5, hb5⟩; (first | with_reducible have H5 := bt D4 hb5 | with_reducible have H5 := bt Dz hb5); (first | with_reducible have kr5 := box_kept kz hb5 ltz | skip); have RQ5 := keep RQ H5)
      | (go_at_call_of 15 (Value.slice oQ 1 1); refine (cC2 _ _ _ ?_).mono ?_; (first | with_reducible exact lies_of_owns RQ5 | with_reducible exact (lies_of_owns RQ5).alloc _); rintro e w6 ⟨o6, c6, rfl, hown6, hb6⟩; (first | with_reducible have H6 := bt H5 hb6 | with_reducible have H6 := bt (H5.alloc H5.size _) hb6); (first | with_reducible have hown7 := keep hown5 hb6 | with_reducible have hown7 := keep (hown5.alloc _) hb6); (first | with_reducible have kr6 := box_kept (boxc_new w5) hb6 (alloc_lt _ _) | with_reducible have kr6 := box_kept kr5 hb6 (heap_lt kr5) | skip))
      | (go_at_call 14; refine (cM _ _ _ _ _ ?_ ?_).mono ?_; (first | with_reducible exact lies_of_owns hown7 | with_reducible exact (lies_of_owns hown7).alloc _); (first | with_reducible exact lies_of_owns hown6 | with_reducible exact (lies_of_owns hown6).alloc _); rintro e w7 ⟨v, rfl, hR, hb7⟩; with_reducible have s7 := three_kept (by assumption) hb7; (first | with_reducible have H7 := bt H6 hb7 | with_reducible have H7 := bt (H6.alloc H6.size _) hb7); obtain ⟨VA, VL, vp, rfl⟩ := hR.shape; (first | with_reducible have kr7 := box_kept (boxc_new w6) hb7 (alloc_lt _ _) | with_reducible have kr7 := box_kept kr6 hb7 (heap_lt kr6) | skip); (first | (obtain ⟨d0, d1, d2, d3⟩ := box0 kr7; have ff := boxF kr7) | skip)))
    all_goals go_wp2
    all_goals go_meet
    all_goals first
      | exact ⟨_, VA, VL, vp, rfl, rfl, Rlies.new hR, H7.alloc H7.size _, H7.size⟩
      | exact ⟨_, VA, VL, vp, rfl, rfl, Rlies.set hR kr7, box_below H7 H6.size _ _ _ _, H6.size⟩
      | exact ⟨_, VA, VL, vp, rfl, rfl, Rlies.set hR kr7, box_below H7 H5.size _ _ _ _, H5.size⟩
      | exact ⟨_, VA, VL, vp, rfl, rfl, Rlies.set hR kr7, box_below H7 (Nat.le_refl _) _ _ _ _, Nat.le_refl _⟩
  case rest =>
    obtain ⟨gr, VA, VL, vp, rfl, rfl, HR, HB, HG⟩ := hcut
    have bP := bits8 P sA lA
    have bQ := bits8 Q sB lB
    have cO1 := fun (W : World) (o : Option Addr) (c : Nat) (h : Lies W o c (ints .u32 P)) => of_any P o c W h sA (by omega)
    have cRO := fun (W : World) (o o' : Option Addr) (c c' : Nat) (h : W.ownsRow 0 4 1 (.slice o (nb (val P)).length c) (nb (val P)).length (bools (nb (val P)))) (h' : W.ownsRow 0 4 1 (.slice o' (nb (val Q)).length c') (nb (val Q)).length (bools (nb (val Q)))) => rof_any b (val P) (val Q) o o' c c' W h h' (by omega) (by omega) h0
    rw [EN.out.1, EN.out.2.1, EN.out.2.2] at cRO
    have C5 := bt C4 HB.out
    have s4 := C4.size
    have kk1 := box_kept k1 C5 (by omega)
    have kk2 := box_kept k2 C5 (by omega)
    have fc := three_kept f4 HB.out
    have RPc := keep RP HB.out
    have RQc := keep RQ HB.out
    have Dc : Below wc.heap.size wc wc.drew := (Below.refl _ _).drew
    have hgr := HG.out
    have ne1 : gr ≠ w.heap.size + 1 := by omega
    have ne2 : w.heap.size ≠ w.heap.size + 1 := by omega
    have ne3 : gr ≠ w.heap.size + 1 + 1 := by omega
    have ne4 : w.heap.size ≠ w.heap.size + 1 + 1 := by omega
    have ne5 : w.heap.size + 1 + 1 ≠ w.heap.size + 1 := by omega
    have ne6 : w.heap.size + 1 ≠ w.heap.size + 1 + 1 := by omega
    obtain ⟨G1, eG1⟩ : ∃ G, w.heap.size + 1 = G := ⟨_, rfl⟩
    obtain ⟨G2, eG2⟩ : ∃ G, w.heap.size + 1 + 1 = G := ⟨_, rfl⟩
    rw [eG2, eG1] at ne5
    rw [eG1] at kk1 ne1 ne2
    rw [eG2] at kk2 ne3 ne4
    have s7 : wc.drew.cell? ⟨gr, 0, none⟩ = some (.bool b2) ∧ wc.drew.cell? ⟨gr, 1, none⟩ = some (.int .u64 VA) ∧ wc.drew.cell? ⟨gr, 2, none⟩ = some (.int .u64 VL) ∧ wc.drew.cell? ⟨gr, 3, none⟩ = some (.pointer vp) ∧ wc.drew.cell? ⟨w.heap.size, 0, none⟩ = some (.bool b) := by
      obtain ⟨x1, x2, x3, x4⟩ := box0 HR.out.box
      exact ⟨x1, x2, x3, x4, fc.1⟩
    have HK1 : Hid (wc.heap[G1]? = some (box4 (.bool false) (.int .u64 0) (.int .u64 0) (.pointer none))) := kk1
    have HK2 : Hid (wc.heap[G2]? = some (box3 (.bool false) (.slice none 0 0) (.slice none 0 0))) := kk2
    have HNE : Hid (gr ≠ G1 ∧ w.heap.size ≠ G1 ∧ gr ≠ G2 ∧ w.heap.size ≠ G2 ∧ G2 ≠ G1) := ⟨ne1, ne2, ne3, ne4, ne5⟩
    have HG12 : Hid (w.heap.size ≤ G1 ∧ w.heap.size ≤ G2 ∧ G1 ≠ G2) := ⟨by omega, by omega, by omega⟩
    have HBw : Hid (Below w.heap.size w wc) := bt hb0 C5
    clear bP bQ sA sB lA lB cF1 cF2 cC1 cC2 cM f0 f0d f4 f4d f4zd kz ltz RPd RPz D4 Dz hb0d D0 k1 k2 zW RP RQ fc hgr s4 kk1 kk2 ne1 ne2 ne3 ne4 ne5 ne6 C5 C4 hb0 EW HB HG
    go_wp2
    rw [eG2, eG1]
    clear eG1 eG2
    go_region_held3 (fun w' => w'.cell? ⟨gr, 0, none⟩ = some (.bool b2) ∧ w'.cell? ⟨gr, 1, none⟩ = some (.int .u64 VA) ∧ w'.cell? ⟨gr, 2, none⟩ = some (.int .u64 VL) ∧ w'.cell? ⟨gr, 3, none⟩ = some (.pointer vp) ∧ w'.cell? ⟨w.heap.size, 0, none⟩ = some (.bool b))
      (first | with_reducible exact s7 | with_reducible exact s8 | with_reducible exact s9 | with_reducible exact s10 | with_reducible exact s11 | with_reducible exact s12) (first
      | (go_at_call_of 13 (Value.slice o2 P.length c2); refine (cO1 _ _ _ ?_).mono ?_; exact lies_of_owns (keep RPc Dc); rintro e w8 ⟨o8, c8, rfl, hown8, hb8⟩; have E8 := bt Dc hb8; have s8 := five_kept s7 hb8)
      | (go_at_call_of 13 (Value.slice oQ 1 1); refine (cO2 _ _ _ ?_).mono ?_; exact lies_of_owns (keep RQc E8); rintro e w9 ⟨o9, c9, rfl, hown9, hb9⟩; have E9 := bt E8 hb9; have s9 := five_kept s8 hb9)
      | (go_at_call 18; refine (cRO _ _ _ _ _ ?_ ?_).mono ?_; exact owns_base (keep hown8 hb9) (Nat.zero_le _); exact owns_base hown9 (Nat.zero_le _); rintro e w10 ⟨q10, rfl, hq10, hb10⟩; have E10 := bt E9 hb10; have s10 := five_kept s9 hb10; obtain ⟨o11, c11, o12, c12, rfl, r11, r12⟩ := hq10; have m1 := box_kept HK1.out E10 (heap_lt HK1.out); have m2 := box_kept HK2.out E10 (heap_lt HK2.out); obtain ⟨d0, d1, d2, d3⟩ := box0 m1; have ff := boxF m1; have m3 := ((set4_off w10 G1 (.bool b2) (.int .u64 VA) (.int .u64 VL) (.pointer vp)).1 _ HNE.out.2.2.2.2).trans m2; obtain ⟨e0, e1, e2⟩ := box3_cells m3; have gg := box3F m3; have s11 := five_off ((set4_off w10 G1 (.bool b2) (.int .u64 VA) (.int .u64 VL) (.pointer vp)).1 _ HNE.out.1) ((set4_off w10 G1 (.bool b2) (.int .u64 VA) (.int .u64 VL) (.pointer vp)).1 _ HNE.out.2.1) s10; have s12 := five_off (set3_off _ G2 (.bool b2) (.slice o11 (nb n).length c11) (.slice o12 (nb d).length c12) _ HNE.out.2.2.1) (set3_off _ G2 (.bool b2) (.slice o11 (nb n).length c11) (.slice o12 (nb d).length c12) _ HNE.out.2.2.2.1) s11; have M1 : Hid (w10.heap[G1]? = some (box4 (.bool false) (.int .u64 0) (.int .u64 0) (.pointer none))) := m1; have M2 : Hid (w10.heap[G2]? = some (box3 (.bool false) (.slice none 0 0) (.slice none 0 0))) := m2; have HR1 : Hid (w10.ownsRow 0 4 1 (.slice o11 (nb n).length c11) (nb n).length (bools (nb n))) := r11; have HR2 : Hid (w10.ownsRow 0 4 1 (.slice o12 (nb d).length c12) (nb d).length (bools (nb d))) := r12; clear m1 m2 m3 r11 r12))
    all_goals go_wp2
    have E10' : Below wc.heap.size wc w10 := E10
    have fin := both_end HR.out E10' HBw.out M1.out M2.out HG12.out HR1.out HR2.out
    generalize ((((((w10.setCell _ _).setCell _ _).setCell _ _).setCell _ _).setCell _ _).setCell _ _).setCell _ _ = WF at *
    obtain ⟨x1, x2, x3, x4⟩ := fin
    obtain ⟨y0, y1, y2, y3⟩ := box0 x1
    obtain ⟨z0, z1, z2⟩ := box3_cells x2
    refine bodyPost_ret (v := .tuple #[.agg #[.bool b2, .int .u64 VA, .int .u64 VL, .pointer vp], .agg #[.bool b2, .slice o11 (nb n).length c11, .slice o12 (nb d).length c12]]) ?_ rfl ?_
    · simp [results, go_sem, y0, y1, y2, y3, z0, z1, z2]
    · exact ⟨_, _, rfl, x3.1, x3.2, x4⟩
end Go.Proofs.YtefckmkcbgckfaaGreatDoor.BoZ
