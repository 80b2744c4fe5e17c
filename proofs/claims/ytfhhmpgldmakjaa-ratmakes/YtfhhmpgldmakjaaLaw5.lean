/- What the statements of rat lean on: few, Is, awake. -/
import Derived.Test.YtfhhmpgldmakjaaRatF
import Derived.Test.YtfhhmpgldmakjaaRefR
namespace Go.Proofs.Ytfhhmpgldmakjaa.Law5
open Go.RowKit Mem LimbNum Limb1 Limb2 RefL Words RatL RatM RatN RatF RefR

theorem few5 (A : List Nat) (ao : Option Addr) (cap : Nat) (w : World) (h : Lies w ao cap (ints .u32 A)) :
    Calls Try.prog 10 #[.slice ao A.length cap] w fun e w' => ∃ ao' cap', e = .returned (.slice ao' (A.take 8).length cap') ∧ w'.ownsRow w.heap.size 77 1 (.slice ao' (A.take 8).length cap') (A.take 8).length (ints .u32 (A.take 8)) ∧ Below w.heap.size w w' := by
  have m1 := h.size
  have m2 := h.1
  have m3 := h.2.1
  rw [ints_length] at m1 m2
  unfold maxLen at m1 m3
  by_cases hl : 8 < A.length
  · have h3 := h.take 8
    rw [← ints_take] at h3
    have e : (A.take 8).length = 8 := by rw [List.length_take]; omega
    have cC := copy_any (A.take 8) ao cap w h3 (by omega)
    rw [e] at cC ⊢
    obtain ⟨b, off, rfl, _, _⟩ := h.2.2.2 (by rw [ints_length]; omega)
    have q1 : (8 : Int) < (A.length : Int) := by omega
    have q2 : (8 : Int) ≤ (cap : Int) := by omega
    clear h h3 e m1 m2 m3
    generalize A.take 8 = T at *
    generalize A.length = L at *
    go_enter Try.func10, Try.ntmps10
    go_wp2_with (go_at_call 52; refine cC.mono ?_; rintro e w2 ⟨o2, c2, rfl, hown2, hb2⟩)
    go_ret
    exact ⟨_, _, rfl, hown2, hb2⟩
  · have e : A.take 8 = A := List.take_of_length_le (by omega)
    rw [e]
    have cC := copy_any A ao cap w h (by omega)
    clear h e
    go_enter Try.func10, Try.ntmps10
    go_wp2_with (go_at_call 52; refine cC.mono ?_; rintro e w2 ⟨o2, c2, rfl, hown2, hb2⟩)
    go_ret
    exact ⟨_, _, rfl, hown2, hb2⟩
set_option maxRecDepth 20000 in
set_option maxHeartbeats 1000000 in
/-- Is: of the same number yes. -/
theorem is_yes (v q : Value) (b : Bool) (n d : Nat) (w : World) (h : IsRat w v b n d) (hq : IsRef w q b n d) (hn : (nb n).length ≤ 1000000) (hd : (nb d).length ≤ 1000000) :
    Calls Try.prog 14 #[v, q] w fun e w' => e = .returned (.bool true) ∧ Below w.heap.size w w' := by
  have kn : (nl n).length ≤ 1000000 := by
    have h1 := fromL_lt (nb n)
    rw [fromL_nb] at h1
    exact Nat.le_trans (nl_lt (nb n).length n (Nat.lt_of_lt_of_le h1 (Nat.pow_le_pow_left (by omega) _))) hn
  have kd : (nl d).length ≤ 1000000 := by
    have h1 := fromL_lt (nb d)
    rw [fromL_nb] at h1
    exact Nat.le_trans (nl_lt (nb d).length d (Nat.lt_of_lt_of_le h1 (Nat.pow_le_pow_left (by omega) _))) hd
  obtain ⟨A, L, p, rfl⟩ := h.shape
  obtain ⟨o1, c1, o2, c2, rfl, r1, r2⟩ := hq
  have hb0 : Below w.heap.size w ((w.alloc (.cells #[.bool b, .int .u64 A, .int .u64 L, .pointer p] 28)).alloc (.cells #[.bool b, .slice o1 (nb n).length c1, .slice o2 (nb d).length c2] 38)) := ((Below.refl _ _).alloc (Nat.le_refl _) _).alloc (by simp) _
  have z1 : (w.alloc (.cells #[.bool b, .int .u64 A, .int .u64 L, .pointer p] 28)).heap.size = w.heap.size + 1 := by simp
  have hk1 : ((w.alloc (.cells #[.bool b, .int .u64 A, .int .u64 L, .pointer p] 28)).alloc (.cells #[.bool b, .slice o1 (nb n).length c1, .slice o2 (nb d).length c2] 38)).heap[w.heap.size + 1]? = some (box3 (.bool b) (.slice o1 (nb n).length c1) (.slice o2 (nb d).length c2)) := by rw [← z1, heap_alloc_new]; rfl
  have cP := parts_any _ b n d _ (h.below hb0) (by omega) (by omega)
  have cT1 := fun (W : World) (hb : Below w.heap.size w W) => to_any (nb n) o1 c1 W (lies_of_owns (keep r1 hb)) (by omega)
  have cT2 := fun (W : World) (hb : Below w.heap.size w W) => to_any (nb d) o2 c2 W (lies_of_owns (keep r2 hb)) (by omega)
  rw [fromL_nb] at cT1 cT2
  have cS1 := fun (W : World) (o o' : Option Addr) (c c' : Nat) (h1 : Lies W o c (ints .u32 (nl n))) (h2 : Lies W o' c' (ints .u32 (nl n))) => same_any (nl n) (nl n) o o' c c' W h1 h2
  have cS2 := fun (W : World) (o o' : Option Addr) (c c' : Nat) (h1 : Lies W o c (ints .u32 (nl d))) (h2 : Lies W o' c' (ints .u32 (nl d))) => same_any (nl d) (nl d) o o' c c' W h1 h2
  simp only [decide_true] at cS1 cS2
  have hbb : (b == b) = true := by cases b <;> rfl
  clear h r1 r2 hn hd kn kd z1
  have t1 : True := trivial
  have t2 : True := trivial
  go_enter Try.func14, Try.ntmps14
  go_wp2_with (first
    | (go_at_call 22; refine cP.mono ?_; rintro e w1 ⟨o3, c3, o4, c4, rfl, hown3, hown4, hb1⟩; have H1 := bt hb0 hb1; have k1 := box_kept hk1 hb1 (by simp); obtain ⟨d0, d1, d2⟩ := box3_cells k1)
    | (go_at_call 25; have _t := t1; clear _t t1; refine (cT1 _ H1).mono ?_; rintro e w2 ⟨o5, c5, rfl, hown5, hb2⟩; have H2 := bt H1 hb2)
    | (go_at_call 24; have _t := t2; clear _t t2; refine (cS1 _ _ _ _ _ (lies_of_owns (keep hown3 hb2)) (lies_of_owns hown5)).mono ?_; rintro e w3 ⟨rfl, hb3⟩; have H3 := bt H2 hb3; have k3 := box_kept (box_kept k1 hb2 (by have := cell_lt d0; exact this)) hb3 (by have := hb2.size; have := cell_lt d0; omega); obtain ⟨e0, e1, e2⟩ := box3_cells k3)
    | (go_at_call 25; refine (cT2 _ H3).mono ?_; rintro e w4 ⟨o6, c6, rfl, hown6, hb4⟩; have H4 := bt H3 hb4)
    | (go_at_call 24; refine (cS2 _ _ _ _ _ (lies_of_owns (keep (keep (keep hown4 hb2) hb3) hb4)) (lies_of_owns hown6)).mono ?_; rintro e w5 ⟨rfl, hb5⟩; have H5 := bt H4 hb5))
  all_goals go_ret
  all_goals exact ⟨rfl, H5⟩
end Go.Proofs.Ytfhhmpgldmakjaa.Law5
