/- What the statements of rat lean on: awake. -/
import Derived.Test.YtfhhmpgldmakjaaLaw5
namespace Go.Proofs.Ytfhhmpgldmakjaa.Aw5
open Go.RowKit Mem LimbNum Limb1 Limb2 Limb4 RefL Words DivOne RatL RatM RatN RatF RefR Law5

set_option maxRecDepth 20000 in
set_option maxHeartbeats 1000000 in
theorem awake5 (w : World) :
    Calls Try.prog 16 #[] w fun e w' => e = .returned (.bool true) ∧ Below w.heap.size w w' := by
  have cF := frac_any (-6) 4 w (by decide) (by decide) (by decide) (by decide) (by decide)
  have e1 : (-6 : Int).natAbs / Nat.gcd (-6 : Int).natAbs (4 : Int).natAbs = 3 := by decide
  have e2 : (4 : Int).natAbs / Nat.gcd (-6 : Int).natAbs (4 : Int).natAbs = 2 := by decide
  have e3 : ((decide ((-6 : Int) < 0) != decide ((4 : Int) < 0)) && decide (3 ≠ 0)) = true := by decide
  rw [e1, e2, e3] at cF
  have n3 : nl 3 = [3] := nl_one 3 (by decide) (by decide)
  have n2 : nl 2 = [2] := nl_one 2 (by decide) (by decide)
  have cP := fun (W : World) (v : Value) (h : IsRat W v true 3 2) => parts_any v true 3 2 W h (by rw [n3]; decide) (by rw [n2]; decide)
  rw [n3, n2] at cP
  have l3 := fun W : World => lit_lies W [3] 1 rfl (by decide)
  have l2 := fun W : World => lit_lies W [2] 1 rfl (by decide)
  have cS3 := fun (W : World) (o : Option Addr) (c : Nat) (h : Lies W o c (ints .u32 [3])) => same_any [3] [3] o (some ⟨W.heap.size, 0, none⟩) c 1 (W.alloc (.cells #[.int .u32 3] 77)) (h.alloc _) (l3 W)
  have cS2 := fun (W : World) (o : Option Addr) (c : Nat) (h : Lies W o c (ints .u32 [2])) => same_any [2] [2] o (some ⟨W.heap.size, 0, none⟩) c 1 (W.alloc (.cells #[.int .u32 2] 77)) (h.alloc _) (l2 W)
  simp only [List.length_cons, List.length_nil, decide_true] at cS3 cS2 cP
  clear l3 l2 n3 n2 e1 e2 e3
  have t1 : True := trivial
  go_enter Try.func16, Try.ntmps16
  go_wp2_with (first
    | (go_at_call 11; refine cF.mono ?_; rintro e w1 ⟨v, rfl, hR, hb1⟩; obtain ⟨VA, VL, vp, rfl⟩ := hR.shape; have hb2 : Below w1.heap.size w1 (w1.alloc (.cells #[.bool true, .int .u64 VA, .int .u64 VL, .pointer vp] 28)) := (Below.refl _ _).alloc (Nat.le_refl _) _; have hR2 := hR.below hb2)
    | (go_at_call 22; refine (cP _ _ hR2).mono ?_; rintro e w3 ⟨o3, c3, o4, c4, rfl, hown3, hown4, hb3⟩)
    | (go_at_call 24; have _t := t1; clear _t t1; refine (cS3 _ _ _ (lies_of_owns hown3)).mono ?_; rintro e w4 ⟨rfl, hb4⟩; have hb5 : Below w3.heap.size w3 w4 := ((Below.refl _ _).alloc (Nat.le_refl _) _).trans (hb4.mono (by simp)))
    | (go_at_call 24; refine (cS2 _ _ _ (lies_of_owns (keep hown4 hb5))).mono ?_; rintro e w6 ⟨rfl, hb6⟩; have hb7 : Below w4.heap.size w4 w6 := ((Below.refl _ _).alloc (Nat.le_refl _) _).trans (hb6.mono (by simp))))
  all_goals go_ret
  all_goals exact ⟨rfl, bt (bt (bt (bt hb1 hb2) hb3) hb5) hb7⟩
end Go.Proofs.Ytfhhmpgldmakjaa.Aw5
