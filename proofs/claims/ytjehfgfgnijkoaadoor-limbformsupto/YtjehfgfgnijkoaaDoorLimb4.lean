/- What the difference of lists of limbs answers, and that the check of answers that the document fixes says yes. -/
import Derived.Test.YtjehfgfgnijkoaaDoorLimb3
namespace Go.Proofs.YtjehfgfgnijkoaaDoor.Limb4
open Go.RowKit Mem LimbNum Limb1 Limb2 Limb3

theorem trim_at {A : List Nat} {ao : Option Addr} {cap : Nat} {w : World} (h : Lies w ao cap (ints .u32 A)) (hA : Small A) (W : World) (hb : Below w.heap.size w W) :
    Calls Tryd.prog 17 #[.slice ao A.length cap] W fun e w' => e = .returned (.slice ao (nl (val A)).length cap) ∧ w' = W :=
  (trim_any A ao cap W (h.below hb (Nat.le_refl _)) hA).mono fun _ _ h => ⟨h.1, h.2.1⟩
/-- Sub, where the difference is not below nought. -/
theorem sub_yes (A B : List Nat) (ao1 ao2 : Option Addr) (cap1 cap2 : Nat) (w : World) (h1 : Lies w ao1 cap1 (ints .u32 A)) (h2 : Lies w ao2 cap2 (ints .u32 B)) (hA : Small A) (hB : Small B) (hle : val B ≤ val A) (hlen : A.length ≤ 70368744177664) :
    Calls Tryd.prog 16 #[.slice ao1 A.length cap1, .slice ao2 B.length cap2] w fun e w' => ∃ ao cap, e = .returned (.tuple #[.slice ao (nl (val A - val B)).length cap, .bool true]) ∧
      w'.ownsRow w.heap.size 34 1 (.slice ao (nl (val A - val B)).length cap) (nl (val A - val B)).length (ints .u32 (nl (val A - val B))) ∧ Below w.heap.size w w' := by
  have hk := nl_len A hA
  have := sub_core A B (nl (val A)) (nl (val B)) ao1 ao2 cap1 cap2 w (lies_trim h1 hA) (lies_trim h2 hB)
    ((cmp_any A B ao1 ao2 cap1 cap2 w h1 h2 hA hB).mono fun e w' h => ⟨⟨_, by unfold cmpV; split <;> (try split) <;> omega, h.1⟩, h.2⟩)
    (trim_at h1 hA) (trim_at h2 hB) (small_nl _) (small_nl _) (by rw [val_nl, val_nl]; exact hle) (nl_mono _ _ hle) (by omega)
  rwa [val_nl, val_nl] at this
/-- Sub, where it is below nought. -/
theorem sub_no (A B : List Nat) (ao1 ao2 : Option Addr) (cap1 cap2 : Nat) (w : World) (h1 : Lies w ao1 cap1 (ints .u32 A)) (h2 : Lies w ao2 cap2 (ints .u32 B)) (hA : Small A) (hB : Small B) (hlt : val A < val B) :
    Calls Tryd.prog 16 #[.slice ao1 A.length cap1, .slice ao2 B.length cap2] w fun e w' => e = .returned (.tuple #[.slice none 0 0, .bool false]) ∧ Below w.heap.size w w' := by
  have cc := cmp_any A B ao1 ao2 cap1 cap2 w h1 h2 hA hB
  have e : cmpV (val A) (val B) = -1 := by unfold cmpV; rw [if_pos hlt]
  rw [e] at cc
  clear h1 h2 hA hB e
  go_enter Tryd.func16, Tryd.ntmps16
  go_wp2_with (go_at_call 10; refine cc.mono ?_; rintro e w1 ⟨rfl, hb1⟩)
  go_ret2
  exact ⟨rfl, hb1⟩

theorem nl_max : nl 4294967295 = [4294967295] := by rw [nl_pos (by decide), show 4294967295 / 4294967296 = 0 by decide, nl_zero]
theorem lit_lies (W : World) (A : List Nat) (n : Nat) (hn : A.length = n) (hl : n ≤ 1000) : Lies (W.alloc (.cells (ints .u32 A).toArray 34)) (some ⟨W.heap.size, 0, none⟩) n (ints .u32 A) := by
  have := lies_of_owns (World.ownsRow_lit (base := W.heap.size) (e := 34) (size := 1) W (ints .u32 A).toArray n (Nat.le_refl _) (by unfold maxLen; omega) (by simp [ints_length, hn]))
  simpa using this

theorem awake (w : World) :
    Calls Tryd.prog 5 #[] w fun e w' => e = .returned (.bool true) ∧ Below w.heap.size w w' := by
  have l1 := fun W : World => lit_lies W [0, 1] 2 rfl (by decide)
  have l2 := fun W : World => lit_lies W [1] 1 rfl (by decide)
  have l3 := fun W : World => lit_lies W [4294967295] 1 rfl (by decide)
  have s1 : Small [0, 1] := by intro x hx; simp at hx; omega
  have s2 : Small [1] := by intro x hx; simp at hx; omega
  have cS := fun W : World => sub_yes [0, 1] [1] (some ⟨W.heap.size, 0, none⟩) (some ⟨W.heap.size + 1, 0, none⟩) 2 1 ((W.alloc (.cells #[.int .u32 0, .int .u32 1] 34)).alloc (.cells #[.int .u32 1] 34))
    ((l1 W).alloc _) (by have := l2 (W.alloc (.cells #[.int .u32 0, .int .u32 1] 34)); simpa [ints] using this) s1 s2 (by decide) (by decide)
  have cE := fun (W : World) (ao : Option Addr) (cp : Nat) (h : Lies W ao cp (ints .u32 [4294967295])) => same_any [4294967295] [4294967295] ao (some ⟨W.heap.size, 0, none⟩) cp 1 (W.alloc (.cells #[.int .u32 4294967295] 34)) (h.alloc _) (l3 W)
  have cB := fun W : World => bits_any [0, 1] (some ⟨W.heap.size, 0, none⟩) 2 (W.alloc (.cells #[.int .u32 0, .int .u32 1] 34)) (l1 W) s1 (by decide)
  have e1 : val [0, 1] - val [1] = 4294967295 := by decide
  have e2 : bitLen (val [0, 1]) = 33 := by decide
  rw [e1, nl_max] at cS
  rw [e2] at cB
  simp only [List.length_cons, List.length_nil, decide_true] at cS cE cB
  clear l1 l2 l3 s1 s2 e1 e2
  go_enter Tryd.func5, Tryd.ntmps5
  go_wp2_with (first
    | (go_at_call 16; refine (cS _).mono ?_; rintro e w1 ⟨ao, cp, rfl, hown, hb1⟩)
    | (go_at_call 6; refine (cE _ _ _ (lies_of_owns hown)).mono ?_; rintro e w2 ⟨rfl, hb2⟩)
    | (go_at_call 12; refine (cB _).mono ?_; rintro e w3 ⟨rfl, hw⟩; have hw2 := hw.symm; clear hw; subst hw2))
  all_goals go_ret
  have B0 : Below w.heap.size w ((w.alloc (.cells #[.int .u32 0, .int .u32 1] 34)).alloc (.cells #[.int .u32 1] 34)) := ((Below.refl _ _).alloc (Nat.le_refl _) _).alloc (by simp) _
  have B1 := B0.trans (hb1.mono (by simp; omega))
  have B2 := B1.alloc B1.size (.cells #[.int .u32 4294967295] 34)
  have B3 := B2.trans (hb2.mono (by have := B1.size; simp; omega))
  exact ⟨rfl, B3.alloc B3.size _⟩
end Go.Proofs.YtjehfgfgnijkoaaDoor.Limb4
