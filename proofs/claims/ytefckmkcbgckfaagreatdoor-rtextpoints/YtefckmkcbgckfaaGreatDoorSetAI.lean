/- The builtin copy into a row of noughts of one's own; and what Norm answers. -/
import Derived.Test.YtefckmkcbgckfaaGreatDoorSetAF
import Derived.Laws.CopyOwn
namespace Go.Proofs.YtefckmkcbgckfaaGreatDoor.CopyL
open Go.RowKit Mem LimbNum Limb1 Limb2 Limb4

theorem wpList_copy_fresh {P : Program} {w : World} {ops : Array Oper} {rest : List Oper} {o : Oper} {a : Act} {Q : Exit → Act → World → Prop} (hgd : o.guard = none) (d s : Operand) (dT sT : TypeId)
    (ho : o.op = .call { callee := .builtin .copy, args := #[d, s], argTypes := #[dT, sT] }) (e : TypeId) (hu : P.underlying dT = some (.slice e)) (hsz : (P.info? e).map (·.size) = some 1)
    (g L base : Nat) (sp : Option Addr) (sLen sCap : Nat) (M : List Nat) (hd : a.eval d = .slice (some ⟨g, 0, none⟩) L L) (hs : a.eval s = .slice sp sLen sCap) (hM : M.length = sLen) (hle : M.length ≤ L)
    (hown : w.ownsRow base e 1 (.slice (some ⟨g, 0, none⟩) L L) L (ints .u32 (List.replicate L 0))) (hl : Lies w sp sCap (ints .u32 M)) (B : Nat) (w0 : World) (hb : Below B w0 w) (hBg : B ≤ g)
    (h : ∀ w', w'.ownsRow base e 1 (.slice (some ⟨g, 0, none⟩) L L) L (ints .u32 (M ++ List.replicate (L - M.length) 0)) → Below B w0 w' → wpList P ops Q rest (a.put o.dst (goInt M.length)) w') : wpList P ops Q (o :: rest) a w := by
  rcases hown.2 with ⟨h', _⟩ | ⟨g', cap, cur, h', hbg, hg, hnc, hcm, hcs, htake⟩
  · simp at h'
  · simp only [Value.slice.injEq, Option.some.injEq, Addr.mk.injEq] at h'
    obtain ⟨⟨rfl, _, _⟩, _, rfl⟩ := h'
    have hcur : cur = (ints .u32 (List.replicate L 0)).toArray := by
      rw [← htake, List.take_of_length_le (by simp; omega)]
    rw [hcur] at hg
    have hlen := ints_length .u32 M
    refine wpList_copy_splice hgd d s dT sT ho e hu hsz _ _ L L sLen sCap hd hs g 0 (ints .u32 (List.replicate L 0)) e hg (ints .u32 M) (by rw [hlen, hM]; exact (Nat.min_eq_left (by omega)).symm) ?_ (by rw [hlen, ints_length]; simp; omega) (ints_one _ _) B w0 hb hBg ?_
    · intro hp
      refine ⟨rfl, ?_⟩
      obtain ⟨b, off, e1, _, _⟩ := hl.2.2.2 hp
      subst e1
      exact ⟨_, rfl, hl.src⟩
    · intro w' hg' hb'
      rw [hlen]
      refine h w' ⟨by rw [ints_length]; simp; omega, .inr ⟨g, L, _, rfl, hbg, hg'.out, Nat.le_refl _, hcm, ?_, ?_⟩⟩ hb'
      · rw [List.size_toArray, length_splice _ _ _ (by rw [hlen, ints_length]; simp; omega), ints_length]; simp
      · rw [List.take_of_length_le (by rw [List.toList_toArray, length_splice _ _ _ (by rw [hlen, ints_length]; simp; omega), ints_length]; simp)]
        rw [List.toList_toArray, splice, ints_append, Nat.zero_add, hlen, List.take_zero, List.nil_append]
        congr 1
        simp [ints]
theorem infoS : (Tryz.prog.info? 48).map (·.size) = some 1 := by kernel_rfl

set_option maxRecDepth 20000 in
/-- Norm: the same number without noughts at its end, in new memory. -/
theorem norm_any (A : List Nat) (ao : Option Addr) (cap : Nat) (w : World) (h : Lies w ao cap (ints .u32 A)) (hA : Small A) (hlen : A.length ≤ 70368744177664) :
    Calls Tryz.prog 40 #[.slice ao A.length cap] w fun e w' => ∃ ao' cap', e = .returned (.slice ao' (nl (val A)).length cap') ∧ w'.ownsRow w.heap.size 48 1 (.slice ao' (nl (val A)).length cap') (nl (val A)).length (ints .u32 (nl (val A))) ∧ Below w.heap.size w w' := by
  obtain ⟨i0, hi, hz0, hz1, hz2⟩ := info_parts info32
  have k1 := nl_len A hA
  have c1 := trim_at h hA w (Below.refl _ _)
  have l1 := lies_trim h hA
  generalize nl (val A) = M at *
  have mk : ∀ W : World, W.ownsRow w.heap.size 48 1 (.slice (some ⟨w.heap.size, 0, none⟩) M.length M.length) M.length (madeCells (Value.int .u32 0).cells (M.length * 1)).toList → W.ownsRow w.heap.size 48 1 (.slice (some ⟨w.heap.size, 0, none⟩) M.length M.length) M.length (ints .u32 (List.replicate M.length 0)) := fun W hW => by
    rw [ints_zero, ← toList_madeCells_one]; rw [Nat.mul_one] at hW; exact hW
  clear h hA
  go_enter Tryz.func40, Tryz.ntmps40
  go_wp2_with (first
    | (go_at_call 47; refine c1.mono ?_; rintro e w2 ⟨rfl, hw⟩; have hw2 := hw.symm; clear hw; subst hw2)
    | (at_make; refine wpList_make_full _ rfl _ _ 22 rfl w.heap.size 48 i0 (.int .u32 0) 1 Tryz.underlying22 hi hz0 hz1 .i64 .i64 (M.length : Int) (M.length : Int) M.length rfl rfl rfl rfl (by rw [hz2]; omega) (by unfold maxLen; omega) (Nat.le_refl _) ?_; intro w3 hown hgr; have hown0 := mk _ hown; have hb3 : Below w.heap.size w w3 := (Below.refl _ _).grown hgr (Nat.le_refl _) (by simp))
    | (refine wpList_copy_fresh rfl (.tmp 9) (.tmp 10) 22 22 rfl 48 Tryz.underlying22 infoS w.heap.size M.length w.heap.size ao M.length cap M rfl rfl rfl (Nat.le_refl _) hown0 (l1.below hb3 (Nat.le_refl _)) w.heap.size w hb3 (Nat.le_refl _) ?_; intro w4 hown4 hb4))
  go_ret
  exact ⟨_, _, rfl, by simpa using hown4, hb4⟩
end Go.Proofs.YtefckmkcbgckfaaGreatDoor.CopyL
