/- For every input the law DeltaChoice returns true: the greatest number that the infinitely small one may be, so that given pairs stay in order, is found. No condition. -/
import Derived.Test.YtdliookkkgobbaaRows
import Derived.WalkKit
import Derived.ProofKit
import Derived.OpenShut
import Derived.ShutString
import Derived.ChangeOld
import Derived.Below
import Derived.Lib.SmallJoins
import Derived.Test.YtdliookkkgobbaaSetAU
import Derived.Test.YtdliookkkgobbaaSetAW
namespace Go.Proofs.Ytdliookkkgobbaa.deltaChoice
open Go.ChangeShapes Go.WideShapes Go.ChangeAt Go.RowKit
open Mem LimbNum OpD

theorem own : ownKnob Try.prog.godebug = none := by kernel_rfl
theorem laidOut : laidOutB Try.prog = true := by kernel_rfl
theorem walk (o0 : Option Addr) (n0 c0 : Nat) (o1 : Option Addr) (n1 c1 : Nat) (w : World) (f0 : 0 < n0 → ∃ g off, o0 = some ⟨g, off, none⟩ ∧ g < w.heap.size ∧ ∀ k, k < n0 → ∃ u0 u1 u2 u3 u4 u5 : Value, w.cell? ⟨g, off + k * 6, none⟩ = some u0 ∧ w.cell? ⟨g, off + k * 6 + 1, none⟩ = some u1 ∧ w.cell? ⟨g, off + k * 6 + 2, none⟩ = some u2 ∧ w.cell? ⟨g, off + k * 6 + 3, none⟩ = some u3 ∧ w.cell? ⟨g, off + k * 6 + 4, none⟩ = some u4 ∧ w.cell? ⟨g, off + k * 6 + 5, none⟩ = some u5 ∧ NIn w [u0, u1, u2] ∧ NIn w [u3, u4, u5]) (f1 : 0 < n1 → ∃ g off, o1 = some ⟨g, off, none⟩ ∧ g < w.heap.size ∧ ∀ k, k < n1 → ∃ u0 u1 u2 u3 u4 u5 : Value, w.cell? ⟨g, off + k * 6, none⟩ = some u0 ∧ w.cell? ⟨g, off + k * 6 + 1, none⟩ = some u1 ∧ w.cell? ⟨g, off + k * 6 + 2, none⟩ = some u2 ∧ w.cell? ⟨g, off + k * 6 + 3, none⟩ = some u3 ∧ w.cell? ⟨g, off + k * 6 + 4, none⟩ = some u4 ∧ w.cell? ⟨g, off + k * 6 + 5, none⟩ = some u5 ∧ NIn w [u0, u1, u2] ∧ NIn w [u3, u4, u5]) :
    Calls Try.prog 6 #[.slice o0 n0 c0, .slice o1 n1 c1] w fun e w' => e = .returned (.bool true) ∧ Below w.heap.size w w' := by
  have inr : ∀ (o : Option Addr) (n : Nat), (0 < n → ∃ g off, o = some ⟨g, off, none⟩ ∧ g < w.heap.size ∧ ∀ k, k < n → ∃ u0 u1 u2 u3 u4 u5 : Value, w.cell? ⟨g, off + k * 6, none⟩ = some u0 ∧ w.cell? ⟨g, off + k * 6 + 1, none⟩ = some u1 ∧ w.cell? ⟨g, off + k * 6 + 2, none⟩ = some u2 ∧ w.cell? ⟨g, off + k * 6 + 3, none⟩ = some u3 ∧ w.cell? ⟨g, off + k * 6 + 4, none⟩ = some u4 ∧ w.cell? ⟨g, off + k * 6 + 5, none⟩ = some u5 ∧ NIn w [u0, u1, u2] ∧ NIn w [u3, u4, u5]) →
      (0 < n → ∃ g off, o = some ⟨g, off, none⟩ ∧ g < w.heap.size ∧ ∀ k, k < n → ∃ u0 u1 u2 u3 u4 u5 : Value, w.cell? ⟨g, off + k * 6, none⟩ = some u0 ∧ w.cell? ⟨g, off + k * 6 + 1, none⟩ = some u1 ∧ w.cell? ⟨g, off + k * 6 + 2, none⟩ = some u2 ∧ w.cell? ⟨g, off + k * 6 + 3, none⟩ = some u3 ∧ w.cell? ⟨g, off + k * 6 + 4, none⟩ = some u4 ∧ w.cell? ⟨g, off + k * 6 + 5, none⟩ = some u5 ∧ ∀ W, Below w.heap.size w W → Calls Try.prog 17 #[.agg #[u0, u1, u2, u3, u4, u5]] W fun e w' => ∃ v q p1 p2, e = .returned (.tuple #[v, q]) ∧ NmL.IsD w' v p1 p2 ∧ NmL.IsE w' q p1 p2 ∧ NmL.Fits p1 256 ∧ NmL.Fits p2 256 ∧ Below W.heap.size W w') := by
    intro o n h hp
    obtain ⟨g, off, e, hg, hk⟩ := h hp
    refine ⟨g, off, e, hg, fun k hlt => ?_⟩
    obtain ⟨u0, u1, u2, u3, u4, u5, k0, k1, k2, k3, k4, k5, ⟨b0, ao0, ca0, A0, bo0, cb0, B0, e0, f0⟩, ⟨b1, ao1, ca1, A1, bo1, cb1, B1, e1, f1⟩⟩ := hk k hlt
    simp only [List.cons.injEq, and_true] at e0 e1
    obtain ⟨rfl, rfl, rfl⟩ := e0
    obtain ⟨rfl, rfl, rfl⟩ := e1
    exact ⟨_, _, _, _, _, _, k0, k1, k2, k3, k4, k5, fun W hW => DaL.both_d ⟨f0.1.below hW (Nat.le_refl _), f0.2.1.below hW (Nat.le_refl _), f0.2.2⟩ ⟨f1.1.below hW (Nat.le_refl _), f1.2.1.below hW (Nat.le_refl _), f1.2.2⟩⟩
  have i0 := inr o0 n0 f0
  have i1 := inr o1 n1 f1
  refine ChW.law _ _ w ?_
  by_cases h0 : n0 ≤ 12 <;> by_cases h1 : n1 ≤ 12
  · refine (LiL.lists_11 o0 o1 n0 c0 n1 c1 w h0 h1 i0 i1).mono ?_
    rintro e w' ⟨E, F, va, vb, vc, vd, e1, r1, r2, r3, r4, hb⟩
    exact ⟨E, F, va, vb, vc, vd, _, _, e1, r1, r2, r3, r4, h0, hb⟩
  · refine (LiL.lists_10 o0 o1 n0 c0 n1 c1 w h0 (by omega) i0 i1).mono ?_
    rintro e w' ⟨E, F, va, vb, vc, vd, e1, r1, r2, r3, r4, hb⟩
    exact ⟨E, F, va, vb, vc, vd, _, _, e1, r1, r2, r3, r4, h0, hb⟩
  · refine (LiL.lists_01 o0 o1 n0 c0 n1 c1 w (by omega) h1 i0 i1).mono ?_
    rintro e w' ⟨E, F, va, vb, vc, vd, e1, r1, r2, r3, r4, hb⟩
    exact ⟨E, F, va, vb, vc, vd, _, _, e1, r1, r2, r3, r4, Nat.le_refl _, hb⟩
  · refine (LiL.lists_00 o0 o1 n0 c0 n1 c1 w (by omega) (by omega) i0 i1).mono ?_
    rintro e w' ⟨E, F, va, vb, vc, vd, e1, r1, r2, r3, r4, hb⟩
    exact ⟨E, F, va, vb, vc, vd, _, _, e1, r1, r2, r3, r4, Nat.le_refl _, hb⟩
set_option maxRecDepth 100000 in
theorem lifted (os : Os) (started : os.Started) (H : Type) (enc : TypeId × Value → H) :
    ReturnsInHanded {} Try.checked os 6 .any (Rows.deltaChoiceSpec.pre6 enc Try.prog Try.f6 Rows.deltaChoiceRow.domain false) (Rows.deltaChoiceSpec.post enc Try.prog Try.f6 false true false false) := by
  refine returnsInHanded_of_change (C := Try.checked) own started (by kernel_rfl) Try.func6
    (ChangeSpec.witness6 (enc := enc) (C := Try.checked) false ⟨#[], #[.slice none 0 0, .slice none 0 0], []⟩ 8 (by kernel_rfl) (by kernel_rfl) (by kernel_rfl) (by kernel_rfl)) ?_
  intro W base args ds gs before hval0 hW hcnd _
  have hval : ∀ (j : Nat) t v, Try.f6.params[j]? = some t → args[j]? = some v → Value.okWide Try.prog W .any base t v := hval0
  have hW' := hW
  obtain ⟨p, q, hA0, hV, rfl, hfz, hnd⟩ := hW
  have hA : DataW.TrodAll enc Try.prog W 0 (fun _ => true) true Try.f6.params.toList args.toList ds p := hA0
  rw [Try.params6] at hA hval
  obtain ⟨v0, vs0, d0, ds0, p0, q0, hargs, rfl, rfl, h0, r0⟩ := trodAll_cons hA
  obtain ⟨v1, vs1, d1, ds1, p1, q1, rfl, rfl, rfl, h1, r1⟩ := trodAll_cons r0
  obtain ⟨rfl, rfl, rfl⟩ := trodAll_nil r1
  obtain rfl : args = #[v0, v1] := by cases args; simp_all
  obtain ⟨rfl, rfl⟩ := trodVars_none hV
  have k0 := h0
  have k1 := h1
  have lt0 : ∀ x ∈ p0, x.block < W.heap.size := by obtain ⟨m, hm⟩ := k0; exact DataW.trod_lt m _ _ _ hm
  have lt1 : ∀ x ∈ p1, x.block < W.heap.size := by obtain ⟨m, hm⟩ := k1; exact DataW.trod_lt m _ _ _ hm
  obtain ⟨sa0, sl0, sc0, rfl⟩ := okWide_slice Try.underlying69 (hval 0 69 v0 rfl rfl)
  obtain ⟨fu0, hf0⟩ := h0
  obtain ⟨o0, n0, c0, e0, f0⟩ := OpE.open_ds (by simpa [Value.cells] using hf0)
  simp only [Value.slice.injEq] at e0
  obtain ⟨rfl, rfl, rfl⟩ := e0
  obtain ⟨sa1, sl1, sc1, rfl⟩ := okWide_slice Try.underlying69 (hval 1 69 v1 rfl rfl)
  obtain ⟨fu1, hf1⟩ := h1
  obtain ⟨o1, n1, c1, e1, f1⟩ := OpE.open_ds (by simpa [Value.cells] using hf1)
  simp only [Value.slice.injEq] at e1
  obtain ⟨rfl, rfl, rfl⟩ := e1
  clear hA0 hval0
  refine (walk _ _ _ _ _ _ W f0 f1).mono fun e W' ⟨he, bel⟩ => ?_
  subst he
  exact ⟨_, rfl, _, _, _, [], _, [], hW', trodAll_mk1 (shut_bool Try.underlying4 _), (trodAll_cons_mk (Below.trod laidOut (by kernel_rfl) (of_decide_eq_true (by kernel_rfl)) k0 bel lt0) (trodAll_cons_mk (Below.trod laidOut (by kernel_rfl) (of_decide_eq_true (by kernel_rfl)) k1 bel lt1) trodAll_mk0)), rfl, bel.frame _, fun h => by cases h⟩
theorem over : Rows.deltaChoiceRow.holds Try.pinned (OpenSpec.ofChange Rows.deltaChoiceSpec) :=
  OpenClaim.holds_of_wide 6 Try.f6 rfl rfl rfl rfl rfl rfl rfl ⟨rfl, rfl, rfl, rfl, rfl⟩ rfl rfl rfl rfl rfl (by kernel_rfl) Try.func6 (by kernel_rfl)
    (of_decide_eq_true (by kernel_rfl)) (by unfold Func.isWrapper; first | (rw [if_pos (by decide +kernel)]; kernel_rfl) | (rw [if_neg (by decide +kernel)]; exact ⟨rfl, rfl⟩))
    (fun os started H enc _ => lifted os started H enc)
theorem proved : Rows.DeltaChoiceSaid := over
end Go.Proofs.Ytdliookkkgobbaa.deltaChoice
namespace Go.Proofs.Ytdliookkkgobbaa
/-- THE STATEMENT. -/
theorem deltaChoice_holds : Rows.DeltaChoiceSaid := deltaChoice.proved
#print axioms deltaChoice_holds
end Go.Proofs.Ytdliookkkgobbaa
