/- For every input the law DeltaHolds returns true: with the number that is chosen all pairs stay in order, and with any greater one some pair does not. No condition. -/
import Derived.Test.YtdliookkkgobbaaRows
import Derived.WalkKit
import Derived.ProofKit
import Derived.OpenShut
import Derived.ShutString
import Derived.ChangeOld
import Derived.Below
import Derived.Lib.SmallJoins
import Derived.Test.YtdliookkkgobbaaSetAU
import Derived.Test.YtdliookkkgobbaaSetAW
namespace Go.Proofs.Ytdliookkkgobbaa.deltaHolds
open Go.ChangeShapes Go.WideShapes Go.ChangeAt Go.RowKit
open Mem LimbNum OpD

theorem own : ownKnob Try.prog.godebug = none := by kernel_rfl
theorem laidOut : laidOutB Try.prog = true := by kernel_rfl
theorem walk (o0 : Option Addr) (n0 c0 : Nat) (o1 : Option Addr) (n1 c1 : Nat) (b20 : Bool) (ao20 : Option Addr) (ca20 : Nat) (A20 : List Nat) (bo20 : Option Addr) (cb20 : Nat) (B20 : List Nat) (w : World) (f0 : 0 < n0 → ∃ g off, o0 = some ⟨g, off, none⟩ ∧ g < w.heap.size ∧ ∀ k, k < n0 → ∃ u0 u1 u2 u3 u4 u5 : Value, w.cell? ⟨g, off + k * 6, none⟩ = some u0 ∧ w.cell? ⟨g, off + k * 6 + 1, none⟩ = some u1 ∧ w.cell? ⟨g, off + k * 6 + 2, none⟩ = some u2 ∧ w.cell? ⟨g, off + k * 6 + 3, none⟩ = some u3 ∧ w.cell? ⟨g, off + k * 6 + 4, none⟩ = some u4 ∧ w.cell? ⟨g, off + k * 6 + 5, none⟩ = some u5 ∧ NIn w [u0, u1, u2] ∧ NIn w [u3, u4, u5]) (f1 : 0 < n1 → ∃ g off, o1 = some ⟨g, off, none⟩ ∧ g < w.heap.size ∧ ∀ k, k < n1 → ∃ u0 u1 u2 u3 u4 u5 : Value, w.cell? ⟨g, off + k * 6, none⟩ = some u0 ∧ w.cell? ⟨g, off + k * 6 + 1, none⟩ = some u1 ∧ w.cell? ⟨g, off + k * 6 + 2, none⟩ = some u2 ∧ w.cell? ⟨g, off + k * 6 + 3, none⟩ = some u3 ∧ w.cell? ⟨g, off + k * 6 + 4, none⟩ = some u4 ∧ w.cell? ⟨g, off + k * 6 + 5, none⟩ = some u5 ∧ NIn w [u0, u1, u2] ∧ NIn w [u3, u4, u5]) (f20 : Lies w ao20 ca20 (ints .u32 A20) ∧ Lies w bo20 cb20 (ints .u32 B20) ∧ Small A20 ∧ Small B20) :
    Calls Try.prog 7 #[.slice o0 n0 c0, .slice o1 n1 c1, .agg #[.bool b20, .slice ao20 A20.length ca20, .slice bo20 B20.length cb20]] w fun e w' => e = .returned (.bool true) ∧ Below w.heap.size w w' := by
  have inr : ∀ (V : World), Below w.heap.size w V → ∀ (o : Option Addr) (n : Nat), (0 < n → ∃ g off, o = some ⟨g, off, none⟩ ∧ g < w.heap.size ∧ ∀ k, k < n → ∃ u0 u1 u2 u3 u4 u5 : Value, w.cell? ⟨g, off + k * 6, none⟩ = some u0 ∧ w.cell? ⟨g, off + k * 6 + 1, none⟩ = some u1 ∧ w.cell? ⟨g, off + k * 6 + 2, none⟩ = some u2 ∧ w.cell? ⟨g, off + k * 6 + 3, none⟩ = some u3 ∧ w.cell? ⟨g, off + k * 6 + 4, none⟩ = some u4 ∧ w.cell? ⟨g, off + k * 6 + 5, none⟩ = some u5 ∧ NIn w [u0, u1, u2] ∧ NIn w [u3, u4, u5]) →
      (0 < n → ∃ g off, o = some ⟨g, off, none⟩ ∧ g < V.heap.size ∧ ∀ k, k < n → ∃ u0 u1 u2 u3 u4 u5 : Value, V.cell? ⟨g, off + k * 6, none⟩ = some u0 ∧ V.cell? ⟨g, off + k * 6 + 1, none⟩ = some u1 ∧ V.cell? ⟨g, off + k * 6 + 2, none⟩ = some u2 ∧ V.cell? ⟨g, off + k * 6 + 3, none⟩ = some u3 ∧ V.cell? ⟨g, off + k * 6 + 4, none⟩ = some u4 ∧ V.cell? ⟨g, off + k * 6 + 5, none⟩ = some u5 ∧ ∀ W, Below V.heap.size V W → Calls Try.prog 17 #[.agg #[u0, u1, u2, u3, u4, u5]] W fun e w' => ∃ v q p1 p2, e = .returned (.tuple #[v, q]) ∧ NmL.IsD w' v p1 p2 ∧ NmL.IsE w' q p1 p2 ∧ NmL.Fits p1 256 ∧ NmL.Fits p2 256 ∧ Below W.heap.size W w') := by
    intro V hV o n h hp
    obtain ⟨g, off, e, hg, hk⟩ := h hp
    refine ⟨g, off, e, Nat.lt_of_lt_of_le hg hV.size, fun k hlt => ?_⟩
    have cw : ∀ i, V.cell? ⟨g, i, none⟩ = w.cell? ⟨g, i, none⟩ := fun i => hV.cell (p := ⟨g, i, none⟩) hg
    obtain ⟨u0, u1, u2, u3, u4, u5, k0, k1, k2, k3, k4, k5, ⟨b0, ao0, ca0, A0, bo0, cb0, B0, e0, f0⟩, ⟨b1, ao1, ca1, A1, bo1, cb1, B1, e1, f1⟩⟩ := hk k hlt
    simp only [List.cons.injEq, and_true] at e0 e1
    obtain ⟨rfl, rfl, rfl⟩ := e0
    obtain ⟨rfl, rfl, rfl⟩ := e1
    exact ⟨_, _, _, _, _, _, (cw _).trans k0, (cw _).trans k1, (cw _).trans k2, (cw _).trans k3, (cw _).trans k4, (cw _).trans k5, fun W hW' => (fun hW => DaL.both_d ⟨f0.1.below hW (Nat.le_refl _), f0.2.1.below hW (Nat.le_refl _), f0.2.2⟩ ⟨f1.1.below hW (Nat.le_refl _), f1.2.1.below hW (Nat.le_refl _), f1.2.2⟩) (bt hV hW')⟩
  refine HlW.law _ _ _ _ _ w (fun V hV => ?_) (fun V hV => DaL.both_nm b20 A20 B20 ao20 bo20 ca20 cb20 V (f20.1.below hV (Nat.le_refl _)) (f20.2.1.below hV (Nat.le_refl _)) f20.2.2.1 f20.2.2.2)
  · have i0 := inr V hV o0 n0 f0
    have i1 := inr V hV o1 n1 f1
    by_cases h0 : n0 ≤ 12 <;> by_cases h1 : n1 ≤ 12
    · refine (LiL.lists_11 o0 o1 n0 c0 n1 c1 V h0 h1 i0 i1).mono ?_
      rintro e w' ⟨E, F, va, vb, vc, vd, e1, r1, r2, r3, r4, hb⟩
      exact ⟨E, F, va, vb, vc, vd, _, _, e1, r1, r2, r3, r4, h0, hb⟩
    · refine (LiL.lists_10 o0 o1 n0 c0 n1 c1 V h0 (by omega) i0 i1).mono ?_
      rintro e w' ⟨E, F, va, vb, vc, vd, e1, r1, r2, r3, r4, hb⟩
      exact ⟨E, F, va, vb, vc, vd, _, _, e1, r1, r2, r3, r4, h0, hb⟩
    · refine (LiL.lists_01 o0 o1 n0 c0 n1 c1 V (by omega) h1 i0 i1).mono ?_
      rintro e w' ⟨E, F, va, vb, vc, vd, e1, r1, r2, r3, r4, hb⟩
      exact ⟨E, F, va, vb, vc, vd, _, _, e1, r1, r2, r3, r4, Nat.le_refl _, hb⟩
    · refine (LiL.lists_00 o0 o1 n0 c0 n1 c1 V (by omega) (by omega) i0 i1).mono ?_
      rintro e w' ⟨E, F, va, vb, vc, vd, e1, r1, r2, r3, r4, hb⟩
      exact ⟨E, F, va, vb, vc, vd, _, _, e1, r1, r2, r3, r4, Nat.le_refl _, hb⟩
set_option maxRecDepth 100000 in
theorem lifted (os : Os) (started : os.Started) (H : Type) (enc : TypeId × Value → H) :
    ReturnsInHanded {} Try.checked os 7 .any (Rows.deltaHoldsSpec.pre6 enc Try.prog Try.f7 Rows.deltaHoldsRow.domain false) (Rows.deltaHoldsSpec.post enc Try.prog Try.f7 false true false false) := by
  refine returnsInHanded_of_change (C := Try.checked) own started (by kernel_rfl) Try.func7
    (ChangeSpec.witness6 (enc := enc) (C := Try.checked) false ⟨#[], #[.slice none 0 0, .slice none 0 0, .agg #[.bool false, .slice none 0 0, .slice none 0 0]], []⟩ 8 (by kernel_rfl) (by kernel_rfl) (by kernel_rfl) (by kernel_rfl)) ?_
  intro W base args ds gs before hval0 hW hcnd _
  have hval : ∀ (j : Nat) t v, Try.f7.params[j]? = some t → args[j]? = some v → Value.okWide Try.prog W .any base t v := hval0
  have hW' := hW
  obtain ⟨p, q, hA0, hV, rfl, hfz, hnd⟩ := hW
  have hA : DataW.TrodAll enc Try.prog W 0 (fun _ => true) true Try.f7.params.toList args.toList ds p := hA0
  rw [Try.params7] at hA hval
  obtain ⟨v0, vs0, d0, ds0, p0, q0, hargs, rfl, rfl, h0, r0⟩ := trodAll_cons hA
  obtain ⟨v1, vs1, d1, ds1, p1, q1, rfl, rfl, rfl, h1, r1⟩ := trodAll_cons r0
  obtain ⟨v2, vs2, d2, ds2, p2, q2, rfl, rfl, rfl, h2, r2⟩ := trodAll_cons r1
  obtain ⟨rfl, rfl, rfl⟩ := trodAll_nil r2
  obtain rfl : args = #[v0, v1, v2] := by cases args; simp_all
  obtain ⟨rfl, rfl⟩ := trodVars_none hV
  have k0 := h0
  have k1 := h1
  have k2 := h2
  have lt0 : ∀ x ∈ p0, x.block < W.heap.size := by obtain ⟨m, hm⟩ := k0; exact DataW.trod_lt m _ _ _ hm
  have lt1 : ∀ x ∈ p1, x.block < W.heap.size := by obtain ⟨m, hm⟩ := k1; exact DataW.trod_lt m _ _ _ hm
  have lt2 : ∀ x ∈ p2, x.block < W.heap.size := by obtain ⟨m, hm⟩ := k2; exact DataW.trod_lt m _ _ _ hm
  obtain ⟨sa0, sl0, sc0, rfl⟩ := okWide_slice Try.underlying69 (hval 0 69 v0 rfl rfl)
  obtain ⟨fu0, hf0⟩ := h0
  obtain ⟨o0, n0, c0, e0, f0⟩ := OpE.open_ds (by simpa [Value.cells] using hf0)
  simp only [Value.slice.injEq] at e0
  obtain ⟨rfl, rfl, rfl⟩ := e0
  obtain ⟨sa1, sl1, sc1, rfl⟩ := okWide_slice Try.underlying69 (hval 1 69 v1 rfl rfl)
  obtain ⟨fu1, hf1⟩ := h1
  obtain ⟨o1, n1, c1, e1, f1⟩ := OpE.open_ds (by simpa [Value.cells] using hf1)
  simp only [Value.slice.injEq] at e1
  obtain ⟨rfl, rfl, rfl⟩ := e1
  obtain ⟨b20, ao20, ca20, A20, bo20, cb20, B20, rfl, f20⟩ := open_n1 (hval 2 24 v2 rfl rfl) h2
  clear hA0 hval0
  refine (walk _ _ _ _ _ _ b20 ao20 ca20 A20 bo20 cb20 B20 W f0 f1 f20).mono fun e W' ⟨he, bel⟩ => ?_
  subst he
  exact ⟨_, rfl, _, _, _, [], _, [], hW', trodAll_mk1 (shut_bool Try.underlying4 _), (trodAll_cons_mk (Below.trod laidOut (by kernel_rfl) (of_decide_eq_true (by kernel_rfl)) k0 bel lt0) (trodAll_cons_mk (Below.trod laidOut (by kernel_rfl) (of_decide_eq_true (by kernel_rfl)) k1 bel lt1) (trodAll_cons_mk (Below.trod laidOut (by kernel_rfl) (of_decide_eq_true (by kernel_rfl)) k2 bel lt2) trodAll_mk0))), rfl, bel.frame _, fun h => by cases h⟩
theorem over : Rows.deltaHoldsRow.holds Try.pinned (OpenSpec.ofChange Rows.deltaHoldsSpec) :=
  OpenClaim.holds_of_wide 7 Try.f7 rfl rfl rfl rfl rfl rfl rfl ⟨rfl, rfl, rfl, rfl, rfl⟩ rfl rfl rfl rfl rfl (by kernel_rfl) Try.func7 (by kernel_rfl)
    (of_decide_eq_true (by kernel_rfl)) (by unfold Func.isWrapper; first | (rw [if_pos (by decide +kernel)]; kernel_rfl) | (rw [if_neg (by decide +kernel)]; exact ⟨rfl, rfl⟩))
    (fun os started H enc _ => lifted os started H enc)
theorem proved : Rows.DeltaHoldsSaid := over
end Go.Proofs.Ytdliookkkgobbaa.deltaHolds
namespace Go.Proofs.Ytdliookkkgobbaa
/-- THE STATEMENT. -/
theorem deltaHolds_holds : Rows.DeltaHoldsSaid := deltaHolds.proved
#print axioms deltaHolds_holds
end Go.Proofs.Ytdliookkkgobbaa
