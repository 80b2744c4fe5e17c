/- InternPlays: a table of formula parts answers every play of operations with the numbers that the document says, and holds just those nodes. No conditions. -/
import Derived.Test.YtmeomfnnachkoaaRows
import Derived.Test.YtmeomfnnachkoaaChecked
import Derived.Test.YtmeomfnnachkoaaAwI
import Derived.Test.YtmeomfnnachkoaaOpI
import Derived.Test.YtmeomfnnachkoaaPlR
import Derived.JoinedOf
import Derived.JoinedAt
import Derived.BigQuiet
import Derived.WalkSmall
namespace Go.Proofs.Ytmeomfnnachkoaa.internPlays
open Go.ChangeShapes Go.WideShapes Go.ChangeAt Go.RowKit
open Go.Maps Mem NdNum TabL NumL DoL DoA PlayL AwI OpI RefN RefD PlR

theorem own : ownKnob Try.prog.godebug = none := by kernel_rfl
theorem ans_at {w : World} {base b n c k : Nat} {rs : List (Option Int)} (h : w.ownsRow base 3 1 (.slice (some ⟨b, 0, none⟩) n c) n (ansL rs)) (hn : rs.length = n) (hk : k < n) : w.cell? ⟨b, k, none⟩ = some (.int .i64 ((rs[k]?.getD none).getD (-1))) := by
  rw [h.cellAt _ (by omega)]
  unfold ansL
  rw [List.getElem?_map, List.getElem?_eq_getElem (by omega)]
  rfl
set_option maxRecDepth 20000 in
set_option maxHeartbeats 2000000 in
theorem walk (L : List Nd) (ao : Option Addr) (cap : Nat) (w : World) (h : Li w ao cap L) (hw : ∀ n ∈ L, Wf n) :
    Calls Try.prog 3 #[.slice ao L.length cap] w fun e w' => e = .returned (.bool true) ∧ Below w.heap.size w w' := by
  have cF := few_any L ao cap w h
  have hwT : ∀ n ∈ L.take 200, Wf n := fun n hn => hw n (List.mem_of_mem_take hn)
  have hlT : (L.take 200).length ≤ 200 := by simp; omega
  generalize L.take 200 = T at *
  have cF2 := fun (W : World) (o : Option Addr) (c : Nat) (h : Li W o c T) => few_any T o c W h
  rw [List.take_of_length_le hlT] at cF2
  have cP := fun (W : World) (o : Option Addr) (c : Nat) (h : Li W o c T) => play_any T o c W h hwT hlT
  have cR := fun (W : World) (o : Option Addr) (c : Nat) (h : Li W o c T) => played_any T o c W h hwT hlT
  have hin := inForm_play (N := []) inForm_nil hwT
  have hrs := playN_len [] T
  generalize playN [] T = P at *
  obtain ⟨N, rs⟩ := P
  simp only at cP cR hin hrs
  obtain ⟨M, eM⟩ : ∃ M : Nat, N.length + 2 = M := ⟨_, rfl⟩
  rw [eM] at cP cR
  have hM : M ≤ 20000 := by have := hin.len; omega
  have hM2 : 2 ≤ M := by omega
  have HI : Hid (InForm N ∧ N.length + 2 = M) := ⟨hin, eM⟩
  have cA := fun (W : World) => awake_any W
  have t0 : True := trivial
  clear h hw hwT hin eM
  generalize eK : T.length = K at *
  have HR : Hid (rs.length = K) := hrs
  clear hrs
  go_enter Try.func3, Try.ntmps3
  go_wp2_with (first
    | (go_at_call 8; have _t := t0; clear _t t0; refine cF.mono ?_; rintro e w1 ⟨o1, c1, rfl, r1, hb1⟩; have L1 := li_of_owns (by rw [eK]; exact r1))
    | (go_at_call 8; refine (cF2 _ _ _ L1).mono ?_; rintro e w2 ⟨o2, c2, rfl, r2, hb2⟩; have L2 := li_of_owns (by rw [eK]; exact r2); have L1' := L1.below hb2 (Nat.le_refl _))
    | (go_at_call 9; refine (cP _ _ _ L2).mono ?_; rintro e w3 ⟨o3, c3, o4, c4, rfl, r3, r4, hb3⟩; have L1'' := L1'.below hb3 (Nat.le_refl _); obtain ⟨b, d, e3⟩ := own_slice r4 (by omega); simp only [Value.slice.injEq, true_and] at e3; obtain ⟨rfl, rfl⟩ := e3)
    | (go_at_call 10; refine (cR _ _ _ L1'').mono ?_; rintro e w4 ⟨b5, c5, d5, c6, rfl, r5, r6, hb4⟩)
    | (go_at_call 11; refine (cA _).mono ?_; rintro e w5 ⟨rfl, hb5⟩))
  have R3 : Hid (w5.ownsRow w2.heap.size 3 1 (.slice o3 K c3) K (ansL rs)) := keep3 (keep3 r3 hb4) hb5
  have R4 : Hid (w5.ownsRow w2.heap.size 33 3 (.slice (some ⟨b, 0, none⟩) M c4) M (flat (full N))) := keep3 (keep3 r4 hb4) hb5
  have R5 : Hid (Lst w5 b5 c5 N) := r5.below hb5
  have R6 : Hid (w5.ownsRow 0 3 1 (.slice (some ⟨d5, 0, none⟩) K c6) K (ansL rs)) := keep3 r6 hb5
  have B5 : Hid (Below w.heap.size w w5) := bt (bt (bt (bt hb1 hb2) hb3) hb4) hb5
  clear r1 r2 r3 r4 r5 r6 hb1 hb2 hb3 hb4 hb5 cF cF2 cP cR cA L1 L1' L1'' L2
  go_loopw [40] (fun iv wr => ∃ k : Nat, k ≤ K ∧ iv = .int .i64 k ∧ Hid (Below w5.heap.size w5 wr)) (fun iv _ => K - (intOf iv).toNat)
  case atStart => exact ⟨0, Nat.zero_le _, rfl, Below.refl _ _⟩
  case round =>
    obtain ⟨k, hk, rfl, HB⟩ := hrel
    by_cases hlt : k < K
    · have x3 := R3.out
      obtain ⟨ob, oc, e3⟩ := own_slice x3 (by omega)
      simp only [Value.slice.injEq, true_and] at e3
      obtain ⟨rfl, rfl⟩ := e3
      have y1 := ans_at (keep3 x3 HB.out) HR.out hlt
      have y2 := ans_at (keep3 R6.out HB.out) HR.out hlt
      generalize (rs[k]?.getD none).getD (-1) = y at *
      clear x3
      go_wp2
      go_region
      all_goals go_wp2
      all_goals go_roundw
      case rel => exact ⟨k + 1, by omega, by simp, HB.out.drew⟩
      case measure => simp [intOf]; omega
    · obtain rfl : k = K := by omega
      go_wp2
      go_loopw [55] (fun iv w6 => ∃ j : Nat, j ≤ M ∧ iv = .int .i64 j ∧ Hid (Below wr.heap.size wr w6)) (fun iv _ => M - (intOf iv).toNat)
      case atStart => exact ⟨0, Nat.zero_le _, rfl, Below.refl _ _⟩
      case round =>
        obtain ⟨j, hj, rfl, HB6⟩ := hrel
        by_cases hlt6 : j < M
        · have bb := bt HB.out HB6.out
          have hjN : j < N.length + 2 := by have := HI.out.2; omega
          obtain ⟨d0, d1, d2⟩ := row_at (keep3 R4.out bb) HI.out.2 hlt6
          obtain ⟨f0, f1, f2⟩ := row_at (R5.out.below bb).2 rfl hjN
          have q := fun (w : World) => neq_node w (nd N j) (nd N j) (nd_wf HI.out.1 hjN) (nd_wf HI.out.1 hjN)
          simp only [beq_self_eq_true, Bool.not_true] at q
          have D6 := HB6.out.drew
          generalize nd N j = n at *
          clear bb
          go_wp2
          go_quiet (fail)
          all_goals go_wp2
          all_goals go_roundw
          case rel => exact ⟨j + 1, by omega, by simp, by first | exact D6 | exact below_drewN HB6.out _⟩
          case measure => simp [intOf]; omega
        · obtain rfl : j = M := by omega
          go_wp2
          go_ret
          exact ⟨rfl, bt (bt B5.out HB.out) HB6.out⟩
set_option maxRecDepth 100000 in
theorem lifted (os : Os) (started : os.Started) (H : Type) (enc : TypeId × Value → H) :
    ReturnsInHanded {} Try.checked os 3 .any (Rows.internPlaysSpec.pre6 enc Try.prog Try.f3 Rows.internPlaysRow.domain false) (Rows.internPlaysSpec.post enc Try.prog Try.f3 false true false false) := by
  refine returnsInHanded_of_change (C := Try.checked) own started (by kernel_rfl) Try.func3
    (ChangeSpec.witness6 (enc := enc) (C := Try.checked) false ⟨#[], #[.slice none 0 0], []⟩ 8 (by kernel_rfl) (by kernel_rfl) (by kernel_rfl) (by kernel_rfl)) ?_
  intro W base args ds gs before hval0 hW hcnd _
  have hval : ∀ (j : Nat) t v, Try.f3.params[j]? = some t → args[j]? = some v → Value.okWide Try.prog W .any base t v := hval0
  have hW' := hW
  obtain ⟨p, q, hA0, hV, rfl, hfz, hnd⟩ := hW
  have hA : DataW.TrodAll enc Try.prog W 0 (fun _ => true) true Try.f3.params.toList args.toList ds p := hA0
  rw [Try.params3] at hA hval
  obtain ⟨v0, vs0, d0, ds0, p0, q0, hargs, rfl, rfl, h0, r0⟩ := trodAll_cons hA
  obtain ⟨rfl, rfl, rfl⟩ := trodAll_nil r0
  obtain rfl : args = #[v0] := by cases args; simp_all
  obtain ⟨rfl, rfl⟩ := trodVars_none hV
  have k0 := h0
  have lt0 : ∀ x ∈ p0, x.block < W.heap.size := by obtain ⟨m, hm⟩ := k0; exact DataW.trod_lt m _ _ _ hm
  obtain ⟨a0, len0, cap0, rfl⟩ := okWide_slice Try.underlying22 (hval 0 22 v0 rfl rfl)
  obtain ⟨fu0, hf0⟩ := h0
  obtain ⟨ao0, c0, L0, e0, hl0, hw0⟩ := open_ops (by simpa [Value.cells] using hf0)
  simp only [Value.slice.injEq] at e0
  obtain ⟨rfl, rfl, rfl⟩ := e0
  clear hA0 hval0
  refine (walk L0 _ _ W hl0 hw0).mono fun e W' ⟨he, bel⟩ => ?_
  subst he
  exact ⟨_, rfl, _, _, _, [], _, [], hW', trodAll_mk1 (shut_bool Try.underlying4 _), (trodAll_cons_mk (Below.trod laidOut (by kernel_rfl) (of_decide_eq_true (by kernel_rfl)) k0 bel lt0) trodAll_mk0), rfl, bel.frame _, fun h => by cases h⟩
theorem over : Rows.internPlaysRow.holds Try.pinned (OpenSpec.ofChange Rows.internPlaysSpec) :=
  OpenClaim.holds_of_wide 3 Try.f3 rfl rfl rfl rfl rfl rfl rfl ⟨rfl, rfl, rfl, rfl, rfl⟩ rfl rfl rfl rfl rfl (by kernel_rfl) Try.func3 (by kernel_rfl)
    (of_decide_eq_true (by kernel_rfl)) (by unfold Func.isWrapper; first | (rw [if_pos (by decide +kernel)]; kernel_rfl) | (rw [if_neg (by decide +kernel)]; exact ⟨rfl, rfl⟩))
    (fun os started H enc _ => lifted os started H enc)
theorem proved : Rows.InternPlaysSaid := over
end Go.Proofs.Ytmeomfnnachkoaa.internPlays
namespace Go.Proofs.Ytmeomfnnachkoaa
/-- THE STATEMENT. -/
theorem internPlays_holds : Rows.InternPlaysSaid := internPlays.proved
#print axioms internPlays_holds
end Go.Proofs.Ytmeomfnnachkoaa
