/- InternShares: no node ever stands twice in a table, parts come ahead of the whole, and nothing that is simply true or false is kept inside. No conditions. -/
import Derived.Test.YtmeomfnnachkoaaRows
import Derived.Test.YtmeomfnnachkoaaChecked
import Derived.Test.YtmeomfnnachkoaaAwI
import Derived.Test.YtmeomfnnachkoaaOpI
import Derived.JoinedOf
import Derived.JoinedAt
namespace Go.Proofs.Ytmeomfnnachkoaa.internShares
open Go.ChangeShapes Go.WideShapes Go.ChangeAt Go.RowKit
open Go.Maps Mem NdNum TabL NumL DoL DoA PlayL AwI OpI

theorem own : ownKnob Try.prog.godebug = none := by kernel_rfl
theorem nd_ne {N : List Nd} (h : InForm N) {j k : Nat} (h1 : j < k) (h2 : k < N.length + 2) : nd N j ≠ nd N k := by
  rcases Nat.lt_or_ge k 2 with h3 | h3
  · obtain rfl : k = 1 := by omega
    obtain rfl : j = 0 := by omega
    intro e; simp [nd, full] at e
  · have hf := h.fine k h3 h2
    rcases Nat.lt_or_ge j 2 with h4 | h4
    · intro e
      unfold Fine at hf
      rw [← e] at hf
      rcases (show j = 0 ∨ j = 1 by omega) with rfl | rfl
      · rw [nd_zero] at hf; simp at hf
      · rw [nd_one] at hf; simp at hf
    · obtain ⟨j, rfl⟩ : ∃ i, j = i + 2 := ⟨j - 2, by omega⟩
      obtain ⟨k, rfl⟩ : ∃ i, k = i + 2 := ⟨k - 2, by omega⟩
      rw [nd_behind, nd_behind, List.getElem?_eq_getElem (by omega), List.getElem?_eq_getElem (by omega)]
      intro e
      exact List.pairwise_iff_getElem.1 h.once j k (by omega) (by omega) (by omega) e
theorem row_at {w : World} {g : Nat} {e : TypeId} {c n cap : Nat} {N : List Nd} (h : w.ownsRow g e 3 (.slice (some ⟨c, 0, none⟩) n cap) n (flat (full N))) (hn : N.length + 2 = n) {k : Nat} (hk : k < n) :
    w.cell? ⟨c, k * 3, none⟩ = some (.int .i64 (nd N k).1) ∧ w.cell? ⟨c, k * 3 + 1, none⟩ = some (.int .i64 (nd N k).2.1) ∧ w.cell? ⟨c, k * 3 + 2, none⟩ = some (.int .i64 (nd N k).2.2) := by
  have e1 : (full N)[k]? = some (nd N k) := by
    unfold nd
    rw [List.getElem?_eq_getElem (by rw [full_length]; omega)]
    rfl
  obtain ⟨f0, f1, f2⟩ := flat_get _ _ _ e1
  exact ⟨by rw [h.cellAt _ (by omega)]; exact f0, by rw [h.cellAt _ (by omega)]; exact f1, by rw [h.cellAt _ (by omega)]; exact f2⟩
set_option maxRecDepth 20000 in
set_option maxHeartbeats 2000000 in
theorem walk (L : List Nd) (ao : Option Addr) (cap : Nat) (w : World) (h : Li w ao cap L) (hw : ∀ n ∈ L, Wf n) :
    Calls Try.prog 4 #[.slice ao L.length cap] w fun e w' => e = .returned (.bool true) ∧ Below w.heap.size w w' := by
  have cF := few_any L ao cap w h
  have hwT : ∀ n ∈ L.take 200, Wf n := fun n hn => hw n (List.mem_of_mem_take hn)
  have hlT : (L.take 200).length ≤ 200 := by simp; omega
  generalize L.take 200 = T at *
  have cP := fun (W : World) (o : Option Addr) (c : Nat) (h : Li W o c T) => play_any T o c W h hwT hlT
  have hin := inForm_play (N := []) inForm_nil hwT
  generalize playN [] T = P at *
  obtain ⟨N, rs⟩ := P
  simp only at cP hin
  obtain ⟨M, eM⟩ : ∃ M : Nat, N.length + 2 = M := ⟨_, rfl⟩
  rw [eM] at cP
  have hM : M ≤ 20000 := by have := hin.len; omega
  have hM2 : 2 ≤ M := by omega
  have HI : Hid (InForm N ∧ N.length + 2 = M) := ⟨hin, eM⟩
  have cA := fun (W : World) => awake_any W
  clear h hw hwT hlT hin eM
  go_enter Try.func4, Try.ntmps4
  go_wp2_with (first
    | (go_at_call 8; refine cF.mono ?_; rintro e w1 ⟨o1, c1, rfl, r1, hb1⟩)
    | (go_at_call 9; refine (cP _ _ _ (li_of_owns r1)).mono ?_; rintro e w2 ⟨o2, c2, o3, c3, rfl, r2, r3, hb2⟩; obtain ⟨b, d, e3⟩ := own_slice r3 (by omega); simp only [Value.slice.injEq, true_and] at e3; obtain ⟨rfl, rfl⟩ := e3)
    | (go_at_call 11; refine (cA _).mono ?_; rintro e w3 ⟨rfl, hb3⟩))
  have R3 : Hid (w3.ownsRow w1.heap.size 33 3 (.slice (some ⟨b, 0, none⟩) M c3) M (flat (full N))) := keep3 r3 hb3
  have B3 : Hid (Below w.heap.size w w3) := bt (bt hb1 hb2) hb3
  clear r1 r2 r3 hb1 hb2 hb3 cF cP cA
  go_loopw [23] (fun iv wr => ∃ k : Nat, k ≤ M ∧ iv = .int .i64 k ∧ Hid (Below w3.heap.size w3 wr)) (fun iv _ => M - (intOf iv).toNat)
  case atStart => exact ⟨0, Nat.zero_le _, rfl, Below.refl _ _⟩
  case round =>
    obtain ⟨k, hk, rfl, HB⟩ := hrel
    by_cases hlt : k < M
    · have rr := keep3 R3.out HB.out
      obtain ⟨d0, d1, d2⟩ := row_at rr HI.out.2 hlt
      have hne := fun (j : Nat) (hj : j < k) => nd_ne HI.out.1 (j := j) hj (by have := HI.out.2; omega)
      have hwf := fun (j : Nat) (hj : j ≤ k) => nd_wf HI.out.1 (i := j) (by have := HI.out.2; omega)
      have hfine := fun (h2 : 2 ≤ k) => HI.out.1.fine k h2 (by have := HI.out.2; omega)
      obtain ⟨wa, ea⟩ : ∃ wa, wr.alloc (.cells #[.int .i64 (nd N k).1, .int .i64 (nd N k).2.1, .int .i64 (nd N k).2.2] 33) = wa := ⟨_, rfl⟩
      have na : wa.heap[wr.heap.size]? = some (boxN (.int .i64 (nd N k).1) (.int .i64 (nd N k).2.1) (.int .i64 (nd N k).2.2)) := by rw [← ea]; exact heap_alloc_new wr _
      have ba : Below wr.heap.size wr wa := by rw [← ea]; exact (Below.refl _ _).alloc (Nat.le_refl _) _
      have ra := keep3 rr ba
      have lta := heap_lt na
      have HN : Hid (wa.heap[wr.heap.size]? = some (boxN (.int .i64 (nd N k).1) (.int .i64 (nd N k).2.1) (.int .i64 (nd N k).2.2))) := na
      have HA : Hid (Below wr.heap.size wr wa) := ba
      have HRA : Hid (wa.ownsRow w1.heap.size 33 3 (.slice (some ⟨b, 0, none⟩) M c3) M (flat (full N))) := ra
      have HF : Hid (2 ≤ k → Fine N k) := hfine
      have HE : Hid (∀ j, j < k → nd N j ≠ nd N k) := hne
      have HW : Hid (∀ j, j ≤ k → Wf (nd N j)) := hwf
      generalize hbn : wr.heap.size = bn at *
      clear na ba ra rr hfine hne hwf
      go_wp2
      go_loopw [7] (fun jv w4 => ∃ j : Nat, j ≤ k ∧ jv = .int .i64 j ∧ Hid (Below wa.heap.size wa w4)) (fun jv _ => k - (intOf jv).toNat)
      case atStart => exact ⟨0, Nat.zero_le _, rfl, Below.refl _ _⟩
      case round =>
        obtain ⟨j, hj, rfl, HB4⟩ := hrel
        have rr4 := keep3 HRA.out HB4.out
        obtain ⟨x0, x1, x2⟩ := boxN_cells ((HB4.out.block _ lta).trans HN.out)
        by_cases hlt4 : j < k
        · obtain ⟨y0, y1, y2⟩ := row_at rr4 HI.out.2 (show j < M by omega)
          have q := fun (w : World) => eql_node w (nd N j) (nd N k) (HW.out j hj) (HW.out k (Nat.le_refl _))
          have e4 : (nd N j == nd N k) = false := by rw [beq_eq_false_iff_ne]; exact HE.out j hlt4
          rw [e4] at q
          clear rr4 e4
          generalize nd N j = n2 at *
          generalize nd N k = n at *
          go_wp2
          go_region
          all_goals go_wp2
          all_goals go_roundw
          case rel => exact ⟨j + 1, by omega, by simp, HB4.out.drew⟩
          case measure => simp [intOf]; omega
        · have ej : k = j := by omega
          subst ej
          have FIN : Hid (Below w3.heap.size w3 wr) := by
            have h5 := HA.out
            rw [← hbn] at h5
            exact bt (bt HB.out h5) HB4.out
          by_cases h2 : (k : Int) < 2
          · go_wp2
            go_roundw
            case rel => exact ⟨k + 1, by omega, by simp, FIN.out⟩
            case measure => simp [intOf]; omega
          · have hf := HF.out (by omega)
            unfold Fine at hf
            rcases hf with ⟨f1, f2, f3⟩ | ⟨f1, f2, f3, f4, f5⟩ | ⟨f1, f2, f3, f4⟩
            · clear HE HW HN rr4 HF
              generalize nd N k = n at *
              obtain ⟨n1, n2, n3⟩ := n
              simp only at f1 f2 f3 x0 x1 x2
              subst f1 f3
              have q1 : ¬ n2 < 0 := by omega
              go_wp2
              go_roundw
              case rel => exact ⟨k + 1, by omega, by simp, FIN.out⟩
              case measure => simp [intOf]; omega
            · obtain ⟨y0, _, _⟩ := row_at rr4 HI.out.2 (k := (nd N k).2.1.toNat) (by omega)
              clear HE HW HN rr4 HF
              generalize nd N k = n at *
              obtain ⟨n1, n2, n3⟩ := n
              simp only at f1 f2 f3 f4 f5 x0 x1 x2 y0
              subst f1 f4
              obtain ⟨i2, rfl⟩ : ∃ i2 : Nat, n2 = (i2 : Int) := ⟨n2.toNat, by omega⟩
              rw [show ((i2 : Int)).toNat = i2 by omega] at y0 f5
              generalize (nd N i2).1 = c4 at *
              have q4 : (c4 == 4) = false := by simpa using f5
              have q1 : ¬ (i2 : Int) < 2 := by omega
              have q2 : ¬ (k : Int) ≤ (i2 : Int) := by omega
              have q3 : (i2 : Int) < (M : Int) := by omega
              go_wp2
              go_roundw
              case rel => exact ⟨k + 1, by omega, by simp, FIN.out⟩
              case measure => simp [intOf]; omega
            · clear HE HW HN rr4 HF
              generalize nd N k = n at *
              obtain ⟨n1, n2, n3⟩ := n
              simp only at f1 f2 f3 f4 x0 x1 x2
              have q1 : ¬ n2 < 2 := by omega
              have q2 : ¬ n3 ≤ n2 := by omega
              have q3 : ¬ (k : Int) ≤ n3 := by omega
              rcases f1 with rfl | rfl
              · go_wp2
                go_roundw
                case rel => exact ⟨k + 1, by omega, by simp, FIN.out⟩
                case measure => simp [intOf]; omega
              · go_wp2
                go_roundw
                case rel => exact ⟨k + 1, by omega, by simp, FIN.out⟩
                case measure => simp [intOf]; omega
    · obtain rfl : k = M := by omega
      go_wp2
      go_ret
      exact ⟨rfl, bt B3.out HB.out⟩
set_option maxRecDepth 100000 in
theorem lifted (os : Os) (started : os.Started) (H : Type) (enc : TypeId × Value → H) :
    ReturnsInHanded {} Try.checked os 4 .any (Rows.internSharesSpec.pre6 enc Try.prog Try.f4 Rows.internSharesRow.domain false) (Rows.internSharesSpec.post enc Try.prog Try.f4 false true false false) := by
  refine returnsInHanded_of_change (C := Try.checked) own started (by kernel_rfl) Try.func4
    (ChangeSpec.witness6 (enc := enc) (C := Try.checked) false ⟨#[], #[.slice none 0 0], []⟩ 8 (by kernel_rfl) (by kernel_rfl) (by kernel_rfl) (by kernel_rfl)) ?_
  intro W base args ds gs before hval0 hW hcnd _
  have hval : ∀ (j : Nat) t v, Try.f4.params[j]? = some t → args[j]? = some v → Value.okWide Try.prog W .any base t v := hval0
  have hW' := hW
  obtain ⟨p, q, hA0, hV, rfl, hfz, hnd⟩ := hW
  have hA : DataW.TrodAll enc Try.prog W 0 (fun _ => true) true Try.f4.params.toList args.toList ds p := hA0
  rw [Try.params4] at hA hval
  obtain ⟨v0, vs0, d0, ds0, p0, q0, hargs, rfl, rfl, h0, r0⟩ := trodAll_cons hA
  obtain ⟨rfl, rfl, rfl⟩ := trodAll_nil r0
  obtain rfl : args = #[v0] := by cases args; simp_all
  obtain ⟨rfl, rfl⟩ := trodVars_none hV
  have k0 := h0
  have lt0 : ∀ x ∈ p0, x.block < W.heap.size := by obtain ⟨m, hm⟩ := k0; exact DataW.trod_lt m _ _ _ hm
  obtain ⟨a0, len0, cap0, rfl⟩ := okWide_slice Try.underlying22 (hval 0 22 v0 rfl rfl)
  obtain ⟨fu0, hf0⟩ := h0
  obtain ⟨ao0, c0, L0, e0, hl0, hw0⟩ := open_ops (by simpa [Value.cells] using hf0)
  simp only [Value.slice.injEq] at e0
  obtain ⟨rfl, rfl, rfl⟩ := e0
  clear hA0 hval0
  refine (walk L0 _ _ W hl0 hw0).mono fun e W' ⟨he, bel⟩ => ?_
  subst he
  exact ⟨_, rfl, _, _, _, [], _, [], hW', trodAll_mk1 (shut_bool Try.underlying4 _), (trodAll_cons_mk (Below.trod laidOut (by kernel_rfl) (of_decide_eq_true (by kernel_rfl)) k0 bel lt0) trodAll_mk0), rfl, bel.frame _, fun h => by cases h⟩
theorem over : Rows.internSharesRow.holds Try.pinned (OpenSpec.ofChange Rows.internSharesSpec) :=
  OpenClaim.holds_of_wide 4 Try.f4 rfl rfl rfl rfl rfl rfl rfl ⟨rfl, rfl, rfl, rfl, rfl⟩ rfl rfl rfl rfl rfl (by kernel_rfl) Try.func4 (by kernel_rfl)
    (of_decide_eq_true (by kernel_rfl)) (by unfold Func.isWrapper; first | (rw [if_pos (by decide +kernel)]; kernel_rfl) | (rw [if_neg (by decide +kernel)]; exact ⟨rfl, rfl⟩))
    (fun os started H enc _ => lifted os started H enc)
theorem proved : Rows.InternSharesSaid := over
end Go.Proofs.Ytmeomfnnachkoaa.internShares
namespace Go.Proofs.Ytmeomfnnachkoaa
/-- THE STATEMENT. -/
theorem internShares_holds : Rows.InternSharesSaid := internShares.proved
#print axioms internShares_holds
end Go.Proofs.Ytmeomfnnachkoaa
