/- A table on which operations were done. -/
import Derived.Test.YtmeomfnnachkoaaPlayL
namespace Go.Proofs.Ytmeomfnnachkoaa.TblL
open Go.RowKit Go.Maps Mem NdNum TabL NumL DoL DoA PlayL

set_option maxRecDepth 20000 in
theorem table_any (L : List Nd) (ao : Option Addr) (cap : Nat) (w : World) (h : Li w ao cap L) (hw : ∀ n ∈ L, Wf n) :
    Calls Try.prog 12 #[.slice ao L.length cap] w fun e w' => ∃ r m, e = .returned (.pointer (some ⟨w.heap.size, 0, none⟩)) ∧ Tab w' w.heap.size r m (playN [] L).1 ∧ (w.heap.size ≤ r ∧ w.heap.size ≤ m) ∧ Below w.heap.size w w' := by
  have cNew := new_any w
  have T0 := tab_new w
  have hb0 : Below w.heap.size w (w.alloc (boxT (.slice none 0 0) (.map none))) := (Below.refl _ w).alloc (Nat.le_refl _) _
  generalize w.alloc (boxT (.slice none 0 0) (.map none)) = W0 at *
  have HL : Hid (Li w ao cap L) := h
  have hm : L.length ≤ 9223372036854775807 := by have h1 := h.1; have h2 := h.2.1; unfold maxLen at h2; omega
  obtain ⟨P, eP⟩ : ∃ P, playN [] L = P := ⟨_, rfl⟩
  rw [eP]
  have EP0 : Hid (playN [] L = P) := eP
  clear h eP
  go_enter Try.func12, Try.ntmps12
  go_wp2_with (go_at_call 19; refine cNew.mono ?_; rintro e w1 ⟨rfl, hw1⟩; have hw2 := hw1.symm; clear hw1; subst hw2)
  clear cNew
  generalize hgg : w.heap.size = g at *
  go_loopw [9] (fun iv wr => ∃ (k r m : Nat), k ≤ L.length ∧ iv = .int .i64 k ∧ Hid (Tab wr g r m (playN [] (L.take k)).1) ∧ Hid (g ≤ r ∧ g ≤ m) ∧ Hid (Below g w wr)) (fun iv _ => L.length - (intOf iv).toNat)
  case atStart => exact ⟨0, g, g, Nat.zero_le _, rfl, T0, ⟨Nat.le_refl _, Nat.le_refl _⟩, hb0⟩
  case round =>
    clear hb0 T0
    obtain ⟨k, r, m, hk, rfl, HT, HR, HB⟩ := hrel
    by_cases hlt : k < L.length
    · have ek : L[k]? = some L[k] := List.getElem?_eq_getElem hlt
      have hwk := hw L[k] (List.getElem_mem _)
      have HB' := HB.out
      obtain ⟨b, off, rfl, hbl, d0, d1, d2⟩ := (HL.out.below HB' (by omega)).at ek
      have D0 : Below wr.heap.size wr (wr.alloc (.cells #[.int .i64 L[k].1, .int .i64 L[k].2.1, .int .i64 L[k].2.2] 36)) := (Below.refl _ _).alloc (Nat.le_refl _) _
      have cD := do_any (HT.out.below D0) L[k] hwk
      have E1 : Hid (playN [] (L.take (k + 1)) = ((doN (playN [] (L.take k)).1 L[k]).1, (playN [] (L.take k)).2 ++ [(doN (playN [] (L.take k)).1 L[k]).2])) := by
        unfold Hid; rw [List.take_add_one, ek]; exact playN_snoc _ _ _
      generalize playN [] (L.take k) = P1 at *
      generalize L[k] = n at *
      have hk2 : k < L.length := hlt
      generalize doN P1.1 n = q at *
      obtain ⟨N2, ra⟩ := q
      unfold ans node at cD
      simp only at cD E1
      clear ek hwk HL hw
      go_wp2_with (go_at_call 15; refine cD.mono ?_; rintro e w2 ⟨rfl, r', m', t1, t2, t3, t4⟩)
      go_roundw
      case rel =>
        have hr := HR.out
        have hs := HB.out.size
        simp at t3 t4
        refine ⟨k + 1, r', m', by omega, by simp, by unfold Hid; rw [E1.out]; exact t1, ⟨by omega, by omega⟩, ?_⟩
        have b1 : Below g w (wr.alloc (.cells #[.int .i64 n.1, .int .i64 n.2.1, .int .i64 n.2.2] 36)) := HB.out.alloc (by omega) _
        exact b1.trans (t2.below (Nat.le_refl _) hr.1 hr.2 (by simp; omega))
      case measure => simp [intOf]; omega
    · obtain rfl : k = L.length := by omega
      rw [List.take_of_length_le (Nat.le_refl _)] at HT
      rw [EP0.out] at HT
      go_wp2
      go_ret
      subst hgg
      exact ⟨r, m, rfl, HT.out, HR.out, HB.out⟩
end Go.Proofs.Ytmeomfnnachkoaa.TblL
