/- The document's play of operations. -/
import Derived.Test.YtmeomfnnachkoaaRefD
namespace Go.Proofs.Ytmeomfnnachkoaa.PlR
open Go.RowKit Go.Maps Mem NdNum TabL NumL DoL DoA PlayL RefN RefD

theorem cell_one {w : World} {g : Nat} {a : Value} {t : TypeId} (h : w.heap[g]? = some (.cells #[a] t)) : w.cell? ⟨g, 0, none⟩ = some a := by simp [World.cell?, h]
theorem new_one (w : World) (a : Value) (t : TypeId) : ∀ j u, [a][j]? = some u → (w.alloc (.cells #[a] t)).cell? ((⟨w.heap.size, 0, none⟩ : Addr).add j) = some u := by
  intro j u h
  rw [Go.WideShapes.add_plain]
  match j, h with
  | 0, h => simp at h; subst h; exact cell_one (heap_alloc_new w (.cells #[a] t))
/-- One more operation: what lies where. -/
theorem played_step {w wr W1 w2 w3 : World} {g b b2 c2 d k ch gb cb : Nat} {N N2 : List Nd} {A A2 : List Value} {o o2 : Obj}
    (hg : w.heap.size = g) (hB : Below g w wr) (hL : Lst wr b ch N) (hO : wr.ownsRow 0 3 1 (.slice (some ⟨d, 0, none⟩) k c2) k A) (hd : b ≠ d ∧ g ≤ b ∧ g ≤ d) (e1 : W1 = wr.alloc o)
    (l2 : Lst w2 b2 cb N2) (g2 : W1.grownBy w2 (some b)) (h2 : b2 = b ∨ W1.heap.size ≤ b2) :
    w2.ownsRow 0 3 1 (.slice (some ⟨d, 0, none⟩) k c2) k A ∧
    (∀ (c3 : Nat), w3.ownsRow 0 3 1 (.slice (some ⟨gb, 0, none⟩) (k + 1) c3) (k + 1) A2 → (w2.alloc o2).grownBy w3 (some d) → (some gb = some d ∨ some gb = some (w2.alloc o2).heap.size) →
      Lst w3 b2 cb N2 ∧ (b2 ≠ gb ∧ g ≤ b2 ∧ g ≤ gb) ∧ Below g w w3) := by
  have ltb := hL.lt
  have ltd := (hO.lt d rfl).2
  have lt2 := l2.lt
  have s1 : W1.heap.size = wr.heap.size + 1 := by rw [e1]; simp
  have gw := hB.size
  have o2' : w2.ownsRow 0 3 1 (.slice (some ⟨d, 0, none⟩) k c2) k A := owns_block hO (by rw [g2.block d (by omega) (by simp; omega), e1, Below.heap_alloc _ _ _ ltd])
  have ltd2 := (o2'.lt d rfl).2
  refine ⟨o2', fun c3 h3 g3 h4 => ?_⟩
  have s2 : (w2.alloc o2).heap.size = w2.heap.size + 1 := by simp
  have hne : b2 ≠ d := by rcases h2 with h | h <;> omega
  have hgb : gb = d ∨ gb = w2.heap.size + 1 := by
    rcases h4 with h | h
    · left; simpa using h
    · right; simp at h; omega
  refine ⟨⟨l2.1, owns_block l2.2 (by rw [g3.block b2 (by omega) (by simp; omega), Below.heap_alloc _ _ _ lt2])⟩, ⟨by rcases hgb with h | h <;> omega, by rcases h2 with h | h <;> omega, by rcases hgb with h | h <;> omega⟩, ?_⟩
  have b1 : Below g w W1 := by rw [e1]; exact hB.alloc (by omega) _
  have b2' : Below g w w2 := b1.grown g2 (by omega) (fun j hj => by simp at hj; omega)
  have b3 : Below g w (w2.alloc o2) := b2'.alloc (by have := b2'.size; omega) _
  exact b3.grown g3 (by have := b3.size; omega) (fun j hj => by simp at hj; omega)
set_option maxRecDepth 20000 in
set_option maxHeartbeats 1000000 in
theorem played_any (L : List Nd) (ao : Option Addr) (cap : Nat) (w : World) (h : Li w ao cap L) (hw : ∀ n ∈ L, Wf n) (hl : L.length ≤ 200) :
    Calls Try.prog 10 #[.slice ao L.length cap] w fun e w' => ∃ b c d c2, e = .returned (.tuple #[.slice (some ⟨b, 0, none⟩) ((playN [] L).1.length + 2) c, .slice (some ⟨d, 0, none⟩) L.length c2]) ∧
      Lst w' b c (playN [] L).1 ∧ w'.ownsRow 0 3 1 (.slice (some ⟨d, 0, none⟩) L.length c2) L.length (ansL (playN [] L).2) ∧ Below w.heap.size w w' := by
  obtain ⟨i0, hi, hz0, hz1, hz2⟩ := info_parts infoI
  have cS := start_any w
  obtain ⟨P, eP⟩ : ∃ P, playN [] L = P := ⟨_, rfl⟩
  rw [eP]
  obtain ⟨M, eM⟩ : ∃ M : Nat, P.1.length + 2 = M := ⟨_, rfl⟩
  rw [eM]
  have EP0 : Hid (playN [] L = P ∧ P.1.length + 2 = M) := ⟨eP, eM⟩
  have HLi : Hid (Li w ao cap L) := h
  clear h eP eM
  go_enter Try.func10, Try.ntmps10
  go_wp2_with (go_at_call 21; refine cS.mono ?_; rintro e w1 ⟨rfl, l1, hb1⟩)
  have hm := World.ownsRow_made (base := 0) (e := 3) (size := 1) w1 #[] 0 (Nat.zero_le _) (by decide) rfl
  have hba : Below w1.heap.size w1 (w1.alloc (.cells #[] 3)) := (Below.refl _ w1).alloc (Nat.le_refl _) _
  have l2 := l1.below hba
  have lt1 := l1.lt
  have hb2 := bt hb1 hba
  clear l1 hb1 hba cS
  generalize hgg : w.heap.size = g at *
  go_loopw [4, 5, 6, 13] (fun v4 v5 v6 iv wr => ∃ (k b c d c2 n : Nat) (x : Int), k ≤ L.length ∧ iv = .int .i64 k ∧ v4 = .slice (some ⟨b, 0, none⟩) n c ∧ v5 = .slice (some ⟨d, 0, none⟩) k c2 ∧ v6 = .int .i64 x ∧ Hid ((playN [] (L.take k)).1.length + 2 = n) ∧ Hid (Lst wr b c (playN [] (L.take k)).1) ∧
      Hid (wr.ownsRow 0 3 1 (.slice (some ⟨d, 0, none⟩) k c2) k (ansL (playN [] (L.take k)).2)) ∧ Hid (b ≠ d ∧ g ≤ b ∧ g ≤ d) ∧ Hid (Below g w wr)) (fun _ _ _ iv _ => L.length - (intOf iv).toNat)
  case atStart => exact ⟨0, g, 2, w1.heap.size, 0, 2, 0, Nat.zero_le _, rfl, rfl, rfl, rfl, rfl, l2, hm, ⟨by omega, by omega, by omega⟩, hb2⟩
  case round =>
    clear hm l2 hb2 lt1
    obtain ⟨k, b, c, d, c2, n, x, hk, rfl, rfl, rfl, rfl, HN, HL, HO, HD, HB⟩ := hrel
    by_cases hlt : k < L.length
    · have ek : L[k]? = some L[k] := List.getElem?_eq_getElem hlt
      have hwk := hw L[k] (List.getElem_mem _)
      have HB' := HB.out
      obtain ⟨ob, off, rfl, hbl, d0, d1, d2⟩ := (HLi.out.below HB' (by omega)).at ek
      have D0 : Below wr.heap.size wr (wr.alloc (.cells #[.int .i64 L[k].1, .int .i64 L[k].2.1, .int .i64 L[k].2.2] 36)) := (Below.refl _ _).alloc (Nat.le_refl _) _
      have cD := refdo_any (HL.out.below D0) L[k] hwk
      have E1 : Hid (playN [] (L.take (k + 1)) = ((doN (playN [] (L.take k)).1 L[k]).1, (playN [] (L.take k)).2 ++ [(doN (playN [] (L.take k)).1 L[k]).2])) := by
        unfold Hid; rw [List.take_add_one, ek]; exact playN_snoc _ _ _
      rw [HN.out] at cD
      generalize playN [] (L.take k) = P1 at *
      generalize L[k] = n1 at *
      have hk2 : k < L.length := hlt
      generalize doN P1.1 n1 = q at *
      obtain ⟨N2, ra⟩ := q
      unfold node at cD
      simp only at cD E1
      clear ek hwk HLi hw
      generalize L.length = LL at *
      go_wp2_with (first
        | (go_at_call 22; refine cD.mono ?_; rintro e w2 ⟨v2, rfl, b2, cb, rfl, l2, g2, h2⟩; have st := fun w3 gb A2 => played_step (w3 := w3) (gb := gb) (A2 := A2) (o2 := .cells #[.int .i64 (ra.getD (-1))] 3) hgg HB.out HL.out HO.out HD.out rfl l2 g2 h2; have r2 := (st w2 0 []).1)
        | (at_builtin; refine wpList_append_own_at _ rfl _ _ 24 rfl 0 3 i0 (.int .i64 0) 1 8 Try.underlying24 hi hz0 hz1 hz2 rfl (by decide) (.slice (some ⟨d, 0, none⟩) k c2) k (ansL P1.2) rfl (r2.alloc _) ⟨w2.heap.size, 0, none⟩ 1 1 [.int .i64 (ra.getD (-1))] rfl rfl (new_one w2 _ _) (by simp [Value.oneCell']) (by unfold maxLen; omega) (by omega) (Nat.zero_le _) ?_; intro v3 w3 hown3 hgrow3 hnil3 hloc3; obtain ⟨gb, c3, rfl⟩ := own_slice hown3 (by omega)))
      go_roundw
      case rel =>
        obtain ⟨f1, f2, f3⟩ := (st w3 gb _).2 c3 hown3 hgrow3 hloc3
        refine ⟨k + 1, b2, cb, gb, c3, _, _, by omega, by simp, rfl, rfl, rfl, ?_, ?_, ?_, f2, f3⟩
        · unfold Hid; rw [E1.out]
        · unfold Hid; rw [E1.out]; exact f1
        · unfold Hid; rw [E1.out, ansL_snoc]; exact hown3
      case measure => simp [intOf]; omega
    · obtain rfl : k = L.length := by omega
      rw [List.take_of_length_le (Nat.le_refl _)] at HL HO HN
      rw [EP0.out.1] at HL HO HN
      obtain rfl : M = n := EP0.out.2.symm.trans HN.out
      go_wp2
      go_ret2
      exact ⟨b, c, d, c2, rfl, HL.out, HO.out, by rw [hgg]; exact HB.out⟩
end Go.Proofs.Ytmeomfnnachkoaa.PlR
