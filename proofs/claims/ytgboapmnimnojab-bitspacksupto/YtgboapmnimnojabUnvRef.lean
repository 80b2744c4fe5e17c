/- What the reference's reading of a number in groups of seven bits answers: the same as the program's own. -/
import Derived.Test.YtgboapmnimnojabVar
namespace Go.Proofs.Ytgboapmnimnojab.UnvRef
open Go.RowKit Mem VarNum Var

theorem sv_drop (m : List Nat) (j : Nat) (h : j < m.length) : sv (m.drop j) = m.getD j 0 % 128 + 128 * sv (m.drop (j + 1)) := by
  rw [List.drop_eq_getElem_cons h, sv]; simp [h]
theorem take_last (l : List Nat) (k : Nat) (h : k < l.length) : l.take (k + 1) = l.take k ++ [l.getD k 0] := by
  rw [List.take_succ_eq_append_getElem h]; simp [h]
theorem At.next {l : List Nat} {R : Nat × Nat} {k : Nat} (h : At l R k (sv (l.take k))) (hk : k < l.length) (hc : 128 ≤ l.getD k 0) (h9 : k < 9) : At l R (k + 1) (sv (l.take (k + 1))) := by
  have hu := h.unfold hk
  rw [if_neg (by omega), if_pos hc] at hu
  unfold At
  rw [hu, take_last l k hk, sv_append, pow_128, List.length_take, Nat.min_eq_left (by omega)]
theorem At.nine {l : List Nat} {R : Nat × Nat} {k acc : Nat} (h : At l R k acc) (hk : k < l.length) (hc : 128 ≤ l.getD k 0) (h9 : k = 9) : R = (0, 0) := by
  have hu := h.unfold hk
  rw [if_pos (by omega)] at hu
  exact hu
theorem At.found {l : List Nat} {R : Nat × Nat} {k : Nat} (h : At l R k (sv (l.take k))) (hk : k < l.length) (hc : l.getD k 0 < 128) (h9 : k ≤ 9) (hp : ∀ x ∈ l.take k, 128 ≤ x ∧ x < 256) :
    R = if vb (sv (l.take (k + 1)) % 18446744073709551616) = l.take (k + 1) then (sv (l.take (k + 1)) % 18446744073709551616, k + 1) else (0, 0) := by
  have hlen : (l.take k).length = k := by rw [List.length_take, Nat.min_eq_left (by omega)]
  have hr := ref_step (l.take k) (l.drop (k + 1)) (l.getD k 0) hp hc (by omega)
  rw [hlen] at hr
  rw [take_last l k hk, hr]
  rw [← h, List.drop_eq_getElem_cons hk]
  simp [hk]
/-- Where the reference's outer loop stands. -/
def Pos (l : List Nat) (R : Nat × Nat) (k : Nat) : Prop := k ≤ 10 ∧ (∀ x ∈ l.take k, 128 ≤ x ∧ x < 256) ∧ (k ≤ 9 → At l R k (sv (l.take k))) ∧ (k = 10 → R = (0, 0))
theorem Pos.next {l : List Nat} {R : Nat × Nat} {k : Nat} (h : Pos l R k) (hk : k < l.length) (h9 : k ≤ 9) (hb8 : ∀ c ∈ l, c < 256) (hc : 128 ≤ l.getD k 0) : Pos l R (k + 1) := by
  obtain ⟨h1, h2, h3, h4⟩ := h
  refine ⟨by omega, ?_, fun h5 => At.next (h3 h9) hk hc (by omega), fun h5 => At.nine (h3 h9) hk hc (by omega)⟩
  intro x hx
  rw [take_last l k hk] at hx
  simp only [List.mem_append, List.mem_singleton] at hx
  rcases hx with hx | rfl
  · exact h2 x hx
  · have : l.getD k 0 = l[k] := by simp [hk]
    exact ⟨hc, by rw [this]; exact hb8 _ (List.getElem_mem hk)⟩
theorem Pos.out {l : List Nat} {R : Nat × Nat} {k : Nat} (h : Pos l R k) (hk : 10 ≤ k ∨ l.length ≤ k) : R = (0, 0) := by
  obtain ⟨h1, h2, h3, h4⟩ := h
  by_cases h5 : k = 10
  · exact h4 h5
  · exact (h3 (by omega)).out (by omega)
theorem Pos.found {l : List Nat} {R : Nat × Nat} {k : Nat} (h : Pos l R k) (hk : k < l.length) (h9 : k ≤ 9) (hc : l.getD k 0 < 128) :
    R = if vb (sv (l.take (k + 1)) % 18446744073709551616) = l.take (k + 1) then (sv (l.take (k + 1)) % 18446744073709551616, k + 1) else (0, 0) := At.found (h.2.2.1 h9) hk hc h9 h.2.1

set_option maxRecDepth 20000 in
set_option maxHeartbeats 1000000 in
theorem runvar_any (l : List Nat) (RU RN : Nat) (ao : Option Addr) (cap : Nat) (w : World) (h : Lies w ao cap (ints .u8 l)) (hb8 : ∀ c ∈ l, c < 256) (hR : uvGo 0 0 l = (RU, RN)) :
    Calls Try.prog 10 #[.slice ao l.length cap] w fun e w' => e = .returned (.tuple #[.int .u64 (RU : Int), .int .i64 (RN : Int)]) ∧ Below w.heap.size w w' := by
  have m1 := h.size
  have m2 := h.1
  rw [ints_length] at m1 m2
  unfold maxLen at m1
  have hA : Pos l (RU, RN) 0 := ⟨by omega, by simp, fun _ => hR, by simp⟩
  clear hR
  go_enter Try.func10, Try.ntmps10
  go_wp2
  go_loop [4] (fun i => ∃ k : Nat, k ≤ l.length ∧ i = .int .i64 ((k : Int) + 1) ∧ Pos l (RU, RN) k) (fun i => 11 - (intOf i).toNat)
  case atStart => exact ⟨0, Nat.zero_le _, rfl, hA⟩
  case round =>
    clear hA
    obtain ⟨k, hk, rfl, hP⟩ := hrel
    have hk10 := hP.1
    by_cases hex : 10 ≤ k ∨ l.length ≤ k
    · have hz := hP.out hex
      simp only [Prod.mk.injEq] at hz
      obtain ⟨rfl, rfl⟩ := hz
      clear hP h hb8
      by_cases h10 : 10 ≤ k
      · clear hex
        go_wp2
        go_ret2
        exact ⟨rfl, Below.refl _ _⟩
      · have hll : l.length ≤ k := by omega
        clear hex
        go_wp2
        go_ret2
        exact ⟨rfl, Below.refl _ _⟩
    · have hlt : k < l.length := by omega
      have h9 : k ≤ 9 := by omega
      clear hex
      have hnext := fun hc => hP.next hlt h9 hb8 hc
      have hfound := fun hc => hP.found hlt h9 hc
      obtain ⟨b, off, rfl, hbl, hc⟩ := h.2.2.2 (by rw [ints_length]; omega)
      have hcell := hc k (by rw [ints_length]; omega)
      rw [ints_get _ _ _ hlt] at hcell
      have hc256 : l.getD k 0 < 256 := by
        have : l.getD k 0 = l[k] := by simp [hlt]
        rw [this]; exact hb8 _ (List.getElem_mem hlt)
      have hcells : ∀ j, j ≤ k → w.cell? ⟨b, off + j, none⟩ = some (.int .u8 (((l.take (k + 1)).getD j 0 : Nat) : Int)) ∧ (l.take (k + 1)).getD j 0 < 256 := fun j hj => by
        have hjl : j < l.length := by omega
        have e : (l.take (k + 1)).getD j 0 = l.getD j 0 := by simp [show j < k + 1 by omega]
        rw [hc j (by rw [ints_length]; omega), ints_get _ _ _ hjl, e]
        refine ⟨rfl, ?_⟩
        have : l.getD j 0 = l[j] := by simp [hjl]
        rw [this]; exact hb8 _ (List.getElem_mem hjl)
      have hLm : Lies w (some ⟨b, off, none⟩) cap (ints .u8 (l.take (k + 1))) := by
        have := h.take (k + 1)
        rw [ints, ← List.map_take] at this
        exact this
      have hml : (l.take (k + 1)).length = k + 1 := by rw [List.length_take, Nat.min_eq_left (by omega)]
      generalize l.take (k + 1) = m at hfound hcells hLm hml
      generalize l.getD k 0 = c at hcell hnext hfound hc256
      clear hc h hP hb8
      by_cases h128 : 128 ≤ c
      · have hn := hnext h128
        clear hnext hfound hcells hLm
        go_wp2
        go_round
        case rel => exact ⟨k + 1, by omega, by go_num, hn⟩
        case measure => simp [intOf]; omega
      · have hf := hfound (by omega)
        clear hnext hfound
        have HF : Hid ((RU, RN) = if vb (sv m % 18446744073709551616) = m then (sv m % 18446744073709551616, k + 1) else (0, 0)) := hf
        clear hf
        have hU : sv m % 18446744073709551616 < 18446744073709551616 := by omega
        have hvar := fun W : World => rvarint_any (sv m % 18446744073709551616) W hU
        have hsam := fun (W : World) (ao2 : Option Addr) (cap2 : Nat) (hl2 : Lies W ao2 cap2 (ints .u8 (vb (sv m % 18446744073709551616)))) (hb2 : Below w.heap.size w W) => same_any (vb (sv m % 18446744073709551616)) m ao2 (some ⟨b, off, none⟩) cap2 cap W hl2 (hLm.below hb2 (Nat.le_refl _))
        rw [hml] at hsam
        have HC := hcells
        have HC2 : Hid (∀ j, j ≤ k → w.cell? ⟨b, off + j, none⟩ = some (.int .u8 ((m.getD j 0 : Nat) : Int)) ∧ m.getD j 0 < 256) := HC
        have HV : Hid (∀ W : World, Calls Try.prog 13 #[.int .u64 ((sv m % 18446744073709551616 : Nat) : Int)] W fun e w' => ∃ ao cap, e = .returned (.slice ao (vb (sv m % 18446744073709551616)).length cap) ∧ w'.ownsRow W.heap.size 5 1 (.slice ao (vb (sv m % 18446744073709551616)).length cap) (vb (sv m % 18446744073709551616)).length (ints .u8 (vb (sv m % 18446744073709551616))) ∧ Below W.heap.size W w') := hvar
        clear hcells HC hvar
        go_wp2
        go_loop [5, 6] (fun u i => ∃ j : Nat, j ≤ k + 1 ∧ i = .int .i64 ((j : Int) - 1) ∧ u = .int .u64 ((sv (m.drop j) % 18446744073709551616 : Nat) : Int)) (fun _ i => (intOf i + 1).toNat)
        case atStart => exact ⟨k + 1, Nat.le_refl _, by go_num, by rw [List.drop_eq_nil_of_le (by omega)]; rfl⟩
        case round =>
          obtain ⟨j, hj, rfl, rfl⟩ := hrel
          by_cases hj0 : 1 ≤ j
          · obtain ⟨j, rfl⟩ : ∃ i, j = i + 1 := ⟨j - 1, by omega⟩
            have hcj := HC2.out j (by omega)
            obtain ⟨hcj1, hcj2⟩ := hcj
            have hsd := sv_drop m j (by omega)
            generalize m.getD j 0 = d at hcj1 hcj2 hsd
            generalize sv (m.drop (j + 1)) = S1 at hsd ⊢
            have HS : Hid (sv (m.drop j) = d % 128 + 128 * S1) := hsd
            clear hsd hsam HC2 hLm HV
            go_wp2
            go_round
            case rel => exact ⟨j, by omega, by go_num, by rw [HS.out]; simp only [IntKind.wrap_u64]; go_num⟩
            case measure => simp [intOf]
          · have : j = 0 := by omega
            subst this
            rw [List.drop_zero]
            clear HC2 hcell
            have hvar := HV.out
            clear HV
            generalize sv m % 18446744073709551616 = U at hvar hsam HF hU ⊢
            generalize vb U = V at hvar hsam HF
            go_wp2
            by_cases hB : V = m
            · rw [decide_eq_true hB] at hsam
              have HF2 := HF.out
              rw [if_pos hB] at HF2
              simp only [Prod.mk.injEq] at HF2
              obtain ⟨rfl, rfl⟩ := HF2
              clear HF hB
              go_region_with (first
                | (go_at_call 13; refine (hvar _).mono ?_; rintro e w1 ⟨ao2, cap2, rfl, hown, hb⟩)
                | (go_at_call 12; refine (hsam _ _ _ (lies_of_owns hown) ((Below.refl _ _).drew.trans hb)).mono ?_; rintro e w2 ⟨rfl, hb2⟩))
              all_goals go_wp2
              all_goals go_ret2
              all_goals exact ⟨by first | rfl | go_num, ((Below.refl _ _).drew.trans hb).trans (hb2.mono hb.size)⟩
            · rw [decide_eq_false hB] at hsam
              have HF2 := HF.out
              rw [if_neg hB] at HF2
              simp only [Prod.mk.injEq] at HF2
              obtain ⟨rfl, rfl⟩ := HF2
              clear HF hB
              go_region_with (first
                | (go_at_call 13; refine (hvar _).mono ?_; rintro e w1 ⟨ao2, cap2, rfl, hown, hb⟩)
                | (go_at_call 12; refine (hsam _ _ _ (lies_of_owns hown) ((Below.refl _ _).drew.trans hb)).mono ?_; rintro e w2 ⟨rfl, hb2⟩))
              all_goals go_wp2
              all_goals go_ret2
              all_goals exact ⟨by first | rfl | go_num, ((Below.refl _ _).drew.trans hb).trans (hb2.mono hb.size)⟩
end Go.Proofs.Ytgboapmnimnojab.UnvRef
