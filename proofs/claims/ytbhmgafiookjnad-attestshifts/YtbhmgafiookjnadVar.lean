/- What the calls on numbers in groups of seven bits answer: the program's own and the reference's. -/
import Derived.Test.YtbhmgafiookjnadMem
import Derived.Test.YtbhmgafiookjnadVarNum
import Derived.Deep.RegionWith
import Derived.WalkSmall
namespace Go.Proofs.Ytbhmgafiookjnad.Var
open Go.RowKit Mem VarNum

theorem info8 : (Try.prog.info? 5).map (fun i => (i.zero, i.size, i.bytes)) = some (some (.int .u8 0), 1, 1) := by kernel_rfl

/-- P, and behind it the groups of K, are L. -/
def Rest (P : List Nat) (K : Nat) (L : List Nat) : Prop := P ++ vb K = L

set_option maxRecDepth 20000 in
set_option maxHeartbeats 400000 in
/-- The groups of U behind what is owned already. -/
theorem avar_core (U n base : Nat) (L : List Nat) (v : Value) (xs : List Value) (w : World) (hL : L.length ≤ 10) (hR : Rest [] U L) (hU : U < 18446744073709551616) (hn : n + 10 ≤ 140737488355328) (hbase : base ≤ w.heap.size)
    (hown : w.ownsRow base 5 1 v n xs) :
    Calls Try.prog 79 #[v, .int .u64 (U : Int)] w fun e w' => ∃ v', e = .returned v' ∧ w'.ownsRow base 5 1 v' (n + L.length) (xs ++ ints .u8 L) ∧ Below base w w' := by
  obtain ⟨i0, hi, hz0, hz1, hz2⟩ := info_parts info8
  go_enter Try.func79, Try.ntmps79
  go_wp2
  go_loopw [0, 1] (fun o u wr => ∃ (K : Nat) (P : List Nat), u = .int .u64 (K : Int) ∧ K ≤ U ∧ Rest P K L ∧ wr.ownsRow base 5 1 o (n + P.length) (xs ++ ints .u8 P) ∧ Below base w wr)
    (fun _ u _ => (intOf u).toNat)
  case atStart => exact ⟨U, [], rfl, Nat.le_refl _, hR, by simpa [ints] using hown, Below.refl _ _⟩
  case round =>
    clear hown
    obtain ⟨K, P, rfl, hK, hP, hown, hb⟩ := hrel
    have hs := hb.size
    have hlen : P.length + 1 ≤ 10 := by have h1 := congrArg List.length hP; have h2 := vb_pos K; simp at h1; omega
    by_cases hlt : 128 ≤ K
    · have hor := or128 K
      go_wp2_with (at_builtin; refine wpList_append_own _ rfl _ _ 58 rfl base 5 i0 (.int .u8 0) 1 1 Try.underlying58 hi hz0 hz1 hz2 rfl (by decide) _ _ _ rfl (hown.alloc _) ⟨wr.heap.size, 0, none⟩ 1 1 [.int .u8 ((K % 128 + 128 : Nat) : Int)] rfl rfl ?c1 ?c2 ?c3 ?c4 ?c5 ?_)
      case c1 =>
        intro j u hj
        match j, hj with
        | 0, hj => simp at hj; subst hj; simp [Addr.add]
      case c2 => intro u hu; simp at hu; subst hu; rfl
      case c3 => unfold maxLen; omega
      case c4 => omega
      case c5 => simp; omega
      intro v' w1 hown' hgrow _
      have hb1 : Below base w w1 := (hb.alloc (by omega) _).grown hgrow (by simp; omega) (fun j hj => (hown.lt j hj).1)
      clear hgrow hown
      go_wp2
      go_roundw
      case rel => exact ⟨K / 128, P ++ [K % 128 + 128], by go_num, by omega, by unfold Rest at hP ⊢; rw [← hP, vb_big hlt]; simp, by simpa [ints, Nat.add_assoc] using hown', hb1⟩
      case measure => simp [intOf]; omega
    · have hlt2 : K < 128 := by omega
      go_wp2_with (at_builtin; refine wpList_append_own _ rfl _ _ 58 rfl base 5 i0 (.int .u8 0) 1 1 Try.underlying58 hi hz0 hz1 hz2 rfl (by decide) _ _ _ rfl (hown.alloc _) ⟨wr.heap.size, 0, none⟩ 1 1 [.int .u8 (K : Int)] rfl rfl ?d1 ?d2 ?d3 ?d4 ?d5 ?_)
      case d1 =>
        intro j u hj
        match j, hj with
        | 0, hj => simp at hj; subst hj; simp [Addr.add]; try omega
      case d2 => intro u hu; simp at hu; subst hu; rfl
      case d3 => unfold maxLen; omega
      case d4 => omega
      case d5 => simp; omega
      intro v' w1 hown' hgrow _
      have hb1 : Below base w w1 := (hb.alloc (by omega) _).grown hgrow (by simp; omega) (fun j hj => (hown.lt j hj).1)
      clear hgrow hown
      go_wp2
      go_ret
      refine ⟨v', rfl, ?_, hb1⟩
      unfold Rest at hP
      rw [← hP, vb_small hlt2]
      simpa [ints, Nat.add_assoc] using hown'
theorem avar_any (U n base : Nat) (v : Value) (xs : List Value) (w : World) (hU : U < 18446744073709551616) (hn : n + 10 ≤ 140737488355328) (hbase : base ≤ w.heap.size)
    (hown : w.ownsRow base 5 1 v n xs) :
    Calls Try.prog 79 #[v, .int .u64 (U : Int)] w fun e w' => ∃ v', e = .returned v' ∧ w'.ownsRow base 5 1 v' (n + (vb U).length) (xs ++ ints .u8 (vb U)) ∧ Below base w w' :=
  avar_core U n base (vb U) v xs w (vb_ten U hU) rfl hU hn hbase hown

set_option maxRecDepth 20000 in
set_option maxHeartbeats 1000000 in
/-- Unvar: the number at the beginning of a list, and how many bytes it takes. -/
theorem unvar_any (l : List Nat) (RU RN : Nat) (ao : Option Addr) (cap : Nat) (w : World) (h : Lies w ao cap (ints .u8 l)) (hb8 : ∀ c ∈ l, c < 256) (hR : uvGo 0 0 l = (RU, RN)) :
    Calls Try.prog 78 #[.slice ao l.length cap] w fun e w' => e = .returned (.tuple #[.int .u64 (RU : Int), .int .i64 (RN : Int)]) ∧ w' = w := by
  have m1 := h.size
  rw [ints_length] at m1
  unfold maxLen at m1
  have hA : At l (RU, RN) 0 0 := hR
  clear hR
  go_enter Try.func78, Try.ntmps78
  go_wp2
  go_loop [4, 9] (fun u i => ∃ k acc : Nat, k ≤ l.length ∧ k ≤ 9 ∧ i = .int .i64 k ∧ u = .int .u64 (acc : Int) ∧ acc < 2 ^ (7 * k) ∧ At l (RU, RN) k acc) (fun _ i => l.length - (intOf i).toNat)
  case atStart => exact ⟨0, 0, Nat.zero_le _, by omega, rfl, rfl, by simp, hA⟩
  case round =>
    clear hA
    obtain ⟨k, acc, hk, hk9, rfl, rfl, hacc, hA⟩ := hrel
    by_cases hlt : k < l.length
    · obtain ⟨b, off, rfl, _, hc⟩ := h.2.2.2 (by rw [ints_length]; omega)
      have hcell := hc k (by rw [ints_length]; omega)
      rw [ints_get _ _ _ hlt] at hcell
      have hun := hA.unfold hlt
      have hc256 : l.getD k 0 < 256 := by
        have : l.getD k 0 = l[k] := by simp [hlt]
        rw [this]; exact hb8 _ (List.getElem_mem hlt)
      generalize l.getD k 0 = c at hcell hun hc256
      have q1 : (k : Int) < (l.length : Int) := by omega
      have e127 := and127 c hc256
      have HA : Hid (acc < 2 ^ (7 * k)) := hacc
      have HU : Hid ((RU, RN) = if k = 9 ∧ 1 < c then (0, 0) else if 128 ≤ c then uvGo (k + 1) (acc + c % 128 * 2 ^ (7 * k)) (l.drop (k + 1)) else if c = 0 ∧ 0 < k then (0, 0) else (acc + c % 128 * 2 ^ (7 * k), k + 1)) := hun
      clear hun hc hb8 hacc h hA
      by_cases c1 : k = 9 ∧ 1 < c
      · obtain ⟨rfl, c2⟩ := c1
        have HU2 := HU.out
        rw [if_pos ⟨rfl, c2⟩] at HU2
        simp only [Prod.mk.injEq] at HU2
        obtain ⟨rfl, rfl⟩ := HU2
        go_wp2
        go_ret2
        exact ⟨rfl, rfl⟩
      · have hk2 : k < 9 ∨ (k = 9 ∧ c ≤ 1) := by omega
        have HU2 := HU.out
        rw [if_neg c1] at HU2
        have l1 := grp_lt c k hk2
        have s1 := shl_is (c % 128) k l1
        have s2 := or_is acc (c % 128) k HA.out l1 (acc_64 acc k HA.out hk9)
        have s3 := acc_lt acc c k HA.out
        generalize c % 128 * 2 ^ (7 * k) = S at HU2 l1 s1 s2 s3
        generalize hc7 : c % 128 = C7 at e127 s1
        have HU3 : Hid ((RU, RN) = if 128 ≤ c then uvGo (k + 1) (acc + S) (l.drop (k + 1)) else if c = 0 ∧ 0 < k then (0, 0) else (acc + S, k + 1)) := HU2
        have H3 : Hid (acc + S < 2 ^ (7 * (k + 1))) := s3
        have hC7 : C7 < 128 := by omega
        clear HU2 HU s3 hc7
        by_cases c2 : 128 ≤ c
        · have HN := HU3.out
          rw [if_pos c2] at HN
          have HN2 : At l (RU, RN) (k + 1) (acc + S) := HN.symm
          have hk8 : k ≤ 8 := by omega
          clear HN HU3 c1 hk2
          go_wp2
          go_round
          case rel => exact ⟨k + 1, acc + S, by omega, by omega, by go_num, by first | rfl | go_num, H3.out, HN2⟩
          case measure => simp [intOf]; omega
        · by_cases c3 : c = 0 ∧ 0 < k
          · have HN := HU3.out
            rw [if_neg c2, if_pos c3] at HN
            simp only [Prod.mk.injEq] at HN
            obtain ⟨rfl, rfl⟩ := HN
            obtain ⟨c4, c5⟩ := c3
            subst c4
            clear HU3 c1 c2
            rcases hk2 with hk2 | ⟨hk2, _⟩
            · go_wp2
              go_ret2
              exact ⟨rfl, rfl⟩
            · subst hk2
              go_wp2
              go_ret2
              exact ⟨rfl, rfl⟩
          · have HN := HU3.out
            rw [if_neg c2, if_neg c3] at HN
            simp only [Prod.mk.injEq] at HN
            obtain ⟨rfl, rfl⟩ := HN
            clear HU3 c1
            rcases hk2 with hk2 | ⟨hk2, hk3⟩
            · by_cases c4 : c = 0
              · have c5 : k ≤ 0 := by omega
                have c6 : c ≤ 0 := by omega
                clear c4 c3
                go_wp2
                go_ret2
                exact ⟨by go_num, rfl⟩
              · go_wp2
                go_ret2
                exact ⟨by go_num, rfl⟩
            · have c4 : 1 ≤ c := by omega
              have c5 : 9 ≤ k := by omega
              have s4 : IntKind.u64.wrap ((C7 : Int) * 9223372036854775808) = (S : Int) := by rw [hk2] at s1; simpa using s1
              clear hk2 c3
              go_wp2
              go_ret2
              exact ⟨by go_num, rfl⟩
    · have : k = l.length := by omega
      subst this
      have hz := hA.out (Nat.le_refl _)
      simp only [Prod.mk.injEq] at hz
      obtain ⟨rfl, rfl⟩ := hz
      clear hA hacc
      go_wp2
      go_ret2
      exact ⟨rfl, rfl⟩
end Go.Proofs.Ytbhmgafiookjnad.Var
