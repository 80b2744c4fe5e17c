/- Trailing noughts of a word (by the library's table), one bit of a list, twos of a list. -/
import Derived.Test.YtjehfgfgnijkoaaDoorLimb4
import Derived.Test.YtjehfgfgnijkoaaDoorTwoN
import Derived.Test.YtjehfgfgnijkoaaDoorShiftNum
namespace Go.Proofs.YtjehfgfgnijkoaaDoor.TwoL
open Go.RowKit Mem LimbNum Limb1 Limb2 Limb4 TwoN ShiftNum

/-- The library's table lies in block 0. -/
def Tabl (w : World) : Prop := ∀ i, i < 32 → w.cell? ⟨0, i, none⟩ = some (.int .u8 (tab.getD i 0))
theorem Tabl.below {w w' : World} (h : Tabl w) (hb : Below w.heap.size w w') : Tabl w' := fun i hi => by
  rw [hb.cell (World.block_lt_of_cell? w _ (h i hi))]; exact h i hi
set_option maxRecDepth 20000 in
theorem tz_any (X k : Nat) (hX : X < 4294967296) (h : IsTwo X k) (w : World) (hT : Tabl w) :
    Calls Tryd.prog 20 #[.int .u32 (X : Int)] w fun e w' => e = .returned (.int .i64 (k : Int)) ∧ w' = w := by
  have hp : ¬ (X : Int) = 0 := by have := h.pos; omega
  have hp2 : ((X : Int) == 0) = false := by simpa using hp
  have hk : k < 32 := h.lt (by omega)
  have eA := and_neg hX h
  obtain ⟨t1, t2⟩ := tab_all k hk
  obtain ⟨j, ej⟩ : ∃ j, 2 ^ k * 125613361 % 4294967296 / 134217728 = j := ⟨_, rfl⟩
  rw [ej] at t1 t2
  have eJ : ((2 ^ k : Nat) : Int) * 125613361 % 4294967296 / 134217728 = (j : Int) := by rw [← ej]; generalize (2 : Nat) ^ k = Z; omega
  have hc := hT j t1
  rw [t2] at hc
  obtain ⟨Z, eZ⟩ : ∃ Z : Int, ((2 ^ k : Nat) : Int) = Z := ⟨_, rfl⟩
  rw [eZ] at eA eJ
  clear ej t2 hT h eZ hp
  have hK0 : 0 ≤ (k : Int) := by omega
  have hK1 : (k : Int) < 32 := by omega
  generalize (k : Int) = K at *
  go_enter Tryd.func20, Tryd.ntmps20
  go_wp2
  go_ret
  exact ⟨rfl, rfl⟩
theorem and_one (x p : Nat) : (bits BinOp.and IntKind.u32 ((x : Int) / 2 ^ p) 1 == 1) = x.testBit p := by
  have e : bits BinOp.and IntKind.u32 ((x : Int) / 2 ^ p) 1 = ((x / 2 ^ p % 2 : Nat) : Int) := by
    have e0 : (x : Int) / 2 ^ p = ((x / 2 ^ p : Nat) : Int) := by simp
    rw [e0]
    have h1 : x / 2 ^ p ≤ x := Nat.div_le_self _ _
    generalize x / 2 ^ p = y at *
    show IntKind.u32.wrap ((BitVec.ofInt 32 (y : Int) &&& BitVec.ofInt 32 1).toNat : Int) = _
    have e : (BitVec.ofInt 32 1).toNat = 2 ^ 1 - 1 := by decide
    rw [BitVec.toNat_and, e, Nat.and_two_pow_sub_one_eq_mod, BitVec.toNat_ofInt]
    simp [IntKind.wrap, IntKind.bits, IntKind.signed]
    omega
  rw [e, Nat.testBit_eq_decide_div_mod_eq]
  generalize x / 2 ^ p % 2 = y
  rw [Bool.eq_iff_iff]
  simp
  omega
set_option maxRecDepth 20000 in
theorem bit_any (A : List Nat) (n : Int) (ao : Option Addr) (cap : Nat) (w : World) (h : Lies w ao cap (ints .u32 A)) (hA : Small A) :
    Calls Tryd.prog 13 #[.slice ao A.length cap, .int .i64 n] w fun e w' => e = .returned (.bool (decide (0 ≤ n) && (val A).testBit n.toNat)) ∧ w' = w := by
  have m1 := h.size
  unfold maxLen at m1
  rw [ints_length] at m1
  by_cases h0 : n < 0
  · rw [decide_eq_false (by omega), Bool.false_and]
    go_enter Tryd.func13, Tryd.ntmps13
    go_wp2
    go_ret
    exact ⟨rfl, rfl⟩
  · have h0' : 0 ≤ n := by omega
    rw [decide_eq_true h0', Bool.true_and]
    obtain ⟨J, eJ⟩ : ∃ J : Nat, n / 32 = (J : Int) := ⟨(n / 32).toNat, by omega⟩
    obtain ⟨p, ep⟩ : ∃ p : Nat, n % 32 = (p : Int) := ⟨(n % 32).toNat, by omega⟩
    have en : n.toNat = 32 * J + p := by omega
    have hp : p < 32 := by omega
    have eP : bits BinOp.and IntKind.i64 n 31 = (p : Int) := by rw [and31, ep]
    by_cases hj : J < A.length
    · rw [en, val_bit A hA J p hp]
      obtain ⟨b, off, rfl, hb, hc⟩ := h.2.2.2 (by rw [ints_length]; omega)
      have hcell := hc J (by rw [ints_length]; exact hj)
      rw [ints_get _ _ _ hj] at hcell
      generalize A.getD J 0 = x at *
      clear hc h en ep
      go_enter Tryd.func13, Tryd.ntmps13
      go_wp2
      go_ret
      refine ⟨?_, rfl⟩
      show Ending.returned (.bool _) = Ending.returned (.bool _)
      congr 2
      exact and_one x p
    · have e : (val A).testBit n.toNat = false := val_bit_out A hA _ (by omega)
      rw [e]
      have hj' : ¬ (J : Int) < (A.length : Int) := by omega
      clear en ep eP e
      go_enter Tryd.func13, Tryd.ntmps13
      go_wp2
      go_ret
      exact ⟨rfl, rfl⟩
set_option maxRecDepth 20000 in
set_option maxHeartbeats 1000000 in
theorem twos_any (A : List Nat) (t : Nat) (ht : IsTwo (val A) t ∨ (val A = 0 ∧ t = 0)) (ao : Option Addr) (cap : Nat) (w : World) (h : Lies w ao cap (ints .u32 A)) (hA : Small A) (hlen : A.length ≤ 2097152) (hT : Tabl w) :
    Calls Tryd.prog 14 #[.slice ao A.length cap] w fun e w' => e = .returned (.int .i64 (t : Int)) ∧ w' = w := by
  obtain ⟨T, eT⟩ : ∃ T : Int, (t : Int) = T := ⟨_, rfl⟩
  rw [eT]
  have HT : Hid ((IsTwo (val A) t ∨ (val A = 0 ∧ t = 0)) ∧ (t : Int) = T) := ⟨ht, eT⟩
  have HL : Hid (Lies w ao cap (ints .u32 A)) := h
  have HTab : Hid (Tabl w) := hT
  clear ht eT h hT
  generalize eL : A.length = L at *
  have HLen : Hid (A.length = L) := eL
  clear eL
  go_enter Tryd.func14, Tryd.ntmps14
  go_wp2
  go_loopw [7] (fun iv wr => ∃ i : Nat, i ≤ L ∧ iv = .int .i64 i ∧ wr = w ∧ Hid (∀ j, j < i → A.getD j 0 = 0)) (fun iv _ => L - (intOf iv).toNat)
  case atStart => exact ⟨0, Nat.zero_le _, rfl, rfl, fun j hj => by omega⟩
  case round =>
    obtain ⟨i, hi, rfl, hw, HZ⟩ := hrel
    have hw' := hw.symm
    clear hw
    subst hw'
    by_cases hlt : i < L
    · obtain ⟨b, off, rfl, hb, hc⟩ := HL.out.2.2.2 (by rw [ints_length, HLen.out]; omega)
      have hcell := hc i (by rw [ints_length, HLen.out]; exact hlt)
      rw [ints_get _ _ _ (by rw [HLen.out]; exact hlt)] at hcell
      have hx : A.getD i 0 < 4294967296 := by
        have hl : i < A.length := by rw [HLen.out]; exact hlt
        have e : A.getD i 0 = A[i] := by simp [hl]
        rw [e]
        exact hA _ (List.getElem_mem _)
      by_cases hz : A.getD i 0 = 0
      · rw [hz] at hcell
        have hn : Hid (∀ j, j < i + 1 → A.getD j 0 = 0) := fun j hj => by
          rcases Nat.lt_or_ge j i with h1 | h1
          · exact HZ.out j h1
          · rw [show j = i by omega]; exact hz
        clear hc hx hz
        go_wp2
        go_roundw
        case rel => exact ⟨i + 1, by omega, by simp, trivial, hn⟩
        case measure => simp [intOf]; omega
      · obtain ⟨k, hk⟩ := two_some _ hz
        have hk32 : k < 32 := hk.lt (by omega)
        have cT := tz_any (A.getD i 0) k hx hk w HTab.out
        have hTv := two_of A hA i k HZ.out hk hk32
        have eT : T = 32 * (i : Int) + (k : Int) := by
          obtain ⟨h1 | ⟨h1, _⟩, h2⟩ := HT.out
          · have := h1.uniq hTv; omega
          · exact absurd h1 hTv.pos
        have hne : ((A.getD i 0 : Nat) : Int) ≠ 0 := by omega
        have hne2 : (((A.getD i 0 : Nat) : Int) == 0) = false := by simpa using hne
        generalize ((A.getD i 0 : Nat) : Int) = x at *
        clear hc hz hk hTv hne
        go_wp2_with (go_at_call 20; refine cT.mono ?_; rintro e w1 ⟨rfl, hw1⟩; have hw2 := hw1.symm; clear hw1; subst hw2)
        go_ret
        refine ⟨?_, rfl⟩
        rw [eT]
        rfl
    · obtain rfl : i = L := by omega
      have hv : val A = 0 := val_nought A (fun j hj => HZ.out j (by rw [← HLen.out]; exact hj))
      obtain rfl : T = 0 := by
        obtain ⟨h1 | ⟨_, h1⟩, h2⟩ := HT.out
        · exact absurd hv h1.pos
        · omega
      go_wp2
      go_ret
      exact ⟨rfl, rfl⟩
end Go.Proofs.YtjehfgfgnijkoaaDoor.TwoL
