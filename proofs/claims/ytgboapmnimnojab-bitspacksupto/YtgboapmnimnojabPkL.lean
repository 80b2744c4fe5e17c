/- What the calls on rows of packed numbers answer: the program's own and the reference's. -/
import Derived.Test.YtgboapmnimnojabUnvRef
namespace Go.Proofs.Ytgboapmnimnojab.PkL
open Go.RowKit Mem VarNum Var UnvRef

theorem info64 : (Try.prog.info? 22).map (fun i => (i.zero, i.size, i.bytes)) = some (some (.int .u64 0), 1, 8) := by kernel_rfl

set_option maxHeartbeats 400000 in
/-- Same: are the two lists of numbers alike? -/
theorem same64_any (a b : List Nat) (ao1 ao2 : Option Addr) (cap1 cap2 : Nat) (w : World) (h1 : Lies w ao1 cap1 (ints .u64 a)) (h2 : Lies w ao2 cap2 (ints .u64 b)) :
    Calls Try.prog 17 #[.slice ao1 a.length cap1, .slice ao2 b.length cap2] w fun e w' => e = .returned (.bool (decide (a = b))) ∧ Below w.heap.size w w' := by
  have m1 := h1.size
  have m2 := h2.size
  rw [ints_length] at m1 m2
  unfold maxLen at m1 m2
  by_cases hl : a.length = b.length
  · go_enter Try.func17, Try.ntmps17
    go_wp2
    go_loopw [13] (fun i wr => ∃ k : Nat, k ≤ a.length ∧ i = .int .i64 k ∧ a.take k = b.take k ∧ Below w.heap.size w wr) (fun i _ => a.length - (intOf i).toNat)
    case atStart => exact ⟨0, Nat.zero_le _, rfl, rfl, Below.refl _ _⟩
    case round =>
      obtain ⟨k, hk, rfl, hpre, hb⟩ := hrel
      by_cases hlt : k < a.length
      · have g1 := h1.below hb (Nat.le_refl _)
        have g2 := h2.below hb (Nat.le_refl _)
        obtain ⟨b1, off1, rfl, _, hc1⟩ := g1.2.2.2 (by rw [ints_length]; omega)
        obtain ⟨b2, off2, rfl, _, hc2⟩ := g2.2.2.2 (by rw [ints_length]; omega)
        have c1 := hc1 k (by rw [ints_length]; omega)
        have c2 := hc2 k (by rw [ints_length]; omega)
        rw [ints_get _ _ _ (by omega)] at c1 c2
        have q1 : (k : Int) < (a.length : Int) := by omega
        have q2 : (k : Int) < (b.length : Int) := by omega
        clear hc1 hc2 g1 g2 h1 h2
        have HP : Hid (a.take k = b.take k) := hpre
        clear hpre
        obtain ⟨x, hx⟩ : ∃ x, x = a.getD k 0 := ⟨_, rfl⟩
        obtain ⟨y, hy⟩ : ∃ y, y = b.getD k 0 := ⟨_, rfl⟩
        rw [← hx] at c1
        rw [← hy] at c2
        have HX : Hid (x = a.getD k 0) := hx
        have HY : Hid (y = b.getD k 0) := hy
        clear hx hy
        by_cases hxy : x = y
        · subst hxy
          go_wp2
          go_quiet (fail)
          go_wp2
          go_roundw
          case rel =>
            refine ⟨k + 1, by omega, by go_num, ?_, below_drewN hb _⟩
            rw [List.take_succ_eq_append_getElem (by omega), List.take_succ_eq_append_getElem (by omega), HP.out]
            have e1 := HX.out
            have e2 := HY.out
            simp only [List.getD_eq_getElem?_getD, List.getElem?_eq_getElem hlt, List.getElem?_eq_getElem (show k < b.length by omega), Option.getD_some] at e1 e2
            rw [← e1, ← e2]
          case measure => simp [intOf]; omega
        · go_wp2
          go_quiet (fail)
          go_wp2
          go_ret
          have hne : ¬ a = b := by rintro rfl; exact hxy (by rw [HX.out, HY.out])
          exact ⟨by simp [hne], below_drewN hb _⟩
      · have hka : k = a.length := by omega
        subst hka
        have e : a = b := by rw [List.take_length, hl, List.take_length] at hpre; exact hpre
        go_wp2
        go_ret
        exact ⟨by simp [e], hb⟩
  · have hne : ¬ a = b := by rintro rfl; exact hl rfl
    go_enter Try.func17, Try.ntmps17
    go_wp2
    go_ret
    exact ⟨by simp [hne], Below.refl _ _⟩


set_option maxRecDepth 20000 in
set_option maxHeartbeats 400000 in
/-- Pack: the numbers one behind the other, in new memory. -/
theorem pack_any (L : List Nat) (ao : Option Addr) (cap : Nat) (w : World) (h : Lies w ao cap (ints .u64 L)) (hL : ∀ u ∈ L, u < 18446744073709551616) (hlen : L.length ≤ 1048576) :
    Calls Try.prog 14 #[.slice ao L.length cap] w fun e w' => ∃ ao' cap', e = .returned (.slice ao' (pk L).length cap') ∧ w'.ownsRow w.heap.size 5 1 (.slice ao' (pk L).length cap') (pk L).length (ints .u8 (pk L)) ∧ Below w.heap.size w w' := by
  go_enter Try.func14, Try.ntmps14
  go_wp2
  generalize hbase : w.heap.size = base
  go_loopw [3, 8] (fun v i wr => ∃ (k : Nat) (F : List Nat), k ≤ L.length ∧ i = .int .i64 k ∧ Hid (F = pk (L.take k)) ∧ F.length ≤ 10 * k ∧ wr.ownsRow base 5 1 v F.length (ints .u8 F) ∧ Below base w wr)
    (fun _ i _ => L.length - (intOf i).toNat)
  case atStart => exact ⟨0, [], Nat.zero_le _, rfl, rfl, by simp, World.ownsRow_nil _ _ _ _, Below.refl _ _⟩
  case round =>
    obtain ⟨k, F, hk, rfl, HF, hFl, hown, hb⟩ := hrel
    have hs := hb.size
    by_cases hlt : k < L.length
    · have g1 := h.below hb (by omega)
      obtain ⟨b1, off1, rfl, _, hc1⟩ := g1.2.2.2 (by rw [ints_length]; omega)
      have d1 := hc1 k (by rw [ints_length]; omega)
      rw [ints_get _ _ _ hlt] at d1
      have hx : L.getD k 0 < 18446744073709551616 := by
        have : L.getD k 0 = L[k] := by simp [hlt]
        rw [this]; exact hL _ (List.getElem_mem hlt)
      have HN : Hid (F ++ vb (L.getD k 0) = pk (L.take (k + 1))) := by unfold Hid; rw [pk_take L k hlt, HF.out]
      have c1 := avar_any (L.getD k 0) F.length base _ (ints .u8 F) wr hx (by omega) (by omega) hown
      have hvl := vb_ten _ hx
      generalize vb (L.getD k 0) = V at c1 HN hvl
      generalize L.getD k 0 = x at c1 d1 hx
      clear hc1 g1 h hown HF
      go_wp2_with (go_at_call 36; refine c1.mono ?_; rintro e w1 ⟨v', rfl, hown', hb'⟩)
      go_roundw
      case rel => exact ⟨k + 1, F ++ V, by omega, by go_num, HN, by simp; omega, by simpa [ints] using hown', hb.trans hb'⟩
      case measure => simp [intOf]; omega
    · have ek : L.take k = L := List.take_of_length_le (by omega)
      have hFp : F = pk L := by rw [HF.out, ek]
      subst hFp
      obtain ⟨ao2, cap2, e2⟩ := owns_shape hown
      rw [e2] at hown ⊢
      clear h HF ek
      go_wp2
      go_ret
      exact ⟨_, _, rfl, by first | exact hown | (rw [hbase]; exact hown), by first | exact hb | (rw [hbase]; exact hb)⟩

/-- A slice's length. -/
def slen : Value → Nat
  | .slice _ n _ => n
  | _ => 0
/-- What Unpack hands back. -/
def Out (R : Option (List Nat)) (base : Nat) (w' : World) (v : Value) (b : Bool) : Prop :=
  (R = none ∧ v = .slice none 0 0 ∧ b = false) ∨ ∃ X o c, R = some X ∧ b = true ∧ v = .slice o X.length c ∧ w'.ownsRow base 22 1 (.slice o X.length c) X.length (ints .u64 X)

theorem lies_drop {k : IntKind} {w : World} {b off cap n : Nat} {l : List Nat} (h : Lies w (some ⟨b, off, none⟩) cap (ints k l)) (hn : n ≤ l.length) (hb : b < w.heap.size) : Lies w (some ⟨b, off + n, none⟩) (cap - n) (ints k (l.drop n)) := by
  have h1 := h.1
  rw [ints_length] at h1
  refine ⟨by rw [ints_length, List.length_drop]; omega, by have := h.2.1; omega, fun hn => by simp at hn, fun hp => ⟨b, off + n, rfl, hb, fun i hi => ?_⟩⟩
  rw [ints_length, List.length_drop] at hi
  obtain ⟨b2, off2, e, _, hc⟩ := h.2.2.2 (by rw [ints_length]; omega)
  simp only [Option.some.injEq, Addr.mk.injEq, and_true] at e
  obtain ⟨rfl, rfl⟩ := e
  rw [Nat.add_assoc, hc (n + i) (by rw [ints_length]; omega), ints, ints, List.map_drop, List.getElem?_drop]
theorem owns_keep {w w' : World} {base : Nat} {e : TypeId} {v : Value} {n : Nat} {xs : List Value} (h : w.ownsRow base e 1 v n xs) (hb : Below w.heap.size w w') : w'.ownsRow base e 1 v n xs := h.kept (grown_of_below hb) (Classical.em _)
theorem lies_nil {w : World} (ao : Option Addr) (cap : Nat) (hc : cap ≤ maxLen) (h : ao = none → cap = 0) (k : IntKind) : Lies w ao cap (ints k []) := ⟨by simp [ints], hc, h, fun hp => by simp [ints] at hp⟩

set_option maxRecDepth 20000 in
set_option maxHeartbeats 1000000 in
theorem unpack_any (l : List Nat) (R : Option (List Nat)) (hR : Run R [] l) (ao : Option Addr) (cap : Nat) (w : World) (h : Lies w ao cap (ints .u8 l)) (hl8 : ∀ c ∈ l, c < 256) (hlen : l.length ≤ 1073741824) :
    Calls Try.prog 15 #[.slice ao l.length cap] w fun e w' => ∃ v b, e = .returned (.tuple #[v, .bool b]) ∧ Out R w.heap.size w' v b ∧ Below w.heap.size w w' := by
  obtain ⟨i0, hi, hz0, hz1, hz2⟩ := info_parts info64
  go_enter Try.func15, Try.ntmps15
  go_wp2
  generalize hbase : w.heap.size = base
  go_loopw [0, 4] (fun b v wr => ∃ (rest acc : List Nat) (o : Option Addr) (c : Nat), b = .slice o rest.length c ∧ Lies w o c (ints .u8 rest) ∧ (∀ x ∈ rest, x < 256) ∧ rest.length + acc.length ≤ l.length ∧ Run R acc rest ∧ wr.ownsRow base 22 1 v acc.length (ints .u64 acc) ∧ Below base w wr)
    (fun b _ _ => slen b)
  case atStart => exact ⟨l, [], ao, cap, rfl, h, hl8, by simp, hR, World.ownsRow_nil _ _ _ _, Below.refl _ _⟩
  case round =>
    obtain ⟨rest, acc, o, c, rfl, hlw, hr8, hrl, hrun, hown, hb⟩ := hrel
    have hs := hb.size
    have hl := hlw.below hb (by omega)
    have hcp := hl.1
    have hcm := hl.2.1
    rw [ints_length] at hcp
    unfold maxLen at hcm
    by_cases h0 : rest.length = 0
    · obtain rfl : rest = [] := List.length_eq_zero_iff.1 h0
      have hd := hrun.done
      obtain ⟨ao2, cap2, e2⟩ := owns_shape hown
      rw [e2] at hown ⊢
      clear hl hlw hr8 hrun h hR hl8
      go_wp2
      go_ret2
      exact ⟨_, true, rfl, .inr ⟨acc, ao2, cap2, hd, rfl, rfl, by first | exact hown | (rw [hbase]; exact hown)⟩, by first | exact hb | (rw [hbase]; exact hb)⟩
    · obtain ⟨u, n, hu⟩ : ∃ u n, uvGo 0 0 rest = (u, n) := ⟨_, _, rfl⟩
      have c1 := unvar_any rest u n o c wr hl hr8 hu
      have hn := uv_len rest 0 0 u n hu
      rw [Nat.zero_add] at hn
      by_cases hn0 : n = 0
      · subst hn0
        have hd := hrun.bad (by omega) (by rw [hu])
        clear hl hlw hr8 hrun h hR hl8 hown
        go_wp2_with (go_at_call 9; refine c1.mono ?_; rintro e w2 ⟨rfl, hw⟩; have hw2 := hw.symm; clear hw; subst hw2)
        go_ret2
        exact ⟨_, false, rfl, .inl ⟨hd, rfl, rfl⟩, by first | exact hb | (rw [hbase]; exact hb)⟩
      · have hst := hrun.step (by omega) hu hn0
        obtain ⟨b1, off1, rfl, hb1, _⟩ := hlw.2.2.2 (by rw [ints_length]; omega)
        have hl2 := lies_drop hlw hn hb1
        have hr2 : ∀ x ∈ rest.drop n, x < 256 := fun x hx => hr8 x (List.mem_of_mem_drop hx)
        clear hrun h hR hl8 hu
        go_wp2_with (first
          | (go_at_call 9; refine c1.mono ?_; rintro e w2 ⟨rfl, hw⟩; have hw2 := hw.symm; clear hw; subst hw2)
          | (at_builtin; refine wpList_append_own _ rfl _ _ 30 rfl base 22 i0 (.int .u64 0) 1 8 Try.underlying30 hi hz0 hz1 hz2 rfl (by decide) _ _ _ rfl (hown.alloc _) ⟨wr.heap.size, 0, none⟩ 1 1 [.int .u64 (u : Int)] rfl rfl (cells1 wr _ _) (by intro u hu; simp at hu; subst hu; rfl) (by unfold maxLen; omega) (by omega) (by simp; omega) ?_; intro v' w1 hown' hgrow _))
        have hb1' : Below base w w1 := (hb.alloc (by omega) _).grown hgrow (by simp; omega) (fun j hj => (hown.lt j hj).1)
        have hl3 : Lies w (if c = n then some ⟨b1, off1, none⟩ else some ⟨b1, off1 + n, none⟩) (c - n) (ints .u8 (rest.drop n)) := by
          split
          · rename_i hcn
            rw [List.drop_eq_nil_of_le (by omega)]
            exact lies_nil _ _ (by unfold maxLen; omega) (fun hx => by simp at hx) _
          · exact hl2
        go_roundw
        case rel => exact ⟨rest.drop n, acc ++ [u], _, _, by rw [List.length_drop], hl3, hr2, by rw [List.length_drop, List.length_append]; simp; omega, hst, by simpa [ints] using hown', hb1'⟩
        case measure => simp [slen]; omega

set_option maxRecDepth 20000 in
set_option maxHeartbeats 1000000 in
theorem runpack_any (l : List Nat) (R : Option (List Nat)) (hR : Run R [] l) (ao : Option Addr) (cap : Nat) (w : World) (h : Lies w ao cap (ints .u8 l)) (hl8 : ∀ c ∈ l, c < 256) (hlen : l.length ≤ 1073741824) :
    Calls Try.prog 16 #[.slice ao l.length cap] w fun e w' => ∃ v b, e = .returned (.tuple #[v, .bool b]) ∧ Out R w.heap.size w' v b ∧ Below w.heap.size w w' := by
  obtain ⟨i0, hi, hz0, hz1, hz2⟩ := info_parts info64
  have hcp := h.1
  have hcm := h.2.1
  rw [ints_length] at hcp
  unfold maxLen at hcm
  go_enter Try.func16, Try.ntmps16
  go_wp2
  generalize hbase : w.heap.size = base
  go_loopw [4, 5] (fun v i wr => ∃ (a : Nat) (acc : List Nat), a ≤ l.length ∧ i = .int .i64 (a : Int) ∧ acc.length ≤ a ∧ Run R acc (l.drop a) ∧ wr.ownsRow base 22 1 v acc.length (ints .u64 acc) ∧ Below base w wr)
    (fun _ i _ => l.length - (intOf i).toNat)
  case atStart =>
    subst hbase
    exact ⟨0, [], by omega, rfl, by simp, hR, World.ownsRow_lit w #[] 0 (Nat.le_refl _) (by decide) rfl, (Below.refl _ _).alloc (Nat.le_refl _) _⟩
  case round =>
    obtain ⟨a, acc, ha, rfl, hal, hrun, hown, hb⟩ := hrel
    have hs := hb.size
    by_cases h0 : l.length ≤ a
    · rw [List.drop_eq_nil_of_le h0] at hrun
      have hd := hrun.done
      obtain ⟨ao2, cap2, e2⟩ := owns_shape hown
      rw [e2] at hown ⊢
      clear hrun h hR hl8
      go_wp2
      go_ret2
      exact ⟨_, true, rfl, .inr ⟨acc, ao2, cap2, hd, rfl, rfl, by first | exact hown | (rw [hbase]; exact hown)⟩, by first | exact hb | (rw [hbase]; exact hb)⟩
    · obtain ⟨u, n, hu⟩ : ∃ u n, uvGo 0 0 (l.drop a) = (u, n) := ⟨_, _, rfl⟩
      have hlt : a < l.length := by omega
      have hl := h.below hb (by omega)
      obtain ⟨b1, off1, rfl, hb1, _⟩ := hl.2.2.2 (by rw [ints_length]; omega)
      have hl2 := lies_drop hl ha hb1
      have hr2 : ∀ x ∈ l.drop a, x < 256 := fun x hx => hl8 x (List.mem_of_mem_drop hx)
      have c1 := runvar_any (l.drop a) u n (some ⟨b1, off1 + a, none⟩) (cap - a) wr hl2 hr2 hu
      rw [List.length_drop] at c1
      have hn := uv_len (l.drop a) 0 0 u n hu
      rw [Nat.zero_add, List.length_drop] at hn
      have hca : ¬ cap = a := by omega
      by_cases hn0 : n = 0
      · subst hn0
        have hd := hrun.bad (by rw [List.length_drop]; omega) (by rw [hu])
        clear hl hrun h hR hl8 hown hl2 hr2 hu
        go_wp2_with (go_at_call 10; refine c1.mono ?_; rintro e w2 ⟨rfl, hb2⟩)
        all_goals go_ret2
        all_goals exact ⟨_, false, rfl, .inl ⟨hd, rfl, rfl⟩, by have := hb.trans (hb2.mono (by omega)); first | exact this | (rw [hbase]; exact this)⟩
      · have hst := hrun.step (by rw [List.length_drop]; omega) hu hn0
        rw [List.drop_drop] at hst
        clear hrun h hR hl8 hu hl hl2 hr2
        go_wp2_with (first
          | (go_at_call 10; refine c1.mono ?_; rintro e w2 ⟨rfl, hb2⟩; have hown2 := owns_keep hown hb2; have hb2' := hb.trans (hb2.mono (by omega)); have hs2 := hb2'.size)
          | (at_builtin; refine wpList_append_own _ rfl _ _ 30 rfl base 22 i0 (.int .u64 0) 1 8 Try.underlying30 hi hz0 hz1 hz2 rfl (by decide) _ _ _ rfl (hown2.alloc _) ⟨w2.heap.size, 0, none⟩ 1 1 [.int .u64 (u : Int)] rfl rfl (cells1 w2 _ _) (by intro u hu; simp at hu; subst hu; rfl) (by unfold maxLen; omega) (by omega) (by simp; omega) ?_; intro v' w3 hown' hgrow _))
        have hb3 : Below base w w3 := (hb2'.alloc (by omega) _).grown hgrow (by simp; omega) (fun j hj => (hown2.lt j hj).1)
        go_roundw
        case rel => exact ⟨a + n, acc ++ [u], by omega, by go_num, by rw [List.length_append]; simp; omega, hst, by simpa [ints] using hown', hb3⟩
        case measure => simp [intOf]; omega
end Go.Proofs.Ytgboapmnimnojab.PkL
