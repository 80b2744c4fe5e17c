/- What the calls on rows of packed numbers answer: the program's own and the reference's. -/
import Derived.Test.YtbhmgafiookjnadUnvRef
namespace Go.Proofs.Ytbhmgafiookjnad.PkL
open Go.RowKit Mem VarNum Var UnvRef

theorem info64 : (Try.prog.info? 25).map (fun i => (i.zero, i.size, i.bytes)) = some (some (.int .u64 0), 1, 8) := by kernel_rfl

set_option maxRecDepth 20000 in
set_option maxHeartbeats 400000 in
/-- Pack: the numbers one behind the other, in new memory. -/
theorem pack_any (L : List Nat) (ao : Option Addr) (cap : Nat) (w : World) (h : Lies w ao cap (ints .u64 L)) (hL : ∀ u ∈ L, u < 18446744073709551616) (hlen : L.length ≤ 1048576) :
    Calls Try.prog 29 #[.slice ao L.length cap] w fun e w' => ∃ ao' cap', e = .returned (.slice ao' (pk L).length cap') ∧ w'.ownsRow w.heap.size 5 1 (.slice ao' (pk L).length cap') (pk L).length (ints .u8 (pk L)) ∧ Below w.heap.size w w' := by
  go_enter Try.func29, Try.ntmps29
  go_wp2
  generalize hbase : w.heap.size = base
  go_loopw [3, 8] (fun v i wr => ∃ (k : Nat) (F : List Nat), k ≤ L.length ∧ i = .int .i64 k ∧ Hid (F = pk (L.take k)) ∧ F.length ≤ 10 * k ∧ wr.ownsRow base 5 1 v F.length (ints .u8 F) ∧ Below base w wr)
    (fun _ i _ => L.length - (intOf i).toNat)
  case atStart => exact ⟨0, [], Nat.zero_le _, rfl, rfl, by simp, World.ownsRow_nil _ _ _ _, Below.refl _ _⟩
  case round =>
    obtain ⟨k, F, hk, rfl, HF, hFl, hown, hb⟩ := hrel
    have hs := hb.size
    by_cases hlt : k < L.length
    · have g1 := h.below hb (by omega)
      obtain ⟨b1, off1, rfl, _, hc1⟩ := g1.2.2.2 (by rw [ints_length]; omega)
      have d1 := hc1 k (by rw [ints_length]; omega)
      rw [ints_get _ _ _ hlt] at d1
      have hx : L.getD k 0 < 18446744073709551616 := by
        have : L.getD k 0 = L[k] := by simp [hlt]
        rw [this]; exact hL _ (List.getElem_mem hlt)
      have HN : Hid (F ++ vb (L.getD k 0) = pk (L.take (k + 1))) := by unfold Hid; rw [pk_take L k hlt, HF.out]
      have c1 := avar_any (L.getD k 0) F.length base _ (ints .u8 F) wr hx (by omega) (by omega) hown
      have hvl := vb_ten _ hx
      generalize vb (L.getD k 0) = V at c1 HN hvl
      generalize L.getD k 0 = x at c1 d1 hx
      clear hc1 g1 h hown HF
      go_wp2_with (go_at_call 79; refine c1.mono ?_; rintro e w1 ⟨v', rfl, hown', hb'⟩)
      go_roundw
      case rel => exact ⟨k + 1, F ++ V, by omega, by go_num, HN, by simp; omega, by simpa [ints] using hown', hb.trans hb'⟩
      case measure => simp [intOf]; omega
    · have ek : L.take k = L := List.take_of_length_le (by omega)
      have hFp : F = pk L := by rw [HF.out, ek]
      subst hFp
      obtain ⟨ao2, cap2, e2⟩ := owns_shape hown
      rw [e2] at hown ⊢
      clear h HF ek
      go_wp2
      go_ret
      exact ⟨_, _, rfl, by first | exact hown | (rw [hbase]; exact hown), by first | exact hb | (rw [hbase]; exact hb)⟩

/-- A slice's length. -/
def slen : Value → Nat
  | .slice _ n _ => n
  | _ => 0
/-- What Unpack hands back. -/
def Out (R : Option (List Nat)) (base : Nat) (w' : World) (v : Value) (b : Bool) : Prop :=
  (R = none ∧ v = .slice none 0 0 ∧ b = false) ∨ ∃ X o c, R = some X ∧ b = true ∧ v = .slice o X.length c ∧ w'.ownsRow base 25 1 (.slice o X.length c) X.length (ints .u64 X)

theorem lies_drop {k : IntKind} {w : World} {b off cap n : Nat} {l : List Nat} (h : Lies w (some ⟨b, off, none⟩) cap (ints k l)) (hn : n ≤ l.length) (hb : b < w.heap.size) : Lies w (some ⟨b, off + n, none⟩) (cap - n) (ints k (l.drop n)) := by
  have h1 := h.1
  rw [ints_length] at h1
  refine ⟨by rw [ints_length, List.length_drop]; omega, by have := h.2.1; omega, fun hn => by simp at hn, fun hp => ⟨b, off + n, rfl, hb, fun i hi => ?_⟩⟩
  rw [ints_length, List.length_drop] at hi
  obtain ⟨b2, off2, e, _, hc⟩ := h.2.2.2 (by rw [ints_length]; omega)
  simp only [Option.some.injEq, Addr.mk.injEq, and_true] at e
  obtain ⟨rfl, rfl⟩ := e
  rw [Nat.add_assoc, hc (n + i) (by rw [ints_length]; omega), ints, ints, List.map_drop, List.getElem?_drop]
theorem owns_keep {w w' : World} {base : Nat} {e : TypeId} {v : Value} {n : Nat} {xs : List Value} (h : w.ownsRow base e 1 v n xs) (hb : Below w.heap.size w w') : w'.ownsRow base e 1 v n xs := h.kept (grown_of_below hb) (Classical.em _)
theorem lies_nil {w : World} (ao : Option Addr) (cap : Nat) (hc : cap ≤ maxLen) (h : ao = none → cap = 0) (k : IntKind) : Lies w ao cap (ints k []) := ⟨by simp [ints], hc, h, fun hp => by simp [ints] at hp⟩

set_option maxRecDepth 20000 in
set_option maxHeartbeats 1000000 in
theorem unpack_any (l : List Nat) (R : Option (List Nat)) (hR : Run R [] l) (ao : Option Addr) (cap : Nat) (w : World) (h : Lies w ao cap (ints .u8 l)) (hl8 : ∀ c ∈ l, c < 256) (hlen : l.length ≤ 1073741824) :
    Calls Try.prog 28 #[.slice ao l.length cap] w fun e w' => ∃ v b, e = .returned (.tuple #[v, .bool b]) ∧ Out R w.heap.size w' v b ∧ Below w.heap.size w w' := by
  obtain ⟨i0, hi, hz0, hz1, hz2⟩ := info_parts info64
  go_enter Try.func28, Try.ntmps28
  go_wp2
  generalize hbase : w.heap.size = base
  go_loopw [0, 4] (fun b v wr => ∃ (rest acc : List Nat) (o : Option Addr) (c : Nat), b = .slice o rest.length c ∧ Lies w o c (ints .u8 rest) ∧ (∀ x ∈ rest, x < 256) ∧ rest.length + acc.length ≤ l.length ∧ Run R acc rest ∧ wr.ownsRow base 25 1 v acc.length (ints .u64 acc) ∧ Below base w wr)
    (fun b _ _ => slen b)
  case atStart => exact ⟨l, [], ao, cap, rfl, h, hl8, by simp, hR, World.ownsRow_nil _ _ _ _, Below.refl _ _⟩
  case round =>
    obtain ⟨rest, acc, o, c, rfl, hlw, hr8, hrl, hrun, hown, hb⟩ := hrel
    have hs := hb.size
    have hl := hlw.below hb (by omega)
    have hcp := hl.1
    have hcm := hl.2.1
    rw [ints_length] at hcp
    unfold maxLen at hcm
    by_cases h0 : rest.length = 0
    · obtain rfl : rest = [] := List.length_eq_zero_iff.1 h0
      have hd := hrun.done
      obtain ⟨ao2, cap2, e2⟩ := owns_shape hown
      rw [e2] at hown ⊢
      clear hl hlw hr8 hrun h hR hl8
      go_wp2
      go_ret2
      exact ⟨_, true, rfl, .inr ⟨acc, ao2, cap2, hd, rfl, rfl, by first | exact hown | (rw [hbase]; exact hown)⟩, by first | exact hb | (rw [hbase]; exact hb)⟩
    · obtain ⟨u, n, hu⟩ : ∃ u n, uvGo 0 0 rest = (u, n) := ⟨_, _, rfl⟩
      have c1 := unvar_any rest u n o c wr hl hr8 hu
      have hn := uv_len rest 0 0 u n hu
      rw [Nat.zero_add] at hn
      by_cases hn0 : n = 0
      · subst hn0
        have hd := hrun.bad (by omega) (by rw [hu])
        clear hl hlw hr8 hrun h hR hl8 hown
        go_wp2_with (go_at_call 78; refine c1.mono ?_; rintro e w2 ⟨rfl, hw⟩; have hw2 := hw.symm; clear hw; subst hw2)
        go_ret2
        exact ⟨_, false, rfl, .inl ⟨hd, rfl, rfl⟩, by first | exact hb | (rw [hbase]; exact hb)⟩
      · have hst := hrun.step (by omega) hu hn0
        obtain ⟨b1, off1, rfl, hb1, _⟩ := hlw.2.2.2 (by rw [ints_length]; omega)
        have hl2 := lies_drop hlw hn hb1
        have hr2 : ∀ x ∈ rest.drop n, x < 256 := fun x hx => hr8 x (List.mem_of_mem_drop hx)
        clear hrun h hR hl8 hu
        go_wp2_with (first
          | (go_at_call 78; refine c1.mono ?_; rintro e w2 ⟨rfl, hw⟩; have hw2 := hw.symm; clear hw; subst hw2)
          | (at_builtin; refine wpList_append_own _ rfl _ _ 57 rfl base 25 i0 (.int .u64 0) 1 8 Try.underlying57 hi hz0 hz1 hz2 rfl (by decide) _ _ _ rfl (hown.alloc _) ⟨wr.heap.size, 0, none⟩ 1 1 [.int .u64 (u : Int)] rfl rfl (cells1 wr _ _) (by intro u hu; simp at hu; subst hu; rfl) (by unfold maxLen; omega) (by omega) (by simp; omega) ?_; intro v' w1 hown' hgrow _))
        have hb1' : Below base w w1 := (hb.alloc (by omega) _).grown hgrow (by simp; omega) (fun j hj => (hown.lt j hj).1)
        have hl3 : Lies w (if c = n then some ⟨b1, off1, none⟩ else some ⟨b1, off1 + n, none⟩) (c - n) (ints .u8 (rest.drop n)) := by
          split
          · rename_i hcn
            rw [List.drop_eq_nil_of_le (by omega)]
            exact lies_nil _ _ (by unfold maxLen; omega) (fun hx => by simp at hx) _
          · exact hl2
        go_roundw
        case rel => exact ⟨rest.drop n, acc ++ [u], _, _, by rw [List.length_drop], hl3, hr2, by rw [List.length_drop, List.length_append]; simp; omega, hst, by simpa [ints] using hown', hb1'⟩
        case measure => simp [slen]; omega

end Go.Proofs.Ytbhmgafiookjnad.PkL
