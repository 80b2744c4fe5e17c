/- What the calls between limbs and bytes answer. -/
import Derived.Test.YtbhmgafiookjnadRefL
import Derived.Test.YtbhmgafiookjnadByNum
import Derived.Test.YtbhmgafiookjnadAppL
import Derived.Test.YtbhmgafiookjnadLimb2
namespace Go.Proofs.Ytbhmgafiookjnad.ByL
open Go.RowKit Mem LimbNum Limb1 Limb2 RefL ByNum AppL

theorem info8 : (Try.prog.info? 5).map (fun i => (i.zero, i.size, i.bytes)) = some (some (.int .u8 0), 1, 1) := by kernel_rfl

/-- A slice's length. -/
def slen : Value → Nat
  | .slice _ n _ => n
  | _ => 0

set_option maxRecDepth 20000 in
set_option maxHeartbeats 1000000 in
theorem pack_core (A P : List Nat) (ao : Option Addr) (cap : Nat) (w : World) (h : Lies w ao cap (ints .u32 P))
    (c1 : Calls Try.prog 69 #[.slice ao A.length cap] w fun e w' => e = .returned (.slice ao P.length cap) ∧ w' = w) (hP : Small P) (hlen : P.length ≤ 35184372088832) :
    Calls Try.prog 27 #[.slice ao A.length cap] w fun e w' => ∃ ao' cap', e = .returned (.slice ao' (ny (val P)).length cap') ∧ w'.ownsRow w.heap.size 5 1 (.slice ao' (ny (val P)).length cap') (ny (val P)).length (ints .u8 (ny (val P))) ∧ Below w.heap.size w w' := by
  obtain ⟨i0, hi, hz0, hz1, hz2⟩ := info_parts info8
  have HB : Hid (∀ F : List Nat, Byte F → bv F = val P → ∀ n, n ≤ F.length → (∀ i, n ≤ i → i < F.length → F.getD i 0 = 0) → (n = 0 ∨ F.getD (n - 1) 0 ≠ 0) → F.take n = ny (val P)) := fun F hF e n h1 h2 h3 => by rw [← e]; exact ytrim_is F n hF h1 h2 h3
  generalize ny (val P) = Y at HB
  go_enter Try.func27, Try.ntmps27
  go_wp2_with (first
    | (go_at_call 69; refine c1.mono ?_; rintro e w2 ⟨rfl, hw⟩; have hw2 := hw.symm; clear hw; subst hw2)
    | (at_make; refine wpList_make_own _ rfl _ _ 58 rfl w.heap.size 5 i0 (.int .u8 0) 1 Try.underlying58 hi hz0 hz1 .i64 .i64 (4 * (P.length : Int)) (4 * P.length) rfl rfl (by omega) (by rw [hz2]; omega) (by unfold maxLen; omega) (Nat.le_refl _) ?_; intro w3 hown0 hgr0))
  have hb3 : Below w.heap.size w w3 := (Below.refl _ _).grown hgr0 (Nat.le_refl _) (by simp)
  clear c1 hgr0
  generalize hbase : w.heap.size = base at *
  go_loopw [3, 14] (fun v i wr => ∃ (k : Nat) (F : List Nat), k ≤ P.length ∧ i = .int .i64 k ∧ Hid (F.length = 4 * k) ∧ Byte F ∧ Hid (bv F = val (P.take k)) ∧ wr.ownsRow base 5 1 v F.length (ints .u8 F) ∧ Below base w wr)
    (fun _ i _ => P.length - (intOf i).toNat)
  case atStart => exact ⟨0, [], Nat.zero_le _, rfl, rfl, by intro x hx; simp at hx, by unfold Hid; simp [bv, val], hown0, hb3⟩
  case round =>
    clear hown0 hb3
    obtain ⟨k, F, hk, rfl, HL, hF8, HF, hown, hb⟩ := hrel
    have hs := hb.size
    by_cases hlt : k < P.length
    · have g1 := h.below hb (by omega)
      obtain ⟨b1, off1, rfl, _, hc1⟩ := g1.2.2.2 (by rw [ints_length]; omega)
      have d1 := hc1 k (by rw [ints_length]; omega)
      rw [ints_get _ _ _ hlt] at d1
      have hx := getD_small P hP k
      have HN : Hid (bv (F ++ quad (P.getD k 0)) = val (P.take (k + 1))) := pack_step P F k hP HF HL
      have hFl : F.length ≤ 4 * k := by rw [HL.out]; omega
      generalize P.getD k 0 = x at d1 hx HN
      clear hc1 g1 HF h
      have hq : Lies (wr.alloc (.cells #[.int .u8 ((x : Int) % 256), .int .u8 ((x : Int) / 256 % 256), .int .u8 ((x : Int) / 65536 % 256), .int .u8 ((x : Int) / 16777216)] 5)) (some ⟨wr.heap.size, 0, none⟩) 4 (ints .u8 (quad x)) := by
        have := lies_of_owns (World.ownsRow_lit (base := wr.heap.size) (e := 5) (size := 1) wr (ints .u8 (quad x)).toArray 4 (Nat.le_refl _) (by decide) rfl)
        simpa [ints, quad] using this
      have hq8 := byte_quad x hx
      have hql : (quad x).length = 4 := rfl
      have hqi : (ints .u8 (quad x)).length = 4 := by rw [ints_length]; rfl
      generalize quad x = q at hq hq8 HN hql hqi
      have HQ : Hid (q.length = 4) := hql
      clear hql
      go_wp2_with (at_builtin; refine wpList_append_lies _ rfl (.tmp 18) (.tmp 30) 58 rfl base 5 i0 (.int .u8 0) 1 Try.underlying58 hi hz0 hz1 hz2 rfl _ F.length (ints .u8 F) rfl (hown.alloc _) (some ⟨wr.heap.size, 0, none⟩) 4 4 (ints .u8 q) rfl hqi hq (ints_one _ _) (by unfold maxLen; omega) (by omega) (by simp; omega) ?_; intro v4 w4 hown4 hgr4)
      have hb4 : Below base w w4 := (hb.alloc (by omega) _).grown hgr4 (by simp; omega) (fun j hj => (hown.lt j hj).1)
      go_roundw
      case rel => exact ⟨k + 1, F ++ q, by omega, by go_num, by unfold Hid; rw [List.length_append, HL.out, HQ.out]; omega, by intro y hy; rcases List.mem_append.1 hy with hy | hy; exact hF8 y hy; exact hq8 y hy, HN, by rw [List.length_append, HQ.out]; simpa [ints] using hown4, hb4⟩
      case measure => simp [intOf]; omega
    · have ek : P.take k = P := List.take_of_length_le (by omega)
      have HV := HB.out F hF8 (by rw [HF.out, ek])
      obtain ⟨o2, c2, e2⟩ := owns_shape hown
      rw [e2] at hown ⊢
      have hlF := lies_of_owns hown
      have hcp := hlF.1
      have hcm := hlF.2.1
      rw [ints_length] at hcp
      unfold maxLen at hcm
      have HV2 : Hid (∀ n, n ≤ F.length → (∀ i, n ≤ i → i < F.length → F.getD i 0 = 0) → (n = 0 ∨ F.getD (n - 1) 0 ≠ 0) → F.take n = Y) := HV
      clear HF ek HV HB h HL
      go_wp2
      go_loop [3] (fun v => ∃ n, n ≤ F.length ∧ v = .slice o2 n c2 ∧ Hid (∀ i, n ≤ i → i < F.length → F.getD i 0 = 0)) (fun v => slen v)
      case atStart => exact ⟨F.length, Nat.le_refl _, rfl, fun i h1 h2 => by omega⟩
      case round =>
        obtain ⟨n, hn, rfl, HZ⟩ := hrel
        have fin : (n = 0 ∨ F.getD (n - 1) 0 ≠ 0) → ∃ ao' cap', Ending.returned (.slice o2 n c2) = .returned (.slice ao' Y.length cap') ∧ wr.ownsRow base 5 1 (.slice ao' Y.length cap') Y.length (ints .u8 Y) ∧ Below base w wr := by
          intro h3
          have e := HV2.out n hn HZ.out h3
          have h4 := owns_take hown n hn
          rw [← ints_take, e] at h4
          have e5 : n = Y.length := by rw [← e, List.length_take]; omega
          exact ⟨o2, c2, by rw [← e5], by rw [← e5]; exact h4, hb⟩
        by_cases h0 : n = 0
        · subst h0
          have F2 := fin (.inl rfl)
          clear fin hlF HV2 hown HZ
          go_wp2
          go_ret
          obtain ⟨ao', cap', e, h5, h6⟩ := F2
          exact ⟨ao', cap', e, h5, h6⟩
        · obtain ⟨b1, off1, rfl, _, hc1⟩ := hlF.2.2.2 (by rw [ints_length]; omega)
          have d1 := hc1 (n - 1) (by rw [ints_length]; omega)
          rw [ints_get _ _ _ (by omega)] at d1
          have ei : ((n : Int) - 1) = ((n - 1 : Nat) : Int) := by omega
          obtain ⟨y, hy⟩ : ∃ y, F.getD (n - 1) 0 = y := ⟨_, rfl⟩
          rw [hy] at d1 fin
          obtain ⟨m, rfl⟩ : ∃ m, n = m + 1 := ⟨n - 1, by omega⟩
          have HY : Hid (F.getD m 0 = y) := hy
          rw [Nat.add_sub_cancel] at d1
          clear hy hc1 hlF HV2 hown ei
          by_cases hy0 : y = 0
          · subst hy0
            clear fin
            go_wp2
            go_round
            case rel => exact ⟨m, by omega, by first | rfl | (congr 1; omega), fun i h1 h2 => by rcases Nat.eq_or_lt_of_le h1 with h3 | h3; exact h3 ▸ HY.out; exact HZ.out i (by omega) h2⟩
            case measure => simp [slen]
          · have F2 := fin (.inr hy0)
            clear fin HZ
            go_wp2
            go_ret
            obtain ⟨ao', cap', e, h5, h6⟩ := F2
            exact ⟨ao', cap', e, h5, h6⟩

/-- Pack: the bytes of the number, in new memory. -/
theorem pack_any (A : List Nat) (ao : Option Addr) (cap : Nat) (w : World) (h : Lies w ao cap (ints .u32 A)) (hA : Small A) (hlen : A.length ≤ 35184372088832) :
    Calls Try.prog 27 #[.slice ao A.length cap] w fun e w' => ∃ ao' cap', e = .returned (.slice ao' (ny (val A)).length cap') ∧ w'.ownsRow w.heap.size 5 1 (.slice ao' (ny (val A)).length cap') (ny (val A)).length (ints .u8 (ny (val A))) ∧ Below w.heap.size w w' := by
  have t := trim_core A ao cap w h hA
  have c := pack_core A (nl (val A)) ao cap w (lies_trim h hA) ((trim_any A ao cap w h hA).mono fun _ _ h => ⟨h.1, h.2.1⟩) (small_nl _) (by have := nl_len A hA; omega)
  rw [val_nl] at c
  exact c

set_option maxRecDepth 20000 in
set_option maxHeartbeats 1000000 in
/-- Unpack: the limbs of the number of these bytes, in new memory. -/
theorem unpack_any (l : List Nat) (ao : Option Addr) (cap : Nat) (w : World) (h : Lies w ao cap (ints .u8 l)) (hl : Byte l) (hlen : l.length ≤ 35184372088832) :
    Calls Try.prog 32 #[.slice ao l.length cap] w fun e w' => ∃ ao' cap', e = .returned (.slice ao' (nl (bv l)).length cap') ∧ w'.ownsRow w.heap.size 48 1 (.slice ao' (nl (bv l)).length cap') (nl (bv l)).length (ints .u32 (nl (bv l))) ∧ Below w.heap.size w w' := by
  obtain ⟨i0, hi, hz0, hz1, hz2⟩ := info_parts info32
  obtain ⟨M, hM⟩ : ∃ M, M = (l.length + 3) / 4 := ⟨_, rfl⟩
  have HM : Hid (M = (l.length + 3) / 4) := hM
  have hMl : M ≤ 8796093022209 := by omega
  have hMi : ((l.length : Int) + 3) / 4 = (M : Int) := by omega
  clear hM
  go_enter Try.func32, Try.ntmps32
  go_wp2_with (at_make; refine wpList_make_full _ rfl _ _ 22 rfl w.heap.size 48 i0 (.int .u32 0) 1 Try.underlying22 hi hz0 hz1 .i64 .i64 _ _ M rfl rfl hMi hMi (by rw [hz2]; omega) (by unfold maxLen; omega) (Nat.le_refl _) ?_; intro w3 hown hgr)
  have hown0 : w3.ownsRow w.heap.size 48 1 (.slice (some ⟨w.heap.size, 0, none⟩) M M) M (ints .u32 (List.replicate M 0)) := by
    rw [ints_zero, ← toList_madeCells_one]; rw [Nat.mul_one] at hown; exact hown
  have hb3 : Below w.heap.size w w3 := (Below.refl _ _).grown hgr (Nat.le_refl _) (by simp)
  clear hown hgr hMi
  generalize hgg : w.heap.size = g at *
  go_loopw [13] (fun i wr => ∃ (k : Nat) (O : List Nat), k ≤ l.length ∧ i = .int .i64 k ∧ Hid (O.length = M) ∧ Small O ∧ Hid (val O = bv (l.take k)) ∧
      wr.ownsRow g 48 1 (.slice (some ⟨g, 0, none⟩) M M) M (ints .u32 O) ∧ Below g w wr)
    (fun i _ => l.length - (intOf i).toNat)
  case atStart => exact ⟨0, List.replicate M 0, Nat.zero_le _, rfl, by unfold Hid; simp, by intro x hx; have := (List.mem_replicate.1 hx).2; omega, by unfold Hid; rw [val_zero _ (fun x hx => (List.mem_replicate.1 hx).2)]; rfl, hown0, hb3⟩
  case round =>
    clear hown0 hb3
    obtain ⟨k, O, hk, rfl, HO, hOs, HV, hown, hb⟩ := hrel
    have hs := hb.size
    by_cases hlt : k < l.length
    · have g1 := h.below hb (by omega)
      obtain ⟨b1, off1, rfl, _, hc1⟩ := g1.2.2.2 (by rw [ints_length]; omega)
      have d1 := hc1 k (by rw [ints_length]; omega)
      rw [ints_get _ _ _ hlt] at d1
      have hc := getD_byte l hl k
      have hq : k / 4 < M := by rw [HM.out]; omega
      have hcw : wr.cell? ⟨g, k / 4, none⟩ = some (.int .u32 ((O.getD (k / 4) 0 : Nat) : Int)) := by
        rw [hown.cellAt (k / 4) (by omega), ints_get _ _ _ (by rw [HO.out]; omega)]
      obtain ⟨c, ec⟩ : ∃ c : Int, c = ((l.getD k 0 : Nat) : Int) := ⟨_, rfl⟩
      obtain ⟨x, ex⟩ : ∃ x : Int, x = ((O.getD (k / 4) 0 : Nat) : Int) := ⟨_, rfl⟩
      rw [← ec] at d1
      rw [← ex] at hcw
      have hc0 : 0 ≤ c := by omega
      have hc1' : c < 256 := by omega
      obtain ⟨q, hqe⟩ : ∃ q, q = k / 4 := ⟨_, rfl⟩
      rw [← hqe] at hq hcw
      have hqi : (k : Int) / 4 = (q : Int) := by omega
      have EC : Hid (c = ((l.getD k 0 : Nat) : Int)) := ec
      have EX : Hid (x = ((O.getD (k / 4) 0 : Nat) : Int)) := ex
      have EQ : Hid (q = k / 4) := hqe
      have hr : (k : Int) % 4 = 0 ∨ (k : Int) % 4 = 1 ∨ (k : Int) % 4 = 2 ∨ (k : Int) % 4 = 3 := by omega
      have hX := limb_small l O k hl hOs HV.out
      have HU := unpack_step l O k hlt (by rw [HO.out, HM.out]) HV.out
      have fin : ∀ r, k % 4 = r → ∀ Z V : Int, Z = ((l.getD k 0 * 256 ^ r : Nat) : Int) → V = bits BinOp.or IntKind.u32 x Z →
          ∃ (k1 : Nat) (O1 : List Nat), k1 ≤ l.length ∧ Value.int .i64 ((k : Int) + 1) = .int .i64 k1 ∧ Hid (O1.length = M) ∧ Small O1 ∧ Hid (val O1 = bv (l.take k1)) ∧
          (wr.setCell ⟨g, q, none⟩ (.int .u32 V)).ownsRow g 48 1 (.slice (some ⟨g, 0, none⟩) M M) M (ints .u32 O1) ∧ Below g w (wr.setCell ⟨g, q, none⟩ (.int .u32 V)) := by
        intro r er Z V eZ eV
        subst er
        obtain ⟨o1, o2⟩ := or_byte (O.getD (k / 4) 0) (l.getD k 0) (k % 4) hX hc (by omega)
        rw [eZ, ex, o1] at eV
        subst eV
        obtain ⟨hR1, _⟩ := hown.stored q (.int .u32 ((O.getD (k / 4) 0 + l.getD k 0 * 256 ^ (k % 4) : Nat) : Int))
        rw [ints_set] at hR1
        refine ⟨k + 1, O.set q (O.getD (k / 4) 0 + l.getD k 0 * 256 ^ (k % 4)), by omega, by simp, by unfold Hid; rw [List.length_set, HO.out], small_set _ _ _ hOs o2, by unfold Hid; rw [hqe]; exact HU, hR1, hb.setCell (by exact Nat.le_refl _) _⟩
      have hf := hown.frozenAt q
      clear hc1 g1 h ec ex hqe hc HV HU hX hown
      rcases hr with hr | hr | hr | hr
      · go_wp2
        go_roundw
        case rel => exact fin 0 (by omega) _ _ (by rw [EC.out]; simp) rfl
        case measure => simp [intOf]; omega
      · go_wp2
        go_roundw
        case rel => exact fin 1 (by omega) _ _ (by rw [EC.out]; simp) rfl
        case measure => simp [intOf]; omega
      · go_wp2
        go_roundw
        case rel => exact fin 2 (by omega) _ _ (by rw [EC.out]; simp) rfl
        case measure => simp [intOf]; omega
      · go_wp2
        go_roundw
        case rel => exact fin 3 (by omega) _ _ (by rw [EC.out]; simp) rfl
        case measure => simp [intOf]; omega
    · have ek : l.take k = l := List.take_of_length_le (by omega)
      have hv : val O = bv l := by rw [HV.out, ek]
      have c5 := trim_own O g (some ⟨g, 0, none⟩) M wr (by rw [HO.out]; exact hown) hOs
      rw [HO.out, hv] at c5
      obtain ⟨Y, hY⟩ : ∃ Y, nl (bv l) = Y := ⟨_, rfl⟩
      rw [hY] at c5
      have HY : Hid (nl (bv l) = Y) := hY
      clear hY
      clear HV HO ek hv hown h
      go_wp2_with (go_at_call 69; refine c5.mono ?_; rintro e w5 ⟨rfl, hw, hown5⟩; have hw2 := hw.symm; clear hw; subst hw2)
      go_ret
      rw [HY.out, hgg]
      exact ⟨_, _, rfl, hown5, hb⟩
end Go.Proofs.Ytbhmgafiookjnad.ByL
