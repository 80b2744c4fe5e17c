/- Keys of numbers: the text of a number's bytes; the bits of such a text; keys held against each other; The bits of a key's text; RatKeys: two numbers have the same map key just if they are the same number: the walk. -/
import Derived.Test.YtdliookkkgobbaaSetAS
import Derived.Test.YtdliookkkgobbaaSetAC
import Derived.Laws.BytesArg
import Derived.Lib.SmallJoins
/- Keys of numbers: the text of a number's bytes; the bits of such a text; keys held against each other. -/
namespace Go.Proofs.Ytdliookkkgobbaa.KeyL
open Go.RowKit Go.Maps Mem LimbNum Limb1 NatL RefL ByNum ByL RatL RatM RatN RatF MulN MulW MulL RefR RefT RefU InvL DivL QNum NmL

/-- The text of these bytes. -/
def bs (l : List Nat) : ByteArray := ⟨(l.map UInt8.ofNat).toArray⟩
/-- The byte at a place of a text; beyond it nought. -/
def byteAt (s : ByteArray) (i : Nat) : Nat := if h : i < s.size then (s[i]'h).toNat else 0
theorem byte_lt (s : ByteArray) (i : Nat) : byteAt s i < 256 := by
  unfold byteAt
  split
  · exact UInt8.toNat_lt _
  · omega
theorem byte_is (s : ByteArray) (i : Nat) (h : i < s.size) : ((s[i]'h).toNat : Int) = (byteAt s i : Int) := by
  unfold byteAt
  rw [dif_pos h]
theorem bs_size (l : List Nat) : (bs l).size = l.length := by simp [bs, ByteArray.size]
theorem byte_bs (l : List Nat) (h : Byte l) (i : Nat) : byteAt (bs l) i = l.getD i 0 := by
  unfold byteAt
  split
  · rename_i hi
    rw [bs_size] at hi
    have h1 : (bs l)[i]'(by rw [bs_size]; exact hi) = UInt8.ofNat l[i] := by
      show ((l.map UInt8.ofNat).toArray)[i]'(by simpa using hi) = _
      simp
    rw [h1, List.getD_eq_getElem?_getD, List.getElem?_eq_getElem hi]
    have := h l[i] (List.getElem_mem hi)
    simp [UInt8.toNat_ofNat']
    omega
  · rename_i hi
    rw [bs_size] at hi
    rw [List.getD_eq_getElem?_getD, List.getElem?_eq_none (by omega)]; rfl
theorem bs_inj {a b : List Nat} (ha : Byte a) (hb : Byte b) (h : bs a = bs b) : a = b := by
  have hs : a.length = b.length := by rw [← bs_size a, ← bs_size b, h]
  apply List.ext_getElem hs
  intro i h1 h2
  have e1 := byte_bs a ha i
  have e2 := byte_bs b hb i
  rw [h, e2] at e1
  rw [List.getD_eq_getElem?_getD, List.getElem?_eq_getElem h2, List.getD_eq_getElem?_getD, List.getElem?_eq_getElem h1] at e1
  exact e1.symm
theorem nums_bs (l : List Nat) : strOfNums (l.map fun (n : Nat) => (n : Int)) = bs l := by
  simp [strOfNums, bs]
theorem conv_own {W : World} {B : Nat} {l : List Nat} {ao : Option Addr} {cap : Nat} (h : W.ownsRow B 5 1 (.slice ao l.length cap) l.length (ints .u8 l)) :
    (convert 94 9 (.slice ao l.length cap)).run Try.prog W = .ok (.string (bs l)) W := by
  have hl := lies_of_owns h
  by_cases h0 : l = []
  · subst h0
    rcases Go.Joins.ownsRow_forms h with ⟨e, _⟩ | ⟨g, c, e⟩
    · rw [e]
      exact run_convert_bytes_nil W 94 5 Try.underlying94 Try.underlying5 0 0 9 Try.underlying9
    · rw [e]
      exact run_convert_bytes_arg W 94 5 Try.underlying94 Try.underlying5 g 0 _ _ [] rfl (fun i hi => by simp at hi) 9 Try.underlying9
  · have hp : 0 < l.length := by rcases l with _ | ⟨a, t⟩ <;> simp at h0 ⊢
    obtain ⟨b, off, rfl, hlt, hc⟩ := hl.2.2.2 (by rw [ints_length]; exact hp)
    rw [← nums_bs]
    refine run_convert_bytes_arg W 94 5 Try.underlying94 Try.underlying5 b off _ _ _ (by simp) ?_ 9 Try.underlying9
    intro i hi
    rw [hc i (by rw [ints_length]; exact hi), ints_get _ _ _ hi]
    congr 2
    rw [List.getD_eq_getElem?_getD, List.getD_eq_getElem?_getD, List.getElem?_map, List.getElem?_eq_getElem hi]
    rfl
/-- A number's key. -/
def keyV (p : Nm) : Value := .agg #[.bool p.b, .string (bs (ny p.n)), .string (bs (ny p.d))]
set_option maxRecDepth 20000 in
set_option maxHeartbeats 2000000 in
theorem keyof_any (v : Value) (p : Nm) (k : Nat) (hk : k ≤ 1000000) (w : World) (h : IsR w v p) (f : Fits p k) :
    Calls Try.prog 10 #[v] w fun e w' => e = .returned (keyV p) ∧ Below w.heap.size w w' := by
  have cS := fun (W : World) (hb : Below w.heap.size w W) => spread_any v p.b p.n p.d W (h.below hb)
  have l1 := (f.nl hk).1
  have l2 := (f.nl hk).2
  have cP1 := fun (W : World) (o : Option Addr) (c : Nat) (h : Lies W o c (ints .u32 (nl p.n))) => pack_any (nl p.n) o c W h (small_nl _) (by omega)
  have cP2 := fun (W : World) (o : Option Addr) (c : Nat) (h : Lies W o c (ints .u32 (nl p.d))) => pack_any (nl p.d) o c W h (small_nl _) (by omega)
  rw [val_nl] at cP1 cP2
  unfold keyV
  obtain ⟨A, L, q, rfl⟩ := IsRat.shape h
  clear h f l1 l2 hk
  generalize p.b = b at *
  generalize p.n = n at *
  generalize p.d = d at *
  obtain ⟨W0, eW0, hb0, hk0, hk1⟩ := two_new w (.cells #[.bool b, .int .u64 A, .int .u64 L, .pointer q] 28) (.cells #[.bool false, .string ⟨#[]⟩, .string ⟨#[]⟩] 37)
  have e0 := cell_at hk0
  have a0 : W0.cell? ⟨w.heap.size, 0, none⟩ = some (.bool b) := e0 0 _ rfl
  have a1 : W0.cell? ⟨w.heap.size, 1, none⟩ = some (.int .u64 A) := e0 1 _ rfl
  have a2 : W0.cell? ⟨w.heap.size, 2, none⟩ = some (.int .u64 L) := e0 2 _ rfl
  have a3 : W0.cell? ⟨w.heap.size, 3, none⟩ = some (.pointer q) := e0 3 _ rfl
  have HK0 : Hid (W0.heap[w.heap.size]? = some (.cells #[.bool b, .int .u64 A, .int .u64 L, .pointer q] 28)) := hk0
  have HK1 : Hid (W0.heap[w.heap.size + 1]? = some (.cells #[.bool false, .string ⟨#[]⟩, .string ⟨#[]⟩] 37)) := hk1
  have EW : Hid (_ = W0) := eW0
  have cS' := cS W0 hb0
  clear eW0 e0 hk0 hk1 cS
  go_enter Try.func10, Try.ntmps10
  go_upto_region 1 with fail
  rw [EW.out]
  clear EW
  go_upto_region 2 with (go_at_call 48; refine cS'.mono ?_; rintro e w1 ⟨o1, c1, o2, c2, rfl, i1, i2, hb1⟩)
  have H1 := bt hb0 hb1
  have hB1 := box_kept HK0.out hb1 (in_heap HK0.out)
  have s0 : w1.cell? ⟨w.heap.size, 0, none⟩ = some (.bool b) := cell_at hB1 0 _ rfl
  have HK2 : Hid (w1.drew.heap[w.heap.size + 1]? = some (.cells #[.bool false, .string ⟨#[]⟩, .string ⟨#[]⟩] 37)) := World.drew_at (box_kept HK1.out hb1 (in_heap HK1.out))
  have D1 := H1.drew
  have j1 : Lies w1.drew o1 c1 (ints .u32 (nl n)) := i1.below (Below.refl _ _).drew (Nat.le_refl _)
  have j2 : Lies w1.drew o2 c2 (ints .u32 (nl d)) := i2.below (Below.refl _ _).drew (Nat.le_refl _)
  have HJ : Hid (Lies w1.drew o1 c1 (ints .u32 (nl n)) ∧ Lies w1.drew o2 c2 (ints .u32 (nl d))) := ⟨j1, j2⟩
  clear a0 a1 a2 a3 HK0 HK1 hb0 hb1 H1 hB1 i1 i2 j1 j2 cS'
  have ne1 : w.heap.size ≠ w.heap.size + 1 := by omega
  go_region_with (first
    | (go_at_call_of 50 (Value.slice o1 (nl n).length c1); refine (cP1 _ _ _ HJ.out.1).mono ?_; rintro e w2 ⟨o3, c3, rfl, own3, hb2⟩; have H2 := bt D1 hb2; have s1 : w2.cell? ⟨w.heap.size, 0, none⟩ = some (.bool b) := (by rw [hb2.cell (World.block_lt_of_cell? w1 _ s0)]; exact s0); have cv1 := conv_own own3; have O3 : Hid (w2.ownsRow 0 5 1 (.slice o3 (ny n).length c3) (ny n).length (ints .u8 (ny n))) := owns_base own3 (Nat.zero_le _); clear own3)
    | (go_at_call_of 50 (Value.slice o2 (nl d).length c2); refine (cP2 _ _ _ (HJ.out.2.below hb2 (Nat.le_refl _))).mono ?_; rintro e w3 ⟨o4, c4, rfl, own4, hb3⟩; have H3 := bt H2 hb3; have s2 : w3.cell? ⟨w.heap.size, 0, none⟩ = some (.bool b) := (by rw [hb3.cell (World.block_lt_of_cell? w2 _ s1)]; exact s1); have cv2 := conv_own (keep O3.out hb3); have cv3 := conv_own own4; have kk := box_kept HK2.out (bt hb2 hb3) (in_heap HK2.out); have dd := cell_at kk; have d0 : w3.cell? ⟨w.heap.size + 1, 0, none⟩ = some (.bool false) := dd 0 _ rfl; have d1 : w3.cell? ⟨w.heap.size + 1, 1, none⟩ = some (.string ⟨#[]⟩) := dd 1 _ rfl; have d2 : w3.cell? ⟨w.heap.size + 1, 2, none⟩ = some (.string ⟨#[]⟩) := dd 2 _ rfl; have ff : ∀ i, w3.frozen? ⟨w.heap.size + 1, i, none⟩ = false := fun i => (by simp [World.frozen?, kk]); have HK : Hid (w3.heap[w.heap.size + 1]? = some (.cells #[.bool false, .string ⟨#[]⟩, .string ⟨#[]⟩] 37)) := kk; clear kk dd own4))
  all_goals go_wp2
  all_goals have k2 := sto3_box HK.out (.bool b) (.string (bs (ny n))) (.string (bs (ny d)))
  all_goals have hB := sto3_below H3 (show w.heap.size ≤ w.heap.size + 1 by omega) (.bool b) (.string (bs (ny n))) (.string (bs (ny d)))
  all_goals clear cv1 cv2 cv3 d0 d1 d2 ff HK
  all_goals generalize World.setCell _ _ _ = W' at *
  all_goals have gg := cell_at k2
  all_goals have g0 : W'.cell? ⟨w.heap.size + 1, 0, none⟩ = some (.bool b) := gg 0 _ rfl
  all_goals have g1 : W'.cell? ⟨w.heap.size + 1, 1, none⟩ = some (.string (bs (ny n))) := gg 1 _ rfl
  all_goals have g2 : W'.cell? ⟨w.heap.size + 1, 2, none⟩ = some (.string (bs (ny d))) := gg 2 _ rfl
  all_goals refine bodyPost_ret (v := .agg #[.bool b, .string (bs (ny n)), .string (bs (ny d))]) ?_ rfl ?_
  all_goals first
    | exact ⟨rfl, hB⟩
    | simp [results, go_sem, g0, g1, g2]
theorem last_ny (N : Nat) (h : N ≠ 0) : (ny N).getD ((ny N).length - 1) 0 ≠ 0 := by
  induction N using Nat.strongRecOn with
  | ind N ih =>
    rw [ny_pos h]
    by_cases h2 : N / 256 = 0
    · rw [h2, ny_zero]
      simp
      omega
    · have := ih (N / 256) (by omega) h2
      have hp : 0 < (ny (N / 256)).length := by rw [ny_pos h2]; simp
      rw [List.length_cons, Nat.add_sub_cancel, List.getD_eq_getElem?_getD]
      obtain ⟨m, hm⟩ : ∃ m, (ny (N / 256)).length = m + 1 := ⟨(ny (N / 256)).length - 1, by omega⟩
      rw [hm] at this ⊢
      rw [List.getElem?_cons_succ, ← List.getD_eq_getElem?_getD]
      simpa using this
set_option maxRecDepth 20000 in
set_option maxHeartbeats 1000000 in
theorem whole_any (N : Nat) (w : World) (hl : (ny N).length ≤ 1000000) :
    Calls Try.prog 15 #[.string (bs (ny N))] w fun e w' => e = .returned (.bool true) ∧ w' = w := by
  have hs := bs_size (ny N)
  by_cases h : N = 0
  · subst h
    rw [ny_zero]
    have hs : (bs []).size = 0 := rfl
    generalize bs [] = s at *
    go_enter Try.func15, Try.ntmps15
    go_wp2
    go_ret
    exact ⟨rfl, rfl⟩
  · have hb := byte_bs (ny N) (byte_ny N) ((ny N).length - 1)
    have hz := last_ny N h
    have hp : 0 < (ny N).length := by rw [ny_pos h]; simp
    rw [← hb] at hz
    generalize bs (ny N) = s at *
    generalize (ny N).length = M at *
    clear hb
    have he := byte_is s (M - 1) (by omega)
    have h0 : ((s.size : Int) == 0) = false := by rw [hs]; simp; omega
    have h1 : ((s.size : Int) - 1).toNat = M - 1 := by omega
    have hz2 : ((byteAt s (M - 1) : Nat) : Int) ≠ 0 := by omega
    go_enter Try.func15, Try.ntmps15
    go_wp2
    go_ret
    have hR2 : (((byteAt s (M - 1) : Nat) : Int) != 0) = true := by simpa using hz2
    refine ⟨?_, rfl⟩
    simp [hR2]
end Go.Proofs.Ytdliookkkgobbaa.KeyL

/- The bits of a key's text. -/
namespace Go.Proofs.Ytdliookkkgobbaa.BytL
open Go.RowKit Go.Maps Mem LimbNum Limb1 NatL RefL ByNum ByL RatL RatM RatN RatF MulN MulW MulL RefR RefT RefU InvL DivL QNum NmL KeyL

theorem nb_bv (N : Nat) : fromL (nb N) = N := fromL_nb N
set_option maxRecDepth 20000 in
set_option maxHeartbeats 1000000 in
theorem bytes_core (l : List Nat) (s : ByteArray) (N : Nat) (hN : Hid (N = bv l)) (hs : s.size = l.length) (hb8 : Byte l) (hat : ∀ i, byteAt s i = l.getD i 0) (hlen : l.length ≤ 8388608) (w : World) :
    Calls Try.prog 14 #[.string s] w fun e w' => ∃ ao' cap', e = .returned (.slice ao' (nb N).length cap') ∧ w'.ownsRow w.heap.size 4 1 (.slice ao' (nb N).length cap') (nb N).length (bools (nb N)) ∧ Below w.heap.size w w' := by
  obtain ⟨i0, hi, hz0, hz1, hz2⟩ := info_parts infoB
  go_enter Try.func14, Try.ntmps14
  go_wp2
  generalize hbase : w.heap.size = base
  go_loopw [3, 4] (fun v i wr => ∃ (k : Nat) (F : List Bool), k ≤ l.length ∧ i = .int .i64 k ∧ F.length = 8 * k ∧ Hid (fromL F = bv (l.take k)) ∧ wr.ownsRow base 4 1 v F.length (bools F) ∧ Below base w wr)
    (fun _ i _ => l.length - (intOf i).toNat)
  case atStart =>
    subst hbase
    refine ⟨0, [], Nat.zero_le _, rfl, rfl, by unfold Hid; simp [fromL, bv], ?_, (Below.refl _ _).alloc (Nat.le_refl _) _⟩
    exact World.ownsRow_lit w #[] 0 (Nat.le_refl _) (by decide) rfl
  case round =>
    obtain ⟨k, F, hk, rfl, hFl, HF, hown, hb⟩ := hrel
    by_cases hlt : k < l.length
    · have HS : Hid (fromL (F ++ bl (l.getD k 0) 8) = bv (l.take (k + 1))) := byte_bits l F k hb8 HF hFl
      have hx : l.getD k 0 < 256 := getD_byte l hb8 k
      have hlt2 : k < s.size := by omega
      have he := byte_is s k hlt2
      rw [hat k] at he
      generalize l.getD k 0 = x at he HS hx
      have q1 : (k : Int) < (s.size : Int) := by omega
      clear hs hat hN
      go_wp2
      go_loopw [3, 5, 6] (fun v u j wr => ∃ m : Nat, m ≤ 8 ∧ j = .int .i64 m ∧ u = .int .u8 ((x / 2 ^ m : Nat) : Int) ∧ wr.ownsRow base 4 1 v (F.length + m) (bools (F ++ bl x m)) ∧ Below base w wr) (fun _ _ j _ => 8 - (intOf j).toNat)
      case atStart => exact ⟨0, by omega, rfl, by simp, by simpa [bl] using hown, hb⟩
      case round =>
        clear hown hb he
        obtain ⟨m, hm, rfl, rfl, hown, hb⟩ := hrel
        have hsz := hb.size
        have hbit := bit_of x m
        have hq : x / 2 ^ m ≤ x := Nat.div_le_self _ _
        have hq2 : ((x / 2 ^ m : Nat) : Int) ≤ 255 := by omega
        have hq1 : 0 ≤ ((x / 2 ^ m : Nat) : Int) := Int.natCast_nonneg _
        have hst := div_step x m
        obtain ⟨q, hQ⟩ : ∃ q, x / 2 ^ m = q := ⟨_, rfl⟩
        rw [hQ] at hbit hq hq2 hq1 hst
        simp only [hQ]
        clear hQ
        by_cases hm2 : m < 8
        · go_wp2_with (at_builtin; refine wpList_append_own _ rfl _ _ 29 rfl base 4 i0 (.bool false) 1 1 Try.underlying29 hi hz0 hz1 hz2 rfl (by decide) _ _ _ rfl (hown.alloc _) ⟨wr.heap.size, 0, none⟩ 1 1 [.bool (x.testBit m)] rfl rfl ?c1 ?c2 ?c3 ?c4 ?c5 ?_)
          case c1 =>
            intro j u hj
            match j, hj with
            | 0, hj => simp at hj; subst hj; simp [Addr.add]
          case c2 => intro u hu; simp at hu; subst hu; rfl
          case c3 => unfold maxLen; omega
          case c4 => omega
          case c5 => simp; omega
          intro v' w1 hown' hgrow _
          have hb1 : Below base w w1 := (hb.alloc (by omega) _).grown hgrow (by simp; omega) (fun j hj => (hown.lt j hj).1)
          clear hgrow hown
          go_wp2
          go_roundw
          case rel => exact ⟨m + 1, by omega, by go_num, by rw [← hst]; go_num, by rw [bl_succ]; simpa [bools, Nat.add_assoc, hFl] using hown', hb1⟩
          case measure => simp [intOf]; omega
        · have hm3 : m = 8 := by omega
          subst hm3
          go_wp2
          go_roundw
          case rel => exact ⟨k + 1, F ++ bl x 8, by omega, by go_num, by rw [List.length_append, bl_length]; omega, HS, by rw [List.length_append, bl_length]; exact hown, hb⟩
          case measure => simp [intOf]; omega
    · have ek : k = l.length := by omega
      subst ek
      have hF2 : fromL F = N := by have := HF.out; rw [List.take_of_length_le (Nat.le_refl _)] at this; rw [this, hN.out]
      obtain ⟨ao2, cap2, e2⟩ := owns_shape hown
      rw [e2] at hown ⊢
      have c1 := cut_own F base ao2 cap2 wr hown
      rw [hF2] at c1
      clear hown HF hF2 hFl hat hN
      subst hbase
      go_wp2_with (go_at_call 51; refine c1.mono ?_; rintro e w5 ⟨rfl, hw, hown5⟩; have hw2 := hw.symm; clear hw; subst hw2)
      go_ret
      exact ⟨ao2, cap2, rfl, hown5, hb⟩
theorem bytes_any (N : Nat) (hl : (ny N).length ≤ 8388608) (w : World) :
    Calls Try.prog 14 #[.string (bs (ny N))] w fun e w' => ∃ ao' cap', e = .returned (.slice ao' (nb N).length cap') ∧ w'.ownsRow w.heap.size 4 1 (.slice ao' (nb N).length cap') (nb N).length (bools (nb N)) ∧ Below w.heap.size w w' :=
  bytes_core (ny N) (bs (ny N)) N (bv_ny N).symm (bs_size _) (byte_ny N) (byte_bs _ (byte_ny N)) hl w
end Go.Proofs.Ytdliookkkgobbaa.BytL

/- RatKeys: two numbers have the same map key just if they are the same number: the walk. -/
namespace Go.Proofs.Ytdliookkkgobbaa.KyW
open Go.RowKit Mem LimbNum Limb1 NatL GcdA RatL RatM RatN RatF RatO MulN MulW MulL RefR RefT RefU InvL DivL QNum CmpL CmqL RefX RefY RefZ FloL Mk5 AddN JoinL AddW AddV AddR FldL SubL NmL KeyL BytL DaL ByNum RefL Law5 Aw5
open Go.Maps

theorem keepK {W W' : World} {gk g0x g1x : Nat} {qb : Bool} {s1 s2 : ByteArray} {b1 b2 : Bool} {A1 L1 A2 L2 : Int} {p1 p2 : Option Addr} (hb : Below W.heap.size W W') (H : W.cell? ⟨gk, 0, none⟩ = some (.bool qb) ∧ W.cell? ⟨gk, 1, none⟩ = some (.string s1) ∧ W.cell? ⟨gk, 2, none⟩ = some (.string s2) ∧ W.cell? ⟨g0x, 0, none⟩ = some (.bool b1) ∧ W.cell? ⟨g0x, 1, none⟩ = some (.int .u64 A1) ∧ W.cell? ⟨g0x, 2, none⟩ = some (.int .u64 L1) ∧ W.cell? ⟨g0x, 3, none⟩ = some (.pointer p1) ∧ W.cell? ⟨g1x, 0, none⟩ = some (.bool b2) ∧ W.cell? ⟨g1x, 1, none⟩ = some (.int .u64 A2) ∧ W.cell? ⟨g1x, 2, none⟩ = some (.int .u64 L2) ∧ W.cell? ⟨g1x, 3, none⟩ = some (.pointer p2)) : W'.cell? ⟨gk, 0, none⟩ = some (.bool qb) ∧ W'.cell? ⟨gk, 1, none⟩ = some (.string s1) ∧ W'.cell? ⟨gk, 2, none⟩ = some (.string s2) ∧ W'.cell? ⟨g0x, 0, none⟩ = some (.bool b1) ∧ W'.cell? ⟨g0x, 1, none⟩ = some (.int .u64 A1) ∧ W'.cell? ⟨g0x, 2, none⟩ = some (.int .u64 L1) ∧ W'.cell? ⟨g0x, 3, none⟩ = some (.pointer p1) ∧ W'.cell? ⟨g1x, 0, none⟩ = some (.bool b2) ∧ W'.cell? ⟨g1x, 1, none⟩ = some (.int .u64 A2) ∧ W'.cell? ⟨g1x, 2, none⟩ = some (.int .u64 L2) ∧ W'.cell? ⟨g1x, 3, none⟩ = some (.pointer p2) := by
  have kc : ∀ {p : Addr} {v : Value}, W.cell? p = some v → W'.cell? p = some v := fun {p v} h => by rw [hb.cell (World.block_lt_of_cell? W p h)]; exact h
  exact ⟨kc H.1, kc H.2.1, kc H.2.2.1, kc H.2.2.2.1, kc H.2.2.2.2.1, kc H.2.2.2.2.2.1, kc H.2.2.2.2.2.2.1, kc H.2.2.2.2.2.2.2.1, kc H.2.2.2.2.2.2.2.2.1, kc H.2.2.2.2.2.2.2.2.2.1, kc H.2.2.2.2.2.2.2.2.2.2⟩
theorem laidOut : laidOutB Try.prog = true := by kernel_rfl
theorem rowK : (37 : TypeId) < Try.prog.types.size := of_decide_eq_true (by kernel_rfl)
theorem wideK : (match Try.prog.underlying 37 with | some (.array _ _) | some (.struct _) => true | _ => false) = true := by rw [Try.underlying37]
set_option maxRecDepth 20000 in
theorem lawK : Keyed Try.prog 37 := Keyed.of_law (deep_law_laid laidOut (m := 2) (by omega) rowK (by kernel_rfl) wideK)
theorem keyTypeK : Try.prog.keyType 37 = true := by kernel_rfl
theorem cellsK : Try.prog.cellsOf 37 = 3 := by kernel_rfl
theorem cellsS : Try.prog.cellsOf 9 = 1 := by kernel_rfl
theorem cellsB : Try.prog.cellsOf 4 = 1 := by kernel_rfl
set_option maxRecDepth 20000 in
theorem key_some (b : Bool) (s1 s2 : ByteArray) (h1 : s1.size ≤ maxLen) (h2 : s2.size ≤ maxLen) : ∃ l, keyOf Try.prog 37 (.agg #[.bool b, .string s1, .string s2]) = some l := by
  obtain ⟨m, hm⟩ : ∃ m, Try.prog.types.size + 1 = m + 1 + 1 := ⟨Try.prog.types.size - 1, by have h0 : 0 < Try.prog.types.size := Nat.lt_of_le_of_lt (Nat.zero_le _) rowK; omega⟩
  unfold keyOf
  rw [Try.underlying37, hm]
  simp [keyTypeK, Value.formed, Try.underlying37, cellsK, Value.cells, Program.keyLits, cellsS, cellsB, Try.underlying9, Try.underlying4, h1, h2]
theorem ny_inj {a b : Nat} (h : bs (ny a) = bs (ny b)) : a = b := by
  have := bs_inj (byte_ny a) (byte_ny b) h
  rw [← bv_ny a, ← bv_ny b, this]
set_option maxRecDepth 20000 in
theorem eql_key (w : World) (p q : Nm) (h1 : (ny p.n).length ≤ 1000000) (h2 : (ny p.d).length ≤ 1000000) (h3 : (ny q.n).length ≤ 1000000) (h4 : (ny q.d).length ≤ 1000000) :
    (binOp .eql 37 (.agg #[.bool p.b, .string (bs (ny p.n)), .string (bs (ny p.d))]) (.agg #[.bool q.b, .string (bs (ny q.n)), .string (bs (ny q.d))])).run Try.prog w = .ok (.bool (decide (p.b = q.b ∧ p.n = q.n ∧ p.d = q.d))) w := by
  have hm : ∀ n, (ny n).length ≤ 1000000 → (bs (ny n)).size ≤ maxLen := fun n h => by rw [bs_size]; unfold maxLen; omega
  obtain ⟨lx, hx⟩ := key_some p.b _ _ (hm _ h1) (hm _ h2)
  obtain ⟨ly, hy⟩ := key_some q.b _ _ (hm _ h3) (hm _ h4)
  obtain ⟨r, e1, e2⟩ := run_equal_deep (P := Try.prog) w (m := 2) (by omega) (k := 37) (by kernel_rfl) wideK hx hy
  have er : r = decide (p.b = q.b ∧ p.n = q.n ∧ p.d = q.d) := by
    rw [Bool.eq_iff_iff, e2, decide_eq_true_iff]
    constructor
    · intro e
      have := lawK.inj hx (by rw [e]; exact hy)
      simp at this
      exact ⟨this.1, ny_inj this.2.1, ny_inj this.2.2⟩
    · rintro ⟨a, b, c⟩
      rw [a, b, c] at hx
      exact Option.some.inj (hx.symm.trans hy)
  rw [er] at e1
  simp only [binOp]
  simp [e1]
theorem IsR.low {w : World} {v : Value} {p : Nm} (h : IsR w v p) : Low p.b p.n p.d := h.1
theorem low_same (b1 b2 : Bool) (n1 d1 n2 d2 : Nat) (h1 : Low b1 n1 d1) (h2 : Low b2 n2 d2) : cmpQ b1 n1 d1 b2 n2 d2 = 0 ↔ (b1 = b2 ∧ n1 = n2 ∧ d1 = d2) := by
  unfold cmpQ cmpI
  constructor
  · intro h
    have he : sv b1 (n1 * d2) = sv b2 (n2 * d1) := by
      split at h
      · simp at h
      · split at h
        · assumption
        · simp at h
    by_cases hb : b1 = b2
    · subst hb
      have hx : n1 * d2 = n2 * d1 := by
        unfold sv at he
        cases b1 <;> simp at he <;> omega
      exact ⟨rfl, uniq n1 d1 n2 d2 h1.one h2.one h1.pos hx⟩
    · exfalso
      have hz : n1 * d2 = 0 ∧ n2 * d1 = 0 := by
        generalize n1 * d2 = X at *
        generalize n2 * d1 = Y at *
        unfold sv at he
        cases b1 <;> cases b2 <;> simp at he hb <;> omega
      have z1 : n1 = 0 := by
        rcases Nat.mul_eq_zero.1 hz.1 with h | h
        · exact h
        · have := h2.pos; omega
      have z2 : n2 = 0 := by
        rcases Nat.mul_eq_zero.1 hz.2 with h | h
        · exact h
        · have := h1.pos; omega
      exact hb ((h1.sg z1).trans (h2.sg z2).symm)
  · rintro ⟨rfl, rfl, rfl⟩
    simp
set_option maxRecDepth 20000 in
set_option maxHeartbeats 8000000 in
theorem law (xx0 : Bool) (SA0 SB0 : Value) (xx1 : Bool) (SA1 SB1 : Value) (w : World)
    (cB0 : ∀ W, Below w.heap.size w W → Calls Try.prog 8 #[.agg #[.bool xx0, SA0, SB0]] W fun e w' => ∃ v q p, e = .returned (.tuple #[v, q]) ∧ IsR w' v p ∧ IsQ w' q p ∧ Fits p 256 ∧ Below W.heap.size W w')
    (cB1 : ∀ W, Below w.heap.size w W → Calls Try.prog 8 #[.agg #[.bool xx1, SA1, SB1]] W fun e w' => ∃ v q p, e = .returned (.tuple #[v, q]) ∧ IsR w' v p ∧ IsQ w' q p ∧ Fits p 256 ∧ Below W.heap.size W w') :
    Calls Try.prog 3 #[.agg #[.bool xx0, SA0, SB0], .agg #[.bool xx1, SA1, SB1]] w fun e w' => e = .returned (.bool true) ∧ Below w.heap.size w w' := by
  obtain ⟨W0, eW0, hb0, k0, k1⟩ := two_new w (.cells #[.bool xx0, SA0, SB0] 24) (.cells #[.bool xx1, SA1, SB1] 24)
  have e0 := cell_at k0
  have ha0 : W0.cell? ⟨w.heap.size, 0, none⟩ = some (.bool xx0) := e0 0 _ rfl
  have ha1 : W0.cell? ⟨w.heap.size, 1, none⟩ = some (SA0) := e0 1 _ rfl
  have ha2 : W0.cell? ⟨w.heap.size, 2, none⟩ = some (SB0) := e0 2 _ rfl
  have HK1 : Hid (W0.heap[w.heap.size + 1]? = some (.cells #[.bool xx1, SA1, SB1] 24)) := k1
  have EW : Hid (_ = W0) := eW0
  have C0 : Hid (Below w.heap.size w W0) := hb0
  have cc := cB0 W0 hb0
  clear eW0 e0 k0 k1 cB0 hb0
  go_enter Try.func3, Try.ntmps3
  go_upto_region 1 with fail
  rw [EW.out]
  clear EW
  go_upto_region 2 with (go_at_call 8; refine cc.mono ?_; rintro e w1 ⟨v, y, q1, rfl, RR, QQ, F1, hb⟩; obtain ⟨b1, A1, L1, p1, rfl⟩ := RR.shape4; obtain ⟨bq1, o1, l1, c1, r1, m1, z1, rfl⟩ := QQ.shape3)
  obtain ⟨W1, eW, B, kx, kp⟩ := two_new w1 (.cells #[.bool b1, .int .u64 A1, .int .u64 L1, .pointer p1] 28) (.cells #[.bool bq1, .slice o1 l1 c1, .slice r1 m1 z1] 31)
  rw [eW]
  have BB := bt hb B
  have C1 : Hid (Below w.heap.size w W1) := bt C0.out BB
  have D0a : Hid (IsR W1 (.agg #[.bool b1, .int .u64 A1, .int .u64 L1, .pointer p1]) q1) := RR.below B
  have D0b : Hid (IsQ W1 (.agg #[.bool bq1, .slice o1 l1 c1, .slice r1 m1 z1]) q1) := QQ.below B
  obtain ⟨g0x, eg⟩ : ∃ g, w1.heap.size = g := ⟨_, rfl⟩
  obtain ⟨g0p, eg2⟩ : ∃ g, w1.heap.size + 1 = g := ⟨_, rfl⟩
  rw [eg2] at kp
  rw [eg] at kx
  simp only [eg2]
  simp only [eg]
  have K0x : Hid (W1.heap[g0x]? = some (.cells #[.bool b1, .int .u64 A1, .int .u64 L1, .pointer p1] 28)) := kx
  have K0p : Hid (W1.heap[g0p]? = some (.cells #[.bool bq1, .slice o1 l1 c1, .slice r1 m1 z1] 31)) := kp
  have G1 : Hid (Fits q1 256) := F1
  have kn := box_kept HK1.out BB (in_heap HK1.out)
  have e0 := cell_at kn
  have hz00 : W1.cell? ⟨w.heap.size + 1, 0, none⟩ = some (.bool xx1) := e0 0 _ rfl
  have hz01 : W1.cell? ⟨w.heap.size + 1, 1, none⟩ = some (SA1) := e0 1 _ rfl
  have hz02 : W1.cell? ⟨w.heap.size + 1, 2, none⟩ = some (SB1) := e0 2 _ rfl
  clear cc
  have cc := cB1 W1 C1.out
  clear cB1
  clear eW B kx kp BB hb RR QQ C0 eg eg2 F1 ha0 ha1 ha2 kn e0 HK1
  go_upto_region 3 with (go_at_call 8; refine cc.mono ?_; rintro e w2 ⟨v, y, q2, rfl, RR, QQ, F2, hb⟩; obtain ⟨b2, A2, L2, p2, rfl⟩ := RR.shape4; obtain ⟨bq2, o2, l2, c2, r2, m2, z2, rfl⟩ := QQ.shape3)
  obtain ⟨W2, eW, B, kx, kp⟩ := two_new w2 (.cells #[.bool b2, .int .u64 A2, .int .u64 L2, .pointer p2] 28) (.cells #[.bool bq2, .slice o2 l2 c2, .slice r2 m2 z2] 31)
  rw [eW]
  have BB := bt hb B
  have C2 : Hid (Below w.heap.size w W2) := bt C1.out BB
  have K0xn : Hid (W2.heap[g0x]? = some (.cells #[.bool b1, .int .u64 A1, .int .u64 L1, .pointer p1] 28)) := box_kept K0x.out BB (in_heap K0x.out)
  clear K0x
  have K0x := K0xn
  clear K0xn
  have K0pn : Hid (W2.heap[g0p]? = some (.cells #[.bool bq1, .slice o1 l1 c1, .slice r1 m1 z1] 31)) := box_kept K0p.out BB (in_heap K0p.out)
  clear K0p
  have K0p := K0pn
  clear K0pn
  have D0an : Hid (IsR W2 (.agg #[.bool b1, .int .u64 A1, .int .u64 L1, .pointer p1]) q1) := D0a.out.below BB
  clear D0a
  have D0a := D0an
  clear D0an
  have D0bn : Hid (IsQ W2 (.agg #[.bool bq1, .slice o1 l1 c1, .slice r1 m1 z1]) q1) := D0b.out.below BB
  clear D0b
  have D0b := D0bn
  clear D0bn
  have D1a : Hid (IsR W2 (.agg #[.bool b2, .int .u64 A2, .int .u64 L2, .pointer p2]) q2) := RR.below B
  have D1b : Hid (IsQ W2 (.agg #[.bool bq2, .slice o2 l2 c2, .slice r2 m2 z2]) q2) := QQ.below B
  obtain ⟨g1x, eg⟩ : ∃ g, w2.heap.size = g := ⟨_, rfl⟩
  obtain ⟨g1p, eg2⟩ : ∃ g, w2.heap.size + 1 = g := ⟨_, rfl⟩
  rw [eg2] at kp
  rw [eg] at kx
  simp only [eg2]
  simp only [eg]
  have K1x : Hid (W2.heap[g1x]? = some (.cells #[.bool b2, .int .u64 A2, .int .u64 L2, .pointer p2] 28)) := kx
  have K1p : Hid (W2.heap[g1p]? = some (.cells #[.bool bq2, .slice o2 l2 c2, .slice r2 m2 z2] 31)) := kp
  have G2 : Hid (Fits q2 256) := F2
  clear cc
  clear eW B kx kp BB hb RR QQ C1 eg eg2 F2 hz00 hz01 hz02
  have e0 := cell_at K0x.out
  have x0 : W2.cell? ⟨g0x, 0, none⟩ = some (.bool b1) := e0 0 _ rfl
  have x1 : W2.cell? ⟨g0x, 1, none⟩ = some (.int .u64 A1) := e0 1 _ rfl
  have x2 : W2.cell? ⟨g0x, 2, none⟩ = some (.int .u64 L1) := e0 2 _ rfl
  have x3 : W2.cell? ⟨g0x, 3, none⟩ = some (.pointer p1) := e0 3 _ rfl
  have lN := fun (p : Nm) (f : Fits p 256) => (ny_len p.n)
  have LN1 : (ny q1.n).length ≤ 40 ∧ (ny q1.d).length ≤ 40 := by rw [ny_len, ny_len]; have := G1.out.2.1; have := G1.out.2.2; omega
  have LN2 : (ny q2.n).length ≤ 40 ∧ (ny q2.d).length ≤ 40 := by rw [ny_len, ny_len]; have := G2.out.2.1; have := G2.out.2.2; omega
  have LN : Hid ((ny q1.n).length ≤ 40 ∧ (ny q1.d).length ≤ 40) := LN1
  have hE := fun (W : World) => eql_key W q1 q2 (by omega) (by omega) (by omega) (by omega)
  have hlow := low_same q1.b q2.b q1.n q1.d q2.n q2.d (IsR.low D0a.out) (IsR.low D1a.out)
  have cPp := parts_any _ q1.b q1.n q1.d W2 D0a.out (Nat.le_trans (G1.out.nl (by omega)).1 (by omega)) (Nat.le_trans (G1.out.nl (by omega)).2 (by omega))
  have cKx := fun (W : World) (h : IsR W (.agg #[.bool b1, .int .u64 A1, .int .u64 L1, .pointer p1]) q1) => keyof_any _ q1 256 (by omega) W h G1.out
  have cKy := fun (W : World) (h : IsR W (.agg #[.bool b2, .int .u64 A2, .int .u64 L2, .pointer p2]) q2) => keyof_any _ q2 256 (by omega) W h G2.out
  have cTo := fun (N : Nat) (W : World) (o : Option Addr) (c : Nat) (h : Lies W o c (bools (nb N))) (hl : (nb N).length ≤ 256) => to_any (nb N) o c W h (by omega)
  have cSm := fun (N : Nat) (W : World) (o o' : Option Addr) (c c' : Nat) (h : Lies W o c (ints .u32 (nl N))) (h' : Lies W o' c' (ints .u32 (nl N))) => same_any (nl N) (nl N) o o' c c' W h h'
  have cWh : ∀ (N : Nat) (W : World), (ny N).length ≤ 1000000 → Calls Try.prog 15 #[.string (bs (ny N))] W fun e w' => e = .returned (.bool true) ∧ Below W.heap.size W w' := fun N W h => (whole_any N W h).mono fun e w' ⟨a, b⟩ => ⟨a, by rw [b]; exact Below.refl _ _⟩
  have cCm := fun (W : World) (h1 : IsR W (.agg #[.bool b1, .int .u64 A1, .int .u64 L1, .pointer p1]) q1) (h2 : IsR W (.agg #[.bool b2, .int .u64 A2, .int .u64 L2, .pointer p2]) q2) => a_cmp (k := 256) (by omega) h1 h2 G1.out G2.out
  simp only [fromL_nb, decide_true, keyV] at cTo cSm cKx cKy
  clear e0 lN LN1 LN2
  go_upto_region 4 with (go_at_call 9; refine cPp.mono ?_; rintro e w3 ⟨o3, c3, o4, c4, rfl, own3, own4, hb3⟩)
  have y0 := four_kept ⟨x0, x1, x2, x3⟩ hb3
  obtain ⟨y0, y1, y2, y3⟩ := y0
  clear x0 x1 x2 x3 cPp
  have cKx' := cKx w3 (D0a.out.below hb3)
  clear cKx
  go_upto_region 5 with (go_at_call 10; refine cKx'.mono ?_; rintro e w4 ⟨rfl, hb4⟩)
  obtain ⟨W5, eW5, B5, kk⟩ := one_new w4 (.cells #[.bool q1.b, .string (bs (ny q1.n)), .string (bs (ny q1.d))] 37)
  rw [eW5]
  have BB := bt (bt hb3 hb4) B5
  have Dr : Below W5.heap.size W5 W5.drew := (Below.refl _ _).drew
  obtain ⟨gk, egk⟩ : ∃ g, w4.heap.size = g := ⟨_, rfl⟩
  rw [egk] at kk ⊢
  have s0 : W5.drew.cell? ⟨gk, 0, none⟩ = some (.bool q1.b) ∧ W5.drew.cell? ⟨gk, 1, none⟩ = some (.string (bs (ny q1.n))) ∧ W5.drew.cell? ⟨gk, 2, none⟩ = some (.string (bs (ny q1.d))) ∧ W5.drew.cell? ⟨g0x, 0, none⟩ = some (.bool b1) ∧ W5.drew.cell? ⟨g0x, 1, none⟩ = some (.int .u64 A1) ∧ W5.drew.cell? ⟨g0x, 2, none⟩ = some (.int .u64 L1) ∧ W5.drew.cell? ⟨g0x, 3, none⟩ = some (.pointer p1) ∧ W5.drew.cell? ⟨g1x, 0, none⟩ = some (.bool b2) ∧ W5.drew.cell? ⟨g1x, 1, none⟩ = some (.int .u64 A2) ∧ W5.drew.cell? ⟨g1x, 2, none⟩ = some (.int .u64 L2) ∧ W5.drew.cell? ⟨g1x, 3, none⟩ = some (.pointer p2) := by
    have f0 := cell_at (World.drew_at kk)
    have f1 := cell_at (World.drew_at (box_kept K0x.out BB (in_heap K0x.out)))
    have f2 := cell_at (World.drew_at (box_kept K1x.out BB (in_heap K1x.out)))
    exact ⟨f0 0 _ rfl, f0 1 _ rfl, f0 2 _ rfl, f1 0 _ rfl, f1 1 _ rfl, f1 2 _ rfl, f1 3 _ rfl, f2 0 _ rfl, f2 1 _ rfl, f2 2 _ rfl, f2 3 _ rfl⟩
  have OW : Hid (Lies W5.drew o3 c3 (ints .u32 (nl q1.n)) ∧ Lies W5.drew o4 c4 (ints .u32 (nl q1.d))) := ⟨(lies_of_owns own3).below (bt (bt hb4 B5) Dr) (Nat.le_refl _), (lies_of_owns own4).below (bt (bt hb4 B5) Dr) (Nat.le_refl _)⟩
  have D0n : Hid (IsR W5.drew (.agg #[.bool b1, .int .u64 A1, .int .u64 L1, .pointer p1]) q1) := (D0a.out.below BB).below Dr
  have D1n : Hid (IsR W5.drew (.agg #[.bool b2, .int .u64 A2, .int .u64 L2, .pointer p2]) q2) := (D1a.out.below BB).below Dr
  have CC : Hid (Below w.heap.size w W5.drew) := bt (bt C2.out BB) Dr
  clear D0a D0b D1a D1b K0x K0p K1x K1p C2 own3 own4 eW5 B5 kk BB egk hb3 hb4 y0 y1 y2 y3 cKx' Dr
  have D0a := D0n
  have D1a := D1n
  clear D0n D1n
  have H0 : Below W5.drew.heap.size W5.drew W5.drew := Below.refl _ _
  by_cases hs : q1.b = q2.b ∧ q1.n = q2.n ∧ q1.d = q2.d
  · have hc : cmpM q1 q2 = 0 := hlow.2 hs
    have hd : decide (q1.b = q2.b ∧ q1.n = q2.n ∧ q1.d = q2.d) = true := decide_eq_true hs
    rw [hc] at cCm
    simp only [hd] at hE
    clear hd hs hlow hc
    have Ta1 : True := trivial
    have Ta2 : True := trivial
    have Ta3 : True := trivial
    have Ta7 : True := trivial
    go_region_held3 (fun w' => w'.cell? ⟨gk, 0, none⟩ = some (.bool q1.b) ∧ w'.cell? ⟨gk, 1, none⟩ = some (.string (bs (ny q1.n))) ∧ w'.cell? ⟨gk, 2, none⟩ = some (.string (bs (ny q1.d))) ∧ w'.cell? ⟨g0x, 0, none⟩ = some (.bool b1) ∧ w'.cell? ⟨g0x, 1, none⟩ = some (.int .u64 A1) ∧ w'.cell? ⟨g0x, 2, none⟩ = some (.int .u64 L1) ∧ w'.cell? ⟨g0x, 3, none⟩ = some (.pointer p1) ∧ w'.cell? ⟨g1x, 0, none⟩ = some (.bool b2) ∧ w'.cell? ⟨g1x, 1, none⟩ = some (.int .u64 A2) ∧ w'.cell? ⟨g1x, 2, none⟩ = some (.int .u64 L2) ∧ w'.cell? ⟨g1x, 3, none⟩ = some (.pointer p2)) (first | with_reducible exact s0 | with_reducible exact sa0 | with_reducible exact sa1 | with_reducible exact sa2 | with_reducible exact sa3 | with_reducible exact sa4 | with_reducible exact sa5 | with_reducible exact sa6 | with_reducible exact sa7 | with_reducible exact sa8 | with_reducible exact sa9 | with_reducible exact sa10) (first
      | (go_at_call 11; refine (awake5 _).mono ?_; rintro e wa0 ⟨rfl, hba0⟩; have Ha0 := bt H0 hba0; have sa0 := keepK hba0 s0)
      | (go_at_call 14; have _t := Ta1; clear _t Ta1; refine (bytes_any q1.n (by have := LN.out.1; omega) _).mono ?_; rintro e wa1 ⟨oa1, ca1, rfl, owna1, hba1⟩; have Ha1 := bt Ha0 hba1; have sa1 := keepK hba1 sa0)
      | (go_at_call 13; have _t := Ta2; clear _t Ta2; refine (cTo q1.n _ _ _ (lies_of_owns owna1) (by have := G1.out.2.1; omega)).mono ?_; rintro e wa2 ⟨oa2, ca2, rfl, owna2, hba2⟩; have Ha2 := bt Ha1 hba2; have sa2 := keepK hba2 sa1)
      | (go_at_call 12; have _t := Ta3; clear _t Ta3; refine (cSm q1.n _ _ _ _ _ (lies_of_owns owna2) (OW.out.1.below Ha2 (Nat.le_refl _))).mono ?_; rintro e wa3 ⟨rfl, hba3⟩; have Ha3 := bt Ha2 hba3; have sa3 := keepK hba3 sa2)
      | (go_at_call 14; refine (bytes_any q1.d (by have := LN.out.2; omega) _).mono ?_; rintro e wa4 ⟨oa4, ca4, rfl, owna4, hba4⟩; have Ha4 := bt Ha3 hba4; have sa4 := keepK hba4 sa3)
      | (go_at_call 13; refine (cTo q1.d _ _ _ (lies_of_owns owna4) (by have := G1.out.2.2; omega)).mono ?_; rintro e wa5 ⟨oa5, ca5, rfl, owna5, hba5⟩; have Ha5 := bt Ha4 hba5; have sa5 := keepK hba5 sa4)
      | (go_at_call 12; refine (cSm q1.d _ _ _ _ _ (lies_of_owns owna5) (OW.out.2.below Ha5 (Nat.le_refl _))).mono ?_; rintro e wa6 ⟨rfl, hba6⟩; have Ha6 := bt Ha5 hba6; have sa6 := keepK hba6 sa5)
      | (go_at_call 15; have _t := Ta7; clear _t Ta7; refine (cWh q1.n _ (by have := LN.out.1; omega)).mono ?_; rintro e wa7 ⟨rfl, hba7⟩; have Ha7 := bt Ha6 hba7; have sa7 := keepK hba7 sa6)
      | (go_at_call 15; refine (cWh q1.d _ (by have := LN.out.2; omega)).mono ?_; rintro e wa8 ⟨rfl, hba8⟩; have Ha8 := bt Ha7 hba8; have sa8 := keepK hba8 sa7)
      | (go_at_call 10; refine (cKy _ (D1a.out.below Ha8)).mono ?_; rintro e wa9 ⟨rfl, hba9⟩; have Ha9 := bt Ha8 hba9; have sa9 := keepK hba9 sa8)
      | (go_at_call 16; refine (cCm _ (D0a.out.below Ha9) (D1a.out.below Ha9)).mono ?_; rintro e wa10 ⟨rfl, hba10⟩; have Ha10 := bt Ha9 hba10; have sa10 := keepK hba10 sa9))
    all_goals go_wp2
    all_goals go_ret
    all_goals exact ⟨rfl, bt CC.out Ha10⟩
  · have hc : (cmpM q1 q2 == 0) = false := by
      rw [beq_eq_false_iff_ne]
      exact fun h => hs (hlow.1 h)
    have hd : decide (q1.b = q2.b ∧ q1.n = q2.n ∧ q1.d = q2.d) = false := decide_eq_false hs
    simp only [hd] at hE
    clear hd hs hlow
    generalize cmpM q1 q2 = CV at *
    have Ta1 : True := trivial
    have Ta2 : True := trivial
    have Ta3 : True := trivial
    have Ta7 : True := trivial
    go_region_held3 (fun w' => w'.cell? ⟨gk, 0, none⟩ = some (.bool q1.b) ∧ w'.cell? ⟨gk, 1, none⟩ = some (.string (bs (ny q1.n))) ∧ w'.cell? ⟨gk, 2, none⟩ = some (.string (bs (ny q1.d))) ∧ w'.cell? ⟨g0x, 0, none⟩ = some (.bool b1) ∧ w'.cell? ⟨g0x, 1, none⟩ = some (.int .u64 A1) ∧ w'.cell? ⟨g0x, 2, none⟩ = some (.int .u64 L1) ∧ w'.cell? ⟨g0x, 3, none⟩ = some (.pointer p1) ∧ w'.cell? ⟨g1x, 0, none⟩ = some (.bool b2) ∧ w'.cell? ⟨g1x, 1, none⟩ = some (.int .u64 A2) ∧ w'.cell? ⟨g1x, 2, none⟩ = some (.int .u64 L2) ∧ w'.cell? ⟨g1x, 3, none⟩ = some (.pointer p2)) (first | with_reducible exact s0 | with_reducible exact sa0 | with_reducible exact sa1 | with_reducible exact sa2 | with_reducible exact sa3 | with_reducible exact sa4 | with_reducible exact sa5 | with_reducible exact sa6 | with_reducible exact sa7 | with_reducible exact sa8 | with_reducible exact sa9 | with_reducible exact sa10) (first
      | (go_at_call 11; refine (awake5 _).mono ?_; rintro e wa0 ⟨rfl, hba0⟩; have Ha0 := bt H0 hba0; have sa0 := keepK hba0 s0)
      | (go_at_call 14; have _t := Ta1; clear _t Ta1; refine (bytes_any q1.n (by have := LN.out.1; omega) _).mono ?_; rintro e wa1 ⟨oa1, ca1, rfl, owna1, hba1⟩; have Ha1 := bt Ha0 hba1; have sa1 := keepK hba1 sa0)
      | (go_at_call 13; have _t := Ta2; clear _t Ta2; refine (cTo q1.n _ _ _ (lies_of_owns owna1) (by have := G1.out.2.1; omega)).mono ?_; rintro e wa2 ⟨oa2, ca2, rfl, owna2, hba2⟩; have Ha2 := bt Ha1 hba2; have sa2 := keepK hba2 sa1)
      | (go_at_call 12; have _t := Ta3; clear _t Ta3; refine (cSm q1.n _ _ _ _ _ (lies_of_owns owna2) (OW.out.1.below Ha2 (Nat.le_refl _))).mono ?_; rintro e wa3 ⟨rfl, hba3⟩; have Ha3 := bt Ha2 hba3; have sa3 := keepK hba3 sa2)
      | (go_at_call 14; refine (bytes_any q1.d (by have := LN.out.2; omega) _).mono ?_; rintro e wa4 ⟨oa4, ca4, rfl, owna4, hba4⟩; have Ha4 := bt Ha3 hba4; have sa4 := keepK hba4 sa3)
      | (go_at_call 13; refine (cTo q1.d _ _ _ (lies_of_owns owna4) (by have := G1.out.2.2; omega)).mono ?_; rintro e wa5 ⟨oa5, ca5, rfl, owna5, hba5⟩; have Ha5 := bt Ha4 hba5; have sa5 := keepK hba5 sa4)
      | (go_at_call 12; refine (cSm q1.d _ _ _ _ _ (lies_of_owns owna5) (OW.out.2.below Ha5 (Nat.le_refl _))).mono ?_; rintro e wa6 ⟨rfl, hba6⟩; have Ha6 := bt Ha5 hba6; have sa6 := keepK hba6 sa5)
      | (go_at_call 15; have _t := Ta7; clear _t Ta7; refine (cWh q1.n _ (by have := LN.out.1; omega)).mono ?_; rintro e wa7 ⟨rfl, hba7⟩; have Ha7 := bt Ha6 hba7; have sa7 := keepK hba7 sa6)
      | (go_at_call 15; refine (cWh q1.d _ (by have := LN.out.2; omega)).mono ?_; rintro e wa8 ⟨rfl, hba8⟩; have Ha8 := bt Ha7 hba8; have sa8 := keepK hba8 sa7)
      | (go_at_call 10; refine (cKy _ (D1a.out.below Ha8)).mono ?_; rintro e wa9 ⟨rfl, hba9⟩; have Ha9 := bt Ha8 hba9; have sa9 := keepK hba9 sa8)
      | (go_at_call 16; refine (cCm _ (D0a.out.below Ha9) (D1a.out.below Ha9)).mono ?_; rintro e wa10 ⟨rfl, hba10⟩; have Ha10 := bt Ha9 hba10; have sa10 := keepK hba10 sa9))
    all_goals go_wp2
    all_goals go_ret
    all_goals exact ⟨rfl, bt CC.out Ha10⟩
end Go.Proofs.Ytdliookkkgobbaa.KyW
