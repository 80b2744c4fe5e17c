/- Keys of numbers: the text of a number's bytes; the bits of such a text; keys held against each other. -/
import Derived.Test.YtefckmkcbgckfabSetAX
import Derived.Test.YtefckmkcbgckfabSetAG
import Derived.Laws.BytesArg
import Derived.Lib.SmallJoins
namespace Go.Proofs.Ytefckmkcbgckfab.KeyL
open Go.RowKit Go.Maps Mem LimbNum Limb1 NatL RefL ByNum ByL RatL RatM RatN RatF MulN MulW MulL RefR RefT RefU InvL DivL QNum NmL

/-- The text of these bytes. -/
def bs (l : List Nat) : ByteArray := ⟨(l.map UInt8.ofNat).toArray⟩
/-- The byte at a place of a text; beyond it nought. -/
def byteAt (s : ByteArray) (i : Nat) : Nat := if h : i < s.size then (s[i]'h).toNat else 0
theorem byte_lt (s : ByteArray) (i : Nat) : byteAt s i < 256 := by
  unfold byteAt
  split
  · exact UInt8.toNat_lt _
  · omega
theorem byte_is (s : ByteArray) (i : Nat) (h : i < s.size) : ((s[i]'h).toNat : Int) = (byteAt s i : Int) := by
  unfold byteAt
  rw [dif_pos h]
theorem bs_size (l : List Nat) : (bs l).size = l.length := by simp [bs, ByteArray.size]
theorem byte_bs (l : List Nat) (h : Byte l) (i : Nat) : byteAt (bs l) i = l.getD i 0 := by
  unfold byteAt
  split
  · rename_i hi
    rw [bs_size] at hi
    have h1 : (bs l)[i]'(by rw [bs_size]; exact hi) = UInt8.ofNat l[i] := by
      show ((l.map UInt8.ofNat).toArray)[i]'(by simpa using hi) = _
      simp
    rw [h1, List.getD_eq_getElem?_getD, List.getElem?_eq_getElem hi]
    have := h l[i] (List.getElem_mem hi)
    simp [UInt8.toNat_ofNat']
    omega
  · rename_i hi
    rw [bs_size] at hi
    rw [List.getD_eq_getElem?_getD, List.getElem?_eq_none (by omega)]; rfl
theorem bs_inj {a b : List Nat} (ha : Byte a) (hb : Byte b) (h : bs a = bs b) : a = b := by
  have hs : a.length = b.length := by rw [← bs_size a, ← bs_size b, h]
  apply List.ext_getElem hs
  intro i h1 h2
  have e1 := byte_bs a ha i
  have e2 := byte_bs b hb i
  rw [h, e2] at e1
  rw [List.getD_eq_getElem?_getD, List.getElem?_eq_getElem h2, List.getD_eq_getElem?_getD, List.getElem?_eq_getElem h1] at e1
  exact e1.symm
theorem nums_bs (l : List Nat) : strOfNums (l.map fun (n : Nat) => (n : Int)) = bs l := by
  simp [strOfNums, bs]
theorem conv_own {W : World} {B : Nat} {l : List Nat} {ao : Option Addr} {cap : Nat} (h : W.ownsRow B 5 1 (.slice ao l.length cap) l.length (ints .u8 l)) :
    (convert 77 9 (.slice ao l.length cap)).run Try.prog W = .ok (.string (bs l)) W := by
  have hl := lies_of_owns h
  by_cases h0 : l = []
  · subst h0
    rcases Go.Joins.ownsRow_forms h with ⟨e, _⟩ | ⟨g, c, e⟩
    · rw [e]
      exact run_convert_bytes_nil W 77 5 Try.underlying77 Try.underlying5 0 0 9 Try.underlying9
    · rw [e]
      exact run_convert_bytes_arg W 77 5 Try.underlying77 Try.underlying5 g 0 _ _ [] rfl (fun i hi => by simp at hi) 9 Try.underlying9
  · have hp : 0 < l.length := by rcases l with _ | ⟨a, t⟩ <;> simp at h0 ⊢
    obtain ⟨b, off, rfl, hlt, hc⟩ := hl.2.2.2 (by rw [ints_length]; exact hp)
    rw [← nums_bs]
    refine run_convert_bytes_arg W 77 5 Try.underlying77 Try.underlying5 b off _ _ _ (by simp) ?_ 9 Try.underlying9
    intro i hi
    rw [hc i (by rw [ints_length]; exact hi), ints_get _ _ _ hi]
    congr 2
    rw [List.getD_eq_getElem?_getD, List.getD_eq_getElem?_getD, List.getElem?_map, List.getElem?_eq_getElem hi]
    rfl
/-- A number's key. -/
def keyV (p : Nm) : Value := .agg #[.bool p.b, .string (bs (ny p.n)), .string (bs (ny p.d))]
set_option maxRecDepth 20000 in
set_option maxHeartbeats 2000000 in
theorem keyof_any (v : Value) (p : Nm) (k : Nat) (hk : k ≤ 1000000) (w : World) (h : IsR w v p) (f : Fits p k) :
    Calls Try.prog 18 #[v] w fun e w' => e = .returned (keyV p) ∧ Below w.heap.size w w' := by
  have cS := fun (W : World) (hb : Below w.heap.size w W) => spread_any v p.b p.n p.d W (h.below hb)
  have l1 := (f.nl hk).1
  have l2 := (f.nl hk).2
  have cP1 := fun (W : World) (o : Option Addr) (c : Nat) (h : Lies W o c (ints .u32 (nl p.n))) => pack_any (nl p.n) o c W h (small_nl _) (by omega)
  have cP2 := fun (W : World) (o : Option Addr) (c : Nat) (h : Lies W o c (ints .u32 (nl p.d))) => pack_any (nl p.d) o c W h (small_nl _) (by omega)
  rw [val_nl] at cP1 cP2
  unfold keyV
  obtain ⟨A, L, q, rfl⟩ := IsRat.shape h
  clear h f l1 l2 hk
  generalize p.b = b at *
  generalize p.n = n at *
  generalize p.d = d at *
  obtain ⟨W0, eW0, hb0, hk0, hk1⟩ := two_new w (.cells #[.bool b, .int .u64 A, .int .u64 L, .pointer q] 28) (.cells #[.bool false, .string ⟨#[]⟩, .string ⟨#[]⟩] 46)
  have e0 := cell_at hk0
  have a0 : W0.cell? ⟨w.heap.size, 0, none⟩ = some (.bool b) := e0 0 _ rfl
  have a1 : W0.cell? ⟨w.heap.size, 1, none⟩ = some (.int .u64 A) := e0 1 _ rfl
  have a2 : W0.cell? ⟨w.heap.size, 2, none⟩ = some (.int .u64 L) := e0 2 _ rfl
  have a3 : W0.cell? ⟨w.heap.size, 3, none⟩ = some (.pointer q) := e0 3 _ rfl
  have HK0 : Hid (W0.heap[w.heap.size]? = some (.cells #[.bool b, .int .u64 A, .int .u64 L, .pointer q] 28)) := hk0
  have HK1 : Hid (W0.heap[w.heap.size + 1]? = some (.cells #[.bool false, .string ⟨#[]⟩, .string ⟨#[]⟩] 46)) := hk1
  have EW : Hid (_ = W0) := eW0
  have cS' := cS W0 hb0
  clear eW0 e0 hk0 hk1 cS
  go_enter Try.func18, Try.ntmps18
  go_upto_region 1 with fail
  rw [EW.out]
  clear EW
  go_upto_region 2 with (go_at_call 27; refine cS'.mono ?_; rintro e w1 ⟨o1, c1, o2, c2, rfl, i1, i2, hb1⟩)
  have H1 := bt hb0 hb1
  have hB1 := box_kept HK0.out hb1 (in_heap HK0.out)
  have s0 : w1.cell? ⟨w.heap.size, 0, none⟩ = some (.bool b) := cell_at hB1 0 _ rfl
  have HK2 : Hid (w1.drew.heap[w.heap.size + 1]? = some (.cells #[.bool false, .string ⟨#[]⟩, .string ⟨#[]⟩] 46)) := World.drew_at (box_kept HK1.out hb1 (in_heap HK1.out))
  have D1 := H1.drew
  have j1 : Lies w1.drew o1 c1 (ints .u32 (nl n)) := i1.below (Below.refl _ _).drew (Nat.le_refl _)
  have j2 : Lies w1.drew o2 c2 (ints .u32 (nl d)) := i2.below (Below.refl _ _).drew (Nat.le_refl _)
  have HJ : Hid (Lies w1.drew o1 c1 (ints .u32 (nl n)) ∧ Lies w1.drew o2 c2 (ints .u32 (nl d))) := ⟨j1, j2⟩
  clear a0 a1 a2 a3 HK0 HK1 hb0 hb1 H1 hB1 i1 i2 j1 j2 cS'
  have ne1 : w.heap.size ≠ w.heap.size + 1 := by omega
  go_region_with (first
    | (go_at_call_of 44 (Value.slice o1 (nl n).length c1); refine (cP1 _ _ _ HJ.out.1).mono ?_; rintro e w2 ⟨o3, c3, rfl, own3, hb2⟩; have H2 := bt D1 hb2; have s1 : w2.cell? ⟨w.heap.size, 0, none⟩ = some (.bool b) := (by rw [hb2.cell (World.block_lt_of_cell? w1 _ s0)]; exact s0); have cv1 := conv_own own3; have O3 : Hid (w2.ownsRow 0 5 1 (.slice o3 (ny n).length c3) (ny n).length (ints .u8 (ny n))) := owns_base own3 (Nat.zero_le _); clear own3)
    | (go_at_call_of 44 (Value.slice o2 (nl d).length c2); refine (cP2 _ _ _ (HJ.out.2.below hb2 (Nat.le_refl _))).mono ?_; rintro e w3 ⟨o4, c4, rfl, own4, hb3⟩; have H3 := bt H2 hb3; have s2 : w3.cell? ⟨w.heap.size, 0, none⟩ = some (.bool b) := (by rw [hb3.cell (World.block_lt_of_cell? w2 _ s1)]; exact s1); have cv2 := conv_own (keep O3.out hb3); have cv3 := conv_own own4; have kk := box_kept HK2.out (bt hb2 hb3) (in_heap HK2.out); have dd := cell_at kk; have d0 : w3.cell? ⟨w.heap.size + 1, 0, none⟩ = some (.bool false) := dd 0 _ rfl; have d1 : w3.cell? ⟨w.heap.size + 1, 1, none⟩ = some (.string ⟨#[]⟩) := dd 1 _ rfl; have d2 : w3.cell? ⟨w.heap.size + 1, 2, none⟩ = some (.string ⟨#[]⟩) := dd 2 _ rfl; have ff : ∀ i, w3.frozen? ⟨w.heap.size + 1, i, none⟩ = false := fun i => (by simp [World.frozen?, kk]); have HK : Hid (w3.heap[w.heap.size + 1]? = some (.cells #[.bool false, .string ⟨#[]⟩, .string ⟨#[]⟩] 46)) := kk; clear kk dd own4))
  all_goals go_wp2
  all_goals have k2 := sto3_box HK.out (.bool b) (.string (bs (ny n))) (.string (bs (ny d)))
  all_goals have hB := sto3_below H3 (show w.heap.size ≤ w.heap.size + 1 by omega) (.bool b) (.string (bs (ny n))) (.string (bs (ny d)))
  all_goals clear cv1 cv2 cv3 d0 d1 d2 ff HK
  all_goals generalize World.setCell _ _ _ = W' at *
  all_goals have gg := cell_at k2
  all_goals have g0 : W'.cell? ⟨w.heap.size + 1, 0, none⟩ = some (.bool b) := gg 0 _ rfl
  all_goals have g1 : W'.cell? ⟨w.heap.size + 1, 1, none⟩ = some (.string (bs (ny n))) := gg 1 _ rfl
  all_goals have g2 : W'.cell? ⟨w.heap.size + 1, 2, none⟩ = some (.string (bs (ny d))) := gg 2 _ rfl
  all_goals refine bodyPost_ret (v := .agg #[.bool b, .string (bs (ny n)), .string (bs (ny d))]) ?_ rfl ?_
  all_goals first
    | exact ⟨rfl, hB⟩
    | simp [results, go_sem, g0, g1, g2]
end Go.Proofs.Ytefckmkcbgckfab.KeyL
