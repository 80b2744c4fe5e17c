/- RatMakes, walked. -/
import Derived.Test.YtfhhmpgldmakjaaAw5
import Derived.Test.YtfhhmpgldmakjaaRefI
import Derived.Deep.CutRange
import Derived.Deep.RegionWith
namespace Go.Proofs.Ytfhhmpgldmakjaa.Mk5
open Go.RowKit Mem LimbNum Limb1 Limb2 Limb4 RefL Words DivOne RatL RatM RatN RatF RefR RefT RefU RefI Law5 Aw5

theorem three_newN (w : World) (a b c : Value) (t : TypeId) : (w.alloc (.cells #[a, b, c] t)).cell? ⟨w.heap.size, 0, none⟩ = some a ∧ (w.alloc (.cells #[a, b, c] t)).cell? ⟨w.heap.size, 1, none⟩ = some b ∧ (w.alloc (.cells #[a, b, c] t)).cell? ⟨w.heap.size, 2, none⟩ = some c := by
  refine ⟨?_, ?_, ?_⟩ <;> simp
theorem three_alloc {W : World} {g : Nat} {a b c : Value} (h : W.cell? ⟨g, 0, none⟩ = some a ∧ W.cell? ⟨g, 1, none⟩ = some b ∧ W.cell? ⟨g, 2, none⟩ = some c) (o : Obj) : (W.alloc o).cell? ⟨g, 0, none⟩ = some a ∧ (W.alloc o).cell? ⟨g, 1, none⟩ = some b ∧ (W.alloc o).cell? ⟨g, 2, none⟩ = some c :=
  three_kept h ((Below.refl _ _).alloc (Nat.le_refl _) o)
theorem cell_set4 (W : World) (g' : Nat) (x y z u : Value) (g i : Nat) (hne : g ≠ g') : ((((W.setCell ⟨g', 0, none⟩ x).setCell ⟨g', 1, none⟩ y).setCell ⟨g', 2, none⟩ z).setCell ⟨g', 3, none⟩ u).cell? ⟨g, i, none⟩ = W.cell? ⟨g, i, none⟩ := by
  simp only [World.cell?]
  rw [(set4_off W g' x y z u).1 g hne]
theorem three_set4 {W : World} {g g' : Nat} {a b c x y z u : Value} {p : Bool} {q r : Int} {s : Option Addr} (hb : ∃ o n d, b = .slice o n d) (hk : W.heap[g']? = some (box4 (.bool p) (.int .u64 q) (.int .u64 r) (.pointer s))) (h : W.cell? ⟨g, 0, none⟩ = some a ∧ W.cell? ⟨g, 1, none⟩ = some b ∧ W.cell? ⟨g, 2, none⟩ = some c) :
    ((((W.setCell ⟨g', 0, none⟩ x).setCell ⟨g', 1, none⟩ y).setCell ⟨g', 2, none⟩ z).setCell ⟨g', 3, none⟩ u).cell? ⟨g, 0, none⟩ = some a ∧ ((((W.setCell ⟨g', 0, none⟩ x).setCell ⟨g', 1, none⟩ y).setCell ⟨g', 2, none⟩ z).setCell ⟨g', 3, none⟩ u).cell? ⟨g, 1, none⟩ = some b ∧ ((((W.setCell ⟨g', 0, none⟩ x).setCell ⟨g', 1, none⟩ y).setCell ⟨g', 2, none⟩ z).setCell ⟨g', 3, none⟩ u).cell? ⟨g, 2, none⟩ = some c := by
  have hne : g ≠ g' := by
    rintro rfl
    obtain ⟨o, n, d, rfl⟩ := hb
    exact (box_cells hk h.2.1).2 _ _ _ rfl
  rw [cell_set4 _ _ _ _ _ _ _ _ hne, cell_set4 _ _ _ _ _ _ _ _ hne, cell_set4 _ _ _ _ _ _ _ _ hne]; exact h
theorem heap_lt {w : World} {g : Nat} {o : Obj} (h : w.heap[g]? = some o) : g < w.heap.size := by
  rcases Nat.lt_or_ge g w.heap.size with h6 | h6
  · exact h6
  · rw [Array.getElem?_eq_none h6] at h; simp at h
theorem boxc_new (w : World) : (w.alloc (.cells #[.bool false, .int .u64 0, .int .u64 0, .pointer none] 28)).heap[w.heap.size]? = some (box4 (.bool false) (.int .u64 0) (.int .u64 0) (.pointer none)) := box_new _ _ _ _ _
theorem alloc_lt (w : World) (o : Obj) : w.heap.size < (w.alloc o).heap.size := by simp
/-- Where r lies. -/
structure Rlies (w : World) (g : Nat) (b : Bool) (n d : Nat) (VA VL : Int) (vp : Option Addr) : Prop where
  box : w.heap[g]? = some (box4 (.bool b) (.int .u64 VA) (.int .u64 VL) (.pointer vp))
  is : IsRat w (.agg #[.bool b, .int .u64 VA, .int .u64 VL, .pointer vp]) b n d
theorem Rlies.new {w : World} {b : Bool} {n d : Nat} {VA VL : Int} {vp : Option Addr} (h : IsRat w (.agg #[.bool b, .int .u64 VA, .int .u64 VL, .pointer vp]) b n d) : Rlies (w.alloc (.cells #[.bool b, .int .u64 VA, .int .u64 VL, .pointer vp] 28)) w.heap.size b n d VA VL vp :=
  ⟨box_new _ _ _ _ _, h.below ((Below.refl _ _).alloc (Nat.le_refl _) _)⟩
theorem Rlies.set {w : World} {g : Nat} {b : Bool} {n d : Nat} {VA VL : Int} {vp : Option Addr} {p : Bool} {q r : Int} {s : Option Addr} (h : IsRat w (.agg #[.bool b, .int .u64 VA, .int .u64 VL, .pointer vp]) b n d) (hk : w.heap[g]? = some (box4 (.bool p) (.int .u64 q) (.int .u64 r) (.pointer s))) :
    Rlies ((((w.setCell ⟨g, 0, none⟩ (.bool b)).setCell ⟨g, 1, none⟩ (.int .u64 VA)).setCell ⟨g, 2, none⟩ (.int .u64 VL)).setCell ⟨g, 3, none⟩ (.pointer vp)) g b n d VA VL vp :=
  ⟨box_set hk _ _ _ _, h.set4 hk _ _ _ _⟩
theorem Rlies.below {w w' : World} {g : Nat} {b : Bool} {n d : Nat} {VA VL : Int} {vp : Option Addr} (h : Rlies w g b n d VA VL vp) (hb : Below w.heap.size w w') : Rlies w' g b n d VA VL vp :=
  ⟨box_kept h.box hb (heap_lt h.box), h.is.below hb⟩
theorem seven_kept {W w5 : World} {g h : Nat} {a b c d e f k : Value} (H : W.cell? ⟨g, 0, none⟩ = some a ∧ W.cell? ⟨g, 1, none⟩ = some b ∧ W.cell? ⟨g, 2, none⟩ = some c ∧ W.cell? ⟨g, 3, none⟩ = some d ∧ W.cell? ⟨h, 0, none⟩ = some e ∧ W.cell? ⟨h, 1, none⟩ = some f ∧ W.cell? ⟨h, 2, none⟩ = some k) (hb : Below W.heap.size W w5) :
    w5.cell? ⟨g, 0, none⟩ = some a ∧ w5.cell? ⟨g, 1, none⟩ = some b ∧ w5.cell? ⟨g, 2, none⟩ = some c ∧ w5.cell? ⟨g, 3, none⟩ = some d ∧ w5.cell? ⟨h, 0, none⟩ = some e ∧ w5.cell? ⟨h, 1, none⟩ = some f ∧ w5.cell? ⟨h, 2, none⟩ = some k := by
  obtain ⟨h1, h2, h3, h4, h5, h6, h7⟩ := H
  obtain ⟨a1, a2, a3, a4⟩ := four_kept ⟨h1, h2, h3, h4⟩ hb
  obtain ⟨b1, b2, b3⟩ := three_kept ⟨h5, h6, h7⟩ hb
  exact ⟨a1, a2, a3, a4, b1, b2, b3⟩
theorem is_zero (w : World) : IsRat w (.agg #[.bool false, .int .u64 0, .int .u64 0, .pointer none]) false 0 1 := ⟨⟨by omega, by decide, fun _ => rfl⟩, .inl ⟨by omega, by omega, rfl⟩⟩
theorem small_take8 (A : List Nat) (h : Small A) : Small (A.take 8) := fun x hx => h x (List.mem_of_mem_take hx)
theorem bits8 (P : List Nat) (hs : Small P) (h : P.length ≤ 8) : (nb (val P)).length ≤ 256 := nb_lt _ _ (by
  have h1 := val_lt P hs
  have h2 : (4294967296 : Nat) ^ P.length ≤ 4294967296 ^ 8 := Nat.pow_le_pow_right (by omega) h
  exact Nat.lt_of_lt_of_le h1 h2)
theorem bits_div (x g k : Nat) (h : (nb x).length ≤ k) : (nb (x / g)).length ≤ k := Nat.le_trans (nb_mono _ _ (Nat.div_le_self _ _)) h
/-- i / j in lowest terms, by the reference's way. -/
theorem frac_ref (a b : Nat) : a * 1 / Nat.gcd (a * 1) (1 * b) = a / Nat.gcd a b ∧ 1 * b / Nat.gcd (a * 1) (1 * b) = b / Nat.gcd a b := by
  rw [Nat.mul_one, Nat.one_mul]; exact ⟨rfl, rfl⟩
set_option maxRecDepth 20000 in
set_option maxHeartbeats 2000000 in
theorem law_nn (b : Bool) (A B : List Nat) (i j : Int) (ao bo : Option Addr) (cap1 cap2 : Nat) (w : World) (hl : Lies w ao cap1 (ints .u32 A)) (hl2 : Lies w bo cap2 (ints .u32 B)) (hA : Small A) (hB : Small B)
    (i0 : -9223372036854775808 ≤ i) (i1 : i ≤ 9223372036854775807) (j0 : -9223372036854775808 ≤ j) (j1 : j ≤ 9223372036854775807) (hj : j ≠ 0) (h0 : val (B.take 8) ≠ 0) :
    Calls Try.prog 3 #[.agg #[.bool b, .slice ao A.length cap1, .slice bo B.length cap2], .int .i64 i, .int .i64 j] w fun e w' => e = .returned (.bool true) ∧ Below w.heap.size w w' := by
  have hb0 : Below w.heap.size w (w.alloc (.cells #[.bool b, .slice ao A.length cap1, .slice bo B.length cap2] 24)) := (Below.refl _ _).alloc (Nat.le_refl _) _
  have f0 := three_newN w (.bool b) (.slice ao A.length cap1) (.slice bo B.length cap2) 24
  have f0d : (w.alloc (.cells #[.bool b, .slice ao A.length cap1, .slice bo B.length cap2] 24)).drew.cell? ⟨w.heap.size, 0, none⟩ = some (.bool b) ∧ (w.alloc (.cells #[.bool b, .slice ao A.length cap1, .slice bo B.length cap2] 24)).drew.cell? ⟨w.heap.size, 1, none⟩ = some (.slice ao A.length cap1) ∧ (w.alloc (.cells #[.bool b, .slice ao A.length cap1, .slice bo B.length cap2] 24)).drew.cell? ⟨w.heap.size, 2, none⟩ = some (.slice bo B.length cap2) := f0
  have cF1 := fun (W : World) (hb : Below w.heap.size w W) => few5 A ao cap1 W (hl.below hb (Nat.le_refl _))
  have cF2 := fun (W : World) (hb : Below w.heap.size w W) => few5 B bo cap2 W (hl2.below hb (Nat.le_refl _))
  have sA := small_take8 A hA
  have sB := small_take8 B hB
  have lA : (A.take 8).length ≤ 8 := by simp; omega
  have lB : (B.take 8).length ≤ 8 := by simp; omega
  clear hl hl2 hA hB
  have SAS : ∃ o n d, (.slice ao A.length cap1 : Value) = .slice o n d := ⟨_, _, _, rfl⟩
  obtain ⟨SA, eSA⟩ : ∃ v : Value, .slice ao A.length cap1 = v := ⟨_, rfl⟩
  obtain ⟨SB, eSB⟩ : ∃ v : Value, .slice bo B.length cap2 = v := ⟨_, rfl⟩
  rw [eSA] at cF1 SAS
  rw [eSB] at cF2
  rw [eSA, eSB] at hb0 f0 f0d ⊢
  clear eSA eSB
  generalize A.take 8 = P at *
  generalize B.take 8 = Q at *
  have cM := fun (W : World) (o o' : Option Addr) (c c' : Nat) (h : Lies W o c (ints .u32 P)) (h' : Lies W o' c' (ints .u32 Q)) => make_any b P Q o o' c c' W h h' sA sB (by omega) (by omega) h0
  have cR := fun (W : World) => frac_any i j W i0 i1 j0 j1 hj
  have hb0d : Below w.heap.size w (w.alloc (.cells #[.bool b, SA, SB] 24)).drew := hb0.drew
  have hbz : Below w.heap.size w ((w.alloc (.cells #[.bool b, SA, SB] 24)).alloc (.cells #[.bool false, .int .u64 0, .int .u64 0, .pointer none] 28)) := hb0.alloc hb0.size _
  have hbzd : Below w.heap.size w ((w.alloc (.cells #[.bool b, SA, SB] 24)).alloc (.cells #[.bool false, .int .u64 0, .int .u64 0, .pointer none] 28)).drew := hbz.drew
  have z1 : (w.alloc (.cells #[.bool b, SA, SB] 24)).heap.size = w.heap.size + 1 := by simp
  have kz : ((w.alloc (.cells #[.bool b, SA, SB] 24)).alloc (.cells #[.bool false, .int .u64 0, .int .u64 0, .pointer none] 28)).drew.heap[w.heap.size + 1]? = some (box4 (.bool false) (.int .u64 0) (.int .u64 0) (.pointer none)) := by rw [← z1]; exact boxc_new _
  have ltz : w.heap.size + 1 < ((w.alloc (.cells #[.bool b, SA, SB] 24)).alloc (.cells #[.bool false, .int .u64 0, .int .u64 0, .pointer none] 28)).drew.heap.size := by rw [← z1]; exact alloc_lt _ _
  have f0z := three_alloc f0 (.cells #[.bool false, .int .u64 0, .int .u64 0, .pointer none] 28)
  have f0zd : ((w.alloc (.cells #[.bool b, SA, SB] 24)).alloc (.cells #[.bool false, .int .u64 0, .int .u64 0, .pointer none] 28)).drew.cell? ⟨w.heap.size, 0, none⟩ = some (.bool b) ∧ ((w.alloc (.cells #[.bool b, SA, SB] 24)).alloc (.cells #[.bool false, .int .u64 0, .int .u64 0, .pointer none] 28)).drew.cell? ⟨w.heap.size, 1, none⟩ = some SA ∧ ((w.alloc (.cells #[.bool b, SA, SB] 24)).alloc (.cells #[.bool false, .int .u64 0, .int .u64 0, .pointer none] 28)).drew.cell? ⟨w.heap.size, 2, none⟩ = some SB := f0z
  clear z1 hbz
  obtain ⟨b2, eb2⟩ : ∃ x, (b && decide (val P / Nat.gcd (val P) (val Q) ≠ 0)) = x := ⟨_, rfl⟩
  obtain ⟨n, en⟩ : ∃ x, val P / Nat.gcd (val P) (val Q) = x := ⟨_, rfl⟩
  obtain ⟨d, ed⟩ : ∃ x, val Q / Nat.gcd (val P) (val Q) = x := ⟨_, rfl⟩
  rw [eb2, en, ed] at cM
  have EN : Hid ((b && decide (val P / Nat.gcd (val P) (val Q) ≠ 0)) = b2 ∧ val P / Nat.gcd (val P) (val Q) = n ∧ val Q / Nat.gcd (val P) (val Q) = d) := ⟨eb2, en, ed⟩
  clear eb2 en ed
  go_enter Try.func3, Try.ntmps3
  go_wp2
  go_cut [7, 8] from 11 to 22 (fun v7 v8 wx => ∃ (gr : Nat) (VA VL : Int) (vp : Option Addr), v7 = .pointer (some ⟨gr, 0, none⟩) ∧ v8 = .bool true ∧ Hid (Rlies wx gr b2 n d VA VL vp) ∧ Hid (Below w.heap.size w wx) ∧ Hid (wx.cell? ⟨w.heap.size, 0, none⟩ = some (.bool b) ∧ wx.cell? ⟨w.heap.size, 1, none⟩ = some SA ∧ wx.cell? ⟨w.heap.size, 2, none⟩ = some SB))
  case first =>
    go_region_held3 (fun w' => w'.cell? ⟨w.heap.size, 0, none⟩ = some (.bool b) ∧ w'.cell? ⟨w.heap.size, 1, none⟩ = some SA ∧ w'.cell? ⟨w.heap.size, 2, none⟩ = some SB)
      (first | with_reducible exact f0d | with_reducible exact f0zd | with_reducible exact s4 | with_reducible exact three_alloc s4 _ | with_reducible exact three_kept (by assumption) (by assumption) | with_reducible exact three_alloc (by assumption) _ | with_reducible exact three_set4 SAS kr4 (by assumption)) (first
      | (go_at_call_of 10 SA; refine (cF1 _ ?_).mono ?_; (first | with_reducible exact hb0d | with_reducible exact hbzd); rintro e w2 ⟨o2, c2, rfl, hown2, hb2⟩; (first | with_reducible have H2 := bt hb0d hb2 | with_reducible have H2 := bt hbzd hb2); (first | with_reducible have kr2 := box_kept kz hb2 ltz | skip))
      | (go_at_call_of 10 SB; refine (cF2 _ ?_).mono ?_; (first | with_reducible exact H2 | with_reducible exact H2.alloc H2.size _); rintro e w3 ⟨o3, c3, rfl, hown3, hb3⟩; (first | with_reducible have H3 := bt H2 hb3 | with_reducible have H3 := bt (H2.alloc H2.size _) hb3); (first | with_reducible have hown4 := keep hown2 hb3 | with_reducible have hown4 := keep (hown2.alloc _) hb3); (first | with_reducible have kr3 := box_kept (boxc_new w2) hb3 (alloc_lt _ _) | with_reducible have kr3 := box_kept kr2 hb3 (heap_lt kr2) | skip))
      | (go_at_call 9; refine (cM _ _ _ _ _ ?_ ?_).mono ?_; (first | with_reducible exact lies_of_owns hown4 | with_reducible exact (lies_of_owns hown4).alloc _); (first | with_reducible exact lies_of_owns hown3 | with_reducible exact (lies_of_owns hown3).alloc _); rintro e w4 ⟨v, rfl, hR, hb4⟩; with_reducible have s4 := three_kept (by assumption) hb4; (first | with_reducible have H4 := bt H3 hb4 | with_reducible have H4 := bt (H3.alloc H3.size _) hb4); obtain ⟨VA, VL, vp, rfl⟩ := hR.shape; (first | with_reducible have kr4 := box_kept (boxc_new w3) hb4 (alloc_lt _ _) | with_reducible have kr4 := box_kept kr3 hb4 (heap_lt kr3) | skip); (first | (obtain ⟨d0, d1, d2, d3⟩ := box0 kr4; have ff := boxF kr4) | skip)))
    all_goals go_wp2
    all_goals go_meet
    all_goals first
      | exact ⟨_, VA, VL, vp, rfl, rfl, Rlies.new hR, H4.alloc H4.size _, three_alloc s4 _⟩
      | exact ⟨_, VA, VL, vp, rfl, rfl, Rlies.set hR kr4, box_below H4 H3.size _ _ _ _, three_set4 SAS kr4 s4⟩
      | exact ⟨_, VA, VL, vp, rfl, rfl, Rlies.set hR kr4, box_below H4 H2.size _ _ _ _, three_set4 SAS kr4 s4⟩
      | exact ⟨_, VA, VL, vp, rfl, rfl, Rlies.set hR kr4, box_below H4 (Nat.le_succ _) _ _ _ _, three_set4 SAS kr4 s4⟩
  case rest =>
    obtain ⟨gr, VA, VL, vp, rfl, rfl, HR, HB, HF⟩ := hcut
    have bP := bits8 P sA lA
    have bQ := bits8 Q sB lB
    have cO1 := fun (W : World) (o : Option Addr) (c : Nat) (h : Lies W o c (ints .u32 P)) => of_any P o c W h sA (by omega)
    have cO2 := fun (W : World) (o : Option Addr) (c : Nat) (h : Lies W o c (ints .u32 Q)) => of_any Q o c W h sB (by omega)
    have cRO := fun (W : World) (o o' : Option Addr) (c c' : Nat) (h : W.ownsRow 0 4 1 (.slice o (nb (val P)).length c) (nb (val P)).length (bools (nb (val P)))) (h' : W.ownsRow 0 4 1 (.slice o' (nb (val Q)).length c') (nb (val Q)).length (bools (nb (val Q)))) => rof_any b (val P) (val Q) o o' c c' W h h' (by omega) (by omega) h0
    rw [EN.out.1, EN.out.2.1, EN.out.2.2] at cRO
    have bn : (nb n).length ≤ 256 := by rw [← EN.out.2.1]; exact bits_div _ _ _ bP
    have bd : (nb d).length ≤ 256 := by rw [← EN.out.2.2]; exact bits_div _ _ _ bQ
    have cI := fun (W : World) (v q : Value) (h : IsRat W v b2 n d) (hq : IsRef W q b2 n d) => is_yes v q b2 n d W h hq (by omega) (by omega)
    have lQ : 0 < (nb (val Q)).length := by rw [nb_pos h0]; simp
    have lQz : (((nb (val Q)).length : Int) == 0) = false := by rw [beq_eq_false_iff_ne]; omega
    have bi : (nb i.natAbs).length ≤ 64 := nb_lt 64 _ (by omega)
    have bj : (nb j.natAbs).length ≤ 64 := nb_lt 64 _ (by omega)
    have b1 : (nb 1).length ≤ 64 := nb_lt 64 _ (by omega)
    have b0 : (nb 0).length ≤ 64 := nb_lt 64 _ (by omega)
    have hja : j.natAbs ≠ 0 := by omega
    have cInt := fun (W : World) => int_any i W i0 i1
    have cRi := fun (W : World) => rint_any i W i0 i1
    have cRj := fun (W : World) => rint_any j W j0 j1
    have cR0 := fun (W : World) => rint_any 0 W (by omega) (by omega)
    have e00 : decide ((0 : Int) < 0) = false := by decide
    have e01 : (0 : Int).natAbs = 0 := rfl
    rw [e00, e01] at cR0
    have cI2 := fun (W : World) (v q : Value) (h : IsRat W v (decide (i < 0)) i.natAbs 1) (hq : IsRef W q (decide (i < 0)) i.natAbs 1) => is_yes v q _ _ _ W h hq (by omega) (by omega)
    have cI3 := fun (W : World) (v q : Value) (h : IsRat W v false 0 1) (hq : IsRef W q false 0 1) => is_yes v q _ _ _ W h hq (by omega) (by omega)
    have cIv := fun (W : World) (v : Value) (h : IsRef W v (decide (j < 0)) j.natAbs 1) => rinv_any v _ _ _ W h (by omega)
    have cMu := fun (W : World) (v v' : Value) (h : IsRef W v (decide (i < 0)) i.natAbs 1) (h' : IsRef W v' (decide (j < 0)) 1 j.natAbs) => rmul_any v v' _ _ _ _ _ _ W h h' (by omega) hja (by omega) (by omega) (by omega) (by omega)
    rw [(frac_ref i.natAbs j.natAbs).1, (frac_ref i.natAbs j.natAbs).2] at cMu
    have bfn := bits_div i.natAbs (Nat.gcd i.natAbs j.natAbs) _ bi
    have bfd := bits_div j.natAbs (Nat.gcd i.natAbs j.natAbs) _ bj
    obtain ⟨bf, ebf⟩ : ∃ x, ((decide (i < 0) != decide (j < 0)) && decide (i.natAbs / Nat.gcd i.natAbs j.natAbs ≠ 0)) = x := ⟨_, rfl⟩
    rw [ebf] at cMu cR
    generalize i.natAbs / Nat.gcd i.natAbs j.natAbs = nf at *
    generalize j.natAbs / Nat.gcd i.natAbs j.natAbs = df at *
    have cI4 := fun (W : World) (v q : Value) (h : IsRat W v bf nf df) (hq : IsRef W q bf nf df) => is_yes v q bf nf df W h hq (by omega) (by omega)
    have jz : (j == 0) = false := by rw [beq_eq_false_iff_ne]; exact hj
    have jz2 : (j != 0) = true := by rw [bne, jz]; rfl
    clear bP bQ bn bd lQ bi bj b1 b0 hja e00 e01 bfn bfd ebf sA sB lA lB EN cM hb0 f0 f0d f0zd f0z hb0d hbzd kz ltz
    generalize decide (i < 0) = bni at *
    generalize decide (j < 0) = bnj at *
    generalize i.natAbs = ia at *
    generalize j.natAbs = ja at *
    have t1 : True := trivial
    go_wp2_with (first
      | (go_at_call 11; refine (cR _).mono ?_; rintro e w5 ⟨v5, rfl, hR5, hb5⟩; obtain ⟨FA, FL, fp, rfl⟩ := hR5.shape; have F5 := Rlies.new hR5; have B5 : Below wc.heap.size wc (w5.alloc (.cells #[.bool bf, .int .u64 FA, .int .u64 FL, .pointer fp] 28)) := hb5.alloc hb5.size _; have HR5 := HR.out.below B5; have HB5 := bt HB.out B5; have HF5 := three_kept HF.out B5; obtain ⟨n0, n1, n2⟩ := HF5)
      | (go_at_call 10; have _t := t1; clear _t t1; refine (cF2 _ HB5).mono ?_; rintro e w6 ⟨o6, c6, rfl, hown6, hb6⟩)
      | (go_at_call 12; refine (cO2 _ _ _ (lies_of_owns hown6)).mono ?_; rintro e w7 ⟨o7, c7, rfl, hown7, hb7⟩; have B7 := bt hb6 hb7; have HB7 := bt HB5 B7; have HR7 := HR5.below B7; have F7 := F5.below B7; have HF7 := three_kept ⟨n0, n1, n2⟩ B7))
    have D7 : Below w7.heap.size w7 w7.drew := (Below.refl _ _).drew
    have HB7d := bt HB7 D7
    have s7 : w7.drew.cell? ⟨gr, 0, none⟩ = some (.bool b2) ∧ w7.drew.cell? ⟨gr, 1, none⟩ = some (.int .u64 VA) ∧ w7.drew.cell? ⟨gr, 2, none⟩ = some (.int .u64 VL) ∧ w7.drew.cell? ⟨gr, 3, none⟩ = some (.pointer vp) ∧ w7.drew.cell? ⟨w.heap.size, 0, none⟩ = some (.bool b) ∧ w7.drew.cell? ⟨w.heap.size, 1, none⟩ = some SA ∧ w7.drew.cell? ⟨w.heap.size, 2, none⟩ = some SB := by
      obtain ⟨x1, x2, x3, x4⟩ := box0 HR7.box
      obtain ⟨x5, x6, x7⟩ := HF7
      exact ⟨x1, x2, x3, x4, x5, x6, x7⟩
    clear n0 n1 n2 hown6 hown7 hb6 hb7 HR5 F5 HB5 B5 hR5 HF7 HF HR HB
    go_region_held3 (fun w' => w'.cell? ⟨gr, 0, none⟩ = some (.bool b2) ∧ w'.cell? ⟨gr, 1, none⟩ = some (.int .u64 VA) ∧ w'.cell? ⟨gr, 2, none⟩ = some (.int .u64 VL) ∧ w'.cell? ⟨gr, 3, none⟩ = some (.pointer vp) ∧ w'.cell? ⟨w.heap.size, 0, none⟩ = some (.bool b) ∧ w'.cell? ⟨w.heap.size, 1, none⟩ = some SA ∧ w'.cell? ⟨w.heap.size, 2, none⟩ = some SB)
      (first | with_reducible exact s7 | with_reducible exact seven_kept (by assumption) (by assumption)) (first
      | (go_at_call_of 10 SA; refine (cF1 _ ?_).mono ?_; exact HB7d; rintro e w8 ⟨o8, c8, rfl, hown8, hb8⟩; have C8 := bt D7 hb8)
      | (go_at_call_of 12 (Value.slice o8 P.length c8); refine (cO1 _ _ _ ?_).mono ?_; exact lies_of_owns hown8; rintro e w9 ⟨o9, c9, rfl, hown9, hb9⟩; have C9 := bt C8 hb9)
      | (go_at_call_of 10 SB; refine (cF2 _ ?_).mono ?_; exact bt HB7 C9; rintro e w10 ⟨o10, c10, rfl, hown10, hb10⟩; have C10 := bt C9 hb10)
      | (go_at_call_of 12 (Value.slice o10 Q.length c10); refine (cO2 _ _ _ ?_).mono ?_; exact lies_of_owns hown10; rintro e w11 ⟨o11, c11, rfl, hown11, hb11⟩; have C11 := bt C10 hb11)
      | (go_at_call 15; refine (cRO _ _ _ _ _ ?_ ?_).mono ?_; exact owns_base (keep (keep hown9 hb10) hb11) (Nat.zero_le _); exact owns_base hown11 (Nat.zero_le _); rintro e w12 ⟨v12, rfl, hq12, hb12⟩; have C12 := bt C11 hb12; obtain ⟨o12, c12, o13, c13, rfl, r12, r13⟩ := hq12)
      | (go_at_call 14; refine (cI _ _ _ ?_ ?_).mono ?_; exact HR7.is.below C12; exact ⟨_, _, _, _, rfl, r12, r13⟩; rintro e w13 ⟨rfl, hb13⟩; have C13 := bt C12 hb13))
    have HB13 := bt HB7 C13
    have F13 := F7.below C13
    clear s7 HR7 F7 HB7 HB7d D7 C8 C9 C10 C11 C12 C13 hown8 hown9 hown10 hown11 r12 r13 hb8 hb9 hb10 hb11 hb12 hb13 cF1 cF2 cO1 cO2 cRO cI
    have t2 : True := trivial
    have t3 : True := trivial
    go_wp2_with (first
      | (go_at_call 16; refine (awake5 _).mono ?_; rintro e w14 ⟨rfl, hb14⟩)
      | (go_at_call 17; refine (cInt _).mono ?_; rintro e w15 ⟨v15, rfl, hR15, hb15⟩; obtain ⟨IA, IL, ip, rfl⟩ := hR15.shape)
      | (go_at_call_of 18 (Value.int IntKind.i64 i); have _t := t2; clear _t t2; refine (cRi _).mono ?_; rintro e w16 ⟨v16, rfl, hq16, hb16⟩; have hR16 := hR15.below hb16; obtain ⟨o16, c16, p16, d16, rfl, r16, r17⟩ := hq16)
      | (go_at_call 14; have _t := t3; clear _t t3; refine (cI2 _ _ _ hR16 ⟨_, _, _, _, rfl, r16, r17⟩).mono ?_; rintro e w17 ⟨rfl, hb17⟩)
      | (go_at_call_of 18 (Value.int IntKind.i64 0); refine (cR0 _).mono ?_; rintro e w18 ⟨v18, rfl, hq18, hb18⟩; obtain ⟨o18, c18, p18, d18, rfl, r18, r19⟩ := hq18)
      | (go_at_call 14; refine (cI3 _ _ _ (is_zero _) ⟨_, _, _, _, rfl, r18, r19⟩).mono ?_; rintro e w19 ⟨rfl, hb19⟩))
    have C19 := bt (bt (bt (bt (bt hb14 hb15) hb16) hb17) hb18) hb19
    have HB19 := bt HB13 C19
    have F19 := F13.below C19
    have D19 : Below w19.heap.size w19 w19.drew := (Below.refl _ _).drew
    have s4 : w19.drew.cell? ⟨w5.heap.size, 0, none⟩ = some (.bool bf) ∧ w19.drew.cell? ⟨w5.heap.size, 1, none⟩ = some (.int .u64 FA) ∧ w19.drew.cell? ⟨w5.heap.size, 2, none⟩ = some (.int .u64 FL) ∧ w19.drew.cell? ⟨w5.heap.size, 3, none⟩ = some (.pointer fp) := box0 F19.box
    clear hR15 hR16 r16 r17 r18 r19 hb14 hb15 hb16 hb17 hb18 hb19 C19 F13 HB13
    obtain ⟨s40, s41, s42, s43⟩ := box0 F19.box
    clear s4
    go_region_with (first
      | (go_at_call_of 18 (Value.int IntKind.i64 i); refine (cRi _).mono ?_; rintro e w20 ⟨v20, rfl, hq20, hb20⟩; have C20 := bt D19 hb20; obtain ⟨o20, c20, p20, d20, rfl, r20, r21⟩ := hq20; obtain ⟨x0, x1, x2, x3⟩ := box0 (F19.below C20).box)
      | (go_at_call_of 18 (Value.int IntKind.i64 j); refine (cRj _).mono ?_; rintro e w21 ⟨v21, rfl, hq21, hb21⟩; have C21 := bt C20 hb21; obtain ⟨o21, c21, p21, d21, rfl, r22, r23⟩ := hq21; obtain ⟨x0, x1, x2, x3⟩ := box0 (F19.below C21).box)
      | (go_at_call 20; refine (cIv _ _ ?_).mono ?_; exact ⟨_, _, _, _, rfl, r22, r23⟩; rintro e w22 ⟨v22, rfl, hq22, hb22⟩; have C22 := bt C21 hb22; obtain ⟨o22, c22, p22, d22, rfl, r24, r25⟩ := hq22; obtain ⟨x0, x1, x2, x3⟩ := box0 (F19.below C22).box)
      | (go_at_call 19; refine (cMu _ _ _ ?_ ?_).mono ?_; exact ⟨_, _, _, _, rfl, keep (keep r20 hb21) hb22, keep (keep r21 hb21) hb22⟩; exact ⟨_, _, _, _, rfl, r24, r25⟩; rintro e w23 ⟨v23, rfl, hq23, hb23⟩; have C23 := bt C22 hb23; obtain ⟨o23, c23, p23, d23, rfl, r26, r27⟩ := hq23; obtain ⟨x0, x1, x2, x3⟩ := box0 (F19.below C23).box)
      | (go_at_call 14; refine (cI4 _ _ _ ?_ ?_).mono ?_; exact F19.is.below C23; exact ⟨_, _, _, _, rfl, r26, r27⟩; rintro e w24 ⟨rfl, hb24⟩; have C24 := bt C23 hb24))
    all_goals go_wp2
    all_goals go_ret
    all_goals exact ⟨rfl, bt HB19 C24⟩
end Go.Proofs.Ytfhhmpgldmakjaa.Mk5
