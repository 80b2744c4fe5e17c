/- What making a rational number, and telling its parts, answer (2). -/
import Derived.Test.YtfhhmpgldmakjaaRatM
namespace Go.Proofs.Ytfhhmpgldmakjaa.RatN
open Go.RowKit Mem LimbNum Limb1 Limb2 Limb3 Limb4 NatNum DivNum NatL NearL GcdA CopyL Words DivMod DivAll RatL RatM

theorem make_no (b : Bool) (A B : List Nat) (ao1 ao2 : Option Addr) (cap1 cap2 : Nat) (w : World) (h2 : Lies w ao2 cap2 (ints .u32 B)) (hB : Small B) (hl : B.length ≤ 70368744177664) (h0 : val B = 0) :
    Calls Try.prog 9 #[.bool b, .slice ao1 A.length cap1, .slice ao2 B.length cap2] w fun e w' => e = .returned (.tuple #[.agg #[.bool false, .int .u64 0, .int .u64 0, .pointer none], .bool false]) ∧ Below w.heap.size w w' := by
  have cB := fun (W : World) (hb : Below w.heap.size w W) => bits_any B ao2 cap2 W (h2.below hb (Nat.le_refl _)) hB hl
  rw [h0] at cB
  have e2 : ((bitLen 0 : Nat) : Int) = 0 := by rfl
  rw [e2] at cB
  have hb0 : Below w.heap.size w (w.alloc (.cells #[.bool false, .int .u64 0, .int .u64 0, .pointer none] 28)) := (Below.refl _ _).alloc (Nat.le_refl _) _
  clear h2 hB hl h0 e2
  go_enter Try.func9, Try.ntmps9
  go_wp2_with (go_at_call 47; refine (cB _ hb0).mono ?_; rintro e w1 ⟨rfl, hw⟩; have hw2 := hw.symm; clear hw; subst hw2)
  refine bodyPost_ret (v := .tuple #[.agg #[.bool false, .int .u64 0, .int .u64 0, .pointer none], .bool false]) ?_ rfl ?_
  · simp [results, go_sem]
  · exact ⟨rfl, hb0⟩
set_option maxRecDepth 20000 in
set_option maxHeartbeats 1000000 in
theorem make_any (b : Bool) (A B : List Nat) (ao1 ao2 : Option Addr) (cap1 cap2 : Nat) (w : World) (h1 : Lies w ao1 cap1 (ints .u32 A)) (h2 : Lies w ao2 cap2 (ints .u32 B)) (hA : Small A) (hB : Small B) (hlA : A.length ≤ 35184372088832) (hlB : B.length ≤ 35184372088832) (h0 : val B ≠ 0) :
    Calls Try.prog 9 #[.bool b, .slice ao1 A.length cap1, .slice ao2 B.length cap2] w fun e w' => ∃ v, e = .returned (.tuple #[v, .bool true]) ∧
      IsRat w' v (b && decide (val A / Nat.gcd (val A) (val B) ≠ 0)) (val A / Nat.gcd (val A) (val B)) (val B / Nat.gcd (val A) (val B)) ∧ Below w.heap.size w w' := by
  have kA := nl_len A hA
  have kB := nl_len B hB
  have cB := fun (W : World) (hb : Below w.heap.size w W) => bits_any B ao2 cap2 W (h2.below hb (Nat.le_refl _)) hB (by omega)
  have cG := fun (W : World) (hb : Below w.heap.size w W) => gcd_any A B ao1 ao2 cap1 cap2 W (h1.below hb (Nat.le_refl _)) (h2.below hb (Nat.le_refl _)) hA hB hlA hlB
  have cN1 := fun (W : World) (hb : Below w.heap.size w W) => norm_any A ao1 cap1 W (h1.below hb (Nat.le_refl _)) hA (by omega)
  have cN2 := fun (W : World) (hb : Below w.heap.size w W) => norm_any B ao2 cap2 W (h2.below hb (Nat.le_refl _)) hB (by omega)
  have hg0 : Nat.gcd (val A) (val B) ≠ 0 := fun h => h0 (Nat.gcd_eq_zero_iff.1 h).2
  have hgle : Nat.gcd (val A) (val B) ≤ val B := Nat.gcd_le_right _ (Nat.pos_of_ne_zero h0)
  have kg := nl_mono _ _ hgle
  have cP1 := fun (W : World) (o1 o2 : Option Addr) (c1 c2 : Nat) (h1 : Lies W o1 c1 (ints .u32 (nl (val A)))) (h2 : Lies W o2 c2 (ints .u32 (nl (Nat.gcd (val A) (val B))))) => part_any (nl (val A)) (nl (Nat.gcd (val A) (val B))) o1 o2 c1 c2 W h1 h2 (by rw [val_nl]) (small_nl _) (by rw [val_nl]; exact hg0) (by omega) (by omega)
  have cP2 := fun (W : World) (o1 o2 : Option Addr) (c1 c2 : Nat) (h1 : Lies W o1 c1 (ints .u32 (nl (val B)))) (h2 : Lies W o2 c2 (ints .u32 (nl (Nat.gcd (val A) (val B))))) => part_any (nl (val B)) (nl (Nat.gcd (val A) (val B))) o1 o2 c1 c2 W h1 h2 (by rw [val_nl]) (small_nl _) (by rw [val_nl]; exact hg0) (by omega) (by omega)
  rw [val_nl, val_nl] at cP1 cP2
  have hd1 : 1 ≤ val B / Nat.gcd (val A) (val B) := (Nat.one_le_div_iff (Nat.pos_of_ne_zero hg0)).2 hgle
  have hco : Nat.gcd (val A / Nat.gcd (val A) (val B)) (val B / Nat.gcd (val A) (val B)) = 1 := Nat.coprime_div_gcd_div_gcd (Nat.pos_of_ne_zero hg0)
  have cF := fun (W : World) (o1 o2 : Option Addr) (c1 c2 : Nat) (h1 : Lies W o1 c1 (ints .u32 (nl (val A / Nat.gcd (val A) (val B))))) (h2 : Lies W o2 c2 (ints .u32 (nl (val B / Nat.gcd (val A) (val B))))) => fit_any b (val A / Nat.gcd (val A) (val B)) (val B / Nat.gcd (val A) (val B)) o1 o2 c1 c2 W h1 h2 hd1 hco
  have e2 : ((bitLen (val B) : Nat) : Int) ≠ 0 := by unfold bitLen; rw [if_neg h0]; omega
  have e3 : (((bitLen (val B) : Nat) : Int) == 0) = false := by rw [beq_eq_false_iff_ne]; exact e2
  have hb0 : Below w.heap.size w (w.alloc (.cells #[.bool false, .int .u64 0, .int .u64 0, .pointer none] 28)) := (Below.refl _ _).alloc (Nat.le_refl _) _
  generalize ((bitLen (val B) : Nat) : Int) = BL at *
  clear h1 h2 hA hB h0 kA kB hg0 hgle kg hd1 hco
  generalize val A / Nat.gcd (val A) (val B) = n at *
  generalize val B / Nat.gcd (val A) (val B) = d at *
  generalize Nat.gcd (val A) (val B) = g at *
  generalize (b && decide (n ≠ 0)) = b2 at *
  have t1 : True := trivial
  have t2 : True := trivial
  go_enter Try.func9, Try.ntmps9
  go_wp2_with (first
    | (go_at_call 47; refine (cB _ hb0).mono ?_; rintro e w1 ⟨rfl, hw⟩; have hw2 := hw.symm; clear hw; subst hw2)
    | (go_at_call 48; refine (cG _ hb0).mono ?_; rintro e w2 ⟨o2, c2, rfl, hown2, hb2⟩; have H2 := bt hb0 hb2)
    | (go_at_call 51; have _t := t1; clear _t t1; refine (cN1 _ H2).mono ?_; rintro e w3 ⟨o3, c3, rfl, hown3, hb3⟩; have H3 := bt H2 hb3)
    | (go_at_call 50; have _t := t2; clear _t t2; refine (cP1 _ _ _ _ _ (lies_of_owns hown3) (lies_of_owns (keep hown2 hb3))).mono ?_; rintro e w4 ⟨o4, c4, rfl, l4, hb4⟩; have H4 := bt H3 hb4)
    | (go_at_call 51; refine (cN2 _ H4).mono ?_; rintro e w5 ⟨o5, c5, rfl, hown5, hb5⟩; have H5 := bt H4 hb5)
    | (go_at_call 50; refine (cP2 _ _ _ _ _ (lies_of_owns hown5) (lies_of_owns (keep (keep (keep hown2 hb3) hb4) hb5))).mono ?_; rintro e w6 ⟨o6, c6, rfl, l6, hb6⟩; have H6 := bt H5 hb6)
    | (go_at_call 49; refine (cF _ _ _ _ _ ((l4.below hb5 (Nat.le_refl _)).below hb6 (Nat.le_refl _)) l6).mono ?_; rintro e w7 ⟨v, rfl, hR, hb7⟩; obtain ⟨VA, VL, vp, rfl⟩ := hR.shape; have k1 := box_kept (box_new w _ _ _ _) (bt (bt (bt (bt (bt hb2 hb3) hb4) hb5) hb6) hb7) (by simp); obtain ⟨d0, d1, d2, d3⟩ := box0 k1; have ff := boxF k1))
  have k2 := box_set k1 (.bool b2) (.int .u64 VA) (.int .u64 VL) (.pointer vp)
  have hB := box_below (bt H6 hb7) (Nat.le_refl _) (.bool b2) (.int .u64 VA) (.int .u64 VL) (.pointer vp)
  have hR2 := hR.set4 k1 (.bool b2) (.int .u64 VA) (.int .u64 VL) (.pointer vp)
  generalize World.setCell _ _ _ = W' at *
  obtain ⟨y0, y1, y2, y3⟩ := box0 k2
  refine bodyPost_ret (v := .tuple #[.agg #[.bool b2, .int .u64 VA, .int .u64 VL, .pointer vp], .bool true]) ?_ rfl ?_
  · simp [results, go_sem, y0, y1, y2, y3]
  · exact ⟨_, rfl, hR2, hB⟩
set_option maxRecDepth 20000 in
theorem parts_any (v : Value) (b : Bool) (n d : Nat) (w : World) (h : IsRat w v b n d) (hn : (nl n).length ≤ 35184372088832) (hd : (nl d).length ≤ 35184372088832) :
    Calls Try.prog 22 #[v] w fun e w' => ∃ o1 c1 o2 c2, e = .returned (.tuple #[.bool b, .slice o1 (nl n).length c1, .slice o2 (nl d).length c2]) ∧
      w'.ownsRow w.heap.size 77 1 (.slice o1 (nl n).length c1) (nl n).length (ints .u32 (nl n)) ∧ w'.ownsRow w.heap.size 77 1 (.slice o2 (nl d).length c2) (nl d).length (ints .u32 (nl d)) ∧ Below w.heap.size w w' := by
  obtain ⟨A, L, p, rfl⟩ := h.shape
  have hb0 : Below w.heap.size w (w.alloc (.cells #[.bool b, .int .u64 A, .int .u64 L, .pointer p] 28)) := (Below.refl _ _).alloc (Nat.le_refl _) _
  have cS := spread_any _ b n d _ (h.below hb0)
  have cN1 := fun (W : World) (o : Option Addr) (c : Nat) (h : Lies W o c (ints .u32 (nl n))) => norm_any (nl n) o c W h (small_nl _) (by omega)
  have cN2 := fun (W : World) (o : Option Addr) (c : Nat) (h : Lies W o c (ints .u32 (nl d))) => norm_any (nl d) o c W h (small_nl _) (by omega)
  rw [val_nl] at cN1 cN2
  clear h hn hd
  go_enter Try.func22, Try.ntmps22
  go_wp2_with (go_at_call 63; refine cS.mono ?_; rintro e w1 ⟨o1, c1, o2, c2, rfl, l1, l2, hb1⟩)
  have f4 := four_kept (four_new w _ _ _ _) hb1
  go_region_held3 (fun w' => w'.cell? ⟨w.heap.size, 0, none⟩ = some (.bool b) ∧ w'.cell? ⟨w.heap.size, 1, none⟩ = some (.int .u64 A) ∧ w'.cell? ⟨w.heap.size, 2, none⟩ = some (.int .u64 L) ∧ w'.cell? ⟨w.heap.size, 3, none⟩ = some (.pointer p))
    (first | exact f4 | exact four_kept (by assumption) (by assumption)) (first
    | (go_at_call_of 51 (Value.slice o1 (nl n).length c1); refine (cN1 _ _ _ ?_).mono ?_; exact l1; rintro e w5 ⟨o5, c5, rfl, hown5, hb5⟩)
    | (go_at_call_of 51 (Value.slice o2 (nl d).length c2); refine (cN2 _ _ _ ?_).mono ?_; exact (show Lies w1.drew _ _ _ from l2).below hb5 (Nat.le_refl _); rintro e w6 ⟨o6, c6, rfl, hown6, hb6⟩))
  all_goals go_wp2
  all_goals go_ret3
  all_goals exact ⟨_, _, _, _, rfl, owns_base (keep hown5 hb6) (below_drewN (bt hb0 hb1) _).size, owns_base hown6 (bt (below_drewN (bt hb0 hb1) _) hb5).size, bt (bt (below_drewN (bt hb0 hb1) _) hb5) hb6⟩
/-- The sign. -/
def sgn (b : Bool) (n : Nat) : Int := if n = 0 then 0 else if b then -1 else 1
theorem sign_any (v : Value) (b : Bool) (n d : Nat) (w : World) (h : IsRat w v b n d) :
    Calls Try.prog 13 #[v] w fun e w' => e = .returned (.int .i64 (sgn b n)) ∧ Below w.heap.size w w' := by
  have hb0 : ∀ x : Obj, Below w.heap.size w (w.alloc x) := fun x => (Below.refl _ _).alloc (Nat.le_refl _) _
  obtain ⟨hL, ⟨hn, hd, rfl⟩ | ⟨hf, g, o1, c1, o2, c2, rfl, hg, e1, e2, l1, l2⟩⟩ := h
  · cases b
    · by_cases hn0 : n = 0
      · subst hn0
        go_enter Try.func13, Try.ntmps13
        go_wp2
        go_ret
        exact ⟨rfl, hb0 _⟩
      · have e : sgn false n = 1 := by simp [sgn, hn0]
        rw [e]
        have e3 : ((n : Int) == 0) = false := by rw [beq_eq_false_iff_ne]; omega
        go_enter Try.func13, Try.ntmps13
        go_wp2
        go_ret
        exact ⟨rfl, hb0 _⟩
    · have hn0 : n ≠ 0 := fun h => by have := hL.sg h; simp at this
      have e : sgn true n = -1 := by simp [sgn, hn0]
      rw [e]
      go_enter Try.func13, Try.ntmps13
      go_wp2
      go_ret
      exact ⟨rfl, hb0 _⟩
  · have hn0 : n ≠ 0 := by
      rintro rfl
      have := hL.one
      rw [Nat.gcd_zero_left] at this
      exact hf (by omega)
    clear e1 e2 l1 l2 hf
    cases b
    · have e : sgn false n = 1 := by simp [sgn, hn0]
      rw [e]
      go_enter Try.func13, Try.ntmps13
      go_wp2
      go_ret
      exact ⟨rfl, hb0 _⟩
    · have e : sgn true n = -1 := by simp [sgn, hn0]
      rw [e]
      go_enter Try.func13, Try.ntmps13
      go_wp2
      go_ret
      exact ⟨rfl, hb0 _⟩
theorem int_any (i : Int) (w : World) (h0 : -9223372036854775808 ≤ i) (h1 : i ≤ 9223372036854775807) :
    Calls Try.prog 17 #[.int .i64 i] w fun e w' => ∃ v, e = .returned v ∧ IsRat w' v (decide (i < 0)) i.natAbs 1 ∧ Below w.heap.size w w' := by
  have cZ := fun (W : World) => size_any i W h0 h1
  have cS := fun (W : World) => short_any (decide (i < 0)) i.natAbs 1 W (by omega) (by omega)
  have eb : (decide (i < 0) && decide (i.natAbs ≠ 0)) = decide (i < 0) := by rw [Bool.eq_iff_iff]; simp; omega
  rw [eb] at cS
  have e1 : (((1 : Nat) : Int)) = 1 := rfl
  rw [e1] at cS
  have e0 : (1 : Int) - 1 = 0 := rfl
  rw [e0] at cS
  have HL : Hid (Low (decide (i < 0)) i.natAbs 1 ∧ i.natAbs < 18446744073709551616) := ⟨⟨by omega, Nat.gcd_one_right _, fun h => by simp; omega⟩, by omega⟩
  have hb0 : Below w.heap.size w (w.alloc (.cells #[.bool false, .int .u64 0, .int .u64 0, .pointer none] 28)) := (Below.refl _ _).alloc (Nat.le_refl _) _
  obtain ⟨b, ebb⟩ : ∃ b, decide (i < 0) = b := ⟨_, rfl⟩
  rw [ebb] at HL cS ⊢
  generalize i.natAbs = n at *
  clear h0 h1 eb e1 e0
  go_enter Try.func17, Try.ntmps17
  go_wp2_with (first
    | (go_at_call 54; refine (cZ _).mono ?_; rintro e w1 ⟨rfl, hw⟩; have hw2 := hw.symm; clear hw; subst hw2)
    | (go_at_call 55; refine (cS _).mono ?_; rintro e w1 ⟨rfl, hb1⟩; have k1 := box_kept (box_new w _ _ _ _) hb1 (by simp); obtain ⟨d0, d1, d2, d3⟩ := box0 k1; have ff := boxF k1))
  have k2 := box_set k1 (.bool b) (.int .u64 (n : Int)) (.int .u64 0) (.pointer none)
  have hB := box_below (bt hb0 hb1) (Nat.le_refl _) (.bool b) (.int .u64 (n : Int)) (.int .u64 0) (.pointer none)
  generalize World.setCell _ _ _ = W' at *
  obtain ⟨y0, y1, y2, y3⟩ := box0 k2
  refine bodyPost_ret (v := .agg #[.bool b, .int .u64 (n : Int), .int .u64 0, .pointer none]) ?_ rfl ?_
  · simp [results, go_sem, y0, y1, y2, y3]
  · exact ⟨_, rfl, ⟨HL.out.1, .inl ⟨HL.out.2, by omega, rfl⟩⟩, hB⟩
theorem frac_no (i : Int) (w : World) :
    Calls Try.prog 11 #[.int .i64 i, .int .i64 0] w fun e w' => e = .returned (.tuple #[.agg #[.bool false, .int .u64 0, .int .u64 0, .pointer none], .bool false]) ∧ Below w.heap.size w w' := by
  go_enter Try.func11, Try.ntmps11
  go_wp2
  refine bodyPost_ret (v := .tuple #[.agg #[.bool false, .int .u64 0, .int .u64 0, .pointer none], .bool false]) ?_ rfl ?_
  · simp [results, go_sem]
  · exact ⟨rfl, (Below.refl _ _).alloc (Nat.le_refl _) _⟩
end Go.Proofs.Ytfhhmpgldmakjaa.RatN
