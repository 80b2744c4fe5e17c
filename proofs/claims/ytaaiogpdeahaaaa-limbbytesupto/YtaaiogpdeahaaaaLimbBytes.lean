/- For every input of at most 1048576 values the law LimbBytes returns true: limbs are packed into bytes and bytes into limbs as the document says. The condition: what is read is of bulk at most 1048576. -/
import Derived.Test.YtaaiogpdeahaaaaRows
import Derived.WalkKit
import Derived.ProofKit
import Derived.OpenShut
import Derived.ShutString
import Derived.ChangeOld
import Derived.Below
import Derived.Test.YtaaiogpdeahaaaaByL
import Derived.Test.YtaaiogpdeahaaaaLimb4
import Derived.JoinedCond
namespace Go.Proofs.Ytaaiogpdeahaaaa.limbBytes
open Go.ChangeShapes Go.WideShapes Go.ChangeAt Go.RowKit
open Go.ChangeMaps (open_string shut_string)
set_option linter.unusedVariables false

theorem own : ownKnob Try.prog.godebug = none := by kernel_rfl
theorem laidOut : laidOutB Try.prog = true := by kernel_rfl

/-- WHAT THE WALK IS TOLD OF A SLICE OF INTEGERS THAT CAME IN: it is nil; or it leads to a row of 'cap' cells, the numbers 'zs' (the first 'len' are its elements, the rest its spare room), each fitting its kind. -/
def IsRow (k : IntKind) (w : World) (a : Option Addr) (len cap : Nat) (zs : List Int) : Prop :=
  (a = none ∧ len = 0 ∧ cap = 0 ∧ zs = []) ∨
  ∃ x, a = some x ∧ len ≤ cap ∧ cap ≤ maxLen ∧ zs.length = cap ∧ (∀ i, i < zs.length → w.cell? (x.add i) = some (.int k (zs.getD i 0))) ∧ ∀ n ∈ zs, (Lit.int k n).wf = true

open Mem LimbNum Limb1 Limb2 Limb4 RefL ByNum AppL ByL

set_option maxRecDepth 20000 in
set_option maxHeartbeats 2000000 in
theorem law_any (A l : List Nat) (ao bo : Option Addr) (cap1 cap2 : Nat) (w : World) (hl : Lies w ao cap1 (ints .u32 A)) (hl2 : Lies w bo cap2 (ints .u8 l)) (hA : Small A) (hb8 : Byte l) (hlen : A.length ≤ 1048576) (hlen2 : l.length ≤ 1048576) :
    Calls Try.prog 3 #[.slice ao A.length cap1, .slice bo l.length cap2] w fun e w' => e = .returned (.bool true) ∧ Below w.heap.size w w' := by
  obtain ⟨j0, hj, hy0, hy1, hy2⟩ := info_parts info8
  have hyl := ny_len (val A)
  have hnb : (nb (val A)).length ≤ 33554432 := by
    have h1 := nb_lt (32 * A.length) (val A) (by rw [Nat.pow_mul]; exact val_lt A hA)
    omega
  have cC := fun (W : World) (hb : Below w.heap.size w W) => copy_any A ao cap1 W (hl.below hb (Nat.le_refl _)) (by omega)
  have cP := fun (W : World) (o : Option Addr) (c : Nat) (h : Lies W o c (ints .u32 A)) => pack_any A o c W h hA (by omega)
  have cO := fun (W : World) (hb : Below w.heap.size w W) => of_any A ao cap1 W (hl.below hb (Nat.le_refl _)) hA (by omega)
  have eU : bv (ny (val A) ++ [0, 0]) = val A := by have := bv_noughts (ny (val A)) 2; rw [bv_ny] at this; exact this
  have bU : Byte (ny (val A) ++ [0, 0]) := by
    intro x hx
    simp only [List.mem_append, List.mem_cons, List.not_mem_nil, or_false] at hx
    rcases hx with hx | rfl | rfl
    · exact byte_ny _ x hx
    · omega
    · omega
  have cU := fun (W : World) (o : Option Addr) (c : Nat) (h : Lies W o c (ints .u8 (ny (val A) ++ [0, 0]))) => unpack_any (ny (val A) ++ [0, 0]) o c W h bU (by simp; omega)
  rw [eU] at cU
  have eL : (ny (val A) ++ [0, 0]).length = (ny (val A)).length + 2 := by simp
  rw [eL] at cU
  have cT := fun (W : World) (o : Option Addr) (c : Nat) (h : Lies W o c (bools (nb (val A)))) => to_any (nb (val A)) o c W h (by omega)
  rw [fromL_nb] at cT
  have cS := fun (N : Nat) (W : World) (o1 o2 : Option Addr) (c1 c2 : Nat) (h1 : Lies W o1 c1 (ints .u32 (nl N))) (h2 : Lies W o2 c2 (ints .u32 (nl N))) => same_any (nl N) (nl N) o1 o2 c1 c2 W h1 h2
  simp only [decide_true] at cS
  have cS1 := cS (val A)
  have cS2 := cS (bv l)
  have cU2 := fun (W : World) (o : Option Addr) (c : Nat) (h : Lies W o c (ints .u8 l)) => unpack_any l o c W h hb8 (by omega)
  have hyb : (((ny (val A)).length : Int) == (((nb (val A)).length : Int) + 7) / 8) = true := by simp; omega
  have hml : (ny (val A)).length ≤ 4194305 := by omega
  have hXi : ((nb (val A)).length : Int) ≤ 33554432 := by omega
  have pre2 : ∀ (W : World) (base : Nat) (v : Value), W.ownsRow base 5 1 v (0 + (ny (val A)).length + 2) ([] ++ ints .u8 (ny (val A)) ++ [.int .u8 0, .int .u8 0]) → ∃ o c, v = .slice o ((ny (val A)).length + 2) c ∧ W.ownsRow base 5 1 (.slice o ((ny (val A)).length + 2) c) ((ny (val A)).length + 2) (ints .u8 (ny (val A) ++ [0, 0])) := fun W base v h => by
    rw [Nat.zero_add] at h
    obtain ⟨o, c, rfl⟩ := owns_shape h
    exact ⟨o, c, rfl, by simpa [ints] using h⟩
  have pre3 : ∀ (W : World) (base : Nat) (v : Value), W.ownsRow base 5 1 v (0 + l.length) ([] ++ ints .u8 l) → ∃ o c, v = .slice o l.length c ∧ W.ownsRow base 5 1 (.slice o l.length c) l.length (ints .u8 l) := fun W base v h => by
    rw [Nat.zero_add] at h
    obtain ⟨o, c, rfl⟩ := owns_shape h
    exact ⟨o, c, rfl, by simpa using h⟩
  have lY := ints_length .u8 (ny (val A))
  generalize (ny (val A)).length = m at *
  generalize ny (val A) = Y at *
  generalize nb (val A) = X at *
  generalize nl (val A) = NA at *
  clear hyl eU bU eL cS hnb
  have t1 : True := trivial
  have t2 : True := trivial
  have t3 : True := trivial
  obtain ⟨i0, hi, hz0, hz1, hz2⟩ := info_parts infoB
  go_enter Try.func3, Try.ntmps3
  go_wp2_with (first
    | (go_at_call 9; refine (cC _ (Below.refl _ _)).mono ?_; rintro e w1 ⟨o1, c1, rfl, hown1, hb1⟩)
    | (go_at_call 8; refine (cP _ _ _ (lies_of_owns hown1)).mono ?_; rintro e w2 ⟨o2, c2, rfl, hown2, hb2⟩; have H2 := bt hb1 hb2)
    | (go_at_call 10; refine (cO _ H2).mono ?_; rintro e w3 ⟨o3, c3, rfl, hown3, hb3⟩; have H3 := bt H2 hb3)
    | (go_at_call 11; refine (awake _).mono ?_; rintro e w4 ⟨rfl, hb4⟩; have H4 := bt H3 hb4; have h24 := bt hb3 hb4)
    | (at_builtin; have _t := t1; clear _t t1; refine wpList_wanted rfl ?_; refine wpList_append_lies _ rfl (.tmp 28) (.tmp 29) 23 rfl w4.heap.size 5 j0 (.int .u8 0) 1 Try.underlying23 hj hy0 hy1 hy2 rfl _ 0 [] rfl (World.ownsRow_lit w4 #[] 0 (Nat.le_refl _) (by decide) rfl) o2 m c2 (ints .u8 Y) rfl lY (((lies_of_owns hown2).below h24 (Nat.le_refl _)).alloc _) (ints_one _ _) (by unfold maxLen; omega) (by omega) (by simp) ?_; intro v5 w5 hown5 hgr5; have H5 : Below w4.heap.size w4 w5 := ((Below.refl _ _).alloc (Nat.le_refl _) _).grown hgr5 (by simp) (fun j hj => by cases hj; exact Nat.le_refl _); have s5 := H5.size)
    | (at_builtin; have _t := t2; clear _t t2; refine wpList_wanted rfl ?_; refine wpList_append_own _ rfl (.tmp 30) (.tmp 31) 23 rfl w4.heap.size 5 j0 (.int .u8 0) 1 1 Try.underlying23 hj hy0 hy1 hy2 rfl (by decide) _ _ _ rfl (hown5.alloc _) ⟨w5.heap.size, 0, none⟩ 2 2 [.int .u8 0, .int .u8 0] rfl rfl (cells2 _ _ _ _) (by intro u hu; simp at hu; subst hu; rfl) (by unfold maxLen; omega) (by omega) (by simp; omega) ?_; intro v6 w6 hown6 hgr6 _; have H6 : Below w4.heap.size w4 w6 := (H5.alloc s5 _).grown hgr6 (by simp; omega) (fun j hj => (hown5.lt j hj).1); have H6b := bt H4 H6; obtain ⟨o6, c6, rfl, hown7⟩ := pre2 _ _ _ hown6)
    | (go_at_call 13; have _t := t3; clear _t t3; refine (cU _ _ _ (lies_of_owns hown7)).mono ?_; rintro e w8 ⟨o8, c8, rfl, hown8, hb8'⟩; have H8 := bt H6b hb8')
    | (go_at_call 14; refine (cT _ _ _ (lies_of_owns (keep (keep hown3 (bt hb4 H6)) hb8'))).mono ?_; rintro e w9 ⟨o9, c9, rfl, hown9, hb9⟩; have H9 := bt H8 hb9)
    | (go_at_call 12; refine (cS1 _ _ _ _ _ (lies_of_owns (keep hown8 hb9)) (lies_of_owns hown9)).mono ?_; rintro e w10 ⟨rfl, hb10⟩; have H10 := bt H9 hb10))
  rotate_left
  · exact absurd (show (m : Int) = ((X.length : Int) + 7) / 8 by simpa using hyb) (by assumption)
  clear cC cP cO cU cT cS1 pre2 hyb hXi hml lY
  generalize hbase : w10.heap.size = base
  have hs10 := H10.size
  have hw10 : w.heap.size ≤ base := by omega
  clear hown1 hown2 hown3 hown5 hown6 hown7 hown8 hown9 hgr5 hgr6 hb1 hb2 hb3 hb4 hb8' hb9 hb10 H2 H3 H4 h24 H5 H6 H6b H8 H9 s5
  go_loopw [7, 42] (fun v i wr => ∃ (k : Nat) (F : List Bool), k ≤ l.length ∧ i = .int .i64 k ∧ F.length = 8 * k ∧ Hid (fromL F = bv (l.take k)) ∧ wr.ownsRow base 4 1 v F.length (bools F) ∧ Below w.heap.size w wr ∧ base ≤ wr.heap.size)
    (fun _ i _ => l.length - (intOf i).toNat)
  case atStart =>
    subst hbase
    exact ⟨0, [], Nat.zero_le _, rfl, rfl, by unfold Hid; simp [fromL, bv], World.ownsRow_lit w10 #[] 0 (Nat.le_refl _) (by decide) rfl, H10.alloc hs10 _, by simp⟩
  case round =>
    obtain ⟨k, F, hk, rfl, hFl, HF, hown, hb, hbw⟩ := hrel
    by_cases hlt : k < l.length
    · have g1 := hl2.below hb (Nat.le_refl _)
      obtain ⟨b1, off1, rfl, _, hc1⟩ := g1.2.2.2 (by rw [ints_length]; omega)
      have d1 := hc1 k (by rw [ints_length]; omega)
      rw [ints_get _ _ _ hlt] at d1
      have HS : Hid (fromL (F ++ bl (l.getD k 0) 8) = bv (l.take (k + 1))) := byte_bits l F k hb8 HF.out hFl
      have hx := getD_byte l hb8 k
      generalize l.getD k 0 = x at d1 HS hx
      clear hc1 g1
      go_wp2
      go_loopw [7, 9, 10] (fun v u j wr => ∃ m : Nat, m ≤ 8 ∧ j = .int .i64 m ∧ u = .int .u8 ((x / 2 ^ m : Nat) : Int) ∧ wr.ownsRow base 4 1 v (F.length + m) (bools (F ++ bl x m)) ∧ Below w.heap.size w wr ∧ base ≤ wr.heap.size) (fun _ _ j _ => 8 - (intOf j).toNat)
      case atStart => exact ⟨0, by omega, rfl, by simp, by simpa [bl] using hown, hb, hbw⟩
      case round =>
        clear hown hb d1 hbw
        obtain ⟨m, hm, rfl, rfl, hown, hb, hbw⟩ := hrel
        have hsz := hb.size
        have hbit := bit_of x m
        have hq : x / 2 ^ m ≤ x := Nat.div_le_self _ _
        have hq2 : ((x / 2 ^ m : Nat) : Int) ≤ 255 := by omega
        have hq1 : 0 ≤ ((x / 2 ^ m : Nat) : Int) := Int.natCast_nonneg _
        have hst := div_step x m
        obtain ⟨q, hQ⟩ : ∃ q, x / 2 ^ m = q := ⟨_, rfl⟩
        rw [hQ] at hbit hq hq2 hq1 hst
        simp only [hQ]
        clear hQ
        by_cases hm2 : m < 8
        · go_wp2_with (at_builtin; refine wpList_append_own _ rfl _ _ 26 rfl base 4 i0 (.bool false) 1 1 Try.underlying26 hi hz0 hz1 hz2 rfl (by decide) _ _ _ rfl (hown.alloc _) ⟨wr.heap.size, 0, none⟩ 1 1 [.bool (x.testBit m)] rfl rfl ?c1 ?c2 ?c3 ?c4 ?c5 ?_)
          case c1 =>
            intro j u hj
            match j, hj with
            | 0, hj => simp at hj; subst hj; simp [Addr.add]
          case c2 => intro u hu; simp at hu; subst hu; rfl
          case c3 => unfold maxLen; omega
          case c4 => omega
          case c5 => simp; omega
          intro v' w1 hown' hgrow _
          have hb1 : Below w.heap.size w w1 := (hb.alloc (by omega) _).grown hgrow (by simp; omega) (fun j hj => Nat.le_trans hw10 (hown.lt j hj).1)
          have hbw1 : base ≤ w1.heap.size := by
            obtain ⟨_, _, _, hgs, _⟩ := hgrow
            simp at hgs
            omega
          clear hgrow hown
          go_wp2
          go_roundw
          case rel => exact ⟨m + 1, by omega, by go_num, by rw [← hst]; go_num, by rw [bl_succ]; simpa [bools, Nat.add_assoc, hFl] using hown', hb1, hbw1⟩
          case measure => simp [intOf]; omega
        · have hm3 : m = 8 := by omega
          subst hm3
          go_wp2
          go_roundw
          case rel => exact ⟨k + 1, F ++ bl x 8, by omega, by go_num, by rw [List.length_append, bl_length]; omega, HS, by rw [List.length_append, bl_length]; exact hown, hb, hbw⟩
          case measure => simp [intOf]; omega
    · have ek : k = l.length := by omega
      subst ek
      have hF2 : fromL F = bv l := by have := HF.out; rwa [List.take_of_length_le (Nat.le_refl _)] at this
      obtain ⟨ao2, cap3, e2⟩ := owns_shape hown
      rw [e2] at hown ⊢
      have lL := ints_length .u8 l
      have cCut := fun (W : World) (h : W.ownsRow base 4 1 (.slice ao2 F.length cap3) F.length (bools F)) => cut_own F base ao2 cap3 W h
      rw [hF2] at cCut
      have hnl : (nb (bv l)).length ≤ F.length := by rw [← hF2]; exact nb_lt _ _ (fromL_lt F)
      have cT := fun (W : World) (o : Option Addr) (c : Nat) (h : Lies W o c (bools (nb (bv l)))) => to_any (nb (bv l)) o c W h (by omega)
      rw [fromL_nb] at cT
      have hFl2 : F.length ≤ 8388608 := by omega
      have hsz := hb.size
      clear HF hF2 hFl hbase e2 hnl hb8
      generalize nl (bv l) = NL at *
      generalize nb (bv l) = BL at *
      go_wp2_with (first
        | (at_builtin; refine wpList_append_lies _ rfl (.tmp 59) (.tmp 60) 23 rfl wr.heap.size 5 j0 (.int .u8 0) 1 Try.underlying23 hj hy0 hy1 hy2 rfl _ 0 [] rfl (World.ownsRow_lit wr #[] 0 (Nat.le_refl _) (by decide) rfl) bo l.length cap2 (ints .u8 l) rfl lL ((hl2.below hb (Nat.le_refl _)).alloc _) (ints_one _ _) (by unfold maxLen; omega) (by omega) (by simp) ?_; intro v5 w5 hown5 hgr5; have H5 : Below wr.heap.size wr w5 := ((Below.refl _ _).alloc (Nat.le_refl _) _).grown hgr5 (by simp) (fun j hj => by cases hj; exact Nat.le_refl _); obtain ⟨o5, c5, rfl, hown6⟩ := pre3 _ _ _ hown5)
        | (go_at_call 13; refine (cU2 _ _ _ (lies_of_owns hown6)).mono ?_; rintro e w8 ⟨o8, c8, rfl, hown8, hb8'⟩; have H8 := bt H5 hb8')
        | (go_at_call 15; refine (cCut _ (keep hown H8)).mono ?_; rintro e w9 ⟨rfl, hw, hown9⟩; have hw2 := hw.symm; clear hw; subst hw2)
        | (go_at_call 14; refine (cT _ _ _ (lies_of_owns hown9)).mono ?_; rintro e w10 ⟨o10, c10, rfl, hown10, hb10⟩)
        | (go_at_call 12; refine (cS2 _ _ _ _ _ (lies_of_owns (keep hown8 hb10)) (lies_of_owns hown10)).mono ?_; rintro e w11 ⟨rfl, hb11⟩))
      all_goals go_ret
      all_goals exact ⟨rfl, bt (bt (bt hb H8) hb10) hb11⟩

theorem walk (a0 : Option Addr) (len0 cap0 : Nat) (z0 : List Int) (a1 : Option Addr) (len1 cap1 : Nat) (z1 : List Int) (w : World) (w0 : IsRow .u32 w a0 len0 cap0 z0) (w1 : IsRow .u8 w a1 len1 cap1 z1) (u : cap0 + cap1 ≤ 1048576) :
    Calls Try.prog 3 #[.slice a0 len0 cap0, .slice a1 len1 cap1] w fun e w' => e = .returned (.bool true) ∧ Below w.heap.size w w' := by
  obtain ⟨A, rfl, hl, hA⟩ := lies_of_row nonneg_u32 w0
  obtain ⟨l, rfl, hl2, hb8⟩ := lies_of_row nonneg_u8 w1
  have hlen := hl.1
  have hlen2 := hl2.1
  rw [ints_length] at hlen hlen2
  exact law_any A l a0 a1 cap0 cap1 w hl hl2 (fun x hx => by have := (bounds_u32 (hA x hx)).2; omega) (fun x hx => by have := (bounds_u8 (hb8 x hx)).2; omega) (by omega) (by omega)

/-! ### THE ROW's STEP: WRITTEN OUT: LEAVE IT -/
set_option maxRecDepth 100000 in
theorem lifted (os : Os) (started : os.Started) (H : Type) (enc : TypeId × Value → H) (F : Stop.Interp) :
    ReturnsInHanded {} Try.checked os 3 .any ((Rows.OpenSpec.upto Rows.limbBytesSpec).pre6 enc Try.prog Try.f3 Rows.limbBytesUptoRow.domain false) (((Rows.OpenSpec.upto Rows.limbBytesSpec).at F).post enc Try.prog Try.f3 false true false false) := by
  refine returnsInHanded_of_cond (C := Try.checked) (s := Rows.OpenSpec.upto Rows.limbBytesSpec) (k := Rows.uptoSmall) rfl own started (by kernel_rfl) Try.func3
    (OpenSpec.witness (enc := enc) (C := Try.checked) (s := Rows.OpenSpec.upto Rows.limbBytesSpec) (k := Rows.uptoSmall) rfl false ⟨#[], #[.slice none 0 0, .slice none 0 0], []⟩ 8 (by kernel_rfl) (by kernel_rfl) (by kernel_rfl)
      (x := ([.nil, .nil], [], [])) (by kernel_rfl) rfl (by kernel_rfl)) ?_
  intro W base args ds gs before hval0 hW hcnd hk _
  have hval : ∀ (j : Nat) t v, Try.f3.params[j]? = some t → args[j]? = some v → Value.okWide Try.prog W .any base t v := hval0
  have hW' := hW
  obtain ⟨p, q, hA0, hV, rfl, hfz, hnd⟩ := hW
  have hA : DataW.TrodAll enc Try.prog W 0 (fun _ => true) true Try.f3.params.toList args.toList ds p := hA0
  rw [Try.params3] at hA hval
  obtain ⟨v0, vs0, d0, ds0, p0, q0, hargs, rfl, rfl, h0, r0⟩ := trodAll_cons hA
  obtain ⟨v1, vs1, d1, ds1, p1, q1, rfl, rfl, rfl, h1, r1⟩ := trodAll_cons r0
  obtain ⟨rfl, rfl, rfl⟩ := trodAll_nil r1
  obtain rfl : args = #[v0, v1] := by cases args; simp_all
  obtain ⟨rfl, rfl⟩ := trodVars_none hV
  obtain ⟨a0, len0, cap0, rfl⟩ := okWide_slice Try.underlying22 (hval 0 22 v0 rfl rfl)
  have k0 := h0
  have lt0 : ∀ x ∈ p0, x.block < W.heap.size := by obtain ⟨m, hm⟩ := k0; exact DataW.trod_lt m _ _ _ hm
  obtain ⟨z0, w0, rz0⟩ : ∃ zs, IsRow .u32 W a0 len0 cap0 zs ∧ cap0 ≤ Rows.uptoBulk d0 := by
    obtain ⟨fuel, hf⟩ := h0
    rcases open_ints Try.underlying22 Try.underlying34 (by kernel_rfl) hf with ⟨hcs, _⟩ | ⟨x, l, c, zs, hcs, _, hl, hm, hz, hx, hcell, hwz⟩
    · simp [Value.cells] at hcs
      obtain ⟨rfl, rfl, rfl⟩ := hcs
      exact ⟨[], .inl ⟨rfl, rfl, rfl, rfl⟩, Nat.zero_le _⟩
    · simp [Value.cells] at hcs
      obtain ⟨rfl, rfl, rfl⟩ := hcs
      have hz2 : zs.length = cap0 := by simpa using hz
      simp only [Prod.mk.injEq] at hx
      obtain ⟨rfl, _⟩ := hx
      refine ⟨zs, .inr ⟨_, rfl, hl, hm, hz2, hcell, hwz⟩, ?_⟩
      simp only [Rows.uptoBulk, bulk_lits, List.length_take, List.length_drop]
      omega
  obtain ⟨a1, len1, cap1, rfl⟩ := okWide_slice Try.underlying23 (hval 1 23 v1 rfl rfl)
  have k1 := h1
  have lt1 : ∀ x ∈ p1, x.block < W.heap.size := by obtain ⟨m, hm⟩ := k1; exact DataW.trod_lt m _ _ _ hm
  obtain ⟨z1, w1, rz1⟩ : ∃ zs, IsRow .u8 W a1 len1 cap1 zs ∧ cap1 ≤ Rows.uptoBulk d1 := by
    obtain ⟨fuel, hf⟩ := h1
    rcases open_ints Try.underlying23 Try.underlying5 (by kernel_rfl) hf with ⟨hcs, _⟩ | ⟨x, l, c, zs, hcs, _, hl, hm, hz, hx, hcell, hwz⟩
    · simp [Value.cells] at hcs
      obtain ⟨rfl, rfl, rfl⟩ := hcs
      exact ⟨[], .inl ⟨rfl, rfl, rfl, rfl⟩, Nat.zero_le _⟩
    · simp [Value.cells] at hcs
      obtain ⟨rfl, rfl, rfl⟩ := hcs
      have hz2 : zs.length = cap1 := by simpa using hz
      simp only [Prod.mk.injEq] at hx
      obtain ⟨rfl, _⟩ := hx
      refine ⟨zs, .inr ⟨_, rfl, hl, hm, hz2, hcell, hwz⟩, ?_⟩
      simp only [Rows.uptoBulk, bulk_lits, List.length_take, List.length_drop]
      omega
  simp only [List.append_nil] at hk
  have hB : Rows.uptoBulkAll _ ≤ 1048576 := of_decide_eq_true hk
  simp only [Rows.uptoBulkAll] at hB
  have hU : cap0 + cap1 ≤ 1048576 := by omega
  clear hA0 hval0
  refine (walk a0 len0 cap0 z0 a1 len1 cap1 z1 W w0 w1 hU).mono fun e W' ⟨he, bel⟩ => ?_
  subst he
  exact ⟨_, rfl, _, _, _, [], _, [], hW', trodAll_mk1 (shut_bool Try.underlying4 _), (trodAll_cons_mk (Below.trod laidOut (by kernel_rfl) (of_decide_eq_true (by kernel_rfl)) k0 bel lt0) (trodAll_cons_mk (Below.trod laidOut (by kernel_rfl) (of_decide_eq_true (by kernel_rfl)) k1 bel lt1) trodAll_mk0)), rfl, bel.frame _, fun h => by cases h⟩

theorem over : Rows.limbBytesUptoRow.holds Try.pinned (Rows.OpenSpec.upto Rows.limbBytesSpec) :=
  OpenClaim.holds_of_cond 3 Try.f3 rfl rfl rfl rfl rfl rfl rfl ⟨rfl, rfl, rfl, rfl, rfl⟩ rfl rfl rfl rfl rfl (by kernel_rfl) Try.func3 (by kernel_rfl)
    (of_decide_eq_true (by kernel_rfl)) (by unfold Func.isWrapper; first | (rw [if_pos (by decide +kernel)]; kernel_rfl) | (rw [if_neg (by decide +kernel)]; exact ⟨rfl, rfl⟩))
    (fun os started H enc _ F => lifted os started H enc F)

/-- ████ THE STATEMENT ████ -/
theorem proved : Rows.LimbBytesUptoSaid := over
end Go.Proofs.Ytaaiogpdeahaaaa.limbBytes
namespace Go.Proofs.Ytaaiogpdeahaaaa
/-- THE STATEMENT. -/
theorem limbBytesUpto_holds : Rows.LimbBytesUptoSaid := limbBytes.proved
#print axioms limbBytesUpto_holds
end Go.Proofs.Ytaaiogpdeahaaaa
