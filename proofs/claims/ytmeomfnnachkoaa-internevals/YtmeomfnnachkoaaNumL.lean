/- The number of a node in a table, which is added if it isn't there. -/
import Derived.Test.YtmeomfnnachkoaaTabL
import Derived.Deep.RegionLaw
import Derived.Maps.AppendAt
import Derived.WalkSpells
namespace Go.Proofs.Ytmeomfnnachkoaa.NumL
open Go.RowKit Go.Maps Mem NdNum TabL

/-- append onto a row of one's own, as one step of a region that draws. -/
theorem step_append_own {P : Program} {ops : Array Oper} {o : Oper} {a : Act} {w : World} {K : Act → World → Prop} {Q : Exit → Act → World → Prop} {E : Prop}
    (hg : o.guard = none) (s x : Operand) (t : TypeId) (hop : o.op = Op.call { callee := Callee.builtin Builtin.append, args := #[s, x], argTypes := #[t, t] })
    (base : Nat) (e : TypeId) (i : TypeInfo) (z : Value) (size bytes : Nat) (h1 : P.underlying t = some (.slice e)) (h2 : P.info? e = some i) (h3 : i.zero = some z) (h4 : i.size = size) (h5 : i.bytes = bytes) (h6 : z.cells.size = size) (h7 : 0 < size)
    (v : Value) (n : Nat) (xs : List Value) (hs : a.eval s = v) (hown : w.ownsRow base e size v n xs)
    (ad : Addr) (m c : Nat) (news : List Value) (hx : a.eval x = .slice (some ad) m c) (hn : news.length = m * size) (hc : ∀ j u, news[j]? = some u → w.cell? (ad.add j) = some u) (h1c : ∀ u ∈ news, u.oneCell' = true)
    (b1 : n + m ≤ maxLen) (b2 : (n + m) * bytes ≤ 140737488355328) (hbase : base ≤ w.heap.size)
    (hK : ∀ v' w', w'.ownsRow base e size v' (n + m) (xs ++ news) → w.grownBy w' v.ownBlock → (v'.ownBlock = v.ownBlock ∨ v'.ownBlock = some w.heap.size) → K (a.put o.dst v') w') :
    if Region.wanted o (yielded ops a.tmps) = true then Oper.wp P o a w K Q else E := by
  have hw : Region.wanted o (yielded ops a.tmps) = true := by simp [Region.wanted, hg]
  rw [if_pos hw]
  obtain ⟨v', w', hrun, r1, r2, _, r3⟩ := run_append_own_at (P := P) w base t o.type e i z size bytes h1 h2 h3 h4 h5 h6 h7 v n xs hown ad m c news hn hc h1c b1 b2 hbase
  unfold Oper.wp
  simp [execOp, hop, resolve, invoke, builtin, hs, hx, hrun, Result.andThen]
  exact hK v' w' r1 r2 r3

/-- What a call that goes on with a table leaves. -/
def Went (g r m : Nat) (N : List Nd) (w w' : World) : Prop := ∃ r' m', Tab w' g r' m' N ∧ Away g r m w w' ∧ (r' = r ∨ w.heap.size ≤ r') ∧ (m' = m ∨ w.heap.size ≤ m')
theorem tab_went {w w' : World} {g r m : Nat} {N : List Nd} (h : Tab w g r m N) (hb : Below w.heap.size w w') : Went g r m N w w' := ⟨r, m, h.below hb, away_of_below hb, .inl rfl, .inl rfl⟩
theorem cell_three_new (w : World) (a b c : Value) (t : TypeId) : (w.alloc (.cells #[a, b, c] t)).cell? ⟨w.heap.size, 0, none⟩ = some a ∧ (w.alloc (.cells #[a, b, c] t)).cell? ⟨w.heap.size, 1, none⟩ = some b ∧ (w.alloc (.cells #[a, b, c] t)).cell? ⟨w.heap.size, 2, none⟩ = some c := by
  refine ⟨?_, ?_, ?_⟩ <;> simp
/-- The node is there. -/
theorem number_in {w : World} {g r m : Nat} {N : List Nd} (h : Tab w g r m N) (n : Nd) (hw : Wf n) (hn : n ∈ N) :
    Calls Try.prog 32 #[.pointer (some ⟨g, 0, none⟩), node n] w fun e w' => e = .returned (ans (some ((N.idxOf n : Nat) + 2 : Int))) ∧ Below w.heap.size w w' := by
  obtain ⟨h0, sv, mv, h1, h2⟩ := h
  obtain ⟨c0, c1⟩ := cellsT h1
  rcases h2 with ⟨rfl, _⟩ | ⟨_, a1, a2, a3, ⟨cap, rfl⟩, a5, rfl, D, a7, a8⟩
  · simp at hn
  obtain ⟨b1, b2⟩ := (a8.2 n hw).1 hn
  have c1' := cell_alloc c1 (.cells #[.int .i64 n.1, .int .i64 n.2.1, .int .i64 n.2.2] 33)
  obtain ⟨v, ps, hrun, hv⟩ := ((a7.alloc (.cells #[.int .i64 n.1, .int .i64 n.2.1, .int .i64 n.2.2] 33)).drew).look_ok law Try.underlying52 (zeroE _) (plainElem_int Try.underlying3 (by decide)) (kl_is n hw)
  rw [b2] at hv
  obtain ⟨c, rfl, hc, _⟩ := plainElem_int_inv Try.underlying3 hv
  simp only [Prod.mk.injEq, DataW.lit.injEq, Lit.int.injEq, true_and] at hc
  obtain ⟨rfl, _⟩ := hc
  rw [b1] at hrun
  clear hv a5 a7 a8 b1 b2 h0 h1 c0 c1
  unfold node at hrun ⊢
  go_enter Try.func32, Try.ntmps32
  go_wp2
  go_region
  all_goals go_wp2
  all_goals go_ret2
  all_goals exact ⟨rfl, ((Below.refl _ _).alloc (Nat.le_refl _) _).drew⟩
/-- What is looked up where the node isn't there. -/
theorem look_out {w : World} {m k : Nat} {N : List Nd} {D : DataW Unit} (n : Nd) (hw : Wf n) (hn : n ∉ N) (a7 : w.ownsMap Try.prog 33 (plainElem Try.prog 3) m k D) (a8 : MapOf D N) :
    (Instr.lookup 52 (.map (some m)) (.agg #[.int .i64 n.1, .int .i64 n.2.1, .int .i64 n.2.2]) true).run Try.prog w = .ok (.tuple #[.int .i64 0, .bool false]) w := by
  obtain ⟨v, ps, hrun, hv⟩ := a7.look_ok law Try.underlying52 (zeroE _) (plainElem_int Try.underlying3 (by decide)) (kl_is n hw)
  have b1 := (a8.2 n hw).2 hn
  rw [atKey_of_not_has b1] at hv
  obtain ⟨c, rfl, hc, _⟩ := plainElem_int_inv Try.underlying3 hv
  simp only [Prod.mk.injEq, DataW.lit.injEq, Lit.int.injEq, true_and] at hc
  obtain ⟨rfl, _⟩ := hc
  rw [b1] at hrun
  exact hrun
/-- There is no room for it. -/
theorem number_full {w : World} {g r m : Nat} {N : List Nd} (h : Tab w g r m N) (n : Nd) (hw : Wf n) (hn : n ∉ N) (hf : 19998 ≤ N.length) :
    Calls Try.prog 32 #[.pointer (some ⟨g, 0, none⟩), node n] w fun e w' => e = .returned (ans none) ∧ Below w.heap.size w w' := by
  have h' := h.below (((Below.refl _ w).alloc (Nat.le_refl _) (.cells #[.int .i64 n.1, .int .i64 n.2.1, .int .i64 n.2.2] 33)).drew)
  have cL := len_any h'
  obtain ⟨h0, sv, mv, h1, h2⟩ := h
  obtain ⟨c0, c1⟩ := cellsT h1
  rcases h2 with ⟨rfl, _⟩ | ⟨_, a1, a2, a3, ⟨cap, rfl⟩, a5, rfl, D, a7, a8⟩
  · simp at hf
  have c1' := cell_alloc c1 (.cells #[.int .i64 n.1, .int .i64 n.2.1, .int .i64 n.2.2] 33)
  have hrun := look_out n hw hn ((a7.alloc (.cells #[.int .i64 n.1, .int .i64 n.2.1, .int .i64 n.2.2] 33)).drew) a8
  obtain ⟨L, eL⟩ : ∃ L : Int, (N.length : Int) + 2 = L := ⟨_, rfl⟩
  rw [eL] at cL
  have hL : 20000 ≤ L := by omega
  clear eL h' a5 a7 a8 h0 h1 c0 c1 hn hw
  unfold node
  go_enter Try.func32, Try.ntmps32
  go_wp2
  go_region
  all_goals go_wp2_with (go_at_call 13; refine cL.mono ?_; rintro e w1 ⟨rfl, hw1⟩; have hw2 := hw1.symm; clear hw1; subst hw2)
  all_goals go_ret2
  all_goals exact ⟨rfl, ((Below.refl _ _).alloc (Nat.le_refl _) _).drew⟩
theorem infoN : (Try.prog.info? 33).map (fun i => (i.zero, i.size, i.bytes)) = some (some (node (0, 0, 0)), 3, 24) := by kernel_rfl
theorem own_slice {w : World} {base : Nat} {e : TypeId} {size : Nat} {v : Value} {n : Nat} {xs : List Value} (h : w.ownsRow base e size v n xs) (hn : 0 < n) : ∃ g cap, v = .slice (some ⟨g, 0, none⟩) n cap := by
  rcases h.2 with ⟨_, h0⟩ | ⟨g, cap, _, h', _⟩
  · omega
  · exact ⟨g, cap, h'⟩
theorem news_at (w : World) (a b c : Value) (t : TypeId) : ∀ j u, [a, b, c][j]? = some u → (w.alloc (.cells #[a, b, c] t)).cell? ((⟨w.heap.size, 0, none⟩ : Addr).add j) = some u := by
  intro j u h
  obtain ⟨h0, h1, h2⟩ := cell_three_new w a b c t
  rw [Go.WideShapes.add_plain]
  match j, h with
  | 0, h => simp at h; subst h; exact h0
  | 1, h => simp at h; subst h; exact h1
  | 2, h => simp at h; subst h; exact h2
  | j + 3, h => simp at h
theorem away_grown {g r m : Nat} {w W w3 : World} {row : Option Nat} (h : Away g r m w W) (hg : W.grownBy w3 row) (hr : ∀ k, row = some k → k = r ∨ k = m ∨ w.heap.size ≤ k) : Away g r m w w3 :=
  ⟨hg.os.trans h.os, hg.tape.trans h.tape, hg.output.trans h.output, Nat.le_trans h.size hg.size, fun k hk h1 h2 h3 => (hg.block k (Nat.lt_of_lt_of_le hk h.size) (fun e => by rcases hr k e.symm with h4 | h4 | h4 <;> omega)).trans (h.block k hk h1 h2 h3)⟩
theorem away_set {g r m : Nat} {w W : World} (h : Away g r m w W) (i : Nat) (v : Value) : Away g r m w (W.setCell ⟨g, i, none⟩ v) :=
  ⟨h.os, h.tape, h.output, by simpa [World.setCell] using h.size, fun k hk h1 h2 h3 => (Below.heap_setCell W _ v k h1).trans (h.block k hk h1 h2 h3)⟩
theorem grown_set (W : World) (g i : Nat) (v : Value) : W.grownBy (W.setCell ⟨g, i, none⟩ v) (some g) :=
  ⟨rfl, rfl, rfl, by simp [World.setCell], fun k _ hk => Below.heap_setCell W _ v k (fun e => hk (by rw [e]))⟩
/-- The table behind the append. -/
theorem added {w W w3 : World} {g r m m' gb cb : Nat} {N : List Nd} {n : Nd} {sv : Value} {row : Option Nat} {D : DataW Unit} (hi : InForm (N ++ [n])) (hA : Away g r m w W) (hm' : m' = m ∨ w.heap.size ≤ m')
    (hg : W.heap[g]? = some (boxT sv (.map (some m')))) (hne : m' ≠ g) (hM : W.ownsMap Try.prog 33 (plainElem Try.prog 3) m' (N.length + 1) D) (hD : MapOf D (N ++ [n])) (hrow : row = some r ∧ r ≠ g ∧ r ≠ m' ∨ row = none)
    (hown : w3.ownsRow 0 33 3 (.slice (some ⟨gb, 0, none⟩) (N.length + 1) cb) (N.length + 1) (flat N ++ [.int .i64 n.1, .int .i64 n.2.1, .int .i64 n.2.2])) (hgrow : W.grownBy w3 row) (hloc : some gb = row ∨ some gb = some W.heap.size) :
    Went g r m (N ++ [n]) w (w3.setCell ⟨g, 0, none⟩ (.slice (some ⟨gb, 0, none⟩) (N.length + 1) cb)) := by
  have hgl := heap_lt hg
  have hml := hM.lt
  have hS := hA.size
  have hrg : row ≠ some g := by rcases hrow with ⟨rfl, h, _⟩ | rfl <;> simp; exact h
  have hrm : row ≠ some m' := by rcases hrow with ⟨rfl, _, h⟩ | rfl <;> simp; exact h
  have g3 : w3.heap[g]? = some (boxT sv (.map (some m'))) := by rw [hgrow.block g hgl (fun e => hrg e.symm)]; exact hg
  have hgbg : gb ≠ g := by
    rcases hloc with h | h
    · rintro rfl; exact hrg h.symm
    · simp at h; omega
  have hgbm : gb ≠ m' := by
    rcases hloc with h | h
    · rintro rfl; exact hrm h.symm
    · simp at h; omega
  have hgbr : gb = r ∨ w.heap.size ≤ gb := by
    rcases hloc with h | h
    · rcases hrow with ⟨rfl, _⟩ | rfl
      · left; simpa using h
      · simp at h
    · right; simp at h; omega
  have eL : (N ++ [n]).length = N.length + 1 := by simp
  have eF : flat (N ++ [n]) = flat N ++ [.int .i64 n.1, .int .i64 n.2.1, .int .i64 n.2.2] := by rw [flat_append]; rfl
  refine ⟨gb, m', ⟨hi, _, _, ?_, .inr ⟨by simp, hgbg, hne, hgbm, ⟨cb, by rw [eL]⟩, ?_, rfl, D, ?_, hD⟩⟩, ?_, hgbr, hm'⟩
  · rw [heap_setCell_same w3 g 0 _ _ _ g3]; rfl
  · rw [eL, eF]
    exact hown.kept (grown_set _ _ _ _) (.inr (by simpa [Value.ownBlock] using hgbg))
  · rw [eL]
    exact (hM.kept hgrow (fun e => hrm e.symm)).kept (grown_set _ _ _ _) (by simpa using hne)
  · refine away_set (away_grown hA hgrow ?_) _ _
    intro k hk
    rcases hrow with ⟨rfl, _⟩ | rfl
    · left; simp at hk; exact hk.symm
    · simp at hk
/-- It is added behind others. -/
theorem number_add {w : World} {g r m : Nat} {N : List Nd} (h : Tab w g r m N) (n : Nd) (hw : Wf n) (hn : n ∉ N) (hf : N.length < 19998) (hp : N ≠ []) (hi : InForm (N ++ [n])) :
    Calls Try.prog 32 #[.pointer (some ⟨g, 0, none⟩), node n] w fun e w' => e = .returned (ans (some ((N.length : Int) + 2))) ∧ Went g r m (N ++ [n]) w w' := by
  have h' := h.below (((Below.refl _ w).alloc (Nat.le_refl _) (.cells #[.int .i64 n.1, .int .i64 n.2.1, .int .i64 n.2.2] 33)).drew)
  have cL := len_any h'
  obtain ⟨h0, sv, mv, h1, h2⟩ := h
  obtain ⟨c0, c1⟩ := cellsT h1
  rcases h2 with ⟨rfl, _⟩ | ⟨_, a1, a2, a3, ⟨cap, rfl⟩, a5, rfl, D, a7, a8⟩
  · exact absurd rfl hp
  have c1' := cell_alloc c1 (.cells #[.int .i64 n.1, .int .i64 n.2.1, .int .i64 n.2.2] 33)
  have a7' := (a7.alloc (.cells #[.int .i64 n.1, .int .i64 n.2.1, .int .i64 n.2.2] 33)).drew
  have hrun := look_out n hw hn a7' a8
  obtain ⟨L, eL⟩ : ∃ L : Int, (N.length : Int) + 2 = L := ⟨_, rfl⟩
  rw [eL] at cL ⊢
  have hL : L < 20000 := by omega
  have hL0 : 0 ≤ L := by omega
  have a8' := a8.add hw hn
  rw [eL] at a8'
  obtain ⟨w2, hrun2, hown2, hgrow2⟩ := (a7'.drew).update law Try.underlying52 (by unfold maxLen; omega) (kl_is n hw) (plainElem_int Try.underlying3 (wf_of (a := L) (by omega) (by omega)))
  have EL : Hid ((N.length : Int) + 2 = L) := eL
  have qm := fun (w : World) => run_eql_map_nil (P := Try.prog) w _ _ _ (some m) Try.underlying52
  simp only [Option.isNone_some] at qm
  obtain ⟨i0, hi0, hz0, hz1, hz2⟩ := info_parts infoN
  have hlt := heap_lt h1
  have hblk := World.grownBy.block hgrow2
  have g2 : w2.heap[g]? = some (boxT (.slice (some ⟨r, 0, none⟩) N.length cap) (.map (some m))) := by
    rw [hblk g (by simp; omega) (by simp; omega)]
    exact (Below.heap_alloc w _ _ hlt).trans h1
  have n2 : w2.heap[w.heap.size]? = some (.cells #[.int .i64 n.1, .int .i64 n.2.1, .int .i64 n.2.2] 33) := by
    rw [hblk _ (by simp) (by have := a7.lt; simp; omega)]
    exact heap_alloc_new w _
  have n3 := boxN_cells n2
  obtain ⟨e0, e1, e2⟩ := n3
  have e3 := (cellsT g2).1
  have e4 := frozenT g2
  have o2 : w2.ownsRow 0 33 3 (.slice (some ⟨r, 0, none⟩) N.length cap) N.length (flat N) := by
    have a5' : (w.alloc (.cells #[.int .i64 n.1, .int .i64 n.2.1, .int .i64 n.2.2] 33)).drew.drew.ownsRow 0 33 3 (.slice (some ⟨r, 0, none⟩) N.length cap) N.length (flat N) := a5.alloc _
    exact a5'.kept hgrow2 (.inr (by simp [Value.ownBlock]; exact a3))
  have lt2 := heap_lt g2
  have GA : Hid (w2.grownBy (w2.alloc (.cells #[.int .i64 n.1, .int .i64 n.2.1, .int .i64 n.2.2] 33)).drew none) := ⟨rfl, rfl, rfl, by simp, fun k hk _ => Below.heap_alloc w2 _ k hk⟩
  have e3' := cell_alloc e3 (.cells #[.int .i64 n.1, .int .i64 n.2.1, .int .i64 n.2.2] 33)
  have HF : Hid (∃ _ : InForm (N ++ [n]), w2.ownsMap Try.prog 33 (plainElem Try.prog 3) m (N.length + 1) (D.put (kl n) (.lit (.int .i64 L))) ∧ MapOf (D.put (kl n) (.lit (.int .i64 L))) (N ++ [n])) := ⟨hi, hown2, a8'⟩
  have HG : Hid ((w.alloc (.cells #[.int .i64 n.1, .int .i64 n.2.1, .int .i64 n.2.2] 33)).drew.drew.grownBy w2 (some m)) := hgrow2
  clear eL h' a7 a8 c0 c1 hn hw a7' hi hown2 a8' hgrow2 hblk
  unfold node at hrun2 ⊢
  go_enter Try.func32, Try.ntmps32
  go_wp2
  go_region
  go_wp2_with (go_at_call 13; refine cL.mono ?_; rintro e w1 ⟨rfl, hw1⟩; have hw2 := hw1.symm; clear hw1; subst hw2)
  go_region
  go_wp2
  go_region_law (refine step_append_own rfl (.tmp 43) (.tmp 45) 25 rfl 0 33 i0 (node (0, 0, 0)) 3 24 Try.underlying25 hi0 hz0 hz1 hz2 rfl (by decide) (.slice (some ⟨r, 0, none⟩) N.length cap) N.length (flat N) rfl (o2.alloc _) ⟨w2.heap.size, 0, none⟩ 1 1 [.int .i64 n.1, .int .i64 n.2.1, .int .i64 n.2.2] rfl rfl (news_at w2 _ _ _ _) (by simp [Value.oneCell']) (by unfold maxLen; omega) (by omega) (Nat.zero_le _) ?_; intro v3 w3 hown3 hgrow3 hloc3; obtain ⟨gb, cb, rfl⟩ := own_slice hown3 (by omega); have g3 : w3.heap[g]? = some (boxT (.slice (some ⟨r, 0, none⟩) N.length cap) (.map (some m))) := (by rw [hgrow3.block g (by simp; omega) (by simp [Value.ownBlock]; omega)]; exact (Below.heap_alloc w2 _ _ lt2).trans g2); have f3 := (cellsT g3).1; have f4 := frozenT g3)
  all_goals go_wp2
  all_goals go_ret2
  all_goals refine ⟨rfl, ?_⟩
  all_goals exact added HF.out.1 (W := (w2.alloc (.cells #[.int .i64 n.1, .int .i64 n.2.1, .int .i64 n.2.2] 33)).drew) (sv := .slice (some ⟨r, 0, none⟩) N.length cap) (away_grown (away_grown (away_of_below (((Below.refl _ w).alloc (Nat.le_refl _) _).drew.drew)) HG.out (fun k hk => .inr (.inl (by simp at hk; omega)))) GA.out (fun k hk => by simp at hk)) (.inl rfl) ((Below.heap_alloc w2 _ _ lt2).trans g2) a2 (HF.out.2.1.alloc _) HF.out.2.2 (.inl ⟨rfl, a1, a3⟩) hown3 hgrow3 hloc3
/-- The first one of a table. -/
theorem number_first {w : World} {g r m : Nat} (h : Tab w g r m []) (n : Nd) (hw : Wf n) (hi : InForm [n]) :
    Calls Try.prog 32 #[.pointer (some ⟨g, 0, none⟩), node n] w fun e w' => e = .returned (ans (some 2)) ∧ Went g r m [n] w w' := by
  have h' := h.below (((Below.refl _ w).alloc (Nat.le_refl _) (.cells #[.int .i64 n.1, .int .i64 n.2.1, .int .i64 n.2.2] 33)).drew)
  have cL := len_any h'
  obtain ⟨h0, sv, mv, h1, h2⟩ := h
  obtain ⟨rfl, rfl⟩ : sv = .slice none 0 0 ∧ mv = .map none := by
    rcases h2 with ⟨_, h3, h4⟩ | ⟨h5, _⟩
    · exact ⟨h3, h4⟩
    · exact absurd rfl h5
  obtain ⟨c0, c1⟩ := cellsT h1
  have hlt := heap_lt h1
  have c1' := cell_alloc c1 (.cells #[.int .i64 n.1, .int .i64 n.2.1, .int .i64 n.2.2] 33)
  have hrun := fun (w : World) => Maps.look_nil (P := Try.prog) (w := w) true law Try.underlying52 (zeroE w) (kl_is n hw)
  have qm := fun (w : World) => run_eql_map_nil (P := Try.prog) w _ _ _ none Try.underlying52
  simp only [Option.isNone_none] at qm
  have hmm := @run_makeMap Try.prog
  obtain ⟨i0, hi0, hz0, hz1, hz2⟩ := info_parts infoN
  obtain ⟨W0, eW0⟩ : ∃ W0, (w.alloc (.cells #[.int .i64 n.1, .int .i64 n.2.1, .int .i64 n.2.2] 33)).alloc (.map #[] 0) = W0 := ⟨_, rfl⟩
  have z1 : (w.alloc (.cells #[.int .i64 n.1, .int .i64 n.2.1, .int .i64 n.2.2] 33)).heap.size = w.heap.size + 1 := by simp
  have zW : W0.heap.size = w.heap.size + 2 := by rw [← eW0]; simp
  have k0 : W0.heap[g]? = some (boxT (.slice none 0 0) (.map none)) := by rw [← eW0, Below.heap_alloc _ _ _ (by rw [z1]; omega), Below.heap_alloc _ _ _ hlt]; exact h1
  have k1 : W0.heap[w.heap.size]? = some (.cells #[.int .i64 n.1, .int .i64 n.2.1, .int .i64 n.2.2] 33) := by rw [← eW0, Below.heap_alloc _ _ _ (by rw [z1]; omega)]; exact heap_alloc_new w _
  have o0 : W0.ownsMap (H := Unit) Try.prog 33 (plainElem Try.prog 3) (w.heap.size + 1) 0 (.map []) := by rw [← eW0, ← z1]; exact World.ownsMap_made _ _ _ _
  have A0 : Away g r m w W0 := by rw [← eW0]; exact away_of_below (((Below.refl _ w).alloc (Nat.le_refl _) _).alloc (by simp) _)
  obtain ⟨f0, f1⟩ := cellsT k0
  have ff := frozenT k0
  obtain ⟨W1, eW1⟩ : ∃ W1, W0.setCell ⟨g, 1, none⟩ (.map (some (w.heap.size + 1))) = W1 := ⟨_, rfl⟩
  have x0 : W1.heap[g]? = some (boxT (.slice none 0 0) (.map (some (w.heap.size + 1)))) := by rw [← eW1, heap_setCell_same W0 g 1 _ _ _ k0]; rfl
  have x1 : W1.heap[w.heap.size]? = some (.cells #[.int .i64 n.1, .int .i64 n.2.1, .int .i64 n.2.2] 33) := by rw [← eW1, Below.heap_setCell _ _ _ _ (by show w.heap.size ≠ g; omega)]; exact k1
  have x2 : W1.drew.drew.ownsMap (H := Unit) Try.prog 33 (plainElem Try.prog 3) (w.heap.size + 1) 0 (.map []) := by rw [← eW1]; exact (o0.kept (grown_set _ _ _ _) (by simp; omega)).drew.drew
  have A1 : Away g r m w W1 := by rw [← eW1]; exact away_set A0 _ _
  have zW1 : W1.heap.size = w.heap.size + 2 := by rw [← eW1]; simpa [World.setCell] using zW
  obtain ⟨w2, hrun2, hown2, hgrow2⟩ := x2.update law Try.underlying52 (by unfold maxLen; omega) (kl_is n hw) (plainElem_int Try.underlying3 (wf_of (a := 2) (by omega) (by omega)))
  have y0 : w2.heap[g]? = some (boxT (.slice none 0 0) (.map (some (w.heap.size + 1)))) := by rw [hgrow2.block g (by show g < W1.heap.size; omega) (by simp; omega)]; exact x0
  have y1 : w2.heap[w.heap.size]? = some (.cells #[.int .i64 n.1, .int .i64 n.2.1, .int .i64 n.2.2] 33) := by rw [hgrow2.block _ (by show w.heap.size < W1.heap.size; omega) (by simp)]; exact x1
  have A2 : Away g r m w w2 := away_grown (W := W1.drew.drew) ⟨A1.os, A1.tape, A1.output, A1.size, A1.block⟩ hgrow2 (fun k hk => .inr (.inr (by simp at hk; omega)))
  have lt2 := heap_lt y0
  have GA : Hid (w2.grownBy (w2.alloc (.cells #[.int .i64 n.1, .int .i64 n.2.1, .int .i64 n.2.2] 33)).drew none) := ⟨rfl, rfl, rfl, by simp, fun k hk _ => Below.heap_alloc w2 _ k hk⟩
  have HA : Hid (Away g r m w w2) := A2
  have HM := mapOf_nil.add hw (by simp)
  have HF : Hid (∃ _ : InForm ([] ++ [n]), w2.ownsMap Try.prog 33 (plainElem Try.prog 3) (w.heap.size + 1) 1 (DataW.put (.map []) (kl n) (.lit (.int .i64 2))) ∧ MapOf (DataW.put (.map []) (kl n) (.lit (.int .i64 2))) ([] ++ [n])) := ⟨hi, hown2, HM⟩
  obtain ⟨b0, b1, b2⟩ := boxN_cells x1
  obtain ⟨d0, d1⟩ := cellsT x0
  obtain ⟨e0, e1, e2⟩ := boxN_cells y1
  have e3 := (cellsT y0).1
  have e3' := cell_alloc e3 (.cells #[.int .i64 n.1, .int .i64 n.2.1, .int .i64 n.2.2] 33)
  have y0H : Hid (w2.heap[g]? = some (boxT (.slice none 0 0) (.map (some (w.heap.size + 1))))) := y0
  clear hi hown2 hgrow2 x2 A1 A0 A2 HM k0 k1 o0 x0 x1 y0 y1 h1 h' h2 h0 hw
  unfold node at hrun2 hrun ⊢
  go_enter Try.func32, Try.ntmps32
  go_wp2
  go_region
  go_wp2_with (go_at_call 13; refine cL.mono ?_; rintro e w1 ⟨rfl, hw1⟩; have hw2 := hw1.symm; clear hw1; subst hw2)
  go_region
  go_wp2
  go_region_law (refine step_append_own rfl (.tmp 43) (.tmp 45) 25 rfl 0 33 i0 (node (0, 0, 0)) 3 24 Try.underlying25 hi0 hz0 hz1 hz2 rfl (by decide) (.slice none 0 0) 0 [] rfl (World.ownsRow_nil _ _ _ _) ⟨w2.heap.size, 0, none⟩ 1 1 [.int .i64 n.1, .int .i64 n.2.1, .int .i64 n.2.2] rfl rfl (news_at w2 _ _ _ _) (by simp [Value.oneCell']) (by unfold maxLen; omega) (by omega) (Nat.zero_le _) ?_; intro v3 w3 hown3 hgrow3 hloc3; obtain ⟨gb, cb, rfl⟩ := own_slice hown3 (by omega); have g3 : w3.heap[g]? = some (boxT (.slice none 0 0) (.map (some (w.heap.size + 1)))) := (by rw [hgrow3.block g (by simp; omega) (by simp [Value.ownBlock])]; exact (Below.heap_alloc w2 _ _ lt2).trans y0H.out); have f3 := (cellsT g3).1; have f4 := frozenT g3)
  all_goals go_wp2
  all_goals go_ret2
  all_goals refine ⟨rfl, ?_⟩
  all_goals exact added (N := []) HF.out.1 (W := (w2.alloc (.cells #[.int .i64 n.1, .int .i64 n.2.1, .int .i64 n.2.2] 33)).drew) (sv := .slice none 0 0) (away_grown HA.out GA.out (fun k hk => by simp at hk)) (.inr (by omega)) ((Below.heap_alloc w2 _ _ lt2).trans y0H.out) (by omega) (HF.out.2.1.alloc _) HF.out.2.2 (.inr rfl) hown3 hgrow3 hloc3
/-- All ways. -/
theorem number_any {w : World} {g r m : Nat} {N : List Nd} (h : Tab w g r m N) (n : Nd) (hw : Wf n) (hi : InForm (num N n).1) :
    Calls Try.prog 32 #[.pointer (some ⟨g, 0, none⟩), node n] w fun e w' => e = .returned (ans (num N n).2) ∧ Went g r m (num N n).1 w w' := by
  unfold num at hi ⊢
  by_cases h1 : n ∈ N
  · rw [if_pos h1]
    exact (number_in h n hw h1).mono fun e w' ⟨he, hb⟩ => ⟨he, tab_went h hb⟩
  · rw [if_neg h1] at hi ⊢
    by_cases h2 : 19998 ≤ N.length
    · rw [if_pos h2]
      exact (number_full h n hw h1 h2).mono fun e w' ⟨he, hb⟩ => ⟨he, tab_went h hb⟩
    · rw [if_neg h2] at hi ⊢
      by_cases h3 : N = []
      · subst h3
        exact number_first h n hw hi
      · exact number_add h n hw h1 (by omega) h3 hi
end Go.Proofs.Ytmeomfnnachkoaa.NumL
