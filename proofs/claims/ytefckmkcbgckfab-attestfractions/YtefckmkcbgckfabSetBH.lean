/- Rows of numbers of one's own: laid out, grown by one; small facts. -/
import Derived.Test.YtefckmkcbgckfabSetBF
import Derived.Laws.OwnMore
namespace Go.Proofs.Ytefckmkcbgckfab.FrR
open Go.RowKit Mem LimbNum Limb1 DigNum DigL StrL TxN ShelfC TextL RText RatL RatM RatN RatW RefR RefT RefU InvL DivL QNum CmpL CmqL RefX RefY RefZ FloL Mk5 AddN JoinL AddW AddV AddR FldL SubL NmL MulN MulW MulL PaL PtL PbL Law5 Aw5 VqN BkL RatF RatO ByNum AppZ FrN

/-- The four cells of a number. -/
abbrev C4 := Bool × Int × Int × Option Addr
def cl4 (c : C4) : List Value := [.bool c.1, .int .u64 c.2.1, .int .u64 c.2.2.1, .pointer c.2.2.2]
def ag4 (c : C4) : Value := .agg #[.bool c.1, .int .u64 c.2.1, .int .u64 c.2.2.1, .pointer c.2.2.2]
def flat : List C4 → List Value
  | [] => []
  | c :: t => .bool c.1 :: .int .u64 c.2.1 :: .int .u64 c.2.2.1 :: .pointer c.2.2.2 :: flat t
theorem flat_app (a b : List C4) : flat (a ++ b) = flat a ++ flat b := by
  induction a with
  | nil => rfl
  | cons c t ih => simp [flat, ih]
theorem flat_len (l : List C4) : (flat l).length = l.length * 4 := by
  induction l with
  | nil => rfl
  | cons c t ih => simp [flat, ih]; omega
theorem flat_at : ∀ (l : List C4) (k : Nat) (c : C4), l[k]? = some c → (flat l)[k * 4]? = some (.bool c.1) ∧ (flat l)[k * 4 + 1]? = some (.int .u64 c.2.1) ∧ (flat l)[k * 4 + 2]? = some (.int .u64 c.2.2.1) ∧ (flat l)[k * 4 + 3]? = some (.pointer c.2.2.2)
  | [], k, c, h => by simp at h
  | a :: t, 0, c, h => by
    simp at h
    subst h
    exact ⟨rfl, rfl, rfl, rfl⟩
  | a :: t, k + 1, c, h => by
    have := flat_at t k c (by simpa using h)
    have e : ∀ i, (flat (a :: t))[(k + 1) * 4 + i]? = (flat t)[k * 4 + i]? := fun i => by
      rw [show (k + 1) * 4 + i = (k * 4 + i) + 4 by omega]
      rfl
    exact ⟨(e 0).trans this.1, (e 1).trans this.2.1, (e 2).trans this.2.2.1, (e 3).trans this.2.2.2⟩
theorem flat_cell (l : List C4) : ∀ u ∈ flat l, NoLimb u := by
  induction l with
  | nil => intro u hu; simp [flat] at hu
  | cons c t ih =>
    intro u hu
    simp [flat] at hu
    rcases hu with rfl | rfl | rfl | rfl | h
    · intro k z e; simp at e
    · intro k z e; simp at e; exact e.1.symm
    · intro k z e; simp at e; exact e.1.symm
    · intro k z e; simp at e
    · exact ih u h
theorem flat_pl (l : List C4) : PlL (flat l) := by
  refine ⟨flat_cell l, fun u hu => ?_⟩
  cases l with
  | nil => simp [flat] at hu
  | cons c t =>
    simp [flat] at hu
    subst hu
    intro o n c e
    simp at e
/-- K numbers in the block g. -/
def RowG (W : World) (g K : Nat) (E : Nat → Nm) : Prop := g < W.heap.size ∧ ∀ k, k < K → ∃ b A L p, W.cell? ⟨g, k * 4, none⟩ = some (.bool b) ∧ W.cell? ⟨g, k * 4 + 1, none⟩ = some (.int .u64 A) ∧ W.cell? ⟨g, k * 4 + 2, none⟩ = some (.int .u64 L) ∧ W.cell? ⟨g, k * 4 + 3, none⟩ = some (.pointer p) ∧ IsR W (.agg #[.bool b, .int .u64 A, .int .u64 L, .pointer p]) (E k)
theorem RowG.below {W W' : World} {g K : Nat} {E : Nat → Nm} (h : RowG W g K E) (hb : Below W.heap.size W W') : RowG W' g K E := by
  refine ⟨Nat.lt_of_lt_of_le h.1 hb.size, fun k hk => ?_⟩
  obtain ⟨b, A, L, p, a0, a1, a2, a3, hi⟩ := h.2 k hk
  have kc : ∀ {p : Addr} {v : Value}, W.cell? p = some v → W'.cell? p = some v := fun {p v} h => by rw [hb.cell (World.block_lt_of_cell? W p h)]; exact h
  exact ⟨b, A, L, p, kc a0, kc a1, kc a2, kc a3, hi.below hb⟩
theorem row_of_owns {W : World} {B g K c : Nat} {cs : List C4} {E : Nat → Nm} (h : W.ownsRow B 28 4 (.slice (some ⟨g, 0, none⟩) K c) K (flat cs)) (hl : cs.length = K) (hi : ∀ k d, cs[k]? = some d → IsR W (ag4 d) (E k)) : RowG W g K E := by
  have hlt : g < W.heap.size := by
    rcases h.2 with ⟨e, _⟩ | ⟨g', cap, cur, e, _, hg, _⟩
    · simp at e
    · simp at e
      obtain ⟨⟨rfl, _⟩, _⟩ := e
      exact in_heap hg
  refine ⟨hlt, fun k hk => ?_⟩
  obtain ⟨d, hd⟩ : ∃ d, cs[k]? = some d := ⟨cs[k]'(by omega), List.getElem?_eq_getElem (by omega)⟩
  obtain ⟨f0, f1, f2, f3⟩ := flat_at cs k d hd
  exact ⟨d.1, d.2.1, d.2.2.1, d.2.2.2, (h.cellAt _ (by omega)).trans f0, (h.cellAt _ (by omega)).trans f1, (h.cellAt _ (by omega)).trans f2, (h.cellAt _ (by omega)).trans f3, hi k d hd⟩
theorem owns_lit {W : World} {B g : Nat} {cs : List C4} (hk : W.heap[g]? = some (.cells (flat cs).toArray 28)) (hB : B ≤ g) (hm : cs.length ≤ maxLen) : W.ownsRow B 28 4 (.slice (some ⟨g, 0, none⟩) cs.length cs.length) cs.length (flat cs) :=
  ⟨flat_len cs, .inr ⟨g, cs.length, _, rfl, hB, hk, Nat.le_refl _, hm, by simp [flat_len], by rw [← flat_len]; simp⟩⟩
theorem blk_lit {W : World} {g n : Nat} {cs : List C4} (hk : W.heap[g]? = some (.cells (flat cs).toArray 28)) : BlkZ W (.slice (some ⟨g, 0, none⟩) n n) := by
  intro g' hg
  simp only [Value.ownBlock, Option.some.injEq] at hg
  subst hg
  exact ⟨_, _, hk, by simpa using flat_pl cs⟩
theorem BlkZ.below {w w' : World} {v : Value} (h : BlkZ w v) (hb : Below w.heap.size w w') : BlkZ w' v := h.kept (fun g hg => by
  obtain ⟨cur, e, h1, _⟩ := h g hg
  exact hb.block g (in_heap h1))
theorem add_at (g m : Nat) : (⟨g, 0, none⟩ : Addr).add m = ⟨g, 0 + m, none⟩ := by
  unfold Addr.add
  split
  · rename_i h; rw [h]
  · rfl
theorem news_at (w : World) (cs : Array Value) (t : TypeId) (l : List Value) (hl : cs.toList = l) : ∀ j u, l[j]? = some u → (w.alloc (.cells cs t)).cell? ((⟨w.heap.size, 0, none⟩ : Addr).add j) = some u := by
  intro j u h
  rw [add_at]
  have := heap_alloc_new w (.cells cs t)
  simp only [World.cell?, this, Nat.zero_add]
  subst hl
  simpa using h
theorem info4 : (Try.prog.info? 28).map (fun i => (i.zero, i.size, i.bytes)) = some (some (.agg #[.bool false, .int .u64 0, .int .u64 0, .pointer none]), 4, 32) := by kernel_rfl
theorem pz4 : ∀ u ∈ (.agg #[.bool false, .int .u64 0, .int .u64 0, .pointer none] : Value).cells.toList, NoLimb u := by
  intro u hu k z e
  simp [Value.cells] at hu
  rcases hu with rfl | rfl | rfl | rfl <;> simp at e <;> exact e.1.symm
theorem owns_slice {W : World} {B K : Nat} {v : Value} {xs : List Value} (h : W.ownsRow B 28 4 v K xs) (hK : 0 < K) : ∃ g c, v = .slice (some ⟨g, 0, none⟩) K c := by
  rcases h.2 with ⟨_, e⟩ | ⟨g, cap, cur, e, _⟩
  · omega
  · exact ⟨g, cap, e⟩
theorem fits_flo {p : Nm} {k : Nat} (h : Fits p k) (hk : 1 ≤ k) : Fits (floM p) (k + 1) := by
  have hle : floN p.b p.n p.d ≤ sumV false false p.n 1 := by
    have : p.n / p.d ≤ p.n := Nat.div_le_self _ _
    unfold floN sumV
    split <;> simp <;> omega
  refine ⟨Nat.one_pos, ?_, ?_⟩
  · exact Nat.le_trans (nb_mono _ _ hle) (sumV_bits _ _ _ _ _ h.2.1 (nb_lt _ _ (Nat.one_lt_two_pow (by omega))))
  · exact nb_lt _ _ (Nat.one_lt_two_pow (by omega))
theorem fits_inv {p : Nm} {k : Nat} (h : Fits p k) (hn : p.n ≠ 0) : Fits (invM p) k := ⟨Nat.pos_of_ne_zero hn, h.2.2, h.2.1⟩
theorem cmp_nil (w : World) : Calls Try.prog 19 #[.slice none 0 0, .slice none 0 0] w fun e w' => e = .returned (.int .i64 0) ∧ Below w.heap.size w w' := by
  have h0 : Lies w none 0 (ints .u32 []) := ⟨by simp [ints], Nat.zero_le _, fun _ => rfl, fun h => by simp [ints] at h⟩
  have hs : Small [] := fun x hx => by simp at hx
  exact Limb2.cmp_any [] [] none none 0 0 w h0 h0 hs hs
end Go.Proofs.Ytefckmkcbgckfab.FrR
