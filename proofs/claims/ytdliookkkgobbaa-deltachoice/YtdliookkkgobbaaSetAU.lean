/- Append to a row of one's own whose block is known whole: each of its cells is no limb, the first is no slice; Layer 7: rows of pairs of one's own, the program's beside the reference's; Layer 7's statements lean on: lists; DeltaChoice: the walk. -/
import Derived.Test.YtdliookkkgobbaaSetAS
import Derived.Maps.AppendAt
import Derived.Test.YtdliookkkgobbaaSetAT
/- Append to a row of one's own whose block is known whole: each of its cells is no limb, the first is no slice. -/
namespace Go.Proofs.Ytdliookkkgobbaa.AppZ
open Go.RowKit Go.Maps Mem LimbNum NmL

/-- No limb. -/
def NoLimb (u : Value) : Prop := ∀ k z, u = .int k z → k = .u64
def NoSlice (u : Value) : Prop := ∀ o n c, u ≠ .slice o n c
/-- No cell is a limb, the first is no slice. -/
def PlL (l : List Value) : Prop := (∀ u ∈ l, NoLimb u) ∧ ∀ u, l[0]? = some u → NoSlice u
theorem PlL.app {a b : List Value} (ha : PlL a) (h0 : a ≠ []) (hb : ∀ u ∈ b, NoLimb u) : PlL (a ++ b) := by
  refine ⟨fun u hu => ?_, fun u hu => ?_⟩
  · rcases List.mem_append.1 hu with h | h
    · exact ha.1 u h
    · exact hb u h
  · rcases a with _ | ⟨x, t⟩
    · exact absurd rfl h0
    · exact ha.2 u (by simpa using hu)
theorem zeros_nl {z : Array Value} (hz : ∀ u ∈ z.toList, NoLimb u) (h0 : 0 < z.size) (n : Nat) : ∀ u ∈ (Builtin.zeroCells z n).toList, NoLimb u := by
  intro u hu
  simp only [Builtin.zeroCells, Array.toList_map, List.mem_map] at hu
  obtain ⟨i, _, rfl⟩ := hu
  have hlt : i % z.size < z.size := Nat.mod_lt _ h0
  rw [getElem!_pos z _ hlt]
  exact hz _ (Array.mem_toList_iff.2 (Array.getElem_mem hlt))
/-- The row's block holds no limb and begins with no slice. -/
def BlkZ (w : World) (v : Value) : Prop := ∀ g, v.ownBlock = some g → ∃ cur e, w.heap[g]? = some (.cells cur e (0, 0)) ∧ PlL cur.toList
theorem BlkZ.plain {w : World} {v : Value} {g : Nat} (h : BlkZ w v) (hg : v.ownBlock = some g) : Plain w g := by
  obtain ⟨cur, e, hk, hp⟩ := h g hg
  intro i u hu
  simp only [World.cell?, hk] at hu
  have hm : u ∈ cur.toList := by
    obtain ⟨hlt, e2⟩ := Array.getElem?_eq_some_iff.1 hu
    rw [← e2]
    exact Array.mem_toList_iff.2 (Array.getElem_mem hlt)
  refine ⟨hp.1 u hm, fun h0 => hp.2 u ?_⟩
  subst h0
  simpa using hu
theorem BlkZ.kept {w w' : World} {v : Value} (h : BlkZ w v) (hk : ∀ g, v.ownBlock = some g → w'.heap[g]? = w.heap[g]?) : BlkZ w' v := by
  intro g hg
  obtain ⟨cur, e, h1, h2⟩ := h g hg
  exact ⟨cur, e, (hk g hg).trans h1, h2⟩
theorem run_append_z {P : Program} (w : World) (base : Nat) (t ty e : TypeId) (i : TypeInfo) (z : Value) (size bytes : Nat) (ht : P.underlying t = some (.slice e)) (hi : P.info? e = some i) (hz : i.zero = some z)
    (hsize : i.size = size) (hby : i.bytes = bytes) (hzs : z.cells.size = size) (hsz : 0 < size)
    (v : Value) (n : Nat) (xs : List Value) (hown : w.ownsRow base e size v n xs)
    (a : Addr) (c : Nat) (news : List Value) (hl : news.length = 1 * size) (hnews : ∀ j u, news[j]? = some u → w.cell? (a.add j) = some u) (h1 : ∀ u ∈ news, u.oneCell' = true)
    (h63 : n + 1 ≤ maxLen) (hbytes : (n + 1) * bytes ≤ 140737488355328) (hbase : base ≤ w.heap.size)
    (pz : ∀ u ∈ z.cells.toList, NoLimb u) (pn : PlL news) (pb : BlkZ w v) :
    ∃ v' w', (Builtin.append_ #[t, t] ty #[v, .slice (some a) 1 c]).run P w = .ok v' w' ∧ w'.ownsRow base e size v' (n + 1) (xs ++ news) ∧ w.grownBy w' v.ownBlock ∧ BlkZ w' v' ∧ (v'.ownBlock = v.ownBlock ∨ v'.ownBlock = some w.heap.size) := by
  obtain ⟨v', w', hrun, hown', hgr, _, hblk⟩ := run_append_own_at (P := P) w base t ty e i z size bytes ht hi hz hsize hby hzs hsz v n xs hown a 1 c news hl hnews h1 h63 hbytes hbase
  refine ⟨v', w', hrun, hown', hgr, ?_, hblk⟩
  subst hsize
  subst hby
  have hsmall : n + 1 ≤ 9223372036854775807 := by simp only [maxLen] at h63; omega
  have hne : news ≠ [] := by
    intro e0
    rw [e0] at hl
    simp at hl
    omega
  have zz := fun k => zeros_nl (z := z.cells) pz (by omega) k
  have hx := hown.1
  rcases hown.2 with ⟨rfl, rfl⟩ | ⟨g, cap, cur, rfl, hbg, hg, hnc, hcm, hcs, htake⟩
  · have hr := run_append_nil (P := P) w t ty e i z ht hi hz a 1 c news hl hnews (by omega) (by omega) (by omega)
    rw [hr] at hrun
    injection hrun with ev ew
    subst ev
    subst ew
    intro g hg
    simp only [Value.ownBlock, Option.some.injEq] at hg
    subst hg
    refine ⟨_, _, heap_alloc_new w.drew _, ?_⟩
    simp only [Array.toList_append]
    exact pn.app hne (zz _)
  · obtain ⟨cur', e', hk, hp⟩ := pb g rfl
    have ec : cur' = cur := by
      have := hk.symm.trans hg
      simp at this
      exact this.1
    subst ec
    have px : ∀ u ∈ xs, NoLimb u := fun u hu => hp.1 u (by rw [← htake] at hu; exact List.mem_of_mem_take hu)
    have all : PlL (xs ++ news) := by
      by_cases h0 : xs = []
      · rw [h0, List.nil_append]; exact pn
      · refine PlL.app ⟨px, fun u hu => hp.2 u ?_⟩ h0 pn.1
        rw [← htake, List.getElem?_take] at hu
        split at hu
        · exact hu
        · simp at hu
    have ane : xs ++ news ≠ [] := by simp [hne]
    by_cases hroom : n + 1 ≤ cap
    · have hfit : n * i.size + news.length ≤ cur'.size := by rw [hl, hcs, ← Nat.add_mul]; exact Nat.mul_le_mul_right _ hroom
      have hr := run_append_room (P := P) w t ty e i ht hi g n cap cur' hg a 1 c news hl hnews h1 hroom hfit
      rw [hr] at hrun
      injection hrun with ev ew
      subst ev
      subst ew
      intro g' hg'
      simp only [Value.ownBlock, Option.some.injEq] at hg'
      subst hg'
      refine ⟨_, _, setRow_heap w g cur' _ e _ hg, ?_⟩
      rw [htake]
      simp only
      exact all.app ane (fun u hu => hp.1 u (List.mem_of_mem_drop hu))
    · have holds : ∀ j u, xs[j]? = some u → w.cell? ((⟨g, 0, none⟩ : Addr).add j) = some u := hown.cells (g := g) rfl
      have hr := run_append_grow (P := P) w t ty e i z ht hi hz ⟨g, 0, none⟩ n cap xs hown.1 holds a 1 c news hl hnews (by omega) (by omega) (growslice_fits (by omega) hbytes)
      rw [hr] at hrun
      injection hrun with ev ew
      subst ev
      subst ew
      intro g' hg'
      simp only [Value.ownBlock, Option.some.injEq] at hg'
      subst hg'
      refine ⟨_, _, heap_alloc_new w.drew _, ?_⟩
      simp only [Array.toList_append]
      exact all.app ane (zz _)
theorem wpList_append_z {P : Program} (w : World) {ops : Array Oper} {rest : List Oper} {o : Oper} {a : Act} {Q : Exit → Act → World → Prop} (hgd : o.guard = none) (s x : Operand) (t : TypeId)
    (ho : o.op = .call { callee := .builtin .append, args := #[s, x], argTypes := #[t, t] })
    (base : Nat) (e : TypeId) (i : TypeInfo) (z : Value) (size bytes : Nat) (ht : P.underlying t = some (.slice e)) (hi : P.info? e = some i) (hz : i.zero = some z)
    (hsize : i.size = size) (hby : i.bytes = bytes) (hzs : z.cells.size = size) (hsz : 0 < size)
    (v : Value) (n : Nat) (xs : List Value) (hs : a.eval s = v) (hown : w.ownsRow base e size v n xs)
    (ad : Addr) (c : Nat) (news : List Value) (hx : a.eval x = .slice (some ad) 1 c) (hl : news.length = 1 * size) (hnews : ∀ j u, news[j]? = some u → w.cell? (ad.add j) = some u) (h1 : ∀ u ∈ news, u.oneCell' = true)
    (h63 : n + 1 ≤ maxLen) (hbytes : (n + 1) * bytes ≤ 140737488355328) (hbase : base ≤ w.heap.size)
    (pz : ∀ u ∈ z.cells.toList, NoLimb u) (pn : PlL news) (pb : BlkZ w v)
    (h : ∀ v' w', w'.ownsRow base e size v' (n + 1) (xs ++ news) → w.grownBy w' v.ownBlock → BlkZ w' v' → (v'.ownBlock = v.ownBlock ∨ v'.ownBlock = some w.heap.size) → wpList P ops Q rest (a.put o.dst v') w') : wpList P ops Q (o :: rest) a w :=
  wpList_plain hgd fun _ hK => by
    obtain ⟨v', w', hr, h2, h3, h4, h5⟩ := run_append_z (P := P) w base t o.type e i z size bytes ht hi hz hsize hby hzs hsz v n xs hown ad c news hl hnews h1 h63 hbytes hbase pz pn pb
    unfold Oper.wp execOp
    simp only [ho, resolve, invoke, builtin, Sem.run_bind, Sem.run_pure, Result.andThen_ok, List.map_toArray, List.map_cons, List.map_nil, hs, hx, hr]
    exact hK _ _ (h v' w' h2 h3 h4 h5)
/-- A number stays where a row of whole blocks without limbs grows. -/
theorem lies_grown {w W : World} {g : Nat} {o : Option Addr} {c : Nat} {A : List Nat} (h : Lies w o c (ints .u32 A)) (hk : Plain w g) (hg : w.grownBy W (some g)) : Lies W o c (ints .u32 A) := by
  obtain ⟨h1, h2, h3, h4⟩ := h
  refine ⟨h1, h2, h3, fun hp => ?_⟩
  obtain ⟨b, off, rfl, hlt, hc⟩ := h4 hp
  have hne : b ≠ g := by
    rintro rfl
    have h0 := hc 0 hp
    rw [ints_get _ _ _ (by rw [ints_length] at hp; exact hp)] at h0
    have := (hk _ _ h0).1 _ _ rfl
    simp at this
  refine ⟨b, off, rfl, Nat.lt_of_lt_of_le hlt hg.size, fun i hi => ?_⟩
  rw [← hc i hi]
  simp only [World.cell?, hg.block b hlt (by simpa using hne)]
theorem IsR.grown {w W : World} {g : Nat} {v : Value} {p : Nm} (h : IsR w v p) (hk : Plain w g) (hg : w.grownBy W (some g)) : IsR W v p := by
  obtain ⟨h1, h2 | ⟨h2, g2, o1, c1, o2, c2, e, h3, h4, h5, h6, h7⟩⟩ := h
  · exact ⟨h1, .inl h2⟩
  · have hne : g2 ≠ g := by
      rintro rfl
      exact (hk _ _ h4).2 rfl _ _ _ rfl
    have hb := hg.block g2 h3 (by simpa using hne)
    refine ⟨h1, .inr ⟨h2, g2, o1, c1, o2, c2, e, Nat.lt_of_lt_of_le h3 hg.size, ?_, ?_, lies_grown h6 hk hg, lies_grown h7 hk hg⟩⟩
    · rw [← h4]; simp only [World.cell?, hb]
    · rw [← h5]; simp only [World.cell?, hb]
theorem owns_grown {w W : World} {g base : Nat} {e t : TypeId} {v : Value} {n size : Nat} {xs : List Value} {cs : Array Value} (h : w.ownsRow base e size v n xs) (hk : w.heap[g]? = some (.cells cs t)) (hne : t ≠ e) (hg : w.grownBy W (some g)) : W.ownsRow base e size v n xs := by
  refine h.kept hg ?_
  rcases h.2 with ⟨rfl, _⟩ | ⟨g', cap, cur, rfl, _, hg', _⟩
  · exact .inl rfl
  · refine .inr fun e2 => ?_
    simp only [Value.ownBlock, Option.some.injEq] at e2
    subst e2
    rw [hk] at hg'
    simp at hg'
    exact hne hg'.2
theorem IsQ.grown {w W : World} {g : Nat} {v : Value} {p : Nm} {cs : Array Value} {t : TypeId} (h : IsQ w v p) (hk : w.heap[g]? = some (.cells cs t)) (hne : t ≠ 4) (hg : w.grownBy W (some g)) : IsQ W v p := by
  obtain ⟨o1, c1, o2, c2, e, h1, h2⟩ := h
  exact ⟨o1, c1, o2, c2, e, owns_grown h1 hk hne hg, owns_grown h2 hk hne hg⟩
end Go.Proofs.Ytdliookkkgobbaa.AppZ

/- Layer 7: rows of pairs of one's own, the program's beside the reference's. -/
namespace Go.Proofs.Ytdliookkkgobbaa.LiN
open Go.RowKit Mem LimbNum Limb1 NatL GcdA RatL RatM RatN RatF RatO MulN MulW MulL RefR RefT RefU InvL DivL QNum CmpL CmqL RefX RefY RefZ FloL Mk5 AddN JoinL AddW AddV AddR FldL SubL NmL DelL DelM DelB DaL DmL DcL RcL AppZ Law5 Aw5

/-- The k-th pair of a row's cells. -/
def D8 (W : World) (xs : List Value) (k : Nat) (p : Nm × Nm) : Prop := ∃ (b1 : Bool) (A1 L1 : Int) (p1 : Option Addr) (b2 : Bool) (A2 L2 : Int) (p2 : Option Addr), xs[k * 8]? = some (.bool b1) ∧ xs[k * 8 + 1]? = some (.int .u64 A1) ∧ xs[k * 8 + 2]? = some (.int .u64 L1) ∧ xs[k * 8 + 3]? = some (.pointer p1) ∧ xs[k * 8 + 4]? = some (.bool b2) ∧ xs[k * 8 + 5]? = some (.int .u64 A2) ∧ xs[k * 8 + 6]? = some (.int .u64 L2) ∧ xs[k * 8 + 7]? = some (.pointer p2) ∧ IsR W (.agg #[.bool b1, .int .u64 A1, .int .u64 L1, .pointer p1]) p.1 ∧ IsR W (.agg #[.bool b2, .int .u64 A2, .int .u64 L2, .pointer p2]) p.2
def E6 (W : World) (xs : List Value) (k : Nat) (p : Nm × Nm) : Prop := ∃ (bq1 : Bool) (o1 : Option Addr) (l1 c1 : Nat) (r1 : Option Addr) (m1 z1 : Nat) (bq2 : Bool) (o2 : Option Addr) (l2 c2 : Nat) (r2 : Option Addr) (m2 z2 : Nat), xs[k * 6]? = some (.bool bq1) ∧ xs[k * 6 + 1]? = some (.slice o1 l1 c1) ∧ xs[k * 6 + 2]? = some (.slice r1 m1 z1) ∧ xs[k * 6 + 3]? = some (.bool bq2) ∧ xs[k * 6 + 4]? = some (.slice o2 l2 c2) ∧ xs[k * 6 + 5]? = some (.slice r2 m2 z2) ∧ IsQ W (.agg #[.bool bq1, .slice o1 l1 c1, .slice r1 m1 z1]) p.1 ∧ IsQ W (.agg #[.bool bq2, .slice o2 l2 c2, .slice r2 m2 z2]) p.2
theorem D8.mono {W W' : World} {xs : List Value} {k : Nat} {p : Nm × Nm} (h : D8 W xs k p) (hm : ∀ v q, IsR W v q → IsR W' v q) : D8 W' xs k p := by
  obtain ⟨b1, A1, L1, p1, b2, A2, L2, p2, a0, a1, a2, a3, a4, a5, a6, a7, i1, i2⟩ := h
  exact ⟨b1, A1, L1, p1, b2, A2, L2, p2, a0, a1, a2, a3, a4, a5, a6, a7, hm _ _ i1, hm _ _ i2⟩
theorem E6.mono {W W' : World} {xs : List Value} {k : Nat} {p : Nm × Nm} (h : E6 W xs k p) (hm : ∀ v q, IsQ W v q → IsQ W' v q) : E6 W' xs k p := by
  obtain ⟨bq1, o1, l1, c1, r1, m1, z1, bq2, o2, l2, c2, r2, m2, z2, a0, a1, a2, a3, a4, a5, i1, i2⟩ := h
  exact ⟨bq1, o1, l1, c1, r1, m1, z1, bq2, o2, l2, c2, r2, m2, z2, a0, a1, a2, a3, a4, a5, hm _ _ i1, hm _ _ i2⟩
theorem D8.left {W : World} {xs : List Value} {k n : Nat} {p : Nm × Nm} (h : D8 W xs k p) (hl : xs.length = n * 8) (hk : k < n) (l : List Value) : D8 W (xs ++ l) k p := by
  obtain ⟨b1, A1, L1, p1, b2, A2, L2, p2, a0, a1, a2, a3, a4, a5, a6, a7, i1, i2⟩ := h
  have g : ∀ i, i < 8 → (xs ++ l)[k * 8 + i]? = xs[k * 8 + i]? := fun i hi => List.getElem?_append_left (by omega)
  exact ⟨b1, A1, L1, p1, b2, A2, L2, p2, (g 0 (by omega)).trans a0, (g 1 (by omega)).trans a1, (g 2 (by omega)).trans a2, (g 3 (by omega)).trans a3, (g 4 (by omega)).trans a4, (g 5 (by omega)).trans a5, (g 6 (by omega)).trans a6, (g 7 (by omega)).trans a7, i1, i2⟩
theorem E6.left {W : World} {xs : List Value} {k n : Nat} {p : Nm × Nm} (h : E6 W xs k p) (hl : xs.length = n * 6) (hk : k < n) (l : List Value) : E6 W (xs ++ l) k p := by
  obtain ⟨bq1, o1, l1, c1, r1, m1, z1, bq2, o2, l2, c2, r2, m2, z2, a0, a1, a2, a3, a4, a5, i1, i2⟩ := h
  have g : ∀ i, i < 6 → (xs ++ l)[k * 6 + i]? = xs[k * 6 + i]? := fun i hi => List.getElem?_append_left (by omega)
  exact ⟨bq1, o1, l1, c1, r1, m1, z1, bq2, o2, l2, c2, r2, m2, z2, (g 0 (by omega)).trans a0, (g 1 (by omega)).trans a1, (g 2 (by omega)).trans a2, (g 3 (by omega)).trans a3, (g 4 (by omega)).trans a4, (g 5 (by omega)).trans a5, i1, i2⟩
theorem D8.last {W : World} {xs : List Value} {n : Nat} {p : Nm × Nm} {b1 : Bool} {A1 L1 : Int} {p1 : Option Addr} {b2 : Bool} {A2 L2 : Int} {p2 : Option Addr} (hl : xs.length = n * 8) (i1 : IsR W (.agg #[.bool b1, .int .u64 A1, .int .u64 L1, .pointer p1]) p.1) (i2 : IsR W (.agg #[.bool b2, .int .u64 A2, .int .u64 L2, .pointer p2]) p.2) : D8 W (xs ++ [.bool b1, .int .u64 A1, .int .u64 L1, .pointer p1, .bool b2, .int .u64 A2, .int .u64 L2, .pointer p2]) n p := by
  have g : ∀ i, (xs ++ [.bool b1, .int .u64 A1, .int .u64 L1, .pointer p1, .bool b2, .int .u64 A2, .int .u64 L2, .pointer p2])[n * 8 + i]? = [.bool b1, .int .u64 A1, .int .u64 L1, .pointer p1, .bool b2, .int .u64 A2, .int .u64 L2, .pointer p2][i]? := fun i => by
    rw [List.getElem?_append_right (by omega), hl, Nat.add_sub_cancel_left]
  exact ⟨b1, A1, L1, p1, b2, A2, L2, p2, g 0, g 1, g 2, g 3, g 4, g 5, g 6, g 7, i1, i2⟩
theorem E6.last {W : World} {xs : List Value} {n : Nat} {p : Nm × Nm} {bq1 : Bool} {o1 : Option Addr} {l1 c1 : Nat} {r1 : Option Addr} {m1 z1 : Nat} {bq2 : Bool} {o2 : Option Addr} {l2 c2 : Nat} {r2 : Option Addr} {m2 z2 : Nat} (hl : xs.length = n * 6) (i1 : IsQ W (.agg #[.bool bq1, .slice o1 l1 c1, .slice r1 m1 z1]) p.1) (i2 : IsQ W (.agg #[.bool bq2, .slice o2 l2 c2, .slice r2 m2 z2]) p.2) : E6 W (xs ++ [.bool bq1, .slice o1 l1 c1, .slice r1 m1 z1, .bool bq2, .slice o2 l2 c2, .slice r2 m2 z2]) n p := by
  have g : ∀ i, (xs ++ [.bool bq1, .slice o1 l1 c1, .slice r1 m1 z1, .bool bq2, .slice o2 l2 c2, .slice r2 m2 z2])[n * 6 + i]? = [.bool bq1, .slice o1 l1 c1, .slice r1 m1 z1, .bool bq2, .slice o2 l2 c2, .slice r2 m2 z2][i]? := fun i => by
    rw [List.getElem?_append_right (by omega), hl, Nat.add_sub_cancel_left]
  exact ⟨bq1, o1, l1, c1, r1, m1, z1, bq2, o2, l2, c2, r2, m2, z2, g 0, g 1, g 2, g 3, g 4, g 5, i1, i2⟩
/-- Two rows side by side: the program's pairs and the reference's. -/
structure Two (W : World) (base ka kc : Nat) (E : Nat → Nm × Nm) (va vc : Value) (ga gc : Nat) (xs ys : List Value) : Prop where
  oa : W.ownsRow base 49 8 va ka xs
  oc : W.ownsRow base 51 6 vc kc ys
  ba : va.ownBlock = some ga
  bc : vc.ownBlock = some gc
  ne : ga ≠ gc
  za : BlkZ W va
  zc : BlkZ W vc
  da : ∀ j, j < ka → D8 W xs j (E j)
  dc : ∀ j, j < kc → E6 W ys j (E j)
  ft : ∀ j, j < ka → Fits (E j).1 256 ∧ Fits (E j).2 256
theorem Two.lta {W : World} {base ka kc : Nat} {E : Nat → Nm × Nm} {va vc : Value} {ga gc : Nat} {xs ys : List Value} (h : Two W base ka kc E va vc ga gc xs ys) : (base ≤ ga ∧ ga < W.heap.size) ∧ base ≤ gc ∧ gc < W.heap.size := ⟨h.oa.lt _ h.ba, h.oc.lt _ h.bc⟩
theorem typed {W : World} {base n size g : Nat} {e : TypeId} {v : Value} {xs : List Value} (h : W.ownsRow base e size v n xs) (hb : v.ownBlock = some g) : ∃ cs, W.heap[g]? = some (.cells cs e) := by
  rcases h.2 with ⟨rfl, _⟩ | ⟨g', cap, cur, rfl, _, hg', _⟩
  · simp [Value.ownBlock] at hb
  · simp only [Value.ownBlock, Option.some.injEq] at hb
    subst hb
    exact ⟨cur, hg'⟩
/-- What lies in no row's block, and in no block below, stays where a third row grows. -/
theorem Two.other {W W' : World} {base ka kc : Nat} {E : Nat → Nm × Nm} {va vc : Value} {ga gc : Nat} {xs ys : List Value} (h : Two W base ka kc E va vc ga gc xs ys) {g : Nat} {cs : Array Value} {t : TypeId} (hk : W.heap[g]? = some (.cells cs t)) (ht : t ≠ 4) (hp : Plain W g) (h1 : ga ≠ g) (h2 : gc ≠ g) (G : W.grownBy W' (some g)) : Two W' base ka kc E va vc ga gc xs ys := by
  refine ⟨h.oa.kept G (.inr (by rw [h.ba]; simpa using h1)), h.oc.kept G (.inr (by rw [h.bc]; simpa using h2)), h.ba, h.bc, h.ne, h.za.kept ?_, h.zc.kept ?_, fun j hj => (h.da j hj).mono (fun v q i => IsR.grown i hp G), fun j hj => (h.dc j hj).mono (fun v q i => IsQ.grown i hk ht G), h.ft⟩
  · intro g' hg'
    rw [h.ba] at hg'
    obtain rfl : ga = g' := by simpa using hg'
    exact G.block _ h.lta.1.2 (by simpa using h1)
  · intro g' hg'
    rw [h.bc] at hg'
    obtain rfl : gc = g' := by simpa using hg'
    exact G.block _ h.lta.2.2 (by simpa using h2)
theorem Two.below {W W' : World} {base ka kc : Nat} {E : Nat → Nm × Nm} {va vc : Value} {ga gc : Nat} {xs ys : List Value} (h : Two W base ka kc E va vc ga gc xs ys) (hb : Below W.heap.size W W') : Two W' base ka kc E va vc ga gc xs ys := by
  have G : W.grownBy W' none := ⟨hb.os, hb.tape, hb.output, hb.size, fun k hk _ => hb.block k hk⟩
  refine ⟨h.oa.kept G (.inr (by rw [h.ba]; simp)), h.oc.kept G (.inr (by rw [h.bc]; simp)), h.ba, h.bc, h.ne, h.za.kept ?_, h.zc.kept ?_, fun j hj => (h.da j hj).mono (fun v q i => i.below hb), fun j hj => (h.dc j hj).mono (fun v q i => i.below hb), h.ft⟩
  · intro g' hg'
    rw [h.ba] at hg'
    obtain rfl : ga = g' := by simpa using hg'
    exact hb.block _ h.lta.1.2
  · intro g' hg'
    rw [h.bc] at hg'
    obtain rfl : gc = g' := by simpa using hg'
    exact hb.block _ h.lta.2.2
theorem Two.pushA {W W' : World} {base ka kc : Nat} {E : Nat → Nm × Nm} {va vc va' : Value} {ga gc : Nat} {xs ys : List Value} (h : Two W base ka kc E va vc ga gc xs ys) {b1 : Bool} {A1 L1 : Int} {p1 : Option Addr} {b2 : Bool} {A2 L2 : Int} {p2 : Option Addr}
    (i1 : IsR W (.agg #[.bool b1, .int .u64 A1, .int .u64 L1, .pointer p1]) (E ka).1) (i2 : IsR W (.agg #[.bool b2, .int .u64 A2, .int .u64 L2, .pointer p2]) (E ka).2) (hf : Fits (E ka).1 256 ∧ Fits (E ka).2 256)
    (o' : W'.ownsRow base 49 8 va' (ka + 1) (xs ++ [.bool b1, .int .u64 A1, .int .u64 L1, .pointer p1, .bool b2, .int .u64 A2, .int .u64 L2, .pointer p2])) (G : W.grownBy W' va.ownBlock) (z' : BlkZ W' va') (hb : va'.ownBlock = va.ownBlock ∨ va'.ownBlock = some W.heap.size) :
    ∃ ga', (ga' = ga ∨ ga' = W.heap.size) ∧ Two W' base (ka + 1) kc E va' vc ga' gc (xs ++ [.bool b1, .int .u64 A1, .int .u64 L1, .pointer p1, .bool b2, .int .u64 A2, .int .u64 L2, .pointer p2]) ys := by
  have hl := h.oa.1
  rw [h.ba] at G hb
  have pa := h.za.plain h.ba
  obtain ⟨cs, hk⟩ := typed h.oa h.ba
  have hm : ∀ v q, IsR W v q → IsR W' v q := fun v q i => IsR.grown i pa G
  have hq : ∀ v q, IsQ W v q → IsQ W' v q := fun v q i => IsQ.grown i hk (by decide) G
  have hc := h.lta.2.2
  have kc' : W'.heap[gc]? = W.heap[gc]? := G.block _ hc (by simpa using fun e => h.ne e.symm)
  have rest : ∀ ga', va'.ownBlock = some ga' → ga' ≠ gc → Two W' base (ka + 1) kc E va' vc ga' gc (xs ++ [.bool b1, .int .u64 A1, .int .u64 L1, .pointer p1, .bool b2, .int .u64 A2, .int .u64 L2, .pointer p2]) ys := fun ga' e1 e2 =>
    ⟨o', h.oc.kept G (.inr (by rw [h.bc]; simpa using fun e => h.ne e.symm)), e1, h.bc, e2, z', h.zc.kept (fun g' hg' => by rw [h.bc] at hg'; obtain rfl : gc = g' := by { simpa using hg' }; exact kc'),
      fun j hj => by
        by_cases e : j = ka
        · subst e; exact D8.last hl (hm _ _ i1) (hm _ _ i2)
        · exact ((h.da j (by omega)).mono hm).left hl (by omega) _,
      fun j hj => (h.dc j hj).mono hq,
      fun j hj => by
        by_cases e : j = ka
        · subst e; exact hf
        · exact h.ft j (by omega)⟩
  rcases hb with hb | hb
  · exact ⟨ga, .inl rfl, rest ga hb h.ne⟩
  · exact ⟨W.heap.size, .inr rfl, rest _ hb (by omega)⟩
theorem Two.pushC {W W' : World} {base ka kc : Nat} {E : Nat → Nm × Nm} {va vc vc' : Value} {ga gc : Nat} {xs ys : List Value} (h : Two W base ka kc E va vc ga gc xs ys) {bq1 : Bool} {o1 : Option Addr} {l1 c1 : Nat} {r1 : Option Addr} {m1 z1 : Nat} {bq2 : Bool} {o2 : Option Addr} {l2 c2 : Nat} {r2 : Option Addr} {m2 z2 : Nat}
    (i1 : IsQ W (.agg #[.bool bq1, .slice o1 l1 c1, .slice r1 m1 z1]) (E kc).1) (i2 : IsQ W (.agg #[.bool bq2, .slice o2 l2 c2, .slice r2 m2 z2]) (E kc).2)
    (o' : W'.ownsRow base 51 6 vc' (kc + 1) (ys ++ [.bool bq1, .slice o1 l1 c1, .slice r1 m1 z1, .bool bq2, .slice o2 l2 c2, .slice r2 m2 z2])) (G : W.grownBy W' vc.ownBlock) (z' : BlkZ W' vc') (hb : vc'.ownBlock = vc.ownBlock ∨ vc'.ownBlock = some W.heap.size) :
    ∃ gc', (gc' = gc ∨ gc' = W.heap.size) ∧ Two W' base ka (kc + 1) E va vc' ga gc' xs (ys ++ [.bool bq1, .slice o1 l1 c1, .slice r1 m1 z1, .bool bq2, .slice o2 l2 c2, .slice r2 m2 z2]) := by
  have hl := h.oc.1
  rw [h.bc] at G hb
  have pc := h.zc.plain h.bc
  obtain ⟨cs, hk⟩ := typed h.oc h.bc
  have hm : ∀ v q, IsR W v q → IsR W' v q := fun v q i => IsR.grown i pc G
  have hq : ∀ v q, IsQ W v q → IsQ W' v q := fun v q i => IsQ.grown i hk (by decide) G
  have ha := h.lta.1.2
  have ka' : W'.heap[ga]? = W.heap[ga]? := G.block _ ha (by simpa using h.ne)
  have rest : ∀ gc', vc'.ownBlock = some gc' → ga ≠ gc' → Two W' base ka (kc + 1) E va vc' ga gc' xs (ys ++ [.bool bq1, .slice o1 l1 c1, .slice r1 m1 z1, .bool bq2, .slice o2 l2 c2, .slice r2 m2 z2]) := fun gc' e1 e2 =>
    ⟨h.oa.kept G (.inr (by rw [h.ba]; simpa using h.ne)), o', h.ba, e1, e2, h.za.kept (fun g' hg' => by rw [h.ba] at hg'; obtain rfl : ga = g' := by { simpa using hg' }; exact ka'), z',
      fun j hj => (h.da j hj).mono hm,
      fun j hj => by
        by_cases e : j = kc
        · subst e; exact E6.last hl (hq _ _ i1) (hq _ _ i2)
        · exact ((h.dc j (by omega)).mono hq).left hl (by omega) _,
      h.ft⟩
  rcases hb with hb | hb
  · exact ⟨gc, .inl rfl, rest gc hb h.ne⟩
  · exact ⟨W.heap.size, .inr rfl, rest _ hb (by omega)⟩
theorem Two.congr {W : World} {base k : Nat} {E F : Nat → Nm × Nm} {va vc : Value} {ga gc : Nat} {xs ys : List Value} (h : Two W base k k E va vc ga gc xs ys) (hE : ∀ j, j < k → F j = E j) : Two W base k k F va vc ga gc xs ys :=
  ⟨h.oa, h.oc, h.ba, h.bc, h.ne, h.za, h.zc, fun j hj => by rw [hE j hj]; exact h.da j hj, fun j hj => by rw [hE j hj]; exact h.dc j hj, fun j hj => by rw [hE j hj]; exact h.ft j hj⟩
theorem add_at (g m : Nat) : (⟨g, 0, none⟩ : Addr).add m = ⟨g, 0 + m, none⟩ := by
  unfold Addr.add
  split
  · rename_i h; rw [h]
  · rfl
theorem Two.rd {W : World} {base k : Nat} {E : Nat → Nm × Nm} {va vc : Value} {ga gc : Nat} {xs ys : List Value} (h : Two W base k k E va vc ga gc xs ys) : RD W va k E ∧ RE W vc k E := by
  constructor
  · obtain ⟨o, cap, e⟩ : ∃ o cap, va = .slice o k cap := by
      rcases h.oa.2 with ⟨rfl, rfl⟩ | ⟨g', cap, cur, rfl, _⟩
      · exact ⟨none, 0, rfl⟩
      · exact ⟨_, cap, rfl⟩
    refine ⟨o, cap, e, h.ft, fun _ => ⟨ga, 0, ?_, h.lta.1.2, fun j hj => ?_⟩⟩
    · rcases h.oa.2 with ⟨e2, _⟩ | ⟨g', cap', cur, e2, _⟩
      · have := h.ba; rw [e2] at this; simp [Value.ownBlock] at this
      · have := h.ba
        rw [e2] at this e
        simp [Value.ownBlock] at this
        subst this
        simp at e
        exact e.1.symm
    · obtain ⟨b1, A1, L1, p1, b2, A2, L2, p2, a0, a1, a2, a3, a4, a5, a6, a7, i1, i2⟩ := h.da j hj
      have c : ∀ i u, xs[j * 8 + i]? = some u → W.cell? ⟨ga, 0 + j * 8 + i, none⟩ = some u := fun i u hu => by
        have := h.oa.cells h.ba (j * 8 + i) u hu
        rw [add_at] at this
        rw [Nat.add_assoc]
        exact this
      exact ⟨b1, A1, L1, p1, b2, A2, L2, p2, c 0 _ a0, c 1 _ a1, c 2 _ a2, c 3 _ a3, c 4 _ a4, c 5 _ a5, c 6 _ a6, c 7 _ a7, i1, i2⟩
  · obtain ⟨o, cap, e⟩ : ∃ o cap, vc = .slice o k cap := by
      rcases h.oc.2 with ⟨rfl, rfl⟩ | ⟨g', cap, cur, rfl, _⟩
      · exact ⟨none, 0, rfl⟩
      · exact ⟨_, cap, rfl⟩
    refine ⟨o, cap, e, h.ft, fun _ => ⟨gc, 0, ?_, h.lta.2.2, fun j hj => ?_⟩⟩
    · rcases h.oc.2 with ⟨e2, _⟩ | ⟨g', cap', cur, e2, _⟩
      · have := h.bc; rw [e2] at this; simp [Value.ownBlock] at this
      · have := h.bc
        rw [e2] at this e
        simp [Value.ownBlock] at this
        subst this
        simp at e
        exact e.1.symm
    · obtain ⟨bq1, o1, l1, c1, r1, m1, z1, bq2, o2, l2, c2, r2, m2, z2, a0, a1, a2, a3, a4, a5, i1, i2⟩ := h.dc j hj
      have c : ∀ i u, ys[j * 6 + i]? = some u → W.cell? ⟨gc, 0 + j * 6 + i, none⟩ = some u := fun i u hu => by
        have := h.oc.cells h.bc (j * 6 + i) u hu
        rw [add_at] at this
        rw [Nat.add_assoc]
        exact this
      exact ⟨bq1, o1, l1, c1, r1, m1, z1, bq2, o2, l2, c2, r2, m2, z2, c 0 _ a0, c 1 _ a1, c 2 _ a2, c 3 _ a3, c 4 _ a4, c 5 _ a5, i1, i2⟩
end Go.Proofs.Ytdliookkkgobbaa.LiN

/- Layer 7's statements lean on: lists. -/
namespace Go.Proofs.Ytdliookkkgobbaa.LiL
open Go.RowKit Mem LimbNum Limb1 NatL GcdA RatL RatM RatN RatF RatO MulN MulW MulL RefR RefT RefU InvL DivL QNum CmpL CmqL RefX RefY RefZ FloL Mk5 AddN JoinL AddW AddV AddR FldL SubL NmL DelL DelM DelB DaL DmL DcL RcL AppZ Law5 Aw5 LiN

theorem infoD : (Try.prog.info? 49).map (fun i => (i.zero, i.size, i.bytes)) = some (some (.agg #[.bool false, .int .u64 0, .int .u64 0, .pointer none, .bool false, .int .u64 0, .int .u64 0, .pointer none]), 8, 64) := by kernel_rfl
theorem infoE : (Try.prog.info? 51).map (fun i => (i.zero, i.size, i.bytes)) = some (some (.agg #[.bool false, .slice none 0 0, .slice none 0 0, .bool false, .slice none 0 0, .slice none 0 0]), 6, 112) := by kernel_rfl
theorem pz8 : ∀ u ∈ (.agg #[.bool false, .int .u64 0, .int .u64 0, .pointer none, .bool false, .int .u64 0, .int .u64 0, .pointer none] : Value).cells.toList, NoLimb u := by
  intro u hu k z e
  simp [Value.cells] at hu
  rcases hu with rfl | rfl | rfl | rfl | rfl | rfl | rfl | rfl <;> simp at e <;> exact e.1.symm
theorem pz6 : ∀ u ∈ (.agg #[.bool false, .slice none 0 0, .slice none 0 0, .bool false, .slice none 0 0, .slice none 0 0] : Value).cells.toList, NoLimb u := by
  intro u hu k z e
  simp [Value.cells] at hu
  rcases hu with rfl | rfl | rfl | rfl | rfl | rfl <;> simp at e
theorem pn8 {b1 : Bool} {A1 L1 : Int} {p1 : Option Addr} {b2 : Bool} {A2 L2 : Int} {p2 : Option Addr} : PlL [.bool b1, .int .u64 A1, .int .u64 L1, .pointer p1, .bool b2, .int .u64 A2, .int .u64 L2, .pointer p2] := by
  refine ⟨fun u hu k z e => ?_, fun u hu o n c e => ?_⟩
  · simp at hu
    rcases hu with rfl | rfl | rfl | rfl | rfl | rfl | rfl | rfl <;> simp at e <;> exact e.1.symm
  · simp at hu
    subst hu
    simp at e
theorem pn6 {bq1 : Bool} {o1 : Option Addr} {l1 c1 : Nat} {r1 : Option Addr} {m1 z1 : Nat} {bq2 : Bool} {o2 : Option Addr} {l2 c2 : Nat} {r2 : Option Addr} {m2 z2 : Nat} : PlL [.bool bq1, .slice o1 l1 c1, .slice r1 m1 z1, .bool bq2, .slice o2 l2 c2, .slice r2 m2 z2] := by
  refine ⟨fun u hu k z e => ?_, fun u hu o n c e => ?_⟩
  · simp at hu
    rcases hu with rfl | rfl | rfl | rfl | rfl | rfl <;> simp at e
  · simp at hu
    subst hu
    simp at e
theorem news_at (w : World) (cs : Array Value) (t : TypeId) (l : List Value) (hl : cs.toList = l) : ∀ j u, l[j]? = some u → (w.alloc (.cells cs t)).cell? ((⟨w.heap.size, 0, none⟩ : Addr).add j) = some u := by
  intro j u h
  rw [add_at]
  have := heap_alloc_new w (.cells cs t)
  simp only [World.cell?, this, Nat.zero_add]
  subst hl
  simpa using h
theorem blk_empty (w : World) (e : TypeId) : BlkZ (w.alloc (.cells #[] e)) (.slice (some ⟨w.heap.size, 0, none⟩) 0 0) := by
  intro g hg
  simp only [Value.ownBlock, Option.some.injEq] at hg
  subst hg
  exact ⟨_, _, heap_alloc_new _ _, ⟨fun u hu => by simp at hu, fun u hu => by simp at hu⟩⟩
theorem BlkZ.below {w w' : World} {v : Value} (h : BlkZ w v) (hb : Below w.heap.size w w') : BlkZ w' v := h.kept (fun g hg => by
  obtain ⟨cur, e, h1, _⟩ := h g hg
  exact hb.block g (in_heap h1))
theorem dist4 {ga' gc' ga gc gb gd s1 s2 base : Nat} (h1 : ga' = ga ∨ ga' = s1) (h2 : gc' = gc ∨ gc' = s2) (hd : ga ≠ gb ∧ ga ≠ gd ∧ gc ≠ gb ∧ gc ≠ gd) (l1 : (base ≤ gb ∧ gb < s1) ∧ base ≤ gd ∧ gd < s1) (l2 : (base ≤ gb ∧ gb < s2) ∧ base ≤ gd ∧ gd < s2) : ga' ≠ gb ∧ ga' ≠ gd ∧ gc' ≠ gb ∧ gc' ≠ gd := by
  rcases h1 with rfl | rfl <;> rcases h2 with rfl | rfl <;> refine ⟨?_, ?_, ?_, ?_⟩ <;> omega
theorem owns0 {W : World} {base size g : Nat} {e : TypeId} (hk : W.heap[g]? = some (.cells #[] e)) (hb : base ≤ g) : W.ownsRow base e size (.slice (some ⟨g, 0, none⟩) 0 0) 0 [] := ⟨by simp, .inr ⟨g, 0, #[], rfl, hb, hk, Nat.le_refl _, Nat.zero_le _, by simp, by simp⟩⟩
theorem blk0 {W : World} {g : Nat} {e : TypeId} (hk : W.heap[g]? = some (.cells #[] e)) : BlkZ W (.slice (some ⟨g, 0, none⟩) 0 0) := by
  intro g' hg
  simp only [Value.ownBlock, Option.some.injEq] at hg
  subst hg
  exact ⟨_, _, hk, ⟨fun u hu => by simp at hu, fun u hu => by simp at hu⟩⟩
theorem two0 {W : World} {base ga gc : Nat} (F : Nat → Nm × Nm) (ha : W.heap[ga]? = some (.cells #[] 49)) (hc : W.heap[gc]? = some (.cells #[] 51)) (b1 : base ≤ ga) (b2 : base ≤ gc) (hn : ga ≠ gc) : Two W base 0 0 F (.slice (some ⟨ga, 0, none⟩) 0 0) (.slice (some ⟨gc, 0, none⟩) 0 0) ga gc [] [] :=
  ⟨owns0 ha b1, owns0 hc b2, rfl, rfl, hn, blk0 ha, blk0 hc, fun _ hj => absurd hj (Nat.not_lt_zero _), fun _ hj => absurd hj (Nat.not_lt_zero _), fun _ hj => absurd hj (Nat.not_lt_zero _)⟩
theorem start4 (w : World) (F : Nat → Nm × Nm) : ∃ W0, (((w.alloc (.cells #[] 49)).alloc (.cells #[] 49)).alloc (.cells #[] 51)).alloc (.cells #[] 51) = W0 ∧ Two W0 w.heap.size 0 0 F (.slice (some ⟨w.heap.size, 0, none⟩) 0 0) (.slice (some ⟨w.heap.size + 1 + 1, 0, none⟩) 0 0) w.heap.size (w.heap.size + 1 + 1) [] [] ∧
    Two W0 w.heap.size 0 0 F (.slice (some ⟨w.heap.size + 1, 0, none⟩) 0 0) (.slice (some ⟨w.heap.size + 1 + 1 + 1, 0, none⟩) 0 0) (w.heap.size + 1) (w.heap.size + 1 + 1 + 1) [] [] ∧ Below w.heap.size w W0 := by
  obtain ⟨W3, e3, hb3, k0, k1, k2⟩ := three_new w (.cells #[] 49) (.cells #[] 49) (.cells #[] 51)
  have z3 : W3.heap.size = w.heap.size + 1 + 1 + 1 := by rw [← e3]; simp
  obtain ⟨W4, e4, hb4, k3⟩ := one_new W3 (.cells #[] 51)
  rw [e3, e4]
  rw [z3] at k3
  have c0 := box_kept k0 hb4 (in_heap k0)
  have c1 := box_kept k1 hb4 (in_heap k1)
  have c2 := box_kept k2 hb4 (in_heap k2)
  exact ⟨W4, rfl, two0 F c0 c2 (Nat.le_refl _) (by omega) (by omega), two0 F c1 k3 (by omega) (by omega) (by omega), bt hb3 hb4⟩
set_option maxRecDepth 20000 in
set_option maxHeartbeats 8000000 in
theorem lists_11 (o1 o2 : Option Addr) (n1 c1 n2 c2 : Nat) (w : World) (hl1 : n1 ≤ 12) (hl2 : n2 ≤ 12) (h1 : 0 < n1 → ∃ g off, o1 = some ⟨g, off, none⟩ ∧ g < w.heap.size ∧ ∀ k, k < n1 → ∃ u0 u1 u2 u3 u4 u5 : Value, w.cell? ⟨g, off + k * 6, none⟩ = some u0 ∧ w.cell? ⟨g, off + k * 6 + 1, none⟩ = some u1 ∧ w.cell? ⟨g, off + k * 6 + 2, none⟩ = some u2 ∧ w.cell? ⟨g, off + k * 6 + 3, none⟩ = some u3 ∧ w.cell? ⟨g, off + k * 6 + 4, none⟩ = some u4 ∧ w.cell? ⟨g, off + k * 6 + 5, none⟩ = some u5 ∧ ∀ W, Below w.heap.size w W → Calls Try.prog 17 #[.agg #[u0, u1, u2, u3, u4, u5]] W fun e w' => ∃ v q p1 p2, e = .returned (.tuple #[v, q]) ∧ IsD w' v p1 p2 ∧ IsE w' q p1 p2 ∧ Fits p1 256 ∧ Fits p2 256 ∧ Below W.heap.size W w') (h2 : 0 < n2 → ∃ g off, o2 = some ⟨g, off, none⟩ ∧ g < w.heap.size ∧ ∀ k, k < n2 → ∃ u0 u1 u2 u3 u4 u5 : Value, w.cell? ⟨g, off + k * 6, none⟩ = some u0 ∧ w.cell? ⟨g, off + k * 6 + 1, none⟩ = some u1 ∧ w.cell? ⟨g, off + k * 6 + 2, none⟩ = some u2 ∧ w.cell? ⟨g, off + k * 6 + 3, none⟩ = some u3 ∧ w.cell? ⟨g, off + k * 6 + 4, none⟩ = some u4 ∧ w.cell? ⟨g, off + k * 6 + 5, none⟩ = some u5 ∧ ∀ W, Below w.heap.size w W → Calls Try.prog 17 #[.agg #[u0, u1, u2, u3, u4, u5]] W fun e w' => ∃ v q p1 p2, e = .returned (.tuple #[v, q]) ∧ IsD w' v p1 p2 ∧ IsE w' q p1 p2 ∧ Fits p1 256 ∧ Fits p2 256 ∧ Below W.heap.size W w') :
    Calls Try.prog 34 #[.slice o1 n1 c1, .slice o2 n2 c2] w fun e w' => ∃ E F va vb vc vd, e = .returned (.tuple #[va, vb, vc, vd]) ∧ RD w' va n1 E ∧ RD w' vb n2 F ∧ RE w' vc n1 E ∧ RE w' vd n2 F ∧ Below w.heap.size w w' := by
  obtain ⟨i0, hi, hz0, hz1, hz2⟩ := info_parts infoD
  obtain ⟨i1, hj, hy0, hy1, hy2⟩ := info_parts infoE
  have HI1 : Hid (0 < n1 → ∃ g off, o1 = some ⟨g, off, none⟩ ∧ g < w.heap.size ∧ ∀ k, k < n1 → ∃ u0 u1 u2 u3 u4 u5 : Value, w.cell? ⟨g, off + k * 6, none⟩ = some u0 ∧ w.cell? ⟨g, off + k * 6 + 1, none⟩ = some u1 ∧ w.cell? ⟨g, off + k * 6 + 2, none⟩ = some u2 ∧ w.cell? ⟨g, off + k * 6 + 3, none⟩ = some u3 ∧ w.cell? ⟨g, off + k * 6 + 4, none⟩ = some u4 ∧ w.cell? ⟨g, off + k * 6 + 5, none⟩ = some u5 ∧ ∀ W, Below w.heap.size w W → Calls Try.prog 17 #[.agg #[u0, u1, u2, u3, u4, u5]] W fun e w' => ∃ v q p1 p2, e = .returned (.tuple #[v, q]) ∧ IsD w' v p1 p2 ∧ IsE w' q p1 p2 ∧ Fits p1 256 ∧ Fits p2 256 ∧ Below W.heap.size W w') := h1
  have HI2 : Hid (0 < n2 → ∃ g off, o2 = some ⟨g, off, none⟩ ∧ g < w.heap.size ∧ ∀ k, k < n2 → ∃ u0 u1 u2 u3 u4 u5 : Value, w.cell? ⟨g, off + k * 6, none⟩ = some u0 ∧ w.cell? ⟨g, off + k * 6 + 1, none⟩ = some u1 ∧ w.cell? ⟨g, off + k * 6 + 2, none⟩ = some u2 ∧ w.cell? ⟨g, off + k * 6 + 3, none⟩ = some u3 ∧ w.cell? ⟨g, off + k * 6 + 4, none⟩ = some u4 ∧ w.cell? ⟨g, off + k * 6 + 5, none⟩ = some u5 ∧ ∀ W, Below w.heap.size w W → Calls Try.prog 17 #[.agg #[u0, u1, u2, u3, u4, u5]] W fun e w' => ∃ v q p1 p2, e = .returned (.tuple #[v, q]) ∧ IsD w' v p1 p2 ∧ IsE w' q p1 p2 ∧ Fits p1 256 ∧ Fits p2 256 ∧ Below W.heap.size W w') := h2
  obtain ⟨F0, eF0⟩ : ∃ F : Nat → Nm × Nm, F = fun _ => (intM 0, intM 0) := ⟨_, rfl⟩
  obtain ⟨W0, eW0, TA0, TB0, HB0⟩ := start4 w F0
  obtain ⟨base, ebase⟩ : ∃ b, w.heap.size = b := ⟨_, rfl⟩
  have EW : Hid (_ = W0) := eW0
  have HBS : Hid (w.heap.size = base) := ebase
  rw [ebase] at TA0 TB0 HB0
  have TA : Hid _ := TA0
  have TB : Hid _ := TB0
  have HB : Hid (Below base w W0) := HB0
  have DD : Hid (base ≠ base + 1 ∧ base ≠ base + 1 + 1 + 1 ∧ base + 1 + 1 ≠ base + 1 ∧ base + 1 + 1 ≠ base + 1 + 1 + 1) := ⟨by omega, by omega, by omega, by omega⟩
  clear h1 h2 eF0 eW0 TA0 TB0 HB0 ebase
  go_enter Try.func34, Try.ntmps34
  go_wp2
  rw [EW.out, HBS.out]
  obtain ⟨gd, egd⟩ : ∃ x, base + 1 + 1 + 1 = x := ⟨_, rfl⟩
  obtain ⟨g2, eg2⟩ : ∃ x, base + 1 + 1 = x := ⟨_, rfl⟩
  obtain ⟨gb, egb⟩ : ∃ x, base + 1 = x := ⟨_, rfl⟩
  rw [egd, egb] at TB
  rw [eg2] at TA
  simp only [egd] at DD
  simp only [eg2] at DD
  simp only [egb] at DD
  simp only [egd]
  simp only [eg2]
  simp only [egb]
  obtain ⟨vb, evb⟩ : ∃ x, Value.slice (some ⟨gb, 0, none⟩) 0 0 = x := ⟨_, rfl⟩
  obtain ⟨vd, evd⟩ : ∃ x, Value.slice (some ⟨gd, 0, none⟩) 0 0 = x := ⟨_, rfl⟩
  rw [evb, evd] at TB
  simp only [evb, evd]
  clear EW evb evd egd eg2 egb
  go_loopw [8, 10, 12] (fun sa sc iv wr => ∃ (k : Nat) (E : Nat → Nm × Nm) (va vc : Value) (ga gc : Nat) (xs ys : List Value), va = sa ∧ vc = sc ∧ k ≤ n1 ∧ iv = .int .i64 (k : Int) ∧ Hid (Two wr base k k E va vc ga gc xs ys) ∧ Hid (Two wr base 0 0 F0 vb vd gb gd [] []) ∧ Hid (ga ≠ gb ∧ ga ≠ gd ∧ gc ≠ gb ∧ gc ≠ gd) ∧ Hid (Below base w wr)) (fun _ _ iv _ => n1 - (intOf iv).toNat)
  case atStart => exact ⟨0, F0, _, _, _, _, [], [], rfl, rfl, Nat.zero_le _, rfl, TA.out, TB.out, DD.out, HB.out⟩
  case round =>
    clear TA TB DD HB
    obtain ⟨k, E, va, vc, ga, gc, xs, ys, rfl, rfl, hk, rfl, HT, HO, DD, HB⟩ := hrel
    by_cases hlt : k < n1
    · obtain ⟨g, off, rfl, hg, hrow⟩ := HI1.out (by omega)
      obtain ⟨u0, u1, u2, u3, u4, u5, a0, a1, a2, a3, a4, a5, cB⟩ := hrow k (by omega)
      have cw : ∀ i, wr.cell? ⟨g, i, none⟩ = w.cell? ⟨g, i, none⟩ := fun i => HB.out.cell (p := ⟨g, i, none⟩) (show g < base by have := HBS.out; omega)
      have e0 := (cw _).trans a0
      have e1 := (cw _).trans a1
      have e2 := (cw _).trans a2
      have e3 := (cw _).trans a3
      have e4 := (cw _).trans a4
      have e5 := (cw _).trans a5
      have cB2 := cB wr (by rw [HBS.out]; exact HB.out)
      have q1 : (k : Int) < (n1 : Int) := by omega
      have q2 : (k : Int) < 12 := by omega
      clear cw a0 a1 a2 a3 a4 a5 cB hrow hg
      go_upto_region 7 with (go_at_call 17; refine cB2.mono ?_; rintro e w1 ⟨v, y, pp, qq, rfl, ⟨b1, A1, L1, p1, b2, A2, L2, p2, rfl, i1, i2⟩, ⟨bq1, o1, l1, c1, r1, m1, z1, bq2, o2, l2, c2, r2, m2, z2, rfl, j1, j2⟩, F1, F2, hb1⟩)
      obtain ⟨W1, eW1, B1, kx, kp⟩ := two_new w1 (.cells #[.bool b1, .int .u64 A1, .int .u64 L1, .pointer p1, .bool b2, .int .u64 A2, .int .u64 L2, .pointer p2] 49) (.cells #[.bool bq1, .slice o1 l1 c1, .slice r1 m1 z1, .bool bq2, .slice o2 l2 c2, .slice r2 m2 z2] 51)
      rw [eW1]
      have BB := bt hb1 B1
      have hbsr : base ≤ wr.heap.size := Nat.le_trans HT.out.lta.1.1 (Nat.le_of_lt HT.out.lta.1.2)
      have HB1 := HB.out.trans (BB.mono hbsr)
      have EK : ∃ F : Nat → Nm × Nm, F k = (pp, qq) ∧ ∀ j, j < k → F j = E j := ⟨fun j => if j = k then (pp, qq) else E j, if_pos rfl, fun j hj => if_neg (by omega)⟩
      obtain ⟨E', hE', hEj⟩ := EK
      have T1 := (HT.out.below BB).congr hEj
      have O1 := HO.out.below BB
      have al8 := (Below.refl W1.heap.size W1).alloc (Nat.le_refl _) (.cells #[.bool b1, .int .u64 A1, .int .u64 L1, .pointer p1, .bool b2, .int .u64 A2, .int .u64 L2, .pointer p2] 49)
      have T2 := T1.below al8
      have O2 := O1.below al8
      have x1 : IsR (W1.alloc (.cells #[.bool b1, .int .u64 A1, .int .u64 L1, .pointer p1, .bool b2, .int .u64 A2, .int .u64 L2, .pointer p2] 49)) (.agg #[.bool b1, .int .u64 A1, .int .u64 L1, .pointer p1]) (E' k).1 := by rw [hE']; exact (i1.below B1).below al8
      have x2 : IsR (W1.alloc (.cells #[.bool b1, .int .u64 A1, .int .u64 L1, .pointer p1, .bool b2, .int .u64 A2, .int .u64 L2, .pointer p2] 49)) (.agg #[.bool b2, .int .u64 A2, .int .u64 L2, .pointer p2]) (E' k).2 := by rw [hE']; exact (i2.below B1).below al8
      have y1 : IsQ (W1.alloc (.cells #[.bool b1, .int .u64 A1, .int .u64 L1, .pointer p1, .bool b2, .int .u64 A2, .int .u64 L2, .pointer p2] 49)) (.agg #[.bool bq1, .slice o1 l1 c1, .slice r1 m1 z1]) (E' k).1 := by rw [hE']; exact (j1.below B1).below al8
      have y2 : IsQ (W1.alloc (.cells #[.bool b1, .int .u64 A1, .int .u64 L1, .pointer p1, .bool b2, .int .u64 A2, .int .u64 L2, .pointer p2] 49)) (.agg #[.bool bq2, .slice o2 l2 c2, .slice r2 m2 z2]) (E' k).2 := by rw [hE']; exact (j2.below B1).below al8
      have FF : Fits (E' k).1 256 ∧ Fits (E' k).2 256 := by rw [hE']; exact ⟨F1, F2⟩
      have zx := cell_at kx
      have cx0 : W1.cell? ⟨w1.heap.size, 0, none⟩ = some (.bool b1) := zx 0 _ rfl
      have cx1 : W1.cell? ⟨w1.heap.size, 1, none⟩ = some (.int .u64 A1) := zx 1 _ rfl
      have cx2 : W1.cell? ⟨w1.heap.size, 2, none⟩ = some (.int .u64 L1) := zx 2 _ rfl
      have cx3 : W1.cell? ⟨w1.heap.size, 3, none⟩ = some (.pointer p1) := zx 3 _ rfl
      have cx4 : W1.cell? ⟨w1.heap.size, 4, none⟩ = some (.bool b2) := zx 4 _ rfl
      have cx5 : W1.cell? ⟨w1.heap.size, 5, none⟩ = some (.int .u64 A2) := zx 5 _ rfl
      have cx6 : W1.cell? ⟨w1.heap.size, 6, none⟩ = some (.int .u64 L2) := zx 6 _ rfl
      have cx7 : W1.cell? ⟨w1.heap.size, 7, none⟩ = some (.pointer p2) := zx 7 _ rfl
      have kp2 := box_kept kp al8 (in_heap kp)
      have gpn : ga ≠ w1.heap.size + 1 := by have := HT.out.lta.1.2; have := hb1.size; omega
      have hbs : base ≤ W1.heap.size := Nat.le_trans HT.out.lta.1.1 (Nat.le_trans (Nat.le_of_lt HT.out.lta.1.2) BB.size)
      obtain ⟨gp, egp⟩ : ∃ x, w1.heap.size + 1 = x := ⟨_, rfl⟩
      obtain ⟨gx, egx⟩ : ∃ x, w1.heap.size = x := ⟨_, rfl⟩
      rw [egp] at kp2 gpn
      rw [egx] at cx0 cx1 cx2 cx3 cx4 cx5 cx6 cx7
      simp only [egp]
      simp only [egx]
      clear eW1 B1 kx kp BB hb1 T1 O1 i1 i2 j1 j2 F1 F2 zx egp egx HT HO HB cB2 e0 e1 e2 e3 e4 e5
      have ST : Hid (_ ∧ _ ∧ _ ∧ _) := ⟨T2, O2, HB1, FF⟩
      clear HB1
      go_wp2_with (first
        | (at_builtin; refine wpList_append_z _ rfl _ _ 70 rfl base 49 i0 (.agg #[.bool false, .int .u64 0, .int .u64 0, .pointer none, .bool false, .int .u64 0, .int .u64 0, .pointer none]) 8 64 Try.underlying70 hi hz0 hz1 hz2 rfl (by decide) va k xs rfl T2.oa ⟨W1.heap.size, 0, none⟩ 1 [.bool b1, .int .u64 A1, .int .u64 L1, .pointer p1, .bool b2, .int .u64 A2, .int .u64 L2, .pointer p2] rfl rfl (news_at W1 _ _ _ rfl) (by simp [Value.oneCell']) (by unfold maxLen; omega) (by omega) (Nat.le_trans hbs al8.size) pz8 pn8 T2.za ?_; intro va' w2 own2 grow2 blk2 loc2; obtain ⟨ga', hga', T3⟩ := T2.pushA x1 x2 FF own2 grow2 blk2 loc2; have GG := grow2; rw [T2.ba] at GG; obtain ⟨csa, hka⟩ := typed T2.oa T2.ba; have O3 := O2.other hka (by decide) (T2.za.plain T2.ba) DD.out.1.symm DD.out.2.1.symm GG; have kq := (GG.block gp (in_heap kp2) (by simpa using gpn.symm)).trans kp2; have zq := cell_at kq; have cq0 : w2.cell? ⟨gp, 0, none⟩ = some (.bool bq1) := zq 0 _ rfl; have cq1 : w2.cell? ⟨gp, 1, none⟩ = some (.slice o1 l1 c1) := zq 1 _ rfl; have cq2 : w2.cell? ⟨gp, 2, none⟩ = some (.slice r1 m1 z1) := zq 2 _ rfl; have cq3 : w2.cell? ⟨gp, 3, none⟩ = some (.bool bq2) := zq 3 _ rfl; have cq4 : w2.cell? ⟨gp, 4, none⟩ = some (.slice o2 l2 c2) := zq 4 _ rfl; have cq5 : w2.cell? ⟨gp, 5, none⟩ = some (.slice r2 m2 z2) := zq 5 _ rfl; have y3 := IsQ.grown y1 hka (by decide) GG; have y4 := IsQ.grown y2 hka (by decide) GG; have HB2 := (ST.out.2.2.1.alloc hbs (.cells #[.bool b1, .int .u64 A1, .int .u64 L1, .pointer p1, .bool b2, .int .u64 A2, .int .u64 L2, .pointer p2] 49)).grown grow2 (Nat.le_trans hbs al8.size) (fun j hj => (T2.oa.lt j hj).1); have al6 := (Below.refl w2.heap.size w2).alloc (Nat.le_refl _) (.cells #[.bool bq1, .slice o1 l1 c1, .slice r1 m1 z1, .bool bq2, .slice o2 l2 c2, .slice r2 m2 z2] 51); have T4 := T3.below al6; have O4 := O3.below al6; have y5 := y3.below al6; have y6 := y4.below al6; have hb2s : base ≤ w2.heap.size := Nat.le_trans hbs (Nat.le_trans al8.size GG.size); have gs := GG.size; clear zq kq own2 grow2 blk2 loc2 y3 y4 T3 O3)
        | (at_builtin; refine wpList_append_z _ rfl _ _ 71 rfl base 51 i1 (.agg #[.bool false, .slice none 0 0, .slice none 0 0, .bool false, .slice none 0 0, .slice none 0 0]) 6 112 Try.underlying71 hj hy0 hy1 hy2 rfl (by decide) vc k ys rfl T4.oc ⟨w2.heap.size, 0, none⟩ 1 [.bool bq1, .slice o1 l1 c1, .slice r1 m1 z1, .bool bq2, .slice o2 l2 c2, .slice r2 m2 z2] rfl rfl (news_at w2 _ _ _ rfl) (by simp [Value.oneCell']) (by unfold maxLen; omega) (by omega) (Nat.le_trans hb2s al6.size) pz6 pn6 T4.zc ?_; intro vc' w3 own3 grow3 blk3 loc3; obtain ⟨gc', hgc', T5⟩ := T4.pushC y5 y6 own3 grow3 blk3 loc3; have G3 := grow3; rw [T4.bc] at G3; obtain ⟨csc, hkc⟩ := typed T4.oc T4.bc; have O5 := O4.other hkc (by decide) (T4.zc.plain T4.bc) DD.out.2.2.1.symm DD.out.2.2.2.symm G3; have HB3 := (HB2.alloc hb2s (.cells #[.bool bq1, .slice o1 l1 c1, .slice r1 m1 z1, .bool bq2, .slice o2 l2 c2, .slice r2 m2 z2] 51)).grown grow3 (Nat.le_trans hb2s al6.size) (fun j hj => (T4.oc.lt j hj).1); have DN : Hid (ga' ≠ gb ∧ ga' ≠ gd ∧ gc' ≠ gb ∧ gc' ≠ gd) := dist4 hga' hgc' DD.out O2.lta O4.lta; have H5 : Hid (Two w3 base (k + 1) (k + 1) E' va' vc' ga' gc' _ _) := T5; have HO5 : Hid (Two w3 base 0 0 F0 vb vd gb gd [] []) := O5; have HB5 : Hid (Below base w w3) := HB3; clear own3 grow3 blk3 loc3 T5 O5 HB3))
      go_roundw
      case rel => exact ⟨k + 1, E', va', vc', ga', gc', _, _, rfl, rfl, by omega, by go_num, H5, HO5, DN, HB5⟩
      case measure => simp [intOf]; omega
    · obtain rfl : n1 = k := by omega
      have q9 : True := trivial
      have TA : Hid (Two wr base n1 n1 E va vc ga gc xs ys) := HT
      have TB : Hid (Two wr base 0 0 F0 vb vd gb gd [] []) := HO
      clear HT HO
      go_wp2
      go_loopw [9, 11, 15] (fun sa sc iv wr => ∃ (k_ : Nat) (E_ : Nat → Nm × Nm) (va_ vc_ : Value) (ga_ gc_ : Nat) (xs_ ys_ : List Value), va_ = sa ∧ vc_ = sc ∧ k_ ≤ n2 ∧ iv = .int .i64 (k_ : Int) ∧ Hid (Two wr base k_ k_ E_ va_ vc_ ga_ gc_ xs_ ys_) ∧ Hid (Two wr base n1 n1 E va vc ga gc xs ys) ∧ Hid (ga_ ≠ ga ∧ ga_ ≠ gc ∧ gc_ ≠ ga ∧ gc_ ≠ gc) ∧ Hid (Below base w wr)) (fun _ _ iv _ => n2 - (intOf iv).toNat)
      case atStart => exact ⟨0, F0, _, _, _, _, [], [], rfl, rfl, Nat.zero_le _, rfl, TB.out, TA.out, ⟨DD.out.1.symm, DD.out.2.2.1.symm, DD.out.2.1.symm, DD.out.2.2.2.symm⟩, HB.out⟩
      case round =>
        clear TA TB DD HB
        obtain ⟨k_, E_, va_, vc_, ga_, gc_, xs_, ys_, rfl, rfl, hk, rfl, HT, HO, DD, HB⟩ := hrel
        by_cases hlt : k_ < n2
        · obtain ⟨g, off, rfl, hg, hrow⟩ := HI2.out (by omega)
          obtain ⟨u0, u1, u2, u3, u4, u5, a0, a1, a2, a3, a4, a5, cB⟩ := hrow k_ (by omega)
          have cw : ∀ i, wr.cell? ⟨g, i, none⟩ = w.cell? ⟨g, i, none⟩ := fun i => HB.out.cell (p := ⟨g, i, none⟩) (show g < base by have := HBS.out; omega)
          have e0 := (cw _).trans a0
          have e1 := (cw _).trans a1
          have e2 := (cw _).trans a2
          have e3 := (cw _).trans a3
          have e4 := (cw _).trans a4
          have e5 := (cw _).trans a5
          have cB2 := cB wr (by rw [HBS.out]; exact HB.out)
          have q1 : (k_ : Int) < (n2 : Int) := by omega
          have q2 : (k_ : Int) < 12 := by omega
          clear cw a0 a1 a2 a3 a4 a5 cB hrow hg
          go_upto_region 13 with (go_at_call 17; refine cB2.mono ?_; rintro e w1 ⟨v, y, pp, qq, rfl, ⟨b1, A1, L1, p1, b2, A2, L2, p2, rfl, i1, i2⟩, ⟨bq1, o1, l1, c1, r1, m1, z1, bq2, o2, l2, c2, r2, m2, z2, rfl, j1, j2⟩, F1, F2, hb1⟩)
          obtain ⟨W1, eW1, B1, kx, kp⟩ := two_new w1 (.cells #[.bool b1, .int .u64 A1, .int .u64 L1, .pointer p1, .bool b2, .int .u64 A2, .int .u64 L2, .pointer p2] 49) (.cells #[.bool bq1, .slice o1 l1 c1, .slice r1 m1 z1, .bool bq2, .slice o2 l2 c2, .slice r2 m2 z2] 51)
          rw [eW1]
          have BB := bt hb1 B1
          have hbsr : base ≤ wr.heap.size := Nat.le_trans HT.out.lta.1.1 (Nat.le_of_lt HT.out.lta.1.2)
          have HB1 := HB.out.trans (BB.mono hbsr)
          have EK : ∃ F : Nat → Nm × Nm, F k_ = (pp, qq) ∧ ∀ j, j < k_ → F j = E_ j := ⟨fun j => if j = k_ then (pp, qq) else E_ j, if_pos rfl, fun j hj => if_neg (by omega)⟩
          obtain ⟨E_', hE', hEj⟩ := EK
          have T1 := (HT.out.below BB).congr hEj
          have O1 := HO.out.below BB
          have al8 := (Below.refl W1.heap.size W1).alloc (Nat.le_refl _) (.cells #[.bool b1, .int .u64 A1, .int .u64 L1, .pointer p1, .bool b2, .int .u64 A2, .int .u64 L2, .pointer p2] 49)
          have T2 := T1.below al8
          have O2 := O1.below al8
          have x1 : IsR (W1.alloc (.cells #[.bool b1, .int .u64 A1, .int .u64 L1, .pointer p1, .bool b2, .int .u64 A2, .int .u64 L2, .pointer p2] 49)) (.agg #[.bool b1, .int .u64 A1, .int .u64 L1, .pointer p1]) (E_' k_).1 := by rw [hE']; exact (i1.below B1).below al8
          have x2 : IsR (W1.alloc (.cells #[.bool b1, .int .u64 A1, .int .u64 L1, .pointer p1, .bool b2, .int .u64 A2, .int .u64 L2, .pointer p2] 49)) (.agg #[.bool b2, .int .u64 A2, .int .u64 L2, .pointer p2]) (E_' k_).2 := by rw [hE']; exact (i2.below B1).below al8
          have y1 : IsQ (W1.alloc (.cells #[.bool b1, .int .u64 A1, .int .u64 L1, .pointer p1, .bool b2, .int .u64 A2, .int .u64 L2, .pointer p2] 49)) (.agg #[.bool bq1, .slice o1 l1 c1, .slice r1 m1 z1]) (E_' k_).1 := by rw [hE']; exact (j1.below B1).below al8
          have y2 : IsQ (W1.alloc (.cells #[.bool b1, .int .u64 A1, .int .u64 L1, .pointer p1, .bool b2, .int .u64 A2, .int .u64 L2, .pointer p2] 49)) (.agg #[.bool bq2, .slice o2 l2 c2, .slice r2 m2 z2]) (E_' k_).2 := by rw [hE']; exact (j2.below B1).below al8
          have FF : Fits (E_' k_).1 256 ∧ Fits (E_' k_).2 256 := by rw [hE']; exact ⟨F1, F2⟩
          have zx := cell_at kx
          have cx0 : W1.cell? ⟨w1.heap.size, 0, none⟩ = some (.bool b1) := zx 0 _ rfl
          have cx1 : W1.cell? ⟨w1.heap.size, 1, none⟩ = some (.int .u64 A1) := zx 1 _ rfl
          have cx2 : W1.cell? ⟨w1.heap.size, 2, none⟩ = some (.int .u64 L1) := zx 2 _ rfl
          have cx3 : W1.cell? ⟨w1.heap.size, 3, none⟩ = some (.pointer p1) := zx 3 _ rfl
          have cx4 : W1.cell? ⟨w1.heap.size, 4, none⟩ = some (.bool b2) := zx 4 _ rfl
          have cx5 : W1.cell? ⟨w1.heap.size, 5, none⟩ = some (.int .u64 A2) := zx 5 _ rfl
          have cx6 : W1.cell? ⟨w1.heap.size, 6, none⟩ = some (.int .u64 L2) := zx 6 _ rfl
          have cx7 : W1.cell? ⟨w1.heap.size, 7, none⟩ = some (.pointer p2) := zx 7 _ rfl
          have kp2 := box_kept kp al8 (in_heap kp)
          have gpn : ga_ ≠ w1.heap.size + 1 := by have := HT.out.lta.1.2; have := hb1.size; omega
          have hbs : base ≤ W1.heap.size := Nat.le_trans HT.out.lta.1.1 (Nat.le_trans (Nat.le_of_lt HT.out.lta.1.2) BB.size)
          obtain ⟨gp, egp⟩ : ∃ x, w1.heap.size + 1 = x := ⟨_, rfl⟩
          obtain ⟨gx, egx⟩ : ∃ x, w1.heap.size = x := ⟨_, rfl⟩
          rw [egp] at kp2 gpn
          rw [egx] at cx0 cx1 cx2 cx3 cx4 cx5 cx6 cx7
          simp only [egp]
          simp only [egx]
          clear eW1 B1 kx kp BB hb1 T1 O1 i1 i2 j1 j2 F1 F2 zx egp egx HT HO HB cB2 e0 e1 e2 e3 e4 e5
          have ST : Hid (_ ∧ _ ∧ _ ∧ _) := ⟨T2, O2, HB1, FF⟩
          clear HB1
          go_wp2_with (first
            | (at_builtin; refine wpList_append_z _ rfl _ _ 70 rfl base 49 i0 (.agg #[.bool false, .int .u64 0, .int .u64 0, .pointer none, .bool false, .int .u64 0, .int .u64 0, .pointer none]) 8 64 Try.underlying70 hi hz0 hz1 hz2 rfl (by decide) va_ k_ xs_ rfl T2.oa ⟨W1.heap.size, 0, none⟩ 1 [.bool b1, .int .u64 A1, .int .u64 L1, .pointer p1, .bool b2, .int .u64 A2, .int .u64 L2, .pointer p2] rfl rfl (news_at W1 _ _ _ rfl) (by simp [Value.oneCell']) (by unfold maxLen; omega) (by omega) (Nat.le_trans hbs al8.size) pz8 pn8 T2.za ?_; intro va_' w2 own2 grow2 blk2 loc2; obtain ⟨ga_', hga', T3⟩ := T2.pushA x1 x2 FF own2 grow2 blk2 loc2; have GG := grow2; rw [T2.ba] at GG; obtain ⟨csa, hka⟩ := typed T2.oa T2.ba; have O3 := O2.other hka (by decide) (T2.za.plain T2.ba) DD.out.1.symm DD.out.2.1.symm GG; have kq := (GG.block gp (in_heap kp2) (by simpa using gpn.symm)).trans kp2; have zq := cell_at kq; have cq0 : w2.cell? ⟨gp, 0, none⟩ = some (.bool bq1) := zq 0 _ rfl; have cq1 : w2.cell? ⟨gp, 1, none⟩ = some (.slice o1 l1 c1) := zq 1 _ rfl; have cq2 : w2.cell? ⟨gp, 2, none⟩ = some (.slice r1 m1 z1) := zq 2 _ rfl; have cq3 : w2.cell? ⟨gp, 3, none⟩ = some (.bool bq2) := zq 3 _ rfl; have cq4 : w2.cell? ⟨gp, 4, none⟩ = some (.slice o2 l2 c2) := zq 4 _ rfl; have cq5 : w2.cell? ⟨gp, 5, none⟩ = some (.slice r2 m2 z2) := zq 5 _ rfl; have y3 := IsQ.grown y1 hka (by decide) GG; have y4 := IsQ.grown y2 hka (by decide) GG; have HB2 := (ST.out.2.2.1.alloc hbs (.cells #[.bool b1, .int .u64 A1, .int .u64 L1, .pointer p1, .bool b2, .int .u64 A2, .int .u64 L2, .pointer p2] 49)).grown grow2 (Nat.le_trans hbs al8.size) (fun j hj => (T2.oa.lt j hj).1); have al6 := (Below.refl w2.heap.size w2).alloc (Nat.le_refl _) (.cells #[.bool bq1, .slice o1 l1 c1, .slice r1 m1 z1, .bool bq2, .slice o2 l2 c2, .slice r2 m2 z2] 51); have T4 := T3.below al6; have O4 := O3.below al6; have y5 := y3.below al6; have y6 := y4.below al6; have hb2s : base ≤ w2.heap.size := Nat.le_trans hbs (Nat.le_trans al8.size GG.size); have gs := GG.size; clear zq kq own2 grow2 blk2 loc2 y3 y4 T3 O3)
            | (at_builtin; refine wpList_append_z _ rfl _ _ 71 rfl base 51 i1 (.agg #[.bool false, .slice none 0 0, .slice none 0 0, .bool false, .slice none 0 0, .slice none 0 0]) 6 112 Try.underlying71 hj hy0 hy1 hy2 rfl (by decide) vc_ k_ ys_ rfl T4.oc ⟨w2.heap.size, 0, none⟩ 1 [.bool bq1, .slice o1 l1 c1, .slice r1 m1 z1, .bool bq2, .slice o2 l2 c2, .slice r2 m2 z2] rfl rfl (news_at w2 _ _ _ rfl) (by simp [Value.oneCell']) (by unfold maxLen; omega) (by omega) (Nat.le_trans hb2s al6.size) pz6 pn6 T4.zc ?_; intro vc_' w3 own3 grow3 blk3 loc3; obtain ⟨gc_', hgc', T5⟩ := T4.pushC y5 y6 own3 grow3 blk3 loc3; have G3 := grow3; rw [T4.bc] at G3; obtain ⟨csc, hkc⟩ := typed T4.oc T4.bc; have O5 := O4.other hkc (by decide) (T4.zc.plain T4.bc) DD.out.2.2.1.symm DD.out.2.2.2.symm G3; have HB3 := (HB2.alloc hb2s (.cells #[.bool bq1, .slice o1 l1 c1, .slice r1 m1 z1, .bool bq2, .slice o2 l2 c2, .slice r2 m2 z2] 51)).grown grow3 (Nat.le_trans hb2s al6.size) (fun j hj => (T4.oc.lt j hj).1); have DN : Hid (ga_' ≠ ga ∧ ga_' ≠ gc ∧ gc_' ≠ ga ∧ gc_' ≠ gc) := dist4 hga' hgc' DD.out O2.lta O4.lta; have H5 : Hid (Two w3 base (k_ + 1) (k_ + 1) E_' va_' vc_' ga_' gc_' _ _) := T5; have HO5 : Hid (Two w3 base n1 n1 E va vc ga gc xs ys) := O5; have HB5 : Hid (Below base w w3) := HB3; clear own3 grow3 blk3 loc3 T5 O5 HB3))
          go_roundw
          case rel => exact ⟨k_ + 1, E_', va_', vc_', ga_', gc_', _, _, rfl, rfl, by omega, by go_num, H5, HO5, DN, HB5⟩
          case measure => simp [intOf]; omega
        · obtain rfl : n2 = k_ := by omega
          have q8 : True := trivial
          go_wp2
          refine bodyPost_ret (v := .tuple #[va, va_, vc, vc_]) (by simp [results, go_sem]) rfl ?_
          exact ⟨E, E_, va, va_, vc, vc_, rfl, HO.out.rd.1, HT.out.rd.1, HO.out.rd.2, HT.out.rd.2, by have := HB.out; rw [← HBS.out] at this; exact this⟩
set_option maxRecDepth 20000 in
set_option maxHeartbeats 8000000 in
theorem lists_10 (o1 o2 : Option Addr) (n1 c1 n2 c2 : Nat) (w : World) (hl1 : n1 ≤ 12) (hl2 : 12 < n2) (h1 : 0 < n1 → ∃ g off, o1 = some ⟨g, off, none⟩ ∧ g < w.heap.size ∧ ∀ k, k < n1 → ∃ u0 u1 u2 u3 u4 u5 : Value, w.cell? ⟨g, off + k * 6, none⟩ = some u0 ∧ w.cell? ⟨g, off + k * 6 + 1, none⟩ = some u1 ∧ w.cell? ⟨g, off + k * 6 + 2, none⟩ = some u2 ∧ w.cell? ⟨g, off + k * 6 + 3, none⟩ = some u3 ∧ w.cell? ⟨g, off + k * 6 + 4, none⟩ = some u4 ∧ w.cell? ⟨g, off + k * 6 + 5, none⟩ = some u5 ∧ ∀ W, Below w.heap.size w W → Calls Try.prog 17 #[.agg #[u0, u1, u2, u3, u4, u5]] W fun e w' => ∃ v q p1 p2, e = .returned (.tuple #[v, q]) ∧ IsD w' v p1 p2 ∧ IsE w' q p1 p2 ∧ Fits p1 256 ∧ Fits p2 256 ∧ Below W.heap.size W w') (h2 : 0 < n2 → ∃ g off, o2 = some ⟨g, off, none⟩ ∧ g < w.heap.size ∧ ∀ k, k < n2 → ∃ u0 u1 u2 u3 u4 u5 : Value, w.cell? ⟨g, off + k * 6, none⟩ = some u0 ∧ w.cell? ⟨g, off + k * 6 + 1, none⟩ = some u1 ∧ w.cell? ⟨g, off + k * 6 + 2, none⟩ = some u2 ∧ w.cell? ⟨g, off + k * 6 + 3, none⟩ = some u3 ∧ w.cell? ⟨g, off + k * 6 + 4, none⟩ = some u4 ∧ w.cell? ⟨g, off + k * 6 + 5, none⟩ = some u5 ∧ ∀ W, Below w.heap.size w W → Calls Try.prog 17 #[.agg #[u0, u1, u2, u3, u4, u5]] W fun e w' => ∃ v q p1 p2, e = .returned (.tuple #[v, q]) ∧ IsD w' v p1 p2 ∧ IsE w' q p1 p2 ∧ Fits p1 256 ∧ Fits p2 256 ∧ Below W.heap.size W w') :
    Calls Try.prog 34 #[.slice o1 n1 c1, .slice o2 n2 c2] w fun e w' => ∃ E F va vb vc vd, e = .returned (.tuple #[va, vb, vc, vd]) ∧ RD w' va n1 E ∧ RD w' vb 12 F ∧ RE w' vc n1 E ∧ RE w' vd 12 F ∧ Below w.heap.size w w' := by
  obtain ⟨i0, hi, hz0, hz1, hz2⟩ := info_parts infoD
  obtain ⟨i1, hj, hy0, hy1, hy2⟩ := info_parts infoE
  have HI1 : Hid (0 < n1 → ∃ g off, o1 = some ⟨g, off, none⟩ ∧ g < w.heap.size ∧ ∀ k, k < n1 → ∃ u0 u1 u2 u3 u4 u5 : Value, w.cell? ⟨g, off + k * 6, none⟩ = some u0 ∧ w.cell? ⟨g, off + k * 6 + 1, none⟩ = some u1 ∧ w.cell? ⟨g, off + k * 6 + 2, none⟩ = some u2 ∧ w.cell? ⟨g, off + k * 6 + 3, none⟩ = some u3 ∧ w.cell? ⟨g, off + k * 6 + 4, none⟩ = some u4 ∧ w.cell? ⟨g, off + k * 6 + 5, none⟩ = some u5 ∧ ∀ W, Below w.heap.size w W → Calls Try.prog 17 #[.agg #[u0, u1, u2, u3, u4, u5]] W fun e w' => ∃ v q p1 p2, e = .returned (.tuple #[v, q]) ∧ IsD w' v p1 p2 ∧ IsE w' q p1 p2 ∧ Fits p1 256 ∧ Fits p2 256 ∧ Below W.heap.size W w') := h1
  have HI2 : Hid (0 < n2 → ∃ g off, o2 = some ⟨g, off, none⟩ ∧ g < w.heap.size ∧ ∀ k, k < n2 → ∃ u0 u1 u2 u3 u4 u5 : Value, w.cell? ⟨g, off + k * 6, none⟩ = some u0 ∧ w.cell? ⟨g, off + k * 6 + 1, none⟩ = some u1 ∧ w.cell? ⟨g, off + k * 6 + 2, none⟩ = some u2 ∧ w.cell? ⟨g, off + k * 6 + 3, none⟩ = some u3 ∧ w.cell? ⟨g, off + k * 6 + 4, none⟩ = some u4 ∧ w.cell? ⟨g, off + k * 6 + 5, none⟩ = some u5 ∧ ∀ W, Below w.heap.size w W → Calls Try.prog 17 #[.agg #[u0, u1, u2, u3, u4, u5]] W fun e w' => ∃ v q p1 p2, e = .returned (.tuple #[v, q]) ∧ IsD w' v p1 p2 ∧ IsE w' q p1 p2 ∧ Fits p1 256 ∧ Fits p2 256 ∧ Below W.heap.size W w') := h2
  obtain ⟨F0, eF0⟩ : ∃ F : Nat → Nm × Nm, F = fun _ => (intM 0, intM 0) := ⟨_, rfl⟩
  obtain ⟨W0, eW0, TA0, TB0, HB0⟩ := start4 w F0
  obtain ⟨base, ebase⟩ : ∃ b, w.heap.size = b := ⟨_, rfl⟩
  have EW : Hid (_ = W0) := eW0
  have HBS : Hid (w.heap.size = base) := ebase
  rw [ebase] at TA0 TB0 HB0
  have TA : Hid _ := TA0
  have TB : Hid _ := TB0
  have HB : Hid (Below base w W0) := HB0
  have DD : Hid (base ≠ base + 1 ∧ base ≠ base + 1 + 1 + 1 ∧ base + 1 + 1 ≠ base + 1 ∧ base + 1 + 1 ≠ base + 1 + 1 + 1) := ⟨by omega, by omega, by omega, by omega⟩
  clear h1 h2 eF0 eW0 TA0 TB0 HB0 ebase
  go_enter Try.func34, Try.ntmps34
  go_wp2
  rw [EW.out, HBS.out]
  obtain ⟨gd, egd⟩ : ∃ x, base + 1 + 1 + 1 = x := ⟨_, rfl⟩
  obtain ⟨g2, eg2⟩ : ∃ x, base + 1 + 1 = x := ⟨_, rfl⟩
  obtain ⟨gb, egb⟩ : ∃ x, base + 1 = x := ⟨_, rfl⟩
  rw [egd, egb] at TB
  rw [eg2] at TA
  simp only [egd] at DD
  simp only [eg2] at DD
  simp only [egb] at DD
  simp only [egd]
  simp only [eg2]
  simp only [egb]
  obtain ⟨vb, evb⟩ : ∃ x, Value.slice (some ⟨gb, 0, none⟩) 0 0 = x := ⟨_, rfl⟩
  obtain ⟨vd, evd⟩ : ∃ x, Value.slice (some ⟨gd, 0, none⟩) 0 0 = x := ⟨_, rfl⟩
  rw [evb, evd] at TB
  simp only [evb, evd]
  clear EW evb evd egd eg2 egb
  go_loopw [8, 10, 12] (fun sa sc iv wr => ∃ (k : Nat) (E : Nat → Nm × Nm) (va vc : Value) (ga gc : Nat) (xs ys : List Value), va = sa ∧ vc = sc ∧ k ≤ n1 ∧ iv = .int .i64 (k : Int) ∧ Hid (Two wr base k k E va vc ga gc xs ys) ∧ Hid (Two wr base 0 0 F0 vb vd gb gd [] []) ∧ Hid (ga ≠ gb ∧ ga ≠ gd ∧ gc ≠ gb ∧ gc ≠ gd) ∧ Hid (Below base w wr)) (fun _ _ iv _ => n1 - (intOf iv).toNat)
  case atStart => exact ⟨0, F0, _, _, _, _, [], [], rfl, rfl, Nat.zero_le _, rfl, TA.out, TB.out, DD.out, HB.out⟩
  case round =>
    clear TA TB DD HB
    obtain ⟨k, E, va, vc, ga, gc, xs, ys, rfl, rfl, hk, rfl, HT, HO, DD, HB⟩ := hrel
    by_cases hlt : k < n1
    · obtain ⟨g, off, rfl, hg, hrow⟩ := HI1.out (by omega)
      obtain ⟨u0, u1, u2, u3, u4, u5, a0, a1, a2, a3, a4, a5, cB⟩ := hrow k (by omega)
      have cw : ∀ i, wr.cell? ⟨g, i, none⟩ = w.cell? ⟨g, i, none⟩ := fun i => HB.out.cell (p := ⟨g, i, none⟩) (show g < base by have := HBS.out; omega)
      have e0 := (cw _).trans a0
      have e1 := (cw _).trans a1
      have e2 := (cw _).trans a2
      have e3 := (cw _).trans a3
      have e4 := (cw _).trans a4
      have e5 := (cw _).trans a5
      have cB2 := cB wr (by rw [HBS.out]; exact HB.out)
      have q1 : (k : Int) < (n1 : Int) := by omega
      have q2 : (k : Int) < 12 := by omega
      clear cw a0 a1 a2 a3 a4 a5 cB hrow hg
      go_upto_region 7 with (go_at_call 17; refine cB2.mono ?_; rintro e w1 ⟨v, y, pp, qq, rfl, ⟨b1, A1, L1, p1, b2, A2, L2, p2, rfl, i1, i2⟩, ⟨bq1, o1, l1, c1, r1, m1, z1, bq2, o2, l2, c2, r2, m2, z2, rfl, j1, j2⟩, F1, F2, hb1⟩)
      obtain ⟨W1, eW1, B1, kx, kp⟩ := two_new w1 (.cells #[.bool b1, .int .u64 A1, .int .u64 L1, .pointer p1, .bool b2, .int .u64 A2, .int .u64 L2, .pointer p2] 49) (.cells #[.bool bq1, .slice o1 l1 c1, .slice r1 m1 z1, .bool bq2, .slice o2 l2 c2, .slice r2 m2 z2] 51)
      rw [eW1]
      have BB := bt hb1 B1
      have hbsr : base ≤ wr.heap.size := Nat.le_trans HT.out.lta.1.1 (Nat.le_of_lt HT.out.lta.1.2)
      have HB1 := HB.out.trans (BB.mono hbsr)
      have EK : ∃ F : Nat → Nm × Nm, F k = (pp, qq) ∧ ∀ j, j < k → F j = E j := ⟨fun j => if j = k then (pp, qq) else E j, if_pos rfl, fun j hj => if_neg (by omega)⟩
      obtain ⟨E', hE', hEj⟩ := EK
      have T1 := (HT.out.below BB).congr hEj
      have O1 := HO.out.below BB
      have al8 := (Below.refl W1.heap.size W1).alloc (Nat.le_refl _) (.cells #[.bool b1, .int .u64 A1, .int .u64 L1, .pointer p1, .bool b2, .int .u64 A2, .int .u64 L2, .pointer p2] 49)
      have T2 := T1.below al8
      have O2 := O1.below al8
      have x1 : IsR (W1.alloc (.cells #[.bool b1, .int .u64 A1, .int .u64 L1, .pointer p1, .bool b2, .int .u64 A2, .int .u64 L2, .pointer p2] 49)) (.agg #[.bool b1, .int .u64 A1, .int .u64 L1, .pointer p1]) (E' k).1 := by rw [hE']; exact (i1.below B1).below al8
      have x2 : IsR (W1.alloc (.cells #[.bool b1, .int .u64 A1, .int .u64 L1, .pointer p1, .bool b2, .int .u64 A2, .int .u64 L2, .pointer p2] 49)) (.agg #[.bool b2, .int .u64 A2, .int .u64 L2, .pointer p2]) (E' k).2 := by rw [hE']; exact (i2.below B1).below al8
      have y1 : IsQ (W1.alloc (.cells #[.bool b1, .int .u64 A1, .int .u64 L1, .pointer p1, .bool b2, .int .u64 A2, .int .u64 L2, .pointer p2] 49)) (.agg #[.bool bq1, .slice o1 l1 c1, .slice r1 m1 z1]) (E' k).1 := by rw [hE']; exact (j1.below B1).below al8
      have y2 : IsQ (W1.alloc (.cells #[.bool b1, .int .u64 A1, .int .u64 L1, .pointer p1, .bool b2, .int .u64 A2, .int .u64 L2, .pointer p2] 49)) (.agg #[.bool bq2, .slice o2 l2 c2, .slice r2 m2 z2]) (E' k).2 := by rw [hE']; exact (j2.below B1).below al8
      have FF : Fits (E' k).1 256 ∧ Fits (E' k).2 256 := by rw [hE']; exact ⟨F1, F2⟩
      have zx := cell_at kx
      have cx0 : W1.cell? ⟨w1.heap.size, 0, none⟩ = some (.bool b1) := zx 0 _ rfl
      have cx1 : W1.cell? ⟨w1.heap.size, 1, none⟩ = some (.int .u64 A1) := zx 1 _ rfl
      have cx2 : W1.cell? ⟨w1.heap.size, 2, none⟩ = some (.int .u64 L1) := zx 2 _ rfl
      have cx3 : W1.cell? ⟨w1.heap.size, 3, none⟩ = some (.pointer p1) := zx 3 _ rfl
      have cx4 : W1.cell? ⟨w1.heap.size, 4, none⟩ = some (.bool b2) := zx 4 _ rfl
      have cx5 : W1.cell? ⟨w1.heap.size, 5, none⟩ = some (.int .u64 A2) := zx 5 _ rfl
      have cx6 : W1.cell? ⟨w1.heap.size, 6, none⟩ = some (.int .u64 L2) := zx 6 _ rfl
      have cx7 : W1.cell? ⟨w1.heap.size, 7, none⟩ = some (.pointer p2) := zx 7 _ rfl
      have kp2 := box_kept kp al8 (in_heap kp)
      have gpn : ga ≠ w1.heap.size + 1 := by have := HT.out.lta.1.2; have := hb1.size; omega
      have hbs : base ≤ W1.heap.size := Nat.le_trans HT.out.lta.1.1 (Nat.le_trans (Nat.le_of_lt HT.out.lta.1.2) BB.size)
      obtain ⟨gp, egp⟩ : ∃ x, w1.heap.size + 1 = x := ⟨_, rfl⟩
      obtain ⟨gx, egx⟩ : ∃ x, w1.heap.size = x := ⟨_, rfl⟩
      rw [egp] at kp2 gpn
      rw [egx] at cx0 cx1 cx2 cx3 cx4 cx5 cx6 cx7
      simp only [egp]
      simp only [egx]
      clear eW1 B1 kx kp BB hb1 T1 O1 i1 i2 j1 j2 F1 F2 zx egp egx HT HO HB cB2 e0 e1 e2 e3 e4 e5
      have ST : Hid (_ ∧ _ ∧ _ ∧ _) := ⟨T2, O2, HB1, FF⟩
      clear HB1
      go_wp2_with (first
        | (at_builtin; refine wpList_append_z _ rfl _ _ 70 rfl base 49 i0 (.agg #[.bool false, .int .u64 0, .int .u64 0, .pointer none, .bool false, .int .u64 0, .int .u64 0, .pointer none]) 8 64 Try.underlying70 hi hz0 hz1 hz2 rfl (by decide) va k xs rfl T2.oa ⟨W1.heap.size, 0, none⟩ 1 [.bool b1, .int .u64 A1, .int .u64 L1, .pointer p1, .bool b2, .int .u64 A2, .int .u64 L2, .pointer p2] rfl rfl (news_at W1 _ _ _ rfl) (by simp [Value.oneCell']) (by unfold maxLen; omega) (by omega) (Nat.le_trans hbs al8.size) pz8 pn8 T2.za ?_; intro va' w2 own2 grow2 blk2 loc2; obtain ⟨ga', hga', T3⟩ := T2.pushA x1 x2 FF own2 grow2 blk2 loc2; have GG := grow2; rw [T2.ba] at GG; obtain ⟨csa, hka⟩ := typed T2.oa T2.ba; have O3 := O2.other hka (by decide) (T2.za.plain T2.ba) DD.out.1.symm DD.out.2.1.symm GG; have kq := (GG.block gp (in_heap kp2) (by simpa using gpn.symm)).trans kp2; have zq := cell_at kq; have cq0 : w2.cell? ⟨gp, 0, none⟩ = some (.bool bq1) := zq 0 _ rfl; have cq1 : w2.cell? ⟨gp, 1, none⟩ = some (.slice o1 l1 c1) := zq 1 _ rfl; have cq2 : w2.cell? ⟨gp, 2, none⟩ = some (.slice r1 m1 z1) := zq 2 _ rfl; have cq3 : w2.cell? ⟨gp, 3, none⟩ = some (.bool bq2) := zq 3 _ rfl; have cq4 : w2.cell? ⟨gp, 4, none⟩ = some (.slice o2 l2 c2) := zq 4 _ rfl; have cq5 : w2.cell? ⟨gp, 5, none⟩ = some (.slice r2 m2 z2) := zq 5 _ rfl; have y3 := IsQ.grown y1 hka (by decide) GG; have y4 := IsQ.grown y2 hka (by decide) GG; have HB2 := (ST.out.2.2.1.alloc hbs (.cells #[.bool b1, .int .u64 A1, .int .u64 L1, .pointer p1, .bool b2, .int .u64 A2, .int .u64 L2, .pointer p2] 49)).grown grow2 (Nat.le_trans hbs al8.size) (fun j hj => (T2.oa.lt j hj).1); have al6 := (Below.refl w2.heap.size w2).alloc (Nat.le_refl _) (.cells #[.bool bq1, .slice o1 l1 c1, .slice r1 m1 z1, .bool bq2, .slice o2 l2 c2, .slice r2 m2 z2] 51); have T4 := T3.below al6; have O4 := O3.below al6; have y5 := y3.below al6; have y6 := y4.below al6; have hb2s : base ≤ w2.heap.size := Nat.le_trans hbs (Nat.le_trans al8.size GG.size); have gs := GG.size; clear zq kq own2 grow2 blk2 loc2 y3 y4 T3 O3)
        | (at_builtin; refine wpList_append_z _ rfl _ _ 71 rfl base 51 i1 (.agg #[.bool false, .slice none 0 0, .slice none 0 0, .bool false, .slice none 0 0, .slice none 0 0]) 6 112 Try.underlying71 hj hy0 hy1 hy2 rfl (by decide) vc k ys rfl T4.oc ⟨w2.heap.size, 0, none⟩ 1 [.bool bq1, .slice o1 l1 c1, .slice r1 m1 z1, .bool bq2, .slice o2 l2 c2, .slice r2 m2 z2] rfl rfl (news_at w2 _ _ _ rfl) (by simp [Value.oneCell']) (by unfold maxLen; omega) (by omega) (Nat.le_trans hb2s al6.size) pz6 pn6 T4.zc ?_; intro vc' w3 own3 grow3 blk3 loc3; obtain ⟨gc', hgc', T5⟩ := T4.pushC y5 y6 own3 grow3 blk3 loc3; have G3 := grow3; rw [T4.bc] at G3; obtain ⟨csc, hkc⟩ := typed T4.oc T4.bc; have O5 := O4.other hkc (by decide) (T4.zc.plain T4.bc) DD.out.2.2.1.symm DD.out.2.2.2.symm G3; have HB3 := (HB2.alloc hb2s (.cells #[.bool bq1, .slice o1 l1 c1, .slice r1 m1 z1, .bool bq2, .slice o2 l2 c2, .slice r2 m2 z2] 51)).grown grow3 (Nat.le_trans hb2s al6.size) (fun j hj => (T4.oc.lt j hj).1); have DN : Hid (ga' ≠ gb ∧ ga' ≠ gd ∧ gc' ≠ gb ∧ gc' ≠ gd) := dist4 hga' hgc' DD.out O2.lta O4.lta; have H5 : Hid (Two w3 base (k + 1) (k + 1) E' va' vc' ga' gc' _ _) := T5; have HO5 : Hid (Two w3 base 0 0 F0 vb vd gb gd [] []) := O5; have HB5 : Hid (Below base w w3) := HB3; clear own3 grow3 blk3 loc3 T5 O5 HB3))
      go_roundw
      case rel => exact ⟨k + 1, E', va', vc', ga', gc', _, _, rfl, rfl, by omega, by go_num, H5, HO5, DN, HB5⟩
      case measure => simp [intOf]; omega
    · obtain rfl : n1 = k := by omega
      have q9 : True := trivial
      have TA : Hid (Two wr base n1 n1 E va vc ga gc xs ys) := HT
      have TB : Hid (Two wr base 0 0 F0 vb vd gb gd [] []) := HO
      clear HT HO
      go_wp2
      go_loopw [9, 11, 15] (fun sa sc iv wr => ∃ (k_ : Nat) (E_ : Nat → Nm × Nm) (va_ vc_ : Value) (ga_ gc_ : Nat) (xs_ ys_ : List Value), va_ = sa ∧ vc_ = sc ∧ k_ ≤ 12 ∧ iv = .int .i64 (k_ : Int) ∧ Hid (Two wr base k_ k_ E_ va_ vc_ ga_ gc_ xs_ ys_) ∧ Hid (Two wr base n1 n1 E va vc ga gc xs ys) ∧ Hid (ga_ ≠ ga ∧ ga_ ≠ gc ∧ gc_ ≠ ga ∧ gc_ ≠ gc) ∧ Hid (Below base w wr)) (fun _ _ iv _ => 12 - (intOf iv).toNat)
      case atStart => exact ⟨0, F0, _, _, _, _, [], [], rfl, rfl, Nat.zero_le _, rfl, TB.out, TA.out, ⟨DD.out.1.symm, DD.out.2.2.1.symm, DD.out.2.1.symm, DD.out.2.2.2.symm⟩, HB.out⟩
      case round =>
        clear TA TB DD HB
        obtain ⟨k_, E_, va_, vc_, ga_, gc_, xs_, ys_, rfl, rfl, hk, rfl, HT, HO, DD, HB⟩ := hrel
        by_cases hlt : k_ < 12
        · obtain ⟨g, off, rfl, hg, hrow⟩ := HI2.out (by omega)
          obtain ⟨u0, u1, u2, u3, u4, u5, a0, a1, a2, a3, a4, a5, cB⟩ := hrow k_ (by omega)
          have cw : ∀ i, wr.cell? ⟨g, i, none⟩ = w.cell? ⟨g, i, none⟩ := fun i => HB.out.cell (p := ⟨g, i, none⟩) (show g < base by have := HBS.out; omega)
          have e0 := (cw _).trans a0
          have e1 := (cw _).trans a1
          have e2 := (cw _).trans a2
          have e3 := (cw _).trans a3
          have e4 := (cw _).trans a4
          have e5 := (cw _).trans a5
          have cB2 := cB wr (by rw [HBS.out]; exact HB.out)
          have q1 : (k_ : Int) < (n2 : Int) := by omega
          have q2 : (k_ : Int) < 12 := by omega
          clear cw a0 a1 a2 a3 a4 a5 cB hrow hg
          go_upto_region 13 with (go_at_call 17; refine cB2.mono ?_; rintro e w1 ⟨v, y, pp, qq, rfl, ⟨b1, A1, L1, p1, b2, A2, L2, p2, rfl, i1, i2⟩, ⟨bq1, o1, l1, c1, r1, m1, z1, bq2, o2, l2, c2, r2, m2, z2, rfl, j1, j2⟩, F1, F2, hb1⟩)
          obtain ⟨W1, eW1, B1, kx, kp⟩ := two_new w1 (.cells #[.bool b1, .int .u64 A1, .int .u64 L1, .pointer p1, .bool b2, .int .u64 A2, .int .u64 L2, .pointer p2] 49) (.cells #[.bool bq1, .slice o1 l1 c1, .slice r1 m1 z1, .bool bq2, .slice o2 l2 c2, .slice r2 m2 z2] 51)
          rw [eW1]
          have BB := bt hb1 B1
          have hbsr : base ≤ wr.heap.size := Nat.le_trans HT.out.lta.1.1 (Nat.le_of_lt HT.out.lta.1.2)
          have HB1 := HB.out.trans (BB.mono hbsr)
          have EK : ∃ F : Nat → Nm × Nm, F k_ = (pp, qq) ∧ ∀ j, j < k_ → F j = E_ j := ⟨fun j => if j = k_ then (pp, qq) else E_ j, if_pos rfl, fun j hj => if_neg (by omega)⟩
          obtain ⟨E_', hE', hEj⟩ := EK
          have T1 := (HT.out.below BB).congr hEj
          have O1 := HO.out.below BB
          have al8 := (Below.refl W1.heap.size W1).alloc (Nat.le_refl _) (.cells #[.bool b1, .int .u64 A1, .int .u64 L1, .pointer p1, .bool b2, .int .u64 A2, .int .u64 L2, .pointer p2] 49)
          have T2 := T1.below al8
          have O2 := O1.below al8
          have x1 : IsR (W1.alloc (.cells #[.bool b1, .int .u64 A1, .int .u64 L1, .pointer p1, .bool b2, .int .u64 A2, .int .u64 L2, .pointer p2] 49)) (.agg #[.bool b1, .int .u64 A1, .int .u64 L1, .pointer p1]) (E_' k_).1 := by rw [hE']; exact (i1.below B1).below al8
          have x2 : IsR (W1.alloc (.cells #[.bool b1, .int .u64 A1, .int .u64 L1, .pointer p1, .bool b2, .int .u64 A2, .int .u64 L2, .pointer p2] 49)) (.agg #[.bool b2, .int .u64 A2, .int .u64 L2, .pointer p2]) (E_' k_).2 := by rw [hE']; exact (i2.below B1).below al8
          have y1 : IsQ (W1.alloc (.cells #[.bool b1, .int .u64 A1, .int .u64 L1, .pointer p1, .bool b2, .int .u64 A2, .int .u64 L2, .pointer p2] 49)) (.agg #[.bool bq1, .slice o1 l1 c1, .slice r1 m1 z1]) (E_' k_).1 := by rw [hE']; exact (j1.below B1).below al8
          have y2 : IsQ (W1.alloc (.cells #[.bool b1, .int .u64 A1, .int .u64 L1, .pointer p1, .bool b2, .int .u64 A2, .int .u64 L2, .pointer p2] 49)) (.agg #[.bool bq2, .slice o2 l2 c2, .slice r2 m2 z2]) (E_' k_).2 := by rw [hE']; exact (j2.below B1).below al8
          have FF : Fits (E_' k_).1 256 ∧ Fits (E_' k_).2 256 := by rw [hE']; exact ⟨F1, F2⟩
          have zx := cell_at kx
          have cx0 : W1.cell? ⟨w1.heap.size, 0, none⟩ = some (.bool b1) := zx 0 _ rfl
          have cx1 : W1.cell? ⟨w1.heap.size, 1, none⟩ = some (.int .u64 A1) := zx 1 _ rfl
          have cx2 : W1.cell? ⟨w1.heap.size, 2, none⟩ = some (.int .u64 L1) := zx 2 _ rfl
          have cx3 : W1.cell? ⟨w1.heap.size, 3, none⟩ = some (.pointer p1) := zx 3 _ rfl
          have cx4 : W1.cell? ⟨w1.heap.size, 4, none⟩ = some (.bool b2) := zx 4 _ rfl
          have cx5 : W1.cell? ⟨w1.heap.size, 5, none⟩ = some (.int .u64 A2) := zx 5 _ rfl
          have cx6 : W1.cell? ⟨w1.heap.size, 6, none⟩ = some (.int .u64 L2) := zx 6 _ rfl
          have cx7 : W1.cell? ⟨w1.heap.size, 7, none⟩ = some (.pointer p2) := zx 7 _ rfl
          have kp2 := box_kept kp al8 (in_heap kp)
          have gpn : ga_ ≠ w1.heap.size + 1 := by have := HT.out.lta.1.2; have := hb1.size; omega
          have hbs : base ≤ W1.heap.size := Nat.le_trans HT.out.lta.1.1 (Nat.le_trans (Nat.le_of_lt HT.out.lta.1.2) BB.size)
          obtain ⟨gp, egp⟩ : ∃ x, w1.heap.size + 1 = x := ⟨_, rfl⟩
          obtain ⟨gx, egx⟩ : ∃ x, w1.heap.size = x := ⟨_, rfl⟩
          rw [egp] at kp2 gpn
          rw [egx] at cx0 cx1 cx2 cx3 cx4 cx5 cx6 cx7
          simp only [egp]
          simp only [egx]
          clear eW1 B1 kx kp BB hb1 T1 O1 i1 i2 j1 j2 F1 F2 zx egp egx HT HO HB cB2 e0 e1 e2 e3 e4 e5
          have ST : Hid (_ ∧ _ ∧ _ ∧ _) := ⟨T2, O2, HB1, FF⟩
          clear HB1
          go_wp2_with (first
            | (at_builtin; refine wpList_append_z _ rfl _ _ 70 rfl base 49 i0 (.agg #[.bool false, .int .u64 0, .int .u64 0, .pointer none, .bool false, .int .u64 0, .int .u64 0, .pointer none]) 8 64 Try.underlying70 hi hz0 hz1 hz2 rfl (by decide) va_ k_ xs_ rfl T2.oa ⟨W1.heap.size, 0, none⟩ 1 [.bool b1, .int .u64 A1, .int .u64 L1, .pointer p1, .bool b2, .int .u64 A2, .int .u64 L2, .pointer p2] rfl rfl (news_at W1 _ _ _ rfl) (by simp [Value.oneCell']) (by unfold maxLen; omega) (by omega) (Nat.le_trans hbs al8.size) pz8 pn8 T2.za ?_; intro va_' w2 own2 grow2 blk2 loc2; obtain ⟨ga_', hga', T3⟩ := T2.pushA x1 x2 FF own2 grow2 blk2 loc2; have GG := grow2; rw [T2.ba] at GG; obtain ⟨csa, hka⟩ := typed T2.oa T2.ba; have O3 := O2.other hka (by decide) (T2.za.plain T2.ba) DD.out.1.symm DD.out.2.1.symm GG; have kq := (GG.block gp (in_heap kp2) (by simpa using gpn.symm)).trans kp2; have zq := cell_at kq; have cq0 : w2.cell? ⟨gp, 0, none⟩ = some (.bool bq1) := zq 0 _ rfl; have cq1 : w2.cell? ⟨gp, 1, none⟩ = some (.slice o1 l1 c1) := zq 1 _ rfl; have cq2 : w2.cell? ⟨gp, 2, none⟩ = some (.slice r1 m1 z1) := zq 2 _ rfl; have cq3 : w2.cell? ⟨gp, 3, none⟩ = some (.bool bq2) := zq 3 _ rfl; have cq4 : w2.cell? ⟨gp, 4, none⟩ = some (.slice o2 l2 c2) := zq 4 _ rfl; have cq5 : w2.cell? ⟨gp, 5, none⟩ = some (.slice r2 m2 z2) := zq 5 _ rfl; have y3 := IsQ.grown y1 hka (by decide) GG; have y4 := IsQ.grown y2 hka (by decide) GG; have HB2 := (ST.out.2.2.1.alloc hbs (.cells #[.bool b1, .int .u64 A1, .int .u64 L1, .pointer p1, .bool b2, .int .u64 A2, .int .u64 L2, .pointer p2] 49)).grown grow2 (Nat.le_trans hbs al8.size) (fun j hj => (T2.oa.lt j hj).1); have al6 := (Below.refl w2.heap.size w2).alloc (Nat.le_refl _) (.cells #[.bool bq1, .slice o1 l1 c1, .slice r1 m1 z1, .bool bq2, .slice o2 l2 c2, .slice r2 m2 z2] 51); have T4 := T3.below al6; have O4 := O3.below al6; have y5 := y3.below al6; have y6 := y4.below al6; have hb2s : base ≤ w2.heap.size := Nat.le_trans hbs (Nat.le_trans al8.size GG.size); have gs := GG.size; clear zq kq own2 grow2 blk2 loc2 y3 y4 T3 O3)
            | (at_builtin; refine wpList_append_z _ rfl _ _ 71 rfl base 51 i1 (.agg #[.bool false, .slice none 0 0, .slice none 0 0, .bool false, .slice none 0 0, .slice none 0 0]) 6 112 Try.underlying71 hj hy0 hy1 hy2 rfl (by decide) vc_ k_ ys_ rfl T4.oc ⟨w2.heap.size, 0, none⟩ 1 [.bool bq1, .slice o1 l1 c1, .slice r1 m1 z1, .bool bq2, .slice o2 l2 c2, .slice r2 m2 z2] rfl rfl (news_at w2 _ _ _ rfl) (by simp [Value.oneCell']) (by unfold maxLen; omega) (by omega) (Nat.le_trans hb2s al6.size) pz6 pn6 T4.zc ?_; intro vc_' w3 own3 grow3 blk3 loc3; obtain ⟨gc_', hgc', T5⟩ := T4.pushC y5 y6 own3 grow3 blk3 loc3; have G3 := grow3; rw [T4.bc] at G3; obtain ⟨csc, hkc⟩ := typed T4.oc T4.bc; have O5 := O4.other hkc (by decide) (T4.zc.plain T4.bc) DD.out.2.2.1.symm DD.out.2.2.2.symm G3; have HB3 := (HB2.alloc hb2s (.cells #[.bool bq1, .slice o1 l1 c1, .slice r1 m1 z1, .bool bq2, .slice o2 l2 c2, .slice r2 m2 z2] 51)).grown grow3 (Nat.le_trans hb2s al6.size) (fun j hj => (T4.oc.lt j hj).1); have DN : Hid (ga_' ≠ ga ∧ ga_' ≠ gc ∧ gc_' ≠ ga ∧ gc_' ≠ gc) := dist4 hga' hgc' DD.out O2.lta O4.lta; have H5 : Hid (Two w3 base (k_ + 1) (k_ + 1) E_' va_' vc_' ga_' gc_' _ _) := T5; have HO5 : Hid (Two w3 base n1 n1 E va vc ga gc xs ys) := O5; have HB5 : Hid (Below base w w3) := HB3; clear own3 grow3 blk3 loc3 T5 O5 HB3))
          go_roundw
          case rel => exact ⟨k_ + 1, E_', va_', vc_', ga_', gc_', _, _, rfl, rfl, by omega, by go_num, H5, HO5, DN, HB5⟩
          case measure => simp [intOf]; omega
        · obtain rfl : 12 = k_ := by omega
          have q8 : ((12 : Nat) : Int) < (n2 : Int) := by omega
          go_wp2
          refine bodyPost_ret (v := .tuple #[va, va_, vc, vc_]) (by simp [results, go_sem]) rfl ?_
          exact ⟨E, E_, va, va_, vc, vc_, rfl, HO.out.rd.1, HT.out.rd.1, HO.out.rd.2, HT.out.rd.2, by have := HB.out; rw [← HBS.out] at this; exact this⟩
set_option maxRecDepth 20000 in
set_option maxHeartbeats 8000000 in
theorem lists_01 (o1 o2 : Option Addr) (n1 c1 n2 c2 : Nat) (w : World) (hl1 : 12 < n1) (hl2 : n2 ≤ 12) (h1 : 0 < n1 → ∃ g off, o1 = some ⟨g, off, none⟩ ∧ g < w.heap.size ∧ ∀ k, k < n1 → ∃ u0 u1 u2 u3 u4 u5 : Value, w.cell? ⟨g, off + k * 6, none⟩ = some u0 ∧ w.cell? ⟨g, off + k * 6 + 1, none⟩ = some u1 ∧ w.cell? ⟨g, off + k * 6 + 2, none⟩ = some u2 ∧ w.cell? ⟨g, off + k * 6 + 3, none⟩ = some u3 ∧ w.cell? ⟨g, off + k * 6 + 4, none⟩ = some u4 ∧ w.cell? ⟨g, off + k * 6 + 5, none⟩ = some u5 ∧ ∀ W, Below w.heap.size w W → Calls Try.prog 17 #[.agg #[u0, u1, u2, u3, u4, u5]] W fun e w' => ∃ v q p1 p2, e = .returned (.tuple #[v, q]) ∧ IsD w' v p1 p2 ∧ IsE w' q p1 p2 ∧ Fits p1 256 ∧ Fits p2 256 ∧ Below W.heap.size W w') (h2 : 0 < n2 → ∃ g off, o2 = some ⟨g, off, none⟩ ∧ g < w.heap.size ∧ ∀ k, k < n2 → ∃ u0 u1 u2 u3 u4 u5 : Value, w.cell? ⟨g, off + k * 6, none⟩ = some u0 ∧ w.cell? ⟨g, off + k * 6 + 1, none⟩ = some u1 ∧ w.cell? ⟨g, off + k * 6 + 2, none⟩ = some u2 ∧ w.cell? ⟨g, off + k * 6 + 3, none⟩ = some u3 ∧ w.cell? ⟨g, off + k * 6 + 4, none⟩ = some u4 ∧ w.cell? ⟨g, off + k * 6 + 5, none⟩ = some u5 ∧ ∀ W, Below w.heap.size w W → Calls Try.prog 17 #[.agg #[u0, u1, u2, u3, u4, u5]] W fun e w' => ∃ v q p1 p2, e = .returned (.tuple #[v, q]) ∧ IsD w' v p1 p2 ∧ IsE w' q p1 p2 ∧ Fits p1 256 ∧ Fits p2 256 ∧ Below W.heap.size W w') :
    Calls Try.prog 34 #[.slice o1 n1 c1, .slice o2 n2 c2] w fun e w' => ∃ E F va vb vc vd, e = .returned (.tuple #[va, vb, vc, vd]) ∧ RD w' va 12 E ∧ RD w' vb n2 F ∧ RE w' vc 12 E ∧ RE w' vd n2 F ∧ Below w.heap.size w w' := by
  obtain ⟨i0, hi, hz0, hz1, hz2⟩ := info_parts infoD
  obtain ⟨i1, hj, hy0, hy1, hy2⟩ := info_parts infoE
  have HI1 : Hid (0 < n1 → ∃ g off, o1 = some ⟨g, off, none⟩ ∧ g < w.heap.size ∧ ∀ k, k < n1 → ∃ u0 u1 u2 u3 u4 u5 : Value, w.cell? ⟨g, off + k * 6, none⟩ = some u0 ∧ w.cell? ⟨g, off + k * 6 + 1, none⟩ = some u1 ∧ w.cell? ⟨g, off + k * 6 + 2, none⟩ = some u2 ∧ w.cell? ⟨g, off + k * 6 + 3, none⟩ = some u3 ∧ w.cell? ⟨g, off + k * 6 + 4, none⟩ = some u4 ∧ w.cell? ⟨g, off + k * 6 + 5, none⟩ = some u5 ∧ ∀ W, Below w.heap.size w W → Calls Try.prog 17 #[.agg #[u0, u1, u2, u3, u4, u5]] W fun e w' => ∃ v q p1 p2, e = .returned (.tuple #[v, q]) ∧ IsD w' v p1 p2 ∧ IsE w' q p1 p2 ∧ Fits p1 256 ∧ Fits p2 256 ∧ Below W.heap.size W w') := h1
  have HI2 : Hid (0 < n2 → ∃ g off, o2 = some ⟨g, off, none⟩ ∧ g < w.heap.size ∧ ∀ k, k < n2 → ∃ u0 u1 u2 u3 u4 u5 : Value, w.cell? ⟨g, off + k * 6, none⟩ = some u0 ∧ w.cell? ⟨g, off + k * 6 + 1, none⟩ = some u1 ∧ w.cell? ⟨g, off + k * 6 + 2, none⟩ = some u2 ∧ w.cell? ⟨g, off + k * 6 + 3, none⟩ = some u3 ∧ w.cell? ⟨g, off + k * 6 + 4, none⟩ = some u4 ∧ w.cell? ⟨g, off + k * 6 + 5, none⟩ = some u5 ∧ ∀ W, Below w.heap.size w W → Calls Try.prog 17 #[.agg #[u0, u1, u2, u3, u4, u5]] W fun e w' => ∃ v q p1 p2, e = .returned (.tuple #[v, q]) ∧ IsD w' v p1 p2 ∧ IsE w' q p1 p2 ∧ Fits p1 256 ∧ Fits p2 256 ∧ Below W.heap.size W w') := h2
  obtain ⟨F0, eF0⟩ : ∃ F : Nat → Nm × Nm, F = fun _ => (intM 0, intM 0) := ⟨_, rfl⟩
  obtain ⟨W0, eW0, TA0, TB0, HB0⟩ := start4 w F0
  obtain ⟨base, ebase⟩ : ∃ b, w.heap.size = b := ⟨_, rfl⟩
  have EW : Hid (_ = W0) := eW0
  have HBS : Hid (w.heap.size = base) := ebase
  rw [ebase] at TA0 TB0 HB0
  have TA : Hid _ := TA0
  have TB : Hid _ := TB0
  have HB : Hid (Below base w W0) := HB0
  have DD : Hid (base ≠ base + 1 ∧ base ≠ base + 1 + 1 + 1 ∧ base + 1 + 1 ≠ base + 1 ∧ base + 1 + 1 ≠ base + 1 + 1 + 1) := ⟨by omega, by omega, by omega, by omega⟩
  clear h1 h2 eF0 eW0 TA0 TB0 HB0 ebase
  go_enter Try.func34, Try.ntmps34
  go_wp2
  rw [EW.out, HBS.out]
  obtain ⟨gd, egd⟩ : ∃ x, base + 1 + 1 + 1 = x := ⟨_, rfl⟩
  obtain ⟨g2, eg2⟩ : ∃ x, base + 1 + 1 = x := ⟨_, rfl⟩
  obtain ⟨gb, egb⟩ : ∃ x, base + 1 = x := ⟨_, rfl⟩
  rw [egd, egb] at TB
  rw [eg2] at TA
  simp only [egd] at DD
  simp only [eg2] at DD
  simp only [egb] at DD
  simp only [egd]
  simp only [eg2]
  simp only [egb]
  obtain ⟨vb, evb⟩ : ∃ x, Value.slice (some ⟨gb, 0, none⟩) 0 0 = x := ⟨_, rfl⟩
  obtain ⟨vd, evd⟩ : ∃ x, Value.slice (some ⟨gd, 0, none⟩) 0 0 = x := ⟨_, rfl⟩
  rw [evb, evd] at TB
  simp only [evb, evd]
  clear EW evb evd egd eg2 egb
  go_loopw [8, 10, 12] (fun sa sc iv wr => ∃ (k : Nat) (E : Nat → Nm × Nm) (va vc : Value) (ga gc : Nat) (xs ys : List Value), va = sa ∧ vc = sc ∧ k ≤ 12 ∧ iv = .int .i64 (k : Int) ∧ Hid (Two wr base k k E va vc ga gc xs ys) ∧ Hid (Two wr base 0 0 F0 vb vd gb gd [] []) ∧ Hid (ga ≠ gb ∧ ga ≠ gd ∧ gc ≠ gb ∧ gc ≠ gd) ∧ Hid (Below base w wr)) (fun _ _ iv _ => 12 - (intOf iv).toNat)
  case atStart => exact ⟨0, F0, _, _, _, _, [], [], rfl, rfl, Nat.zero_le _, rfl, TA.out, TB.out, DD.out, HB.out⟩
  case round =>
    clear TA TB DD HB
    obtain ⟨k, E, va, vc, ga, gc, xs, ys, rfl, rfl, hk, rfl, HT, HO, DD, HB⟩ := hrel
    by_cases hlt : k < 12
    · obtain ⟨g, off, rfl, hg, hrow⟩ := HI1.out (by omega)
      obtain ⟨u0, u1, u2, u3, u4, u5, a0, a1, a2, a3, a4, a5, cB⟩ := hrow k (by omega)
      have cw : ∀ i, wr.cell? ⟨g, i, none⟩ = w.cell? ⟨g, i, none⟩ := fun i => HB.out.cell (p := ⟨g, i, none⟩) (show g < base by have := HBS.out; omega)
      have e0 := (cw _).trans a0
      have e1 := (cw _).trans a1
      have e2 := (cw _).trans a2
      have e3 := (cw _).trans a3
      have e4 := (cw _).trans a4
      have e5 := (cw _).trans a5
      have cB2 := cB wr (by rw [HBS.out]; exact HB.out)
      have q1 : (k : Int) < (n1 : Int) := by omega
      have q2 : (k : Int) < 12 := by omega
      clear cw a0 a1 a2 a3 a4 a5 cB hrow hg
      go_upto_region 7 with (go_at_call 17; refine cB2.mono ?_; rintro e w1 ⟨v, y, pp, qq, rfl, ⟨b1, A1, L1, p1, b2, A2, L2, p2, rfl, i1, i2⟩, ⟨bq1, o1, l1, c1, r1, m1, z1, bq2, o2, l2, c2, r2, m2, z2, rfl, j1, j2⟩, F1, F2, hb1⟩)
      obtain ⟨W1, eW1, B1, kx, kp⟩ := two_new w1 (.cells #[.bool b1, .int .u64 A1, .int .u64 L1, .pointer p1, .bool b2, .int .u64 A2, .int .u64 L2, .pointer p2] 49) (.cells #[.bool bq1, .slice o1 l1 c1, .slice r1 m1 z1, .bool bq2, .slice o2 l2 c2, .slice r2 m2 z2] 51)
      rw [eW1]
      have BB := bt hb1 B1
      have hbsr : base ≤ wr.heap.size := Nat.le_trans HT.out.lta.1.1 (Nat.le_of_lt HT.out.lta.1.2)
      have HB1 := HB.out.trans (BB.mono hbsr)
      have EK : ∃ F : Nat → Nm × Nm, F k = (pp, qq) ∧ ∀ j, j < k → F j = E j := ⟨fun j => if j = k then (pp, qq) else E j, if_pos rfl, fun j hj => if_neg (by omega)⟩
      obtain ⟨E', hE', hEj⟩ := EK
      have T1 := (HT.out.below BB).congr hEj
      have O1 := HO.out.below BB
      have al8 := (Below.refl W1.heap.size W1).alloc (Nat.le_refl _) (.cells #[.bool b1, .int .u64 A1, .int .u64 L1, .pointer p1, .bool b2, .int .u64 A2, .int .u64 L2, .pointer p2] 49)
      have T2 := T1.below al8
      have O2 := O1.below al8
      have x1 : IsR (W1.alloc (.cells #[.bool b1, .int .u64 A1, .int .u64 L1, .pointer p1, .bool b2, .int .u64 A2, .int .u64 L2, .pointer p2] 49)) (.agg #[.bool b1, .int .u64 A1, .int .u64 L1, .pointer p1]) (E' k).1 := by rw [hE']; exact (i1.below B1).below al8
      have x2 : IsR (W1.alloc (.cells #[.bool b1, .int .u64 A1, .int .u64 L1, .pointer p1, .bool b2, .int .u64 A2, .int .u64 L2, .pointer p2] 49)) (.agg #[.bool b2, .int .u64 A2, .int .u64 L2, .pointer p2]) (E' k).2 := by rw [hE']; exact (i2.below B1).below al8
      have y1 : IsQ (W1.alloc (.cells #[.bool b1, .int .u64 A1, .int .u64 L1, .pointer p1, .bool b2, .int .u64 A2, .int .u64 L2, .pointer p2] 49)) (.agg #[.bool bq1, .slice o1 l1 c1, .slice r1 m1 z1]) (E' k).1 := by rw [hE']; exact (j1.below B1).below al8
      have y2 : IsQ (W1.alloc (.cells #[.bool b1, .int .u64 A1, .int .u64 L1, .pointer p1, .bool b2, .int .u64 A2, .int .u64 L2, .pointer p2] 49)) (.agg #[.bool bq2, .slice o2 l2 c2, .slice r2 m2 z2]) (E' k).2 := by rw [hE']; exact (j2.below B1).below al8
      have FF : Fits (E' k).1 256 ∧ Fits (E' k).2 256 := by rw [hE']; exact ⟨F1, F2⟩
      have zx := cell_at kx
      have cx0 : W1.cell? ⟨w1.heap.size, 0, none⟩ = some (.bool b1) := zx 0 _ rfl
      have cx1 : W1.cell? ⟨w1.heap.size, 1, none⟩ = some (.int .u64 A1) := zx 1 _ rfl
      have cx2 : W1.cell? ⟨w1.heap.size, 2, none⟩ = some (.int .u64 L1) := zx 2 _ rfl
      have cx3 : W1.cell? ⟨w1.heap.size, 3, none⟩ = some (.pointer p1) := zx 3 _ rfl
      have cx4 : W1.cell? ⟨w1.heap.size, 4, none⟩ = some (.bool b2) := zx 4 _ rfl
      have cx5 : W1.cell? ⟨w1.heap.size, 5, none⟩ = some (.int .u64 A2) := zx 5 _ rfl
      have cx6 : W1.cell? ⟨w1.heap.size, 6, none⟩ = some (.int .u64 L2) := zx 6 _ rfl
      have cx7 : W1.cell? ⟨w1.heap.size, 7, none⟩ = some (.pointer p2) := zx 7 _ rfl
      have kp2 := box_kept kp al8 (in_heap kp)
      have gpn : ga ≠ w1.heap.size + 1 := by have := HT.out.lta.1.2; have := hb1.size; omega
      have hbs : base ≤ W1.heap.size := Nat.le_trans HT.out.lta.1.1 (Nat.le_trans (Nat.le_of_lt HT.out.lta.1.2) BB.size)
      obtain ⟨gp, egp⟩ : ∃ x, w1.heap.size + 1 = x := ⟨_, rfl⟩
      obtain ⟨gx, egx⟩ : ∃ x, w1.heap.size = x := ⟨_, rfl⟩
      rw [egp] at kp2 gpn
      rw [egx] at cx0 cx1 cx2 cx3 cx4 cx5 cx6 cx7
      simp only [egp]
      simp only [egx]
      clear eW1 B1 kx kp BB hb1 T1 O1 i1 i2 j1 j2 F1 F2 zx egp egx HT HO HB cB2 e0 e1 e2 e3 e4 e5
      have ST : Hid (_ ∧ _ ∧ _ ∧ _) := ⟨T2, O2, HB1, FF⟩
      clear HB1
      go_wp2_with (first
        | (at_builtin; refine wpList_append_z _ rfl _ _ 70 rfl base 49 i0 (.agg #[.bool false, .int .u64 0, .int .u64 0, .pointer none, .bool false, .int .u64 0, .int .u64 0, .pointer none]) 8 64 Try.underlying70 hi hz0 hz1 hz2 rfl (by decide) va k xs rfl T2.oa ⟨W1.heap.size, 0, none⟩ 1 [.bool b1, .int .u64 A1, .int .u64 L1, .pointer p1, .bool b2, .int .u64 A2, .int .u64 L2, .pointer p2] rfl rfl (news_at W1 _ _ _ rfl) (by simp [Value.oneCell']) (by unfold maxLen; omega) (by omega) (Nat.le_trans hbs al8.size) pz8 pn8 T2.za ?_; intro va' w2 own2 grow2 blk2 loc2; obtain ⟨ga', hga', T3⟩ := T2.pushA x1 x2 FF own2 grow2 blk2 loc2; have GG := grow2; rw [T2.ba] at GG; obtain ⟨csa, hka⟩ := typed T2.oa T2.ba; have O3 := O2.other hka (by decide) (T2.za.plain T2.ba) DD.out.1.symm DD.out.2.1.symm GG; have kq := (GG.block gp (in_heap kp2) (by simpa using gpn.symm)).trans kp2; have zq := cell_at kq; have cq0 : w2.cell? ⟨gp, 0, none⟩ = some (.bool bq1) := zq 0 _ rfl; have cq1 : w2.cell? ⟨gp, 1, none⟩ = some (.slice o1 l1 c1) := zq 1 _ rfl; have cq2 : w2.cell? ⟨gp, 2, none⟩ = some (.slice r1 m1 z1) := zq 2 _ rfl; have cq3 : w2.cell? ⟨gp, 3, none⟩ = some (.bool bq2) := zq 3 _ rfl; have cq4 : w2.cell? ⟨gp, 4, none⟩ = some (.slice o2 l2 c2) := zq 4 _ rfl; have cq5 : w2.cell? ⟨gp, 5, none⟩ = some (.slice r2 m2 z2) := zq 5 _ rfl; have y3 := IsQ.grown y1 hka (by decide) GG; have y4 := IsQ.grown y2 hka (by decide) GG; have HB2 := (ST.out.2.2.1.alloc hbs (.cells #[.bool b1, .int .u64 A1, .int .u64 L1, .pointer p1, .bool b2, .int .u64 A2, .int .u64 L2, .pointer p2] 49)).grown grow2 (Nat.le_trans hbs al8.size) (fun j hj => (T2.oa.lt j hj).1); have al6 := (Below.refl w2.heap.size w2).alloc (Nat.le_refl _) (.cells #[.bool bq1, .slice o1 l1 c1, .slice r1 m1 z1, .bool bq2, .slice o2 l2 c2, .slice r2 m2 z2] 51); have T4 := T3.below al6; have O4 := O3.below al6; have y5 := y3.below al6; have y6 := y4.below al6; have hb2s : base ≤ w2.heap.size := Nat.le_trans hbs (Nat.le_trans al8.size GG.size); have gs := GG.size; clear zq kq own2 grow2 blk2 loc2 y3 y4 T3 O3)
        | (at_builtin; refine wpList_append_z _ rfl _ _ 71 rfl base 51 i1 (.agg #[.bool false, .slice none 0 0, .slice none 0 0, .bool false, .slice none 0 0, .slice none 0 0]) 6 112 Try.underlying71 hj hy0 hy1 hy2 rfl (by decide) vc k ys rfl T4.oc ⟨w2.heap.size, 0, none⟩ 1 [.bool bq1, .slice o1 l1 c1, .slice r1 m1 z1, .bool bq2, .slice o2 l2 c2, .slice r2 m2 z2] rfl rfl (news_at w2 _ _ _ rfl) (by simp [Value.oneCell']) (by unfold maxLen; omega) (by omega) (Nat.le_trans hb2s al6.size) pz6 pn6 T4.zc ?_; intro vc' w3 own3 grow3 blk3 loc3; obtain ⟨gc', hgc', T5⟩ := T4.pushC y5 y6 own3 grow3 blk3 loc3; have G3 := grow3; rw [T4.bc] at G3; obtain ⟨csc, hkc⟩ := typed T4.oc T4.bc; have O5 := O4.other hkc (by decide) (T4.zc.plain T4.bc) DD.out.2.2.1.symm DD.out.2.2.2.symm G3; have HB3 := (HB2.alloc hb2s (.cells #[.bool bq1, .slice o1 l1 c1, .slice r1 m1 z1, .bool bq2, .slice o2 l2 c2, .slice r2 m2 z2] 51)).grown grow3 (Nat.le_trans hb2s al6.size) (fun j hj => (T4.oc.lt j hj).1); have DN : Hid (ga' ≠ gb ∧ ga' ≠ gd ∧ gc' ≠ gb ∧ gc' ≠ gd) := dist4 hga' hgc' DD.out O2.lta O4.lta; have H5 : Hid (Two w3 base (k + 1) (k + 1) E' va' vc' ga' gc' _ _) := T5; have HO5 : Hid (Two w3 base 0 0 F0 vb vd gb gd [] []) := O5; have HB5 : Hid (Below base w w3) := HB3; clear own3 grow3 blk3 loc3 T5 O5 HB3))
      go_roundw
      case rel => exact ⟨k + 1, E', va', vc', ga', gc', _, _, rfl, rfl, by omega, by go_num, H5, HO5, DN, HB5⟩
      case measure => simp [intOf]; omega
    · obtain rfl : 12 = k := by omega
      have q9 : ((12 : Nat) : Int) < (n1 : Int) := by omega
      have TA : Hid (Two wr base 12 12 E va vc ga gc xs ys) := HT
      have TB : Hid (Two wr base 0 0 F0 vb vd gb gd [] []) := HO
      clear HT HO
      go_wp2
      go_loopw [9, 11, 15] (fun sa sc iv wr => ∃ (k_ : Nat) (E_ : Nat → Nm × Nm) (va_ vc_ : Value) (ga_ gc_ : Nat) (xs_ ys_ : List Value), va_ = sa ∧ vc_ = sc ∧ k_ ≤ n2 ∧ iv = .int .i64 (k_ : Int) ∧ Hid (Two wr base k_ k_ E_ va_ vc_ ga_ gc_ xs_ ys_) ∧ Hid (Two wr base 12 12 E va vc ga gc xs ys) ∧ Hid (ga_ ≠ ga ∧ ga_ ≠ gc ∧ gc_ ≠ ga ∧ gc_ ≠ gc) ∧ Hid (Below base w wr)) (fun _ _ iv _ => n2 - (intOf iv).toNat)
      case atStart => exact ⟨0, F0, _, _, _, _, [], [], rfl, rfl, Nat.zero_le _, rfl, TB.out, TA.out, ⟨DD.out.1.symm, DD.out.2.2.1.symm, DD.out.2.1.symm, DD.out.2.2.2.symm⟩, HB.out⟩
      case round =>
        clear TA TB DD HB
        obtain ⟨k_, E_, va_, vc_, ga_, gc_, xs_, ys_, rfl, rfl, hk, rfl, HT, HO, DD, HB⟩ := hrel
        by_cases hlt : k_ < n2
        · obtain ⟨g, off, rfl, hg, hrow⟩ := HI2.out (by omega)
          obtain ⟨u0, u1, u2, u3, u4, u5, a0, a1, a2, a3, a4, a5, cB⟩ := hrow k_ (by omega)
          have cw : ∀ i, wr.cell? ⟨g, i, none⟩ = w.cell? ⟨g, i, none⟩ := fun i => HB.out.cell (p := ⟨g, i, none⟩) (show g < base by have := HBS.out; omega)
          have e0 := (cw _).trans a0
          have e1 := (cw _).trans a1
          have e2 := (cw _).trans a2
          have e3 := (cw _).trans a3
          have e4 := (cw _).trans a4
          have e5 := (cw _).trans a5
          have cB2 := cB wr (by rw [HBS.out]; exact HB.out)
          have q1 : (k_ : Int) < (n2 : Int) := by omega
          have q2 : (k_ : Int) < 12 := by omega
          clear cw a0 a1 a2 a3 a4 a5 cB hrow hg
          go_upto_region 13 with (go_at_call 17; refine cB2.mono ?_; rintro e w1 ⟨v, y, pp, qq, rfl, ⟨b1, A1, L1, p1, b2, A2, L2, p2, rfl, i1, i2⟩, ⟨bq1, o1, l1, c1, r1, m1, z1, bq2, o2, l2, c2, r2, m2, z2, rfl, j1, j2⟩, F1, F2, hb1⟩)
          obtain ⟨W1, eW1, B1, kx, kp⟩ := two_new w1 (.cells #[.bool b1, .int .u64 A1, .int .u64 L1, .pointer p1, .bool b2, .int .u64 A2, .int .u64 L2, .pointer p2] 49) (.cells #[.bool bq1, .slice o1 l1 c1, .slice r1 m1 z1, .bool bq2, .slice o2 l2 c2, .slice r2 m2 z2] 51)
          rw [eW1]
          have BB := bt hb1 B1
          have hbsr : base ≤ wr.heap.size := Nat.le_trans HT.out.lta.1.1 (Nat.le_of_lt HT.out.lta.1.2)
          have HB1 := HB.out.trans (BB.mono hbsr)
          have EK : ∃ F : Nat → Nm × Nm, F k_ = (pp, qq) ∧ ∀ j, j < k_ → F j = E_ j := ⟨fun j => if j = k_ then (pp, qq) else E_ j, if_pos rfl, fun j hj => if_neg (by omega)⟩
          obtain ⟨E_', hE', hEj⟩ := EK
          have T1 := (HT.out.below BB).congr hEj
          have O1 := HO.out.below BB
          have al8 := (Below.refl W1.heap.size W1).alloc (Nat.le_refl _) (.cells #[.bool b1, .int .u64 A1, .int .u64 L1, .pointer p1, .bool b2, .int .u64 A2, .int .u64 L2, .pointer p2] 49)
          have T2 := T1.below al8
          have O2 := O1.below al8
          have x1 : IsR (W1.alloc (.cells #[.bool b1, .int .u64 A1, .int .u64 L1, .pointer p1, .bool b2, .int .u64 A2, .int .u64 L2, .pointer p2] 49)) (.agg #[.bool b1, .int .u64 A1, .int .u64 L1, .pointer p1]) (E_' k_).1 := by rw [hE']; exact (i1.below B1).below al8
          have x2 : IsR (W1.alloc (.cells #[.bool b1, .int .u64 A1, .int .u64 L1, .pointer p1, .bool b2, .int .u64 A2, .int .u64 L2, .pointer p2] 49)) (.agg #[.bool b2, .int .u64 A2, .int .u64 L2, .pointer p2]) (E_' k_).2 := by rw [hE']; exact (i2.below B1).below al8
          have y1 : IsQ (W1.alloc (.cells #[.bool b1, .int .u64 A1, .int .u64 L1, .pointer p1, .bool b2, .int .u64 A2, .int .u64 L2, .pointer p2] 49)) (.agg #[.bool bq1, .slice o1 l1 c1, .slice r1 m1 z1]) (E_' k_).1 := by rw [hE']; exact (j1.below B1).below al8
          have y2 : IsQ (W1.alloc (.cells #[.bool b1, .int .u64 A1, .int .u64 L1, .pointer p1, .bool b2, .int .u64 A2, .int .u64 L2, .pointer p2] 49)) (.agg #[.bool bq2, .slice o2 l2 c2, .slice r2 m2 z2]) (E_' k_).2 := by rw [hE']; exact (j2.below B1).below al8
          have FF : Fits (E_' k_).1 256 ∧ Fits (E_' k_).2 256 := by rw [hE']; exact ⟨F1, F2⟩
          have zx := cell_at kx
          have cx0 : W1.cell? ⟨w1.heap.size, 0, none⟩ = some (.bool b1) := zx 0 _ rfl
          have cx1 : W1.cell? ⟨w1.heap.size, 1, none⟩ = some (.int .u64 A1) := zx 1 _ rfl
          have cx2 : W1.cell? ⟨w1.heap.size, 2, none⟩ = some (.int .u64 L1) := zx 2 _ rfl
          have cx3 : W1.cell? ⟨w1.heap.size, 3, none⟩ = some (.pointer p1) := zx 3 _ rfl
          have cx4 : W1.cell? ⟨w1.heap.size, 4, none⟩ = some (.bool b2) := zx 4 _ rfl
          have cx5 : W1.cell? ⟨w1.heap.size, 5, none⟩ = some (.int .u64 A2) := zx 5 _ rfl
          have cx6 : W1.cell? ⟨w1.heap.size, 6, none⟩ = some (.int .u64 L2) := zx 6 _ rfl
          have cx7 : W1.cell? ⟨w1.heap.size, 7, none⟩ = some (.pointer p2) := zx 7 _ rfl
          have kp2 := box_kept kp al8 (in_heap kp)
          have gpn : ga_ ≠ w1.heap.size + 1 := by have := HT.out.lta.1.2; have := hb1.size; omega
          have hbs : base ≤ W1.heap.size := Nat.le_trans HT.out.lta.1.1 (Nat.le_trans (Nat.le_of_lt HT.out.lta.1.2) BB.size)
          obtain ⟨gp, egp⟩ : ∃ x, w1.heap.size + 1 = x := ⟨_, rfl⟩
          obtain ⟨gx, egx⟩ : ∃ x, w1.heap.size = x := ⟨_, rfl⟩
          rw [egp] at kp2 gpn
          rw [egx] at cx0 cx1 cx2 cx3 cx4 cx5 cx6 cx7
          simp only [egp]
          simp only [egx]
          clear eW1 B1 kx kp BB hb1 T1 O1 i1 i2 j1 j2 F1 F2 zx egp egx HT HO HB cB2 e0 e1 e2 e3 e4 e5
          have ST : Hid (_ ∧ _ ∧ _ ∧ _) := ⟨T2, O2, HB1, FF⟩
          clear HB1
          go_wp2_with (first
            | (at_builtin; refine wpList_append_z _ rfl _ _ 70 rfl base 49 i0 (.agg #[.bool false, .int .u64 0, .int .u64 0, .pointer none, .bool false, .int .u64 0, .int .u64 0, .pointer none]) 8 64 Try.underlying70 hi hz0 hz1 hz2 rfl (by decide) va_ k_ xs_ rfl T2.oa ⟨W1.heap.size, 0, none⟩ 1 [.bool b1, .int .u64 A1, .int .u64 L1, .pointer p1, .bool b2, .int .u64 A2, .int .u64 L2, .pointer p2] rfl rfl (news_at W1 _ _ _ rfl) (by simp [Value.oneCell']) (by unfold maxLen; omega) (by omega) (Nat.le_trans hbs al8.size) pz8 pn8 T2.za ?_; intro va_' w2 own2 grow2 blk2 loc2; obtain ⟨ga_', hga', T3⟩ := T2.pushA x1 x2 FF own2 grow2 blk2 loc2; have GG := grow2; rw [T2.ba] at GG; obtain ⟨csa, hka⟩ := typed T2.oa T2.ba; have O3 := O2.other hka (by decide) (T2.za.plain T2.ba) DD.out.1.symm DD.out.2.1.symm GG; have kq := (GG.block gp (in_heap kp2) (by simpa using gpn.symm)).trans kp2; have zq := cell_at kq; have cq0 : w2.cell? ⟨gp, 0, none⟩ = some (.bool bq1) := zq 0 _ rfl; have cq1 : w2.cell? ⟨gp, 1, none⟩ = some (.slice o1 l1 c1) := zq 1 _ rfl; have cq2 : w2.cell? ⟨gp, 2, none⟩ = some (.slice r1 m1 z1) := zq 2 _ rfl; have cq3 : w2.cell? ⟨gp, 3, none⟩ = some (.bool bq2) := zq 3 _ rfl; have cq4 : w2.cell? ⟨gp, 4, none⟩ = some (.slice o2 l2 c2) := zq 4 _ rfl; have cq5 : w2.cell? ⟨gp, 5, none⟩ = some (.slice r2 m2 z2) := zq 5 _ rfl; have y3 := IsQ.grown y1 hka (by decide) GG; have y4 := IsQ.grown y2 hka (by decide) GG; have HB2 := (ST.out.2.2.1.alloc hbs (.cells #[.bool b1, .int .u64 A1, .int .u64 L1, .pointer p1, .bool b2, .int .u64 A2, .int .u64 L2, .pointer p2] 49)).grown grow2 (Nat.le_trans hbs al8.size) (fun j hj => (T2.oa.lt j hj).1); have al6 := (Below.refl w2.heap.size w2).alloc (Nat.le_refl _) (.cells #[.bool bq1, .slice o1 l1 c1, .slice r1 m1 z1, .bool bq2, .slice o2 l2 c2, .slice r2 m2 z2] 51); have T4 := T3.below al6; have O4 := O3.below al6; have y5 := y3.below al6; have y6 := y4.below al6; have hb2s : base ≤ w2.heap.size := Nat.le_trans hbs (Nat.le_trans al8.size GG.size); have gs := GG.size; clear zq kq own2 grow2 blk2 loc2 y3 y4 T3 O3)
            | (at_builtin; refine wpList_append_z _ rfl _ _ 71 rfl base 51 i1 (.agg #[.bool false, .slice none 0 0, .slice none 0 0, .bool false, .slice none 0 0, .slice none 0 0]) 6 112 Try.underlying71 hj hy0 hy1 hy2 rfl (by decide) vc_ k_ ys_ rfl T4.oc ⟨w2.heap.size, 0, none⟩ 1 [.bool bq1, .slice o1 l1 c1, .slice r1 m1 z1, .bool bq2, .slice o2 l2 c2, .slice r2 m2 z2] rfl rfl (news_at w2 _ _ _ rfl) (by simp [Value.oneCell']) (by unfold maxLen; omega) (by omega) (Nat.le_trans hb2s al6.size) pz6 pn6 T4.zc ?_; intro vc_' w3 own3 grow3 blk3 loc3; obtain ⟨gc_', hgc', T5⟩ := T4.pushC y5 y6 own3 grow3 blk3 loc3; have G3 := grow3; rw [T4.bc] at G3; obtain ⟨csc, hkc⟩ := typed T4.oc T4.bc; have O5 := O4.other hkc (by decide) (T4.zc.plain T4.bc) DD.out.2.2.1.symm DD.out.2.2.2.symm G3; have HB3 := (HB2.alloc hb2s (.cells #[.bool bq1, .slice o1 l1 c1, .slice r1 m1 z1, .bool bq2, .slice o2 l2 c2, .slice r2 m2 z2] 51)).grown grow3 (Nat.le_trans hb2s al6.size) (fun j hj => (T4.oc.lt j hj).1); have DN : Hid (ga_' ≠ ga ∧ ga_' ≠ gc ∧ gc_' ≠ ga ∧ gc_' ≠ gc) := dist4 hga' hgc' DD.out O2.lta O4.lta; have H5 : Hid (Two w3 base (k_ + 1) (k_ + 1) E_' va_' vc_' ga_' gc_' _ _) := T5; have HO5 : Hid (Two w3 base 12 12 E va vc ga gc xs ys) := O5; have HB5 : Hid (Below base w w3) := HB3; clear own3 grow3 blk3 loc3 T5 O5 HB3))
          go_roundw
          case rel => exact ⟨k_ + 1, E_', va_', vc_', ga_', gc_', _, _, rfl, rfl, by omega, by go_num, H5, HO5, DN, HB5⟩
          case measure => simp [intOf]; omega
        · obtain rfl : n2 = k_ := by omega
          have q8 : True := trivial
          go_wp2
          refine bodyPost_ret (v := .tuple #[va, va_, vc, vc_]) (by simp [results, go_sem]) rfl ?_
          exact ⟨E, E_, va, va_, vc, vc_, rfl, HO.out.rd.1, HT.out.rd.1, HO.out.rd.2, HT.out.rd.2, by have := HB.out; rw [← HBS.out] at this; exact this⟩
set_option maxRecDepth 20000 in
set_option maxHeartbeats 8000000 in
theorem lists_00 (o1 o2 : Option Addr) (n1 c1 n2 c2 : Nat) (w : World) (hl1 : 12 < n1) (hl2 : 12 < n2) (h1 : 0 < n1 → ∃ g off, o1 = some ⟨g, off, none⟩ ∧ g < w.heap.size ∧ ∀ k, k < n1 → ∃ u0 u1 u2 u3 u4 u5 : Value, w.cell? ⟨g, off + k * 6, none⟩ = some u0 ∧ w.cell? ⟨g, off + k * 6 + 1, none⟩ = some u1 ∧ w.cell? ⟨g, off + k * 6 + 2, none⟩ = some u2 ∧ w.cell? ⟨g, off + k * 6 + 3, none⟩ = some u3 ∧ w.cell? ⟨g, off + k * 6 + 4, none⟩ = some u4 ∧ w.cell? ⟨g, off + k * 6 + 5, none⟩ = some u5 ∧ ∀ W, Below w.heap.size w W → Calls Try.prog 17 #[.agg #[u0, u1, u2, u3, u4, u5]] W fun e w' => ∃ v q p1 p2, e = .returned (.tuple #[v, q]) ∧ IsD w' v p1 p2 ∧ IsE w' q p1 p2 ∧ Fits p1 256 ∧ Fits p2 256 ∧ Below W.heap.size W w') (h2 : 0 < n2 → ∃ g off, o2 = some ⟨g, off, none⟩ ∧ g < w.heap.size ∧ ∀ k, k < n2 → ∃ u0 u1 u2 u3 u4 u5 : Value, w.cell? ⟨g, off + k * 6, none⟩ = some u0 ∧ w.cell? ⟨g, off + k * 6 + 1, none⟩ = some u1 ∧ w.cell? ⟨g, off + k * 6 + 2, none⟩ = some u2 ∧ w.cell? ⟨g, off + k * 6 + 3, none⟩ = some u3 ∧ w.cell? ⟨g, off + k * 6 + 4, none⟩ = some u4 ∧ w.cell? ⟨g, off + k * 6 + 5, none⟩ = some u5 ∧ ∀ W, Below w.heap.size w W → Calls Try.prog 17 #[.agg #[u0, u1, u2, u3, u4, u5]] W fun e w' => ∃ v q p1 p2, e = .returned (.tuple #[v, q]) ∧ IsD w' v p1 p2 ∧ IsE w' q p1 p2 ∧ Fits p1 256 ∧ Fits p2 256 ∧ Below W.heap.size W w') :
    Calls Try.prog 34 #[.slice o1 n1 c1, .slice o2 n2 c2] w fun e w' => ∃ E F va vb vc vd, e = .returned (.tuple #[va, vb, vc, vd]) ∧ RD w' va 12 E ∧ RD w' vb 12 F ∧ RE w' vc 12 E ∧ RE w' vd 12 F ∧ Below w.heap.size w w' := by
  obtain ⟨i0, hi, hz0, hz1, hz2⟩ := info_parts infoD
  obtain ⟨i1, hj, hy0, hy1, hy2⟩ := info_parts infoE
  have HI1 : Hid (0 < n1 → ∃ g off, o1 = some ⟨g, off, none⟩ ∧ g < w.heap.size ∧ ∀ k, k < n1 → ∃ u0 u1 u2 u3 u4 u5 : Value, w.cell? ⟨g, off + k * 6, none⟩ = some u0 ∧ w.cell? ⟨g, off + k * 6 + 1, none⟩ = some u1 ∧ w.cell? ⟨g, off + k * 6 + 2, none⟩ = some u2 ∧ w.cell? ⟨g, off + k * 6 + 3, none⟩ = some u3 ∧ w.cell? ⟨g, off + k * 6 + 4, none⟩ = some u4 ∧ w.cell? ⟨g, off + k * 6 + 5, none⟩ = some u5 ∧ ∀ W, Below w.heap.size w W → Calls Try.prog 17 #[.agg #[u0, u1, u2, u3, u4, u5]] W fun e w' => ∃ v q p1 p2, e = .returned (.tuple #[v, q]) ∧ IsD w' v p1 p2 ∧ IsE w' q p1 p2 ∧ Fits p1 256 ∧ Fits p2 256 ∧ Below W.heap.size W w') := h1
  have HI2 : Hid (0 < n2 → ∃ g off, o2 = some ⟨g, off, none⟩ ∧ g < w.heap.size ∧ ∀ k, k < n2 → ∃ u0 u1 u2 u3 u4 u5 : Value, w.cell? ⟨g, off + k * 6, none⟩ = some u0 ∧ w.cell? ⟨g, off + k * 6 + 1, none⟩ = some u1 ∧ w.cell? ⟨g, off + k * 6 + 2, none⟩ = some u2 ∧ w.cell? ⟨g, off + k * 6 + 3, none⟩ = some u3 ∧ w.cell? ⟨g, off + k * 6 + 4, none⟩ = some u4 ∧ w.cell? ⟨g, off + k * 6 + 5, none⟩ = some u5 ∧ ∀ W, Below w.heap.size w W → Calls Try.prog 17 #[.agg #[u0, u1, u2, u3, u4, u5]] W fun e w' => ∃ v q p1 p2, e = .returned (.tuple #[v, q]) ∧ IsD w' v p1 p2 ∧ IsE w' q p1 p2 ∧ Fits p1 256 ∧ Fits p2 256 ∧ Below W.heap.size W w') := h2
  obtain ⟨F0, eF0⟩ : ∃ F : Nat → Nm × Nm, F = fun _ => (intM 0, intM 0) := ⟨_, rfl⟩
  obtain ⟨W0, eW0, TA0, TB0, HB0⟩ := start4 w F0
  obtain ⟨base, ebase⟩ : ∃ b, w.heap.size = b := ⟨_, rfl⟩
  have EW : Hid (_ = W0) := eW0
  have HBS : Hid (w.heap.size = base) := ebase
  rw [ebase] at TA0 TB0 HB0
  have TA : Hid _ := TA0
  have TB : Hid _ := TB0
  have HB : Hid (Below base w W0) := HB0
  have DD : Hid (base ≠ base + 1 ∧ base ≠ base + 1 + 1 + 1 ∧ base + 1 + 1 ≠ base + 1 ∧ base + 1 + 1 ≠ base + 1 + 1 + 1) := ⟨by omega, by omega, by omega, by omega⟩
  clear h1 h2 eF0 eW0 TA0 TB0 HB0 ebase
  go_enter Try.func34, Try.ntmps34
  go_wp2
  rw [EW.out, HBS.out]
  obtain ⟨gd, egd⟩ : ∃ x, base + 1 + 1 + 1 = x := ⟨_, rfl⟩
  obtain ⟨g2, eg2⟩ : ∃ x, base + 1 + 1 = x := ⟨_, rfl⟩
  obtain ⟨gb, egb⟩ : ∃ x, base + 1 = x := ⟨_, rfl⟩
  rw [egd, egb] at TB
  rw [eg2] at TA
  simp only [egd] at DD
  simp only [eg2] at DD
  simp only [egb] at DD
  simp only [egd]
  simp only [eg2]
  simp only [egb]
  obtain ⟨vb, evb⟩ : ∃ x, Value.slice (some ⟨gb, 0, none⟩) 0 0 = x := ⟨_, rfl⟩
  obtain ⟨vd, evd⟩ : ∃ x, Value.slice (some ⟨gd, 0, none⟩) 0 0 = x := ⟨_, rfl⟩
  rw [evb, evd] at TB
  simp only [evb, evd]
  clear EW evb evd egd eg2 egb
  go_loopw [8, 10, 12] (fun sa sc iv wr => ∃ (k : Nat) (E : Nat → Nm × Nm) (va vc : Value) (ga gc : Nat) (xs ys : List Value), va = sa ∧ vc = sc ∧ k ≤ 12 ∧ iv = .int .i64 (k : Int) ∧ Hid (Two wr base k k E va vc ga gc xs ys) ∧ Hid (Two wr base 0 0 F0 vb vd gb gd [] []) ∧ Hid (ga ≠ gb ∧ ga ≠ gd ∧ gc ≠ gb ∧ gc ≠ gd) ∧ Hid (Below base w wr)) (fun _ _ iv _ => 12 - (intOf iv).toNat)
  case atStart => exact ⟨0, F0, _, _, _, _, [], [], rfl, rfl, Nat.zero_le _, rfl, TA.out, TB.out, DD.out, HB.out⟩
  case round =>
    clear TA TB DD HB
    obtain ⟨k, E, va, vc, ga, gc, xs, ys, rfl, rfl, hk, rfl, HT, HO, DD, HB⟩ := hrel
    by_cases hlt : k < 12
    · obtain ⟨g, off, rfl, hg, hrow⟩ := HI1.out (by omega)
      obtain ⟨u0, u1, u2, u3, u4, u5, a0, a1, a2, a3, a4, a5, cB⟩ := hrow k (by omega)
      have cw : ∀ i, wr.cell? ⟨g, i, none⟩ = w.cell? ⟨g, i, none⟩ := fun i => HB.out.cell (p := ⟨g, i, none⟩) (show g < base by have := HBS.out; omega)
      have e0 := (cw _).trans a0
      have e1 := (cw _).trans a1
      have e2 := (cw _).trans a2
      have e3 := (cw _).trans a3
      have e4 := (cw _).trans a4
      have e5 := (cw _).trans a5
      have cB2 := cB wr (by rw [HBS.out]; exact HB.out)
      have q1 : (k : Int) < (n1 : Int) := by omega
      have q2 : (k : Int) < 12 := by omega
      clear cw a0 a1 a2 a3 a4 a5 cB hrow hg
      go_upto_region 7 with (go_at_call 17; refine cB2.mono ?_; rintro e w1 ⟨v, y, pp, qq, rfl, ⟨b1, A1, L1, p1, b2, A2, L2, p2, rfl, i1, i2⟩, ⟨bq1, o1, l1, c1, r1, m1, z1, bq2, o2, l2, c2, r2, m2, z2, rfl, j1, j2⟩, F1, F2, hb1⟩)
      obtain ⟨W1, eW1, B1, kx, kp⟩ := two_new w1 (.cells #[.bool b1, .int .u64 A1, .int .u64 L1, .pointer p1, .bool b2, .int .u64 A2, .int .u64 L2, .pointer p2] 49) (.cells #[.bool bq1, .slice o1 l1 c1, .slice r1 m1 z1, .bool bq2, .slice o2 l2 c2, .slice r2 m2 z2] 51)
      rw [eW1]
      have BB := bt hb1 B1
      have hbsr : base ≤ wr.heap.size := Nat.le_trans HT.out.lta.1.1 (Nat.le_of_lt HT.out.lta.1.2)
      have HB1 := HB.out.trans (BB.mono hbsr)
      have EK : ∃ F : Nat → Nm × Nm, F k = (pp, qq) ∧ ∀ j, j < k → F j = E j := ⟨fun j => if j = k then (pp, qq) else E j, if_pos rfl, fun j hj => if_neg (by omega)⟩
      obtain ⟨E', hE', hEj⟩ := EK
      have T1 := (HT.out.below BB).congr hEj
      have O1 := HO.out.below BB
      have al8 := (Below.refl W1.heap.size W1).alloc (Nat.le_refl _) (.cells #[.bool b1, .int .u64 A1, .int .u64 L1, .pointer p1, .bool b2, .int .u64 A2, .int .u64 L2, .pointer p2] 49)
      have T2 := T1.below al8
      have O2 := O1.below al8
      have x1 : IsR (W1.alloc (.cells #[.bool b1, .int .u64 A1, .int .u64 L1, .pointer p1, .bool b2, .int .u64 A2, .int .u64 L2, .pointer p2] 49)) (.agg #[.bool b1, .int .u64 A1, .int .u64 L1, .pointer p1]) (E' k).1 := by rw [hE']; exact (i1.below B1).below al8
      have x2 : IsR (W1.alloc (.cells #[.bool b1, .int .u64 A1, .int .u64 L1, .pointer p1, .bool b2, .int .u64 A2, .int .u64 L2, .pointer p2] 49)) (.agg #[.bool b2, .int .u64 A2, .int .u64 L2, .pointer p2]) (E' k).2 := by rw [hE']; exact (i2.below B1).below al8
      have y1 : IsQ (W1.alloc (.cells #[.bool b1, .int .u64 A1, .int .u64 L1, .pointer p1, .bool b2, .int .u64 A2, .int .u64 L2, .pointer p2] 49)) (.agg #[.bool bq1, .slice o1 l1 c1, .slice r1 m1 z1]) (E' k).1 := by rw [hE']; exact (j1.below B1).below al8
      have y2 : IsQ (W1.alloc (.cells #[.bool b1, .int .u64 A1, .int .u64 L1, .pointer p1, .bool b2, .int .u64 A2, .int .u64 L2, .pointer p2] 49)) (.agg #[.bool bq2, .slice o2 l2 c2, .slice r2 m2 z2]) (E' k).2 := by rw [hE']; exact (j2.below B1).below al8
      have FF : Fits (E' k).1 256 ∧ Fits (E' k).2 256 := by rw [hE']; exact ⟨F1, F2⟩
      have zx := cell_at kx
      have cx0 : W1.cell? ⟨w1.heap.size, 0, none⟩ = some (.bool b1) := zx 0 _ rfl
      have cx1 : W1.cell? ⟨w1.heap.size, 1, none⟩ = some (.int .u64 A1) := zx 1 _ rfl
      have cx2 : W1.cell? ⟨w1.heap.size, 2, none⟩ = some (.int .u64 L1) := zx 2 _ rfl
      have cx3 : W1.cell? ⟨w1.heap.size, 3, none⟩ = some (.pointer p1) := zx 3 _ rfl
      have cx4 : W1.cell? ⟨w1.heap.size, 4, none⟩ = some (.bool b2) := zx 4 _ rfl
      have cx5 : W1.cell? ⟨w1.heap.size, 5, none⟩ = some (.int .u64 A2) := zx 5 _ rfl
      have cx6 : W1.cell? ⟨w1.heap.size, 6, none⟩ = some (.int .u64 L2) := zx 6 _ rfl
      have cx7 : W1.cell? ⟨w1.heap.size, 7, none⟩ = some (.pointer p2) := zx 7 _ rfl
      have kp2 := box_kept kp al8 (in_heap kp)
      have gpn : ga ≠ w1.heap.size + 1 := by have := HT.out.lta.1.2; have := hb1.size; omega
      have hbs : base ≤ W1.heap.size := Nat.le_trans HT.out.lta.1.1 (Nat.le_trans (Nat.le_of_lt HT.out.lta.1.2) BB.size)
      obtain ⟨gp, egp⟩ : ∃ x, w1.heap.size + 1 = x := ⟨_, rfl⟩
      obtain ⟨gx, egx⟩ : ∃ x, w1.heap.size = x := ⟨_, rfl⟩
      rw [egp] at kp2 gpn
      rw [egx] at cx0 cx1 cx2 cx3 cx4 cx5 cx6 cx7
      simp only [egp]
      simp only [egx]
      clear eW1 B1 kx kp BB hb1 T1 O1 i1 i2 j1 j2 F1 F2 zx egp egx HT HO HB cB2 e0 e1 e2 e3 e4 e5
      have ST : Hid (_ ∧ _ ∧ _ ∧ _) := ⟨T2, O2, HB1, FF⟩
      clear HB1
      go_wp2_with (first
        | (at_builtin; refine wpList_append_z _ rfl _ _ 70 rfl base 49 i0 (.agg #[.bool false, .int .u64 0, .int .u64 0, .pointer none, .bool false, .int .u64 0, .int .u64 0, .pointer none]) 8 64 Try.underlying70 hi hz0 hz1 hz2 rfl (by decide) va k xs rfl T2.oa ⟨W1.heap.size, 0, none⟩ 1 [.bool b1, .int .u64 A1, .int .u64 L1, .pointer p1, .bool b2, .int .u64 A2, .int .u64 L2, .pointer p2] rfl rfl (news_at W1 _ _ _ rfl) (by simp [Value.oneCell']) (by unfold maxLen; omega) (by omega) (Nat.le_trans hbs al8.size) pz8 pn8 T2.za ?_; intro va' w2 own2 grow2 blk2 loc2; obtain ⟨ga', hga', T3⟩ := T2.pushA x1 x2 FF own2 grow2 blk2 loc2; have GG := grow2; rw [T2.ba] at GG; obtain ⟨csa, hka⟩ := typed T2.oa T2.ba; have O3 := O2.other hka (by decide) (T2.za.plain T2.ba) DD.out.1.symm DD.out.2.1.symm GG; have kq := (GG.block gp (in_heap kp2) (by simpa using gpn.symm)).trans kp2; have zq := cell_at kq; have cq0 : w2.cell? ⟨gp, 0, none⟩ = some (.bool bq1) := zq 0 _ rfl; have cq1 : w2.cell? ⟨gp, 1, none⟩ = some (.slice o1 l1 c1) := zq 1 _ rfl; have cq2 : w2.cell? ⟨gp, 2, none⟩ = some (.slice r1 m1 z1) := zq 2 _ rfl; have cq3 : w2.cell? ⟨gp, 3, none⟩ = some (.bool bq2) := zq 3 _ rfl; have cq4 : w2.cell? ⟨gp, 4, none⟩ = some (.slice o2 l2 c2) := zq 4 _ rfl; have cq5 : w2.cell? ⟨gp, 5, none⟩ = some (.slice r2 m2 z2) := zq 5 _ rfl; have y3 := IsQ.grown y1 hka (by decide) GG; have y4 := IsQ.grown y2 hka (by decide) GG; have HB2 := (ST.out.2.2.1.alloc hbs (.cells #[.bool b1, .int .u64 A1, .int .u64 L1, .pointer p1, .bool b2, .int .u64 A2, .int .u64 L2, .pointer p2] 49)).grown grow2 (Nat.le_trans hbs al8.size) (fun j hj => (T2.oa.lt j hj).1); have al6 := (Below.refl w2.heap.size w2).alloc (Nat.le_refl _) (.cells #[.bool bq1, .slice o1 l1 c1, .slice r1 m1 z1, .bool bq2, .slice o2 l2 c2, .slice r2 m2 z2] 51); have T4 := T3.below al6; have O4 := O3.below al6; have y5 := y3.below al6; have y6 := y4.below al6; have hb2s : base ≤ w2.heap.size := Nat.le_trans hbs (Nat.le_trans al8.size GG.size); have gs := GG.size; clear zq kq own2 grow2 blk2 loc2 y3 y4 T3 O3)
        | (at_builtin; refine wpList_append_z _ rfl _ _ 71 rfl base 51 i1 (.agg #[.bool false, .slice none 0 0, .slice none 0 0, .bool false, .slice none 0 0, .slice none 0 0]) 6 112 Try.underlying71 hj hy0 hy1 hy2 rfl (by decide) vc k ys rfl T4.oc ⟨w2.heap.size, 0, none⟩ 1 [.bool bq1, .slice o1 l1 c1, .slice r1 m1 z1, .bool bq2, .slice o2 l2 c2, .slice r2 m2 z2] rfl rfl (news_at w2 _ _ _ rfl) (by simp [Value.oneCell']) (by unfold maxLen; omega) (by omega) (Nat.le_trans hb2s al6.size) pz6 pn6 T4.zc ?_; intro vc' w3 own3 grow3 blk3 loc3; obtain ⟨gc', hgc', T5⟩ := T4.pushC y5 y6 own3 grow3 blk3 loc3; have G3 := grow3; rw [T4.bc] at G3; obtain ⟨csc, hkc⟩ := typed T4.oc T4.bc; have O5 := O4.other hkc (by decide) (T4.zc.plain T4.bc) DD.out.2.2.1.symm DD.out.2.2.2.symm G3; have HB3 := (HB2.alloc hb2s (.cells #[.bool bq1, .slice o1 l1 c1, .slice r1 m1 z1, .bool bq2, .slice o2 l2 c2, .slice r2 m2 z2] 51)).grown grow3 (Nat.le_trans hb2s al6.size) (fun j hj => (T4.oc.lt j hj).1); have DN : Hid (ga' ≠ gb ∧ ga' ≠ gd ∧ gc' ≠ gb ∧ gc' ≠ gd) := dist4 hga' hgc' DD.out O2.lta O4.lta; have H5 : Hid (Two w3 base (k + 1) (k + 1) E' va' vc' ga' gc' _ _) := T5; have HO5 : Hid (Two w3 base 0 0 F0 vb vd gb gd [] []) := O5; have HB5 : Hid (Below base w w3) := HB3; clear own3 grow3 blk3 loc3 T5 O5 HB3))
      go_roundw
      case rel => exact ⟨k + 1, E', va', vc', ga', gc', _, _, rfl, rfl, by omega, by go_num, H5, HO5, DN, HB5⟩
      case measure => simp [intOf]; omega
    · obtain rfl : 12 = k := by omega
      have q9 : ((12 : Nat) : Int) < (n1 : Int) := by omega
      have TA : Hid (Two wr base 12 12 E va vc ga gc xs ys) := HT
      have TB : Hid (Two wr base 0 0 F0 vb vd gb gd [] []) := HO
      clear HT HO
      go_wp2
      go_loopw [9, 11, 15] (fun sa sc iv wr => ∃ (k_ : Nat) (E_ : Nat → Nm × Nm) (va_ vc_ : Value) (ga_ gc_ : Nat) (xs_ ys_ : List Value), va_ = sa ∧ vc_ = sc ∧ k_ ≤ 12 ∧ iv = .int .i64 (k_ : Int) ∧ Hid (Two wr base k_ k_ E_ va_ vc_ ga_ gc_ xs_ ys_) ∧ Hid (Two wr base 12 12 E va vc ga gc xs ys) ∧ Hid (ga_ ≠ ga ∧ ga_ ≠ gc ∧ gc_ ≠ ga ∧ gc_ ≠ gc) ∧ Hid (Below base w wr)) (fun _ _ iv _ => 12 - (intOf iv).toNat)
      case atStart => exact ⟨0, F0, _, _, _, _, [], [], rfl, rfl, Nat.zero_le _, rfl, TB.out, TA.out, ⟨DD.out.1.symm, DD.out.2.2.1.symm, DD.out.2.1.symm, DD.out.2.2.2.symm⟩, HB.out⟩
      case round =>
        clear TA TB DD HB
        obtain ⟨k_, E_, va_, vc_, ga_, gc_, xs_, ys_, rfl, rfl, hk, rfl, HT, HO, DD, HB⟩ := hrel
        by_cases hlt : k_ < 12
        · obtain ⟨g, off, rfl, hg, hrow⟩ := HI2.out (by omega)
          obtain ⟨u0, u1, u2, u3, u4, u5, a0, a1, a2, a3, a4, a5, cB⟩ := hrow k_ (by omega)
          have cw : ∀ i, wr.cell? ⟨g, i, none⟩ = w.cell? ⟨g, i, none⟩ := fun i => HB.out.cell (p := ⟨g, i, none⟩) (show g < base by have := HBS.out; omega)
          have e0 := (cw _).trans a0
          have e1 := (cw _).trans a1
          have e2 := (cw _).trans a2
          have e3 := (cw _).trans a3
          have e4 := (cw _).trans a4
          have e5 := (cw _).trans a5
          have cB2 := cB wr (by rw [HBS.out]; exact HB.out)
          have q1 : (k_ : Int) < (n2 : Int) := by omega
          have q2 : (k_ : Int) < 12 := by omega
          clear cw a0 a1 a2 a3 a4 a5 cB hrow hg
          go_upto_region 13 with (go_at_call 17; refine cB2.mono ?_; rintro e w1 ⟨v, y, pp, qq, rfl, ⟨b1, A1, L1, p1, b2, A2, L2, p2, rfl, i1, i2⟩, ⟨bq1, o1, l1, c1, r1, m1, z1, bq2, o2, l2, c2, r2, m2, z2, rfl, j1, j2⟩, F1, F2, hb1⟩)
          obtain ⟨W1, eW1, B1, kx, kp⟩ := two_new w1 (.cells #[.bool b1, .int .u64 A1, .int .u64 L1, .pointer p1, .bool b2, .int .u64 A2, .int .u64 L2, .pointer p2] 49) (.cells #[.bool bq1, .slice o1 l1 c1, .slice r1 m1 z1, .bool bq2, .slice o2 l2 c2, .slice r2 m2 z2] 51)
          rw [eW1]
          have BB := bt hb1 B1
          have hbsr : base ≤ wr.heap.size := Nat.le_trans HT.out.lta.1.1 (Nat.le_of_lt HT.out.lta.1.2)
          have HB1 := HB.out.trans (BB.mono hbsr)
          have EK : ∃ F : Nat → Nm × Nm, F k_ = (pp, qq) ∧ ∀ j, j < k_ → F j = E_ j := ⟨fun j => if j = k_ then (pp, qq) else E_ j, if_pos rfl, fun j hj => if_neg (by omega)⟩
          obtain ⟨E_', hE', hEj⟩ := EK
          have T1 := (HT.out.below BB).congr hEj
          have O1 := HO.out.below BB
          have al8 := (Below.refl W1.heap.size W1).alloc (Nat.le_refl _) (.cells #[.bool b1, .int .u64 A1, .int .u64 L1, .pointer p1, .bool b2, .int .u64 A2, .int .u64 L2, .pointer p2] 49)
          have T2 := T1.below al8
          have O2 := O1.below al8
          have x1 : IsR (W1.alloc (.cells #[.bool b1, .int .u64 A1, .int .u64 L1, .pointer p1, .bool b2, .int .u64 A2, .int .u64 L2, .pointer p2] 49)) (.agg #[.bool b1, .int .u64 A1, .int .u64 L1, .pointer p1]) (E_' k_).1 := by rw [hE']; exact (i1.below B1).below al8
          have x2 : IsR (W1.alloc (.cells #[.bool b1, .int .u64 A1, .int .u64 L1, .pointer p1, .bool b2, .int .u64 A2, .int .u64 L2, .pointer p2] 49)) (.agg #[.bool b2, .int .u64 A2, .int .u64 L2, .pointer p2]) (E_' k_).2 := by rw [hE']; exact (i2.below B1).below al8
          have y1 : IsQ (W1.alloc (.cells #[.bool b1, .int .u64 A1, .int .u64 L1, .pointer p1, .bool b2, .int .u64 A2, .int .u64 L2, .pointer p2] 49)) (.agg #[.bool bq1, .slice o1 l1 c1, .slice r1 m1 z1]) (E_' k_).1 := by rw [hE']; exact (j1.below B1).below al8
          have y2 : IsQ (W1.alloc (.cells #[.bool b1, .int .u64 A1, .int .u64 L1, .pointer p1, .bool b2, .int .u64 A2, .int .u64 L2, .pointer p2] 49)) (.agg #[.bool bq2, .slice o2 l2 c2, .slice r2 m2 z2]) (E_' k_).2 := by rw [hE']; exact (j2.below B1).below al8
          have FF : Fits (E_' k_).1 256 ∧ Fits (E_' k_).2 256 := by rw [hE']; exact ⟨F1, F2⟩
          have zx := cell_at kx
          have cx0 : W1.cell? ⟨w1.heap.size, 0, none⟩ = some (.bool b1) := zx 0 _ rfl
          have cx1 : W1.cell? ⟨w1.heap.size, 1, none⟩ = some (.int .u64 A1) := zx 1 _ rfl
          have cx2 : W1.cell? ⟨w1.heap.size, 2, none⟩ = some (.int .u64 L1) := zx 2 _ rfl
          have cx3 : W1.cell? ⟨w1.heap.size, 3, none⟩ = some (.pointer p1) := zx 3 _ rfl
          have cx4 : W1.cell? ⟨w1.heap.size, 4, none⟩ = some (.bool b2) := zx 4 _ rfl
          have cx5 : W1.cell? ⟨w1.heap.size, 5, none⟩ = some (.int .u64 A2) := zx 5 _ rfl
          have cx6 : W1.cell? ⟨w1.heap.size, 6, none⟩ = some (.int .u64 L2) := zx 6 _ rfl
          have cx7 : W1.cell? ⟨w1.heap.size, 7, none⟩ = some (.pointer p2) := zx 7 _ rfl
          have kp2 := box_kept kp al8 (in_heap kp)
          have gpn : ga_ ≠ w1.heap.size + 1 := by have := HT.out.lta.1.2; have := hb1.size; omega
          have hbs : base ≤ W1.heap.size := Nat.le_trans HT.out.lta.1.1 (Nat.le_trans (Nat.le_of_lt HT.out.lta.1.2) BB.size)
          obtain ⟨gp, egp⟩ : ∃ x, w1.heap.size + 1 = x := ⟨_, rfl⟩
          obtain ⟨gx, egx⟩ : ∃ x, w1.heap.size = x := ⟨_, rfl⟩
          rw [egp] at kp2 gpn
          rw [egx] at cx0 cx1 cx2 cx3 cx4 cx5 cx6 cx7
          simp only [egp]
          simp only [egx]
          clear eW1 B1 kx kp BB hb1 T1 O1 i1 i2 j1 j2 F1 F2 zx egp egx HT HO HB cB2 e0 e1 e2 e3 e4 e5
          have ST : Hid (_ ∧ _ ∧ _ ∧ _) := ⟨T2, O2, HB1, FF⟩
          clear HB1
          go_wp2_with (first
            | (at_builtin; refine wpList_append_z _ rfl _ _ 70 rfl base 49 i0 (.agg #[.bool false, .int .u64 0, .int .u64 0, .pointer none, .bool false, .int .u64 0, .int .u64 0, .pointer none]) 8 64 Try.underlying70 hi hz0 hz1 hz2 rfl (by decide) va_ k_ xs_ rfl T2.oa ⟨W1.heap.size, 0, none⟩ 1 [.bool b1, .int .u64 A1, .int .u64 L1, .pointer p1, .bool b2, .int .u64 A2, .int .u64 L2, .pointer p2] rfl rfl (news_at W1 _ _ _ rfl) (by simp [Value.oneCell']) (by unfold maxLen; omega) (by omega) (Nat.le_trans hbs al8.size) pz8 pn8 T2.za ?_; intro va_' w2 own2 grow2 blk2 loc2; obtain ⟨ga_', hga', T3⟩ := T2.pushA x1 x2 FF own2 grow2 blk2 loc2; have GG := grow2; rw [T2.ba] at GG; obtain ⟨csa, hka⟩ := typed T2.oa T2.ba; have O3 := O2.other hka (by decide) (T2.za.plain T2.ba) DD.out.1.symm DD.out.2.1.symm GG; have kq := (GG.block gp (in_heap kp2) (by simpa using gpn.symm)).trans kp2; have zq := cell_at kq; have cq0 : w2.cell? ⟨gp, 0, none⟩ = some (.bool bq1) := zq 0 _ rfl; have cq1 : w2.cell? ⟨gp, 1, none⟩ = some (.slice o1 l1 c1) := zq 1 _ rfl; have cq2 : w2.cell? ⟨gp, 2, none⟩ = some (.slice r1 m1 z1) := zq 2 _ rfl; have cq3 : w2.cell? ⟨gp, 3, none⟩ = some (.bool bq2) := zq 3 _ rfl; have cq4 : w2.cell? ⟨gp, 4, none⟩ = some (.slice o2 l2 c2) := zq 4 _ rfl; have cq5 : w2.cell? ⟨gp, 5, none⟩ = some (.slice r2 m2 z2) := zq 5 _ rfl; have y3 := IsQ.grown y1 hka (by decide) GG; have y4 := IsQ.grown y2 hka (by decide) GG; have HB2 := (ST.out.2.2.1.alloc hbs (.cells #[.bool b1, .int .u64 A1, .int .u64 L1, .pointer p1, .bool b2, .int .u64 A2, .int .u64 L2, .pointer p2] 49)).grown grow2 (Nat.le_trans hbs al8.size) (fun j hj => (T2.oa.lt j hj).1); have al6 := (Below.refl w2.heap.size w2).alloc (Nat.le_refl _) (.cells #[.bool bq1, .slice o1 l1 c1, .slice r1 m1 z1, .bool bq2, .slice o2 l2 c2, .slice r2 m2 z2] 51); have T4 := T3.below al6; have O4 := O3.below al6; have y5 := y3.below al6; have y6 := y4.below al6; have hb2s : base ≤ w2.heap.size := Nat.le_trans hbs (Nat.le_trans al8.size GG.size); have gs := GG.size; clear zq kq own2 grow2 blk2 loc2 y3 y4 T3 O3)
            | (at_builtin; refine wpList_append_z _ rfl _ _ 71 rfl base 51 i1 (.agg #[.bool false, .slice none 0 0, .slice none 0 0, .bool false, .slice none 0 0, .slice none 0 0]) 6 112 Try.underlying71 hj hy0 hy1 hy2 rfl (by decide) vc_ k_ ys_ rfl T4.oc ⟨w2.heap.size, 0, none⟩ 1 [.bool bq1, .slice o1 l1 c1, .slice r1 m1 z1, .bool bq2, .slice o2 l2 c2, .slice r2 m2 z2] rfl rfl (news_at w2 _ _ _ rfl) (by simp [Value.oneCell']) (by unfold maxLen; omega) (by omega) (Nat.le_trans hb2s al6.size) pz6 pn6 T4.zc ?_; intro vc_' w3 own3 grow3 blk3 loc3; obtain ⟨gc_', hgc', T5⟩ := T4.pushC y5 y6 own3 grow3 blk3 loc3; have G3 := grow3; rw [T4.bc] at G3; obtain ⟨csc, hkc⟩ := typed T4.oc T4.bc; have O5 := O4.other hkc (by decide) (T4.zc.plain T4.bc) DD.out.2.2.1.symm DD.out.2.2.2.symm G3; have HB3 := (HB2.alloc hb2s (.cells #[.bool bq1, .slice o1 l1 c1, .slice r1 m1 z1, .bool bq2, .slice o2 l2 c2, .slice r2 m2 z2] 51)).grown grow3 (Nat.le_trans hb2s al6.size) (fun j hj => (T4.oc.lt j hj).1); have DN : Hid (ga_' ≠ ga ∧ ga_' ≠ gc ∧ gc_' ≠ ga ∧ gc_' ≠ gc) := dist4 hga' hgc' DD.out O2.lta O4.lta; have H5 : Hid (Two w3 base (k_ + 1) (k_ + 1) E_' va_' vc_' ga_' gc_' _ _) := T5; have HO5 : Hid (Two w3 base 12 12 E va vc ga gc xs ys) := O5; have HB5 : Hid (Below base w w3) := HB3; clear own3 grow3 blk3 loc3 T5 O5 HB3))
          go_roundw
          case rel => exact ⟨k_ + 1, E_', va_', vc_', ga_', gc_', _, _, rfl, rfl, by omega, by go_num, H5, HO5, DN, HB5⟩
          case measure => simp [intOf]; omega
        · obtain rfl : 12 = k_ := by omega
          have q8 : ((12 : Nat) : Int) < (n2 : Int) := by omega
          go_wp2
          refine bodyPost_ret (v := .tuple #[va, va_, vc, vc_]) (by simp [results, go_sem]) rfl ?_
          exact ⟨E, E_, va, va_, vc, vc_, rfl, HO.out.rd.1, HT.out.rd.1, HO.out.rd.2, HT.out.rd.2, by have := HB.out; rw [← HBS.out] at this; exact this⟩
end Go.Proofs.Ytdliookkkgobbaa.LiL

/- DeltaChoice: the walk. -/
namespace Go.Proofs.Ytdliookkkgobbaa.ChW
open Go.RowKit Mem LimbNum Limb1 NatL GcdA RatL RatM RatN RatF RatO MulN MulW MulL RefR RefT RefU InvL DivL QNum CmpL CmqL RefX RefY RefZ FloL Mk5 AddN JoinL AddW AddV AddR FldL SubL NmL DelL DelM DelB DaL DmL DcL Law5 Aw5 RcL RdL CnL LiN LiL

theorem cho_fits {E F : Nat → Nm × Nm} {N : Nat} (hE : ∀ k, k < N → Fits (E k).1 256 ∧ Fits (E k).2 256) (hF : ∀ k, k < N → Fits (F k).1 256 ∧ Fits (F k).2 256) (n : Nat) (hn : n ≤ N) : ∀ m, cho E F n = some m → Fits m 1026 := by
  induction n with
  | zero =>
    intro m h
    simp only [cho, Option.some.injEq] at h
    rw [← h]
    exact (fits_int 1 (by decide) (by decide)).more (by omega)
  | succ n ih =>
    intro m h
    cases hc : cho E F n with
    | none => simp [cho, hc] at h
    | some m' =>
      by_cases hp : 0 < cmpD (E n).1 (E n).2 (F n).1 (F n).2
      · rw [cho_stop hc hp] at h; cases h
      · rw [cho_some hc hp] at h
        obtain rfl := Option.some.inj h
        exact fits_step (ih (by omega) m' hc) (hE n (by omega)) (hF n (by omega))
theorem both_choose (va vb vc vd : Value) (K1 K2 : Nat) (E F : Nat → Nm × Nm) (w : World) (h1 : RD w va K1 E) (h2 : RD w vb K2 F) (h3 : RE w vc K1 E) (h4 : RE w vd K2 F) (hK : K1 ≤ 12) :
    ∃ res : Option Nm, (∀ m, res = some m → Fits m 1026) ∧ (∀ W, Below w.heap.size w W → Calls Try.prog 35 #[va, vb] W fun e w' => ∃ v, e = .returned (.tuple #[v, .int .i64 (if res.isSome then 0 else 4)]) ∧ IsR w' v (res.getD (intM 0)) ∧ Below W.heap.size W w') ∧
      (∀ W, Below w.heap.size w W → Calls Try.prog 36 #[vc, vd] W fun e w' => ∃ v, e = .returned (.tuple #[v, .bool res.isSome]) ∧ IsQ w' v (res.getD (intM 0)) ∧ Below W.heap.size W w') := by
  by_cases h : K1 = K2
  · subst h
    refine ⟨cho E F K1, ?_, fun W hW => choose_any va vb K1 E F W (h1.below hW) (h2.below hW) (by omega), fun W hW => rchoose_any vc vd K1 E F W (h3.below hW) (h4.below hW) (by omega)⟩
    obtain ⟨_, _, _, f1, _⟩ := h1
    obtain ⟨_, _, _, f2, _⟩ := h2
    exact cho_fits f1 f2 K1 (Nat.le_refl _)
  · obtain ⟨o1, c1, rfl, _⟩ := h1
    obtain ⟨o2, c2, rfl, _⟩ := h2
    obtain ⟨o3, c3, rfl, _⟩ := h3
    obtain ⟨o4, c4, rfl, _⟩ := h4
    exact ⟨none, (fun m e => by cases e), fun W _ => choose_ne o1 o2 K1 c1 K2 c2 W h, fun W _ => rchoose_ne o3 o4 K1 c3 K2 c4 W h⟩
set_option maxRecDepth 20000 in
set_option maxHeartbeats 4000000 in
theorem law (v1 v2 : Value) (w : World) (cL : Calls Try.prog 34 #[v1, v2] w fun e w' => ∃ E F va vb vc vd K1 K2, e = .returned (.tuple #[va, vb, vc, vd]) ∧ RD w' va K1 E ∧ RD w' vb K2 F ∧ RE w' vc K1 E ∧ RE w' vd K2 F ∧ K1 ≤ 12 ∧ Below w.heap.size w w') :
    Calls Try.prog 6 #[v1, v2] w fun e w' => e = .returned (.bool true) ∧ Below w.heap.size w w' := by
  go_enter Try.func6, Try.ntmps6
  go_upto_region 2 with (go_at_call 34; refine cL.mono ?_; rintro e w1 ⟨E, F, va, vb, vc, vd, K1, K2, rfl, h1, h2, h3, h4, hK, hb1⟩)
  obtain ⟨res, hres, c1, c2⟩ := both_choose va vb vc vd K1 K2 E F w1 h1 h2 h3 h4 hK
  clear h1 h2 h3 h4 hK cL
  rcases res with _ | m
  · simp only [Option.isSome_none, Option.getD_none, Bool.false_eq_true, if_false] at c1 c2
    go_upto_region 3 with (go_at_call 35; refine (c1 _ (Below.refl _ _)).mono ?_; rintro e w2 ⟨x2, rfl, R2, hb2⟩; obtain ⟨b1, A1, L1, p1, rfl⟩ := R2.shape4)
    obtain ⟨W2, eW2, B2, k2⟩ := one_new w2 (.cells #[.bool b1, .int .u64 A1, .int .u64 L1, .pointer p1] 28)
    rw [eW2]
    have HW := bt hb2 B2
    have i2 := R2.below B2
    obtain ⟨gr, egr⟩ : ∃ x, w2.heap.size = x := ⟨_, rfl⟩
    rw [egr] at k2 ⊢
    clear eW2 R2 egr
    go_upto_region 4 with (go_at_call 36; refine (c2 _ HW).mono ?_; rintro e w3 ⟨x3, rfl, R3, hb3⟩; obtain ⟨bq8, o8, l8, c8, r8, m8, z8, rfl⟩ := R3.shape3)
    obtain ⟨W3, eW3, B3, k3⟩ := one_new w3 (.cells #[.bool bq8, .slice o8 l8 c8, .slice r8 m8 z8] 31)
    rw [eW3]
    have i3 := i2.below (bt hb3 B3)
    have j3 := R3.below B3
    have kr := box_kept k2 (bt hb3 B3) (in_heap k2)
    have CC := bt (bt hb1 HW) (bt hb3 B3)
    obtain ⟨gq, egq⟩ : ∃ x, w3.heap.size = x := ⟨_, rfl⟩
    rw [egq] at k3 ⊢
    clear eW3 R3 egq c1 c2 k2 i2 HW hb1 hb2 hb3 B2 B3
    go_wp2_with (first
      | (go_at_call 18; refine (awake7 _).mono ?_; rintro e w4 ⟨rfl, hb4⟩; have dr := cell_at (box_kept kr hb4 (in_heap kr)); have r0 : w4.cell? ⟨gr, 0, none⟩ = some (.bool b1) := dr 0 _ rfl; have r1 : w4.cell? ⟨gr, 1, none⟩ = some (.int .u64 A1) := dr 1 _ rfl; have r2 : w4.cell? ⟨gr, 2, none⟩ = some (.int .u64 L1) := dr 2 _ rfl; have r3 : w4.cell? ⟨gr, 3, none⟩ = some (.pointer p1) := dr 3 _ rfl; clear dr)
      | (go_at_call 37; refine (sign_any _ _ _ _ _ (i3.below hb4)).mono ?_; rintro e w5 ⟨rfl, hb5⟩))
    all_goals go_ret
    all_goals exact ⟨rfl, bt CC (bt hb4 hb5)⟩
  · simp only [Option.isSome_some, Option.getD_some, if_true] at c1 c2
    go_upto_region 3 with (go_at_call 35; refine (c1 _ (Below.refl _ _)).mono ?_; rintro e w2 ⟨x2, rfl, R2, hb2⟩; obtain ⟨b1, A1, L1, p1, rfl⟩ := R2.shape4)
    obtain ⟨W2, eW2, B2, k2⟩ := one_new w2 (.cells #[.bool b1, .int .u64 A1, .int .u64 L1, .pointer p1] 28)
    rw [eW2]
    have HW := bt hb2 B2
    have i2 := R2.below B2
    obtain ⟨gr, egr⟩ : ∃ x, w2.heap.size = x := ⟨_, rfl⟩
    rw [egr] at k2 ⊢
    clear eW2 R2 egr
    go_upto_region 4 with (go_at_call 36; refine (c2 _ HW).mono ?_; rintro e w3 ⟨x3, rfl, R3, hb3⟩; obtain ⟨bq8, o8, l8, c8, r8, m8, z8, rfl⟩ := R3.shape3)
    obtain ⟨W3, eW3, B3, k3⟩ := one_new w3 (.cells #[.bool bq8, .slice o8 l8 c8, .slice r8 m8 z8] 31)
    rw [eW3]
    have i3 := i2.below (bt hb3 B3)
    have j3 := R3.below B3
    have kr := box_kept k2 (bt hb3 B3) (in_heap k2)
    have CC := bt (bt hb1 HW) (bt hb3 B3)
    obtain ⟨gq, egq⟩ : ∃ x, w3.heap.size = x := ⟨_, rfl⟩
    rw [egq] at k3 ⊢
    clear eW3 R3 egq c1 c2 k2 i2 HW hb1 hb2 hb3 B2 B3
    go_wp2_with (first
      | (go_at_call 18; refine (awake7 _).mono ?_; rintro e w4 ⟨rfl, hb4⟩; have dr := cell_at (box_kept kr hb4 (in_heap kr)); have r0 : w4.cell? ⟨gr, 0, none⟩ = some (.bool b1) := dr 0 _ rfl; have r1 : w4.cell? ⟨gr, 1, none⟩ = some (.int .u64 A1) := dr 1 _ rfl; have r2 : w4.cell? ⟨gr, 2, none⟩ = some (.int .u64 L1) := dr 2 _ rfl; have r3 : w4.cell? ⟨gr, 3, none⟩ = some (.pointer p1) := dr 3 _ rfl; have dq := cell_at (box_kept k3 hb4 (in_heap k3)); have q0 : w4.cell? ⟨gq, 0, none⟩ = some (.bool bq8) := dq 0 _ rfl; have q1 : w4.cell? ⟨gq, 1, none⟩ = some (.slice o8 l8 c8) := dq 1 _ rfl; have q2 : w4.cell? ⟨gq, 2, none⟩ = some (.slice r8 m8 z8) := dq 2 _ rfl; clear dr)
      | (go_at_call 29; refine (a_is (k := 1026) (by omega) (i3.below hb4) (j3.below hb4) (hres _ rfl)).mono ?_; rintro e w5 ⟨rfl, hb5⟩))
    all_goals go_ret
    all_goals exact ⟨rfl, bt CC (bt hb4 hb5)⟩
end Go.Proofs.Ytdliookkkgobbaa.ChW
