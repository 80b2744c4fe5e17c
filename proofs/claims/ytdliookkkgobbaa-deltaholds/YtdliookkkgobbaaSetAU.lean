/- Append to a row of one's own whose block is known whole: each of its cells is no limb, the first is no slice; Layer 7: rows of pairs of one's own, the program's beside the reference's; Layer 7's statements lean on: lists; DeltaChoice: the walk; DeltaHolds: the walk. -/
import Derived.Test.YtdliookkkgobbaaSetAS
import Derived.Maps.AppendAt
import Derived.Test.YtdliookkkgobbaaSetAT
/- Append to a row of one's own whose block is known whole: each of its cells is no limb, the first is no slice. -/
namespace Go.Proofs.Ytdliookkkgobbaa.AppZ
open Go.RowKit Go.Maps Mem LimbNum NmL

/-- No limb. -/
def NoLimb (u : Value) : Prop := ∀ k z, u = .int k z → k = .u64
def NoSlice (u : Value) : Prop := ∀ o n c, u ≠ .slice o n c
/-- No cell is a limb, the first is no slice. -/
def PlL (l : List Value) : Prop := (∀ u ∈ l, NoLimb u) ∧ ∀ u, l[0]? = some u → NoSlice u
theorem PlL.app {a b : List Value} (ha : PlL a) (h0 : a ≠ []) (hb : ∀ u ∈ b, NoLimb u) : PlL (a ++ b) := by
  refine ⟨fun u hu => ?_, fun u hu => ?_⟩
  · rcases List.mem_append.1 hu with h | h
    · exact ha.1 u h
    · exact hb u h
  · rcases a with _ | ⟨x, t⟩
    · exact absurd rfl h0
    · exact ha.2 u (by simpa using hu)
theorem zeros_nl {z : Array Value} (hz : ∀ u ∈ z.toList, NoLimb u) (h0 : 0 < z.size) (n : Nat) : ∀ u ∈ (Builtin.zeroCells z n).toList, NoLimb u := by
  intro u hu
  simp only [Builtin.zeroCells, Array.toList_map, List.mem_map] at hu
  obtain ⟨i, _, rfl⟩ := hu
  have hlt : i % z.size < z.size := Nat.mod_lt _ h0
  rw [getElem!_pos z _ hlt]
  exact hz _ (Array.mem_toList_iff.2 (Array.getElem_mem hlt))
/-- The row's block holds no limb and begins with no slice. -/
def BlkZ (w : World) (v : Value) : Prop := ∀ g, v.ownBlock = some g → ∃ cur e, w.heap[g]? = some (.cells cur e (0, 0)) ∧ PlL cur.toList
theorem BlkZ.plain {w : World} {v : Value} {g : Nat} (h : BlkZ w v) (hg : v.ownBlock = some g) : Plain w g := by
  obtain ⟨cur, e, hk, hp⟩ := h g hg
  intro i u hu
  simp only [World.cell?, hk] at hu
  have hm : u ∈ cur.toList := by
    obtain ⟨hlt, e2⟩ := Array.getElem?_eq_some_iff.1 hu
    rw [← e2]
    exact Array.mem_toList_iff.2 (Array.getElem_mem hlt)
  refine ⟨hp.1 u hm, fun h0 => hp.2 u ?_⟩
  subst h0
  simpa using hu
theorem BlkZ.kept {w w' : World} {v : Value} (h : BlkZ w v) (hk : ∀ g, v.ownBlock = some g → w'.heap[g]? = w.heap[g]?) : BlkZ w' v := by
  intro g hg
  obtain ⟨cur, e, h1, h2⟩ := h g hg
  exact ⟨cur, e, (hk g hg).trans h1, h2⟩
theorem run_append_z {P : Program} (w : World) (base : Nat) (t ty e : TypeId) (i : TypeInfo) (z : Value) (size bytes : Nat) (ht : P.underlying t = some (.slice e)) (hi : P.info? e = some i) (hz : i.zero = some z)
    (hsize : i.size = size) (hby : i.bytes = bytes) (hzs : z.cells.size = size) (hsz : 0 < size)
    (v : Value) (n : Nat) (xs : List Value) (hown : w.ownsRow base e size v n xs)
    (a : Addr) (c : Nat) (news : List Value) (hl : news.length = 1 * size) (hnews : ∀ j u, news[j]? = some u → w.cell? (a.add j) = some u) (h1 : ∀ u ∈ news, u.oneCell' = true)
    (h63 : n + 1 ≤ maxLen) (hbytes : (n + 1) * bytes ≤ 140737488355328) (hbase : base ≤ w.heap.size)
    (pz : ∀ u ∈ z.cells.toList, NoLimb u) (pn : PlL news) (pb : BlkZ w v) :
    ∃ v' w', (Builtin.append_ #[t, t] ty #[v, .slice (some a) 1 c]).run P w = .ok v' w' ∧ w'.ownsRow base e size v' (n + 1) (xs ++ news) ∧ w.grownBy w' v.ownBlock ∧ BlkZ w' v' ∧ (v'.ownBlock = v.ownBlock ∨ v'.ownBlock = some w.heap.size) := by
  obtain ⟨v', w', hrun, hown', hgr, _, hblk⟩ := run_append_own_at (P := P) w base t ty e i z size bytes ht hi hz hsize hby hzs hsz v n xs hown a 1 c news hl hnews h1 h63 hbytes hbase
  refine ⟨v', w', hrun, hown', hgr, ?_, hblk⟩
  subst hsize
  subst hby
  have hsmall : n + 1 ≤ 9223372036854775807 := by simp only [maxLen] at h63; omega
  have hne : news ≠ [] := by
    intro e0
    rw [e0] at hl
    simp at hl
    omega
  have zz := fun k => zeros_nl (z := z.cells) pz (by omega) k
  have hx := hown.1
  rcases hown.2 with ⟨rfl, rfl⟩ | ⟨g, cap, cur, rfl, hbg, hg, hnc, hcm, hcs, htake⟩
  · have hr := run_append_nil (P := P) w t ty e i z ht hi hz a 1 c news hl hnews (by omega) (by omega) (by omega)
    rw [hr] at hrun
    injection hrun with ev ew
    subst ev
    subst ew
    intro g hg
    simp only [Value.ownBlock, Option.some.injEq] at hg
    subst hg
    refine ⟨_, _, heap_alloc_new w.drew _, ?_⟩
    simp only [Array.toList_append]
    exact pn.app hne (zz _)
  · obtain ⟨cur', e', hk, hp⟩ := pb g rfl
    have ec : cur' = cur := by
      have := hk.symm.trans hg
      simp at this
      exact this.1
    subst ec
    have px : ∀ u ∈ xs, NoLimb u := fun u hu => hp.1 u (by rw [← htake] at hu; exact List.mem_of_mem_take hu)
    have all : PlL (xs ++ news) := by
      by_cases h0 : xs = []
      · rw [h0, List.nil_append]; exact pn
      · refine PlL.app ⟨px, fun u hu => hp.2 u ?_⟩ h0 pn.1
        rw [← htake, List.getElem?_take] at hu
        split at hu
        · exact hu
        · simp at hu
    have ane : xs ++ news ≠ [] := by simp [hne]
    by_cases hroom : n + 1 ≤ cap
    · have hfit : n * i.size + news.length ≤ cur'.size := by rw [hl, hcs, ← Nat.add_mul]; exact Nat.mul_le_mul_right _ hroom
      have hr := run_append_room (P := P) w t ty e i ht hi g n cap cur' hg a 1 c news hl hnews h1 hroom hfit
      rw [hr] at hrun
      injection hrun with ev ew
      subst ev
      subst ew
      intro g' hg'
      simp only [Value.ownBlock, Option.some.injEq] at hg'
      subst hg'
      refine ⟨_, _, setRow_heap w g cur' _ e _ hg, ?_⟩
      rw [htake]
      simp only
      exact all.app ane (fun u hu => hp.1 u (List.mem_of_mem_drop hu))
    · have holds : ∀ j u, xs[j]? = some u → w.cell? ((⟨g, 0, none⟩ : Addr).add j) = some u := hown.cells (g := g) rfl
      have hr := run_append_grow (P := P) w t ty e i z ht hi hz ⟨g, 0, none⟩ n cap xs hown.1 holds a 1 c news hl hnews (by omega) (by omega) (growslice_fits (by omega) hbytes)
      rw [hr] at hrun
      injection hrun with ev ew
      subst ev
      subst ew
      intro g' hg'
      simp only [Value.ownBlock, Option.some.injEq] at hg'
      subst hg'
      refine ⟨_, _, heap_alloc_new w.drew _, ?_⟩
      simp only [Array.toList_append]
      exact all.app ane (zz _)
theorem wpList_append_z {P : Program} (w : World) {ops : Array Oper} {rest : List Oper} {o : Oper} {a : Act} {Q : Exit → Act → World → Prop} (hgd : o.guard = none) (s x : Operand) (t : TypeId)
    (ho : o.op = .call { callee := .builtin .append, args := #[s, x], argTypes := #[t, t] })
    (base : Nat) (e : TypeId) (i : TypeInfo) (z : Value) (size bytes : Nat) (ht : P.underlying t = some (.slice e)) (hi : P.info? e = some i) (hz : i.zero = some z)
    (hsize : i.size = size) (hby : i.bytes = bytes) (hzs : z.cells.size = size) (hsz : 0 < size)
    (v : Value) (n : Nat) (xs : List Value) (hs : a.eval s = v) (hown : w.ownsRow base e size v n xs)
    (ad : Addr) (c : Nat) (news : List Value) (hx : a.eval x = .slice (some ad) 1 c) (hl : news.length = 1 * size) (hnews : ∀ j u, news[j]? = some u → w.cell? (ad.add j) = some u) (h1 : ∀ u ∈ news, u.oneCell' = true)
    (h63 : n + 1 ≤ maxLen) (hbytes : (n + 1) * bytes ≤ 140737488355328) (hbase : base ≤ w.heap.size)
    (pz : ∀ u ∈ z.cells.toList, NoLimb u) (pn : PlL news) (pb : BlkZ w v)
    (h : ∀ v' w', w'.ownsRow base e size v' (n + 1) (xs ++ news) → w.grownBy w' v.ownBlock → BlkZ w' v' → (v'.ownBlock = v.ownBlock ∨ v'.ownBlock = some w.heap.size) → wpList P ops Q rest (a.put o.dst v') w') : wpList P ops Q (o :: rest) a w :=
  wpList_plain hgd fun _ hK => by
    obtain ⟨v', w', hr, h2, h3, h4, h5⟩ := run_append_z (P := P) w base t o.type e i z size bytes ht hi hz hsize hby hzs hsz v n xs hown ad c news hl hnews h1 h63 hbytes hbase pz pn pb
    unfold Oper.wp execOp
    simp only [ho, resolve, invoke, builtin, Sem.run_bind, Sem.run_pure, Result.andThen_ok, List.map_toArray, List.map_cons, List.map_nil, hs, hx, hr]
    exact hK _ _ (h v' w' h2 h3 h4 h5)
/-- A number stays where a row of whole blocks without limbs grows. -/
theorem lies_grown {w W : World} {g : Nat} {o : Option Addr} {c : Nat} {A : List Nat} (h : Lies w o c (ints .u32 A)) (hk : Plain w g) (hg : w.grownBy W (some g)) : Lies W o c (ints .u32 A) := by
  obtain ⟨h1, h2, h3, h4⟩ := h
  refine ⟨h1, h2, h3, fun hp => ?_⟩
  obtain ⟨b, off, rfl, hlt, hc⟩ := h4 hp
  have hne : b ≠ g := by
    rintro rfl
    have h0 := hc 0 hp
    rw [ints_get _ _ _ (by rw [ints_length] at hp; exact hp)] at h0
    have := (hk _ _ h0).1 _ _ rfl
    simp at this
  refine ⟨b, off, rfl, Nat.lt_of_lt_of_le hlt hg.size, fun i hi => ?_⟩
  rw [← hc i hi]
  simp only [World.cell?, hg.block b hlt (by simpa using hne)]
theorem IsR.grown {w W : World} {g : Nat} {v : Value} {p : Nm} (h : IsR w v p) (hk : Plain w g) (hg : w.grownBy W (some g)) : IsR W v p := by
  obtain ⟨h1, h2 | ⟨h2, g2, o1, c1, o2, c2, e, h3, h4, h5, h6, h7⟩⟩ := h
  · exact ⟨h1, .inl h2⟩
  · have hne : g2 ≠ g := by
      rintro rfl
      exact (hk _ _ h4).2 rfl _ _ _ rfl
    have hb := hg.block g2 h3 (by simpa using hne)
    refine ⟨h1, .inr ⟨h2, g2, o1, c1, o2, c2, e, Nat.lt_of_lt_of_le h3 hg.size, ?_, ?_, lies_grown h6 hk hg, lies_grown h7 hk hg⟩⟩
    · rw [← h4]; simp only [World.cell?, hb]
    · rw [← h5]; simp only [World.cell?, hb]
theorem owns_grown {w W : World} {g base : Nat} {e t : TypeId} {v : Value} {n size : Nat} {xs : List Value} {cs : Array Value} (h : w.ownsRow base e size v n xs) (hk : w.heap[g]? = some (.cells cs t)) (hne : t ≠ e) (hg : w.grownBy W (some g)) : W.ownsRow base e size v n xs := by
  refine h.kept hg ?_
  rcases h.2 with ⟨rfl, _⟩ | ⟨g', cap, cur, rfl, _, hg', _⟩
  · exact .inl rfl
  · refine .inr fun e2 => ?_
    simp only [Value.ownBlock, Option.some.injEq] at e2
    subst e2
    rw [hk] at hg'
    simp at hg'
    exact hne hg'.2
theorem IsQ.grown {w W : World} {g : Nat} {v : Value} {p : Nm} {cs : Array Value} {t : TypeId} (h : IsQ w v p) (hk : w.heap[g]? = some (.cells cs t)) (hne : t ≠ 4) (hg : w.grownBy W (some g)) : IsQ W v p := by
  obtain ⟨o1, c1, o2, c2, e, h1, h2⟩ := h
  exact ⟨o1, c1, o2, c2, e, owns_grown h1 hk hne hg, owns_grown h2 hk hne hg⟩
end Go.Proofs.Ytdliookkkgobbaa.AppZ

/- Layer 7: rows of pairs of one's own, the program's beside the reference's. -/
namespace Go.Proofs.Ytdliookkkgobbaa.LiN
open Go.RowKit Mem LimbNum Limb1 NatL GcdA RatL RatM RatN RatF RatO MulN MulW MulL RefR RefT RefU InvL DivL QNum CmpL CmqL RefX RefY RefZ FloL Mk5 AddN JoinL AddW AddV AddR FldL SubL NmL DelL DelM DelB DaL DmL DcL RcL AppZ Law5 Aw5

/-- The k-th pair of a row's cells. -/
def D8 (W : World) (xs : List Value) (k : Nat) (p : Nm × Nm) : Prop := ∃ (b1 : Bool) (A1 L1 : Int) (p1 : Option Addr) (b2 : Bool) (A2 L2 : Int) (p2 : Option Addr), xs[k * 8]? = some (.bool b1) ∧ xs[k * 8 + 1]? = some (.int .u64 A1) ∧ xs[k * 8 + 2]? = some (.int .u64 L1) ∧ xs[k * 8 + 3]? = some (.pointer p1) ∧ xs[k * 8 + 4]? = some (.bool b2) ∧ xs[k * 8 + 5]? = some (.int .u64 A2) ∧ xs[k * 8 + 6]? = some (.int .u64 L2) ∧ xs[k * 8 + 7]? = some (.pointer p2) ∧ IsR W (.agg #[.bool b1, .int .u64 A1, .int .u64 L1, .pointer p1]) p.1 ∧ IsR W (.agg #[.bool b2, .int .u64 A2, .int .u64 L2, .pointer p2]) p.2
def E6 (W : World) (xs : List Value) (k : Nat) (p : Nm × Nm) : Prop := ∃ (bq1 : Bool) (o1 : Option Addr) (l1 c1 : Nat) (r1 : Option Addr) (m1 z1 : Nat) (bq2 : Bool) (o2 : Option Addr) (l2 c2 : Nat) (r2 : Option Addr) (m2 z2 : Nat), xs[k * 6]? = some (.bool bq1) ∧ xs[k * 6 + 1]? = some (.slice o1 l1 c1) ∧ xs[k * 6 + 2]? = some (.slice r1 m1 z1) ∧ xs[k * 6 + 3]? = some (.bool bq2) ∧ xs[k * 6 + 4]? = some (.slice o2 l2 c2) ∧ xs[k * 6 + 5]? = some (.slice r2 m2 z2) ∧ IsQ W (.agg #[.bool bq1, .slice o1 l1 c1, .slice r1 m1 z1]) p.1 ∧ IsQ W (.agg #[.bool bq2, .slice o2 l2 c2, .slice r2 m2 z2]) p.2
theorem D8.mono {W W' : World} {xs : List Value} {k : Nat} {p : Nm × Nm} (h : D8 W xs k p) (hm : ∀ v q, IsR W v q → IsR W' v q) : D8 W' xs k p := by
  obtain ⟨b1, A1, L1, p1, b2, A2, L2, p2, a0, a1, a2, a3, a4, a5, a6, a7, i1, i2⟩ := h
  exact ⟨b1, A1, L1, p1, b2, A2, L2, p2, a0, a1, a2, a3, a4, a5, a6, a7, hm _ _ i1, hm _ _ i2⟩
theorem E6.mono {W W' : World} {xs : List Value} {k : Nat} {p : Nm × Nm} (h : E6 W xs k p) (hm : ∀ v q, IsQ W v q → IsQ W' v q) : E6 W' xs k p := by
  obtain ⟨bq1, o1, l1, c1, r1, m1, z1, bq2, o2, l2, c2, r2, m2, z2, a0, a1, a2, a3, a4, a5, i1, i2⟩ := h
  exact ⟨bq1, o1, l1, c1, r1, m1, z1, bq2, o2, l2, c2, r2, m2, z2, a0, a1, a2, a3, a4, a5, hm _ _ i1, hm _ _ i2⟩
theorem D8.left {W : World} {xs : List Value} {k n : Nat} {p : Nm × Nm} (h : D8 W xs k p) (hl : xs.length = n * 8) (hk : k < n) (l : List Value) : D8 W (xs ++ l) k p := by
  obtain ⟨b1, A1, L1, p1, b2, A2, L2, p2, a0, a1, a2, a3, a4, a5, a6, a7, i1, i2⟩ := h
  have g : ∀ i, i < 8 → (xs ++ l)[k * 8 + i]? = xs[k * 8 + i]? := fun i hi => List.getElem?_append_left (by omega)
  exact ⟨b1, A1, L1, p1, b2, A2, L2, p2, (g 0 (by omega)).trans a0, (g 1 (by omega)).trans a1, (g 2 (by omega)).trans a2, (g 3 (by omega)).trans a3, (g 4 (by omega)).trans a4, (g 5 (by omega)).trans a5, (g 6 (by omega)).trans a6, (g 7 (by omega)).trans a7, i1, i2⟩
theorem E6.left {W : World} {xs : List Value} {k n : Nat} {p : Nm × Nm} (h : E6 W xs k p) (hl : xs.length = n * 6) (hk : k < n) (l : List Value) : E6 W (xs ++ l) k p := by
  obtain ⟨bq1, o1, l1, c1, r1, m1, z1, bq2, o2, l2, c2, r2, m2, z2, a0, a1, a2, a3, a4, a5, i1, i2⟩ := h
  have g : ∀ i, i < 6 → (xs ++ l)[k * 6 + i]? = xs[k * 6 + i]? := fun i hi => List.getElem?_append_left (by omega)
  exact ⟨bq1, o1, l1, c1, r1, m1, z1, bq2, o2, l2, c2, r2, m2, z2, (g 0 (by omega)).trans a0, (g 1 (by omega)).trans a1, (g 2 (by omega)).trans a2, (g 3 (by omega)).trans a3, (g 4 (by omega)).trans a4, (g 5 (by omega)).trans a5, i1, i2⟩
theorem D8.last {W : World} {xs : List Value} {n : Nat} {p : Nm × Nm} {b1 : Bool} {A1 L1 : Int} {p1 : Option Addr} {b2 : Bool} {A2 L2 : Int} {p2 : Option Addr} (hl : xs.length = n * 8) (i1 : IsR W (.agg #[.bool b1, .int .u64 A1, .int .u64 L1, .pointer p1]) p.1) (i2 : IsR W (.agg #[.bool b2, .int .u64 A2, .int .u64 L2, .pointer p2]) p.2) : D8 W (xs ++ [.bool b1, .int .u64 A1, .int .u64 L1, .pointer p1, .bool b2, .int .u64 A2, .int .u64 L2, .pointer p2]) n p := by
  have g : ∀ i, (xs ++ [.bool b1, .int .u64 A1, .int .u64 L1, .pointer p1, .bool b2, .int .u64 A2, .int .u64 L2, .pointer p2])[n * 8 + i]? = [.bool b1, .int .u64 A1, .int .u64 L1, .pointer p1, .bool b2, .int .u64 A2, .int .u64 L2, .pointer p2][i]? := fun i => by
    rw [List.getElem?_append_right (by omega), hl, Nat.add_sub_cancel_left]
  exact ⟨b1, A1, L1, p1, b2, A2, L2, p2, g 0, g 1, g 2, g 3, g 4, g 5, g 6, g 7, i1, i2⟩
theorem E6.last {W : World} {xs : List Value} {n : Nat} {p : Nm × Nm} {bq1 : Bool} {o1 : Option Addr} {l1 c1 : Nat} {r1 : Option Addr} {m1 z1 : Nat} {bq2 : Bool} {o2 : Option Addr} {l2 c2 : Nat} {r2 : Option Addr} {m2 z2 : Nat} (hl : xs.length = n * 6) (i1 : IsQ W (.agg #[.bool bq1, .slice o1 l1 c1, .slice r1 m1 z1]) p.1) (i2 : IsQ W (.agg #[.bool bq2, .slice o2 l2 c2, .slice r2 m2 z2]) p.2) : E6 W (xs ++ [.bool bq1, .slice o1 l1 c1, .slice r1 m1 z1, .bool bq2, .slice o2 l2 c2, .slice r2 m2 z2]) n p := by
  have g : ∀ i, (xs ++ [.bool bq1, .slice o1 l1 c1, .slice r1 m1 z1, .bool bq2, .slice o2 l2 c2, .slice r2 m2 z2])[n * 6 + i]? = [.bool bq1, .slice o1 l1 c1, .slice r1 m1 z1, .bool bq2, .slice o2 l2 c2, .slice r2 m2 z2][i]? := fun i => by
    rw [List.getElem?_append_right (by omega), hl, Nat.add_sub_cancel_left]
  exact ⟨bq1, o1, l1, c1, r1, m1, z1, bq2, o2, l2, c2, r2, m2, z2, g 0, g 1, g 2, g 3, g 4, g 5, i1, i2⟩
/-- Two rows side by side: the program's pairs and the reference's. -/
structure Two (W : World) (base ka kc : Nat) (E : Nat → Nm × Nm) (va vc : Value) (ga gc : Nat) (xs ys : List Value) : Prop where
  oa : W.ownsRow base 49 8 va ka xs
  oc : W.ownsRow base 51 6 vc kc ys
  ba : va.ownBlock = some ga
  bc : vc.ownBlock = some gc
  ne : ga ≠ gc
  za : BlkZ W va
  zc : BlkZ W vc
  da : ∀ j, j < ka → D8 W xs j (E j)
  dc : ∀ j, j < kc → E6 W ys j (E j)
  ft : ∀ j, j < ka → Fits (E j).1 256 ∧ Fits (E j).2 256
theorem Two.lta {W : World} {base ka kc : Nat} {E : Nat → Nm × Nm} {va vc : Value} {ga gc : Nat} {xs ys : List Value} (h : Two W base ka kc E va vc ga gc xs ys) : (base ≤ ga ∧ ga < W.heap.size) ∧ base ≤ gc ∧ gc < W.heap.size := ⟨h.oa.lt _ h.ba, h.oc.lt _ h.bc⟩
theorem typed {W : World} {base n size g : Nat} {e : TypeId} {v : Value} {xs : List Value} (h : W.ownsRow base e size v n xs) (hb : v.ownBlock = some g) : ∃ cs, W.heap[g]? = some (.cells cs e) := by
  rcases h.2 with ⟨rfl, _⟩ | ⟨g', cap, cur, rfl, _, hg', _⟩
  · simp [Value.ownBlock] at hb
  · simp only [Value.ownBlock, Option.some.injEq] at hb
    subst hb
    exact ⟨cur, hg'⟩
/-- What lies in no row's block, and in no block below, stays where a third row grows. -/
theorem Two.other {W W' : World} {base ka kc : Nat} {E : Nat → Nm × Nm} {va vc : Value} {ga gc : Nat} {xs ys : List Value} (h : Two W base ka kc E va vc ga gc xs ys) {g : Nat} {cs : Array Value} {t : TypeId} (hk : W.heap[g]? = some (.cells cs t)) (ht : t ≠ 4) (hp : Plain W g) (h1 : ga ≠ g) (h2 : gc ≠ g) (G : W.grownBy W' (some g)) : Two W' base ka kc E va vc ga gc xs ys := by
  refine ⟨h.oa.kept G (.inr (by rw [h.ba]; simpa using h1)), h.oc.kept G (.inr (by rw [h.bc]; simpa using h2)), h.ba, h.bc, h.ne, h.za.kept ?_, h.zc.kept ?_, fun j hj => (h.da j hj).mono (fun v q i => IsR.grown i hp G), fun j hj => (h.dc j hj).mono (fun v q i => IsQ.grown i hk ht G), h.ft⟩
  · intro g' hg'
    rw [h.ba] at hg'
    obtain rfl : ga = g' := by simpa using hg'
    exact G.block _ h.lta.1.2 (by simpa using h1)
  · intro g' hg'
    rw [h.bc] at hg'
    obtain rfl : gc = g' := by simpa using hg'
    exact G.block _ h.lta.2.2 (by simpa using h2)
theorem Two.below {W W' : World} {base ka kc : Nat} {E : Nat → Nm × Nm} {va vc : Value} {ga gc : Nat} {xs ys : List Value} (h : Two W base ka kc E va vc ga gc xs ys) (hb : Below W.heap.size W W') : Two W' base ka kc E va vc ga gc xs ys := by
  have G : W.grownBy W' none := ⟨hb.os, hb.tape, hb.output, hb.size, fun k hk _ => hb.block k hk⟩
  refine ⟨h.oa.kept G (.inr (by rw [h.ba]; simp)), h.oc.kept G (.inr (by rw [h.bc]; simp)), h.ba, h.bc, h.ne, h.za.kept ?_, h.zc.kept ?_, fun j hj => (h.da j hj).mono (fun v q i => i.below hb), fun j hj => (h.dc j hj).mono (fun v q i => i.below hb), h.ft⟩
  · intro g' hg'
    rw [h.ba] at hg'
    obtain rfl : ga = g' := by simpa using hg'
    exact hb.block _ h.lta.1.2
  · intro g' hg'
    rw [h.bc] at hg'
    obtain rfl : gc = g' := by simpa using hg'
    exact hb.block _ h.lta.2.2
theorem Two.pushA {W W' : World} {base ka kc : Nat} {E : Nat → Nm × Nm} {va vc va' : Value} {ga gc : Nat} {xs ys : List Value} (h : Two W base ka kc E va vc ga gc xs ys) {b1 : Bool} {A1 L1 : Int} {p1 : Option Addr} {b2 : Bool} {A2 L2 : Int} {p2 : Option Addr}
    (i1 : IsR W (.agg #[.bool b1, .int .u64 A1, .int .u64 L1, .pointer p1]) (E ka).1) (i2 : IsR W (.agg #[.bool b2, .int .u64 A2, .int .u64 L2, .pointer p2]) (E ka).2) (hf : Fits (E ka).1 256 ∧ Fits (E ka).2 256)
    (o' : W'.ownsRow base 49 8 va' (ka + 1) (xs ++ [.bool b1, .int .u64 A1, .int .u64 L1, .pointer p1, .bool b2, .int .u64 A2, .int .u64 L2, .pointer p2])) (G : W.grownBy W' va.ownBlock) (z' : BlkZ W' va') (hb : va'.ownBlock = va.ownBlock ∨ va'.ownBlock = some W.heap.size) :
    ∃ ga', (ga' = ga ∨ ga' = W.heap.size) ∧ Two W' base (ka + 1) kc E va' vc ga' gc (xs ++ [.bool b1, .int .u64 A1, .int .u64 L1, .pointer p1, .bool b2, .int .u64 A2, .int .u64 L2, .pointer p2]) ys := by
  have hl := h.oa.1
  rw [h.ba] at G hb
  have pa := h.za.plain h.ba
  obtain ⟨cs, hk⟩ := typed h.oa h.ba
  have hm : ∀ v q, IsR W v q → IsR W' v q := fun v q i => IsR.grown i pa G
  have hq : ∀ v q, IsQ W v q → IsQ W' v q := fun v q i => IsQ.grown i hk (by decide) G
  have hc := h.lta.2.2
  have kc' : W'.heap[gc]? = W.heap[gc]? := G.block _ hc (by simpa using fun e => h.ne e.symm)
  have rest : ∀ ga', va'.ownBlock = some ga' → ga' ≠ gc → Two W' base (ka + 1) kc E va' vc ga' gc (xs ++ [.bool b1, .int .u64 A1, .int .u64 L1, .pointer p1, .bool b2, .int .u64 A2, .int .u64 L2, .pointer p2]) ys := fun ga' e1 e2 =>
    ⟨o', h.oc.kept G (.inr (by rw [h.bc]; simpa using fun e => h.ne e.symm)), e1, h.bc, e2, z', h.zc.kept (fun g' hg' => by rw [h.bc] at hg'; obtain rfl : gc = g' := by { simpa using hg' }; exact kc'),
      fun j hj => by
        by_cases e : j = ka
        · subst e; exact D8.last hl (hm _ _ i1) (hm _ _ i2)
        · exact ((h.da j (by omega)).mono hm).left hl (by omega) _,
      fun j hj => (h.dc j hj).mono hq,
      fun j hj => by
        by_cases e : j = ka
        · subst e; exact hf
        · exact h.ft j (by omega)⟩
  rcases hb with hb | hb
  · exact ⟨ga, .inl rfl, rest ga hb h.ne⟩
  · exact ⟨W.heap.size, .inr rfl, rest _ hb (by omega)⟩
theorem Two.pushC {W W' : World} {base ka kc : Nat} {E : Nat → Nm × Nm} {va vc vc' : Value} {ga gc : Nat} {xs ys : List Value} (h : Two W base ka kc E va vc ga gc xs ys) {bq1 : Bool} {o1 : Option Addr} {l1 c1 : Nat} {r1 : Option Addr} {m1 z1 : Nat} {bq2 : Bool} {o2 : Option Addr} {l2 c2 : Nat} {r2 : Option Addr} {m2 z2 : Nat}
    (i1 : IsQ W (.agg #[.bool bq1, .slice o1 l1 c1, .slice r1 m1 z1]) (E kc).1) (i2 : IsQ W (.agg #[.bool bq2, .slice o2 l2 c2, .slice r2 m2 z2]) (E kc).2)
    (o' : W'.ownsRow base 51 6 vc' (kc + 1) (ys ++ [.bool bq1, .slice o1 l1 c1, .slice r1 m1 z1, .bool bq2, .slice o2 l2 c2, .slice r2 m2 z2])) (G : W.grownBy W' vc.ownBlock) (z' : BlkZ W' vc') (hb : vc'.ownBlock = vc.ownBlock ∨ vc'.ownBlock = some W.heap.size) :
    ∃ gc', (gc' = gc ∨ gc' = W.heap.size) ∧ Two W' base ka (kc + 1) E va vc' ga gc' xs (ys ++ [.bool bq1, .slice o1 l1 c1, .slice r1 m1 z1, .bool bq2, .slice o2 l2 c2, .slice r2 m2 z2]) := by
  have hl := h.oc.1
  rw [h.bc] at G hb
  have pc := h.zc.plain h.bc
  obtain ⟨cs, hk⟩ := typed h.oc h.bc
  have hm : ∀ v q, IsR W v q → IsR W' v q := fun v q i => IsR.grown i pc G
  have hq : ∀ v q, IsQ W v q → IsQ W' v q := fun v q i => IsQ.grown i hk (by decide) G
  have ha := h.lta.1.2
  have ka' : W'.heap[ga]? = W.heap[ga]? := G.block _ ha (by simpa using h.ne)
  have rest : ∀ gc', vc'.ownBlock = some gc' → ga ≠ gc' → Two W' base ka (kc + 1) E va vc' ga gc' xs (ys ++ [.bool bq1, .slice o1 l1 c1, .slice r1 m1 z1, .bool bq2, .slice o2 l2 c2, .slice r2 m2 z2]) := fun gc' e1 e2 =>
    ⟨h.oa.kept G (.inr (by rw [h.ba]; simpa using h.ne)), o', h.ba, e1, e2, h.za.kept (fun g' hg' => by rw [h.ba] at hg'; obtain rfl : ga = g' := by { simpa using hg' }; exact ka'), z',
      fun j hj => (h.da j hj).mono hm,
      fun j hj => by
        by_cases e : j = kc
        · subst e; exact E6.last hl (hq _ _ i1) (hq _ _ i2)
        · exact ((h.dc j (by omega)).mono hq).left hl (by omega) _,
      h.ft⟩
  rcases hb with hb | hb
  · exact ⟨gc, .inl rfl, rest gc hb h.ne⟩
  · exact ⟨W.heap.size, .inr rfl, rest _ hb (by omega)⟩
theorem Two.congr {W : World} {base k : Nat} {E F : Nat → Nm × Nm} {va vc : Value} {ga gc : Nat} {xs ys : List Value} (h : Two W base k k E va vc ga gc xs ys) (hE : ∀ j, j < k → F j = E j) : Two W base k k F va vc ga gc xs ys :=
  ⟨h.oa, h.oc, h.ba, h.bc, h.ne, h.za, h.zc, fun j hj => by rw [hE j hj]; exact h.da j hj, fun j hj => by rw [hE j hj]; exact h.dc j hj, fun j hj => by rw [hE j hj]; exact h.ft j hj⟩
theorem add_at (g m : Nat) : (⟨g, 0, none⟩ : Addr).add m = ⟨g, 0 + m, none⟩ := by
  unfold Addr.add
  split
  · rename_i h; rw [h]
  · rfl
theorem Two.rd {W : World} {base k : Nat} {E : Nat → Nm × Nm} {va vc : Value} {ga gc : Nat} {xs ys : List Value} (h : Two W base k k E va vc ga gc xs ys) : RD W va k E ∧ RE W vc k E := by
  constructor
  · obtain ⟨o, cap, e⟩ : ∃ o cap, va = .slice o k cap := by
      rcases h.oa.2 with ⟨rfl, rfl⟩ | ⟨g', cap, cur, rfl, _⟩
      · exact ⟨none, 0, rfl⟩
      · exact ⟨_, cap, rfl⟩
    refine ⟨o, cap, e, h.ft, fun _ => ⟨ga, 0, ?_, h.lta.1.2, fun j hj => ?_⟩⟩
    · rcases h.oa.2 with ⟨e2, _⟩ | ⟨g', cap', cur, e2, _⟩
      · have := h.ba; rw [e2] at this; simp [Value.ownBlock] at this
      · have := h.ba
        rw [e2] at this e
        simp [Value.ownBlock] at this
        subst this
        simp at e
        exact e.1.symm
    · obtain ⟨b1, A1, L1, p1, b2, A2, L2, p2, a0, a1, a2, a3, a4, a5, a6, a7, i1, i2⟩ := h.da j hj
      have c : ∀ i u, xs[j * 8 + i]? = some u → W.cell? ⟨ga, 0 + j * 8 + i, none⟩ = some u := fun i u hu => by
        have := h.oa.cells h.ba (j * 8 + i) u hu
        rw [add_at] at this
        rw [Nat.add_assoc]
        exact this
      exact ⟨b1, A1, L1, p1, b2, A2, L2, p2, c 0 _ a0, c 1 _ a1, c 2 _ a2, c 3 _ a3, c 4 _ a4, c 5 _ a5, c 6 _ a6, c 7 _ a7, i1, i2⟩
  · obtain ⟨o, cap, e⟩ : ∃ o cap, vc = .slice o k cap := by
      rcases h.oc.2 with ⟨rfl, rfl⟩ | ⟨g', cap, cur, rfl, _⟩
      · exact ⟨none, 0, rfl⟩
      · exact ⟨_, cap, rfl⟩
    refine ⟨o, cap, e, h.ft, fun _ => ⟨gc, 0, ?_, h.lta.2.2, fun j hj => ?_⟩⟩
    · rcases h.oc.2 with ⟨e2, _⟩ | ⟨g', cap', cur, e2, _⟩
      · have := h.bc; rw [e2] at this; simp [Value.ownBlock] at this
      · have := h.bc
        rw [e2] at this e
        simp [Value.ownBlock] at this
        subst this
        simp at e
        exact e.1.symm
    · obtain ⟨bq1, o1, l1, c1, r1, m1, z1, bq2, o2, l2, c2, r2, m2, z2, a0, a1, a2, a3, a4, a5, i1, i2⟩ := h.dc j hj
      have c : ∀ i u, ys[j * 6 + i]? = some u → W.cell? ⟨gc, 0 + j * 6 + i, none⟩ = some u := fun i u hu => by
        have := h.oc.cells h.bc (j * 6 + i) u hu
        rw [add_at] at this
        rw [Nat.add_assoc]
        exact this
      exact ⟨bq1, o1, l1, c1, r1, m1, z1, bq2, o2, l2, c2, r2, m2, z2, c 0 _ a0, c 1 _ a1, c 2 _ a2, c 3 _ a3, c 4 _ a4, c 5 _ a5, i1, i2⟩
end Go.Proofs.Ytdliookkkgobbaa.LiN

/- Layer 7's statements lean on: lists. -/
namespace Go.Proofs.Ytdliookkkgobbaa.LiL
open Go.RowKit Mem LimbNum Limb1 NatL GcdA RatL RatM RatN RatF RatO MulN MulW MulL RefR RefT RefU InvL DivL QNum CmpL CmqL RefX RefY RefZ FloL Mk5 AddN JoinL AddW AddV AddR FldL SubL NmL DelL DelM DelB DaL DmL DcL RcL AppZ Law5 Aw5 LiN

theorem infoD : (Try.prog.info? 49).map (fun i => (i.zero, i.size, i.bytes)) = some (some (.agg #[.bool false, .int .u64 0, .int .u64 0, .pointer none, .bool false, .int .u64 0, .int .u64 0, .pointer none]), 8, 64) := by kernel_rfl
theorem infoE : (Try.prog.info? 51).map (fun i => (i.zero, i.size, i.bytes)) = some (some (.agg #[.bool false, .slice none 0 0, .slice none 0 0, .bool false, .slice none 0 0, .slice none 0 0]), 6, 112) := by kernel_rfl
theorem pz8 : ∀ u ∈ (.agg #[.bool false, .int .u64 0, .int .u64 0, .pointer none, .bool false, .int .u64 0, .int .u64 0, .pointer none] : Value).cells.toList, NoLimb u := by
  intro u hu k z e
  simp [Value.cells] at hu
  rcases hu with rfl | rfl | rfl | rfl | rfl | rfl | rfl | rfl <;> simp at e <;> exact e.1.symm
theorem pz6 : ∀ u ∈ (.agg #[.bool false, .slice none 0 0, .slice none 0 0, .bool false, .slice none 0 0, .slice none 0 0] : Value).cells.toList, NoLimb u := by
  intro u hu k z e
  simp [Value.cells] at hu
  rcases hu with rfl | rfl | rfl | rfl | rfl | rfl <;> simp at e
theorem pn8 {b1 : Bool} {A1 L1 : Int} {p1 : Option Addr} {b2 : Bool} {A2 L2 : Int} {p2 : Option Addr} : PlL [.bool b1, .int .u64 A1, .int .u64 L1, .pointer p1, .bool b2, .int .u64 A2, .int .u64 L2, .pointer p2] := by
  refine ⟨fun u hu k z e => ?_, fun u hu o n c e => ?_⟩
  · simp at hu
    rcases hu with rfl | rfl | rfl | rfl | rfl | rfl | rfl | rfl <;> simp at e <;> exact e.1.symm
  · simp at hu
    subst hu
    simp at e
theorem pn6 {bq1 : Bool} {o1 : Option Addr} {l1 c1 : Nat} {r1 : Option Addr} {m1 z1 : Nat} {bq2 : Bool} {o2 : Option Addr} {l2 c2 : Nat} {r2 : Option Addr} {m2 z2 : Nat} : PlL [.bool bq1, .slice o1 l1 c1, .slice r1 m1 z1, .bool bq2, .slice o2 l2 c2, .slice r2 m2 z2] := by
  refine ⟨fun u hu k z e => ?_, fun u hu o n c e => ?_⟩
  · simp at hu
    rcases hu with rfl | rfl | rfl | rfl | rfl | rfl <;> simp at e
  · simp at hu
    subst hu
    simp at e
theorem news_at (w : World) (cs : Array Value) (t : TypeId) (l : List Value) (hl : cs.toList = l) : ∀ j u, l[j]? = some u → (w.alloc (.cells cs t)).cell? ((⟨w.heap.size, 0, none⟩ : Addr).add j) = some u := by
  intro j u h
  rw [add_at]
  have := heap_alloc_new w (.cells cs t)
  simp only [World.cell?, this, Nat.zero_add]
  subst hl
  simpa using h
theorem blk_empty (w : World) (e : TypeId) : BlkZ (w.alloc (.cells #[] e)) (.slice (some ⟨w.heap.size, 0, none⟩) 0 0) := by
  intro g hg
  simp only [Value.ownBlock, Option.some.injEq] at hg
  subst hg
  exact ⟨_, _, heap_alloc_new _ _, ⟨fun u hu => by simp at hu, fun u hu => by simp at hu⟩⟩
theorem BlkZ.below {w w' : World} {v : Value} (h : BlkZ w v) (hb : Below w.heap.size w w') : BlkZ w' v := h.kept (fun g hg => by
  obtain ⟨cur, e, h1, _⟩ := h g hg
  exact hb.block g (in_heap h1))
theorem dist4 {ga' gc' ga gc gb gd s1 s2 base : Nat} (h1 : ga' = ga ∨ ga' = s1) (h2 : gc' = gc ∨ gc' = s2) (hd : ga ≠ gb ∧ ga ≠ gd ∧ gc ≠ gb ∧ gc ≠ gd) (l1 : (base ≤ gb ∧ gb < s1) ∧ base ≤ gd ∧ gd < s1) (l2 : (base ≤ gb ∧ gb < s2) ∧ base ≤ gd ∧ gd < s2) : ga' ≠ gb ∧ ga' ≠ gd ∧ gc' ≠ gb ∧ gc' ≠ gd := by
  rcases h1 with rfl | rfl <;> rcases h2 with rfl | rfl <;> refine ⟨?_, ?_, ?_, ?_⟩ <;> omega
theorem owns0 {W : World} {base size g : Nat} {e : TypeId} (hk : W.heap[g]? = some (.cells #[] e)) (hb : base ≤ g) : W.ownsRow base e size (.slice (some ⟨g, 0, none⟩) 0 0) 0 [] := ⟨by simp, .inr ⟨g, 0, #[], rfl, hb, hk, Nat.le_refl _, Nat.zero_le _, by simp, by simp⟩⟩
theorem blk0 {W : World} {g : Nat} {e : TypeId} (hk : W.heap[g]? = some (.cells #[] e)) : BlkZ W (.slice (some ⟨g, 0, none⟩) 0 0) := by
  intro g' hg
  simp only [Value.ownBlock, Option.some.injEq] at hg
  subst hg
  exact ⟨_, _, hk, ⟨fun u hu => by simp at hu, fun u hu => by simp at hu⟩⟩
theorem two0 {W : World} {base ga gc : Nat} (F : Nat → Nm × Nm) (ha : W.heap[ga]? = some (.cells #[] 49)) (hc : W.heap[gc]? = some (.cells #[] 51)) (b1 : base ≤ ga) (b2 : base ≤ gc) (hn : ga ≠ gc) : Two W base 0 0 F (.slice (some ⟨ga, 0, none⟩) 0 0) (.slice (some ⟨gc, 0, none⟩) 0 0) ga gc [] [] :=
  ⟨owns0 ha b1, owns0 hc b2, rfl, rfl, hn, blk0 ha, blk0 hc, fun _ hj => absurd hj (Nat.not_lt_zero _), fun _ hj => absurd hj (Nat.not_lt_zero _), fun _ hj => absurd hj (Nat.not_lt_zero _)⟩
theorem start4 (w : World) (F : Nat → Nm × Nm) : ∃ W0, (((w.alloc (.cells #[] 49)).alloc (.cells #[] 49)).alloc (.cells #[] 51)).alloc (.cells #[] 51) = W0 ∧ Two W0 w.heap.size 0 0 F (.slice (some ⟨w.heap.size, 0, none⟩) 0 0) (.slice (some ⟨w.heap.size + 1 + 1, 0, none⟩) 0 0) w.heap.size (w.heap.size + 1 + 1) [] [] ∧
    Two W0 w.heap.size 0 0 F (.slice (some ⟨w.heap.size + 1, 0, none⟩) 0 0) (.slice (some ⟨w.heap.size + 1 + 1 + 1, 0, none⟩) 0 0) (w.heap.size + 1) (w.heap.size + 1 + 1 + 1) [] [] ∧ Below w.heap.size w W0 := by
  obtain ⟨W3, e3, hb3, k0, k1, k2⟩ := three_new w (.cells #[] 49) (.cells #[] 49) (.cells #[] 51)
  have z3 : W3.heap.size = w.heap.size + 1 + 1 + 1 := by rw [← e3]; simp
  obtain ⟨W4, e4, hb4, k3⟩ := one_new W3 (.cells #[] 51)
  rw [e3, e4]
  rw [z3] at k3
  have c0 := box_kept k0 hb4 (in_heap k0)
  have c1 := box_kept k1 hb4 (in_heap k1)
  have c2 := box_kept k2 hb4 (in_heap k2)
  exact ⟨W4, rfl, two0 F c0 c2 (Nat.le_refl _) (by omega) (by omega), two0 F c1 k3 (by omega) (by omega) (by omega), bt hb3 hb4⟩
set_option maxRecDepth 20000 in
set_option maxHeartbeats 8000000 in
theorem lists_11 (o1 o2 : Option Addr) (n1 c1 n2 c2 : Nat) (w : World) (hl1 : n1 ≤ 12) (hl2 : n2 ≤ 12) (h1 : 0 < n1 → ∃ g off, o1 = some ⟨g, off, none⟩ ∧ g < w.heap.size ∧ ∀ k, k < n1 → ∃ u0 u1 u2 u3 u4 u5 : Value, w.cell? ⟨g, off + k * 6, none⟩ = some u0 ∧ w.cell? ⟨g, off + k * 6 + 1, none⟩ = some u1 ∧ w.cell? ⟨g, off + k * 6 + 2, none⟩ = some u2 ∧ w.cell? ⟨g, off + k * 6 + 3, none⟩ = some u3 ∧ w.cell? ⟨g, off + k * 6 + 4, none⟩ = some u4 ∧ w.cell? ⟨g, off + k * 6 + 5, none⟩ = some u5 ∧ ∀ W, Below w.heap.size w W → Calls Try.prog 17 #[.agg #[u0, u1, u2, u3, u4, u5]] W fun e w' => ∃ v q p1 p2, e = .returned (.tuple #[v, q]) ∧ IsD w' v p1 p2 ∧ IsE w' q p1 p2 ∧ Fits p1 256 ∧ Fits p2 256 ∧ Below W.heap.size W w') (h2 : 0 < n2 → ∃ g off, o2 = some ⟨g, off, none⟩ ∧ g < w.heap.size ∧ ∀ k, k < n2 → ∃ u0 u1 u2 u3 u4 u5 : Value, w.cell? ⟨g, off + k * 6, none⟩ = some u0 ∧ w.cell? ⟨g, off + k * 6 + 1, none⟩ = some u1 ∧ w.cell? ⟨g, off + k * 6 + 2, none⟩ = some u2 ∧ w.cell? ⟨g, off + k * 6 + 3, none⟩ = some u3 ∧ w.cell? ⟨g, off + k * 6 + 4, none⟩ = some u4 ∧ w.cell? ⟨g, off + k * 6 + 5, none⟩ = some u5 ∧ ∀ W, Below w.heap.size w W → Calls Try.prog 17 #[.agg #[u0, u1, u2, u3, u4, u5]] W fun e w' => ∃ v q p1 p2, e = .returned (.tuple #[v, q]) ∧ IsD w' v p1 p2 ∧ IsE w' q p1 p2 ∧ Fits p1 256 ∧ Fits p2 256 ∧ Below W.heap.size W w') :
    Calls Try.prog 34 #[.slice o1 n1 c1, .slice o2 n2 c2] w fun e w' => ∃ E F va vb vc vd, e = .returned (.tuple #[va, vb, vc, vd]) ∧ RD w' va n1 E ∧ RD w' vb n2 F ∧ RE w' vc n1 E ∧ RE w' vd n2 F ∧ Below w.heap.size w w' := by
  obtain ⟨i0, hi, hz0, hz1, hz2⟩ := info_parts infoD
  obtain ⟨i1, hj, hy0, hy1, hy2⟩ := info_parts infoE
  have HI1 : Hid (0 < n1 → ∃ g off, o1 = some ⟨g, off, none⟩ ∧ g < w.heap.size ∧ ∀ k, k < n1 → ∃ u0 u1 u2 u3 u4 u5 : Value, w.cell? ⟨g, off + k * 6, none⟩ = some u0 ∧ w.cell? ⟨g, off + k * 6 + 1, none⟩ = some u1 ∧ w.cell? ⟨g, off + k * 6 + 2, none⟩ = some u2 ∧ w.cell? ⟨g, off + k * 6 + 3, none⟩ = some u3 ∧ w.cell? ⟨g, off + k * 6 + 4, none⟩ = some u4 ∧ w.cell? ⟨g, off + k * 6 + 5, none⟩ = some u5 ∧ ∀ W, Below w.heap.size w W → Calls Try.prog 17 #[.agg #[u0, u1, u2, u3, u4, u5]] W fun e w' => ∃ v q p1 p2, e = .returned (.tuple #[v, q]) ∧ IsD w' v p1 p2 ∧ IsE w' q p1 p2 ∧ Fits p1 256 ∧ Fits p2 256 ∧ Below W.heap.size W w') := h1
  have HI2 : Hid (0 < n2 → ∃ g off, o2 = some ⟨g, off, none⟩ ∧ g < w.heap.size ∧ ∀ k, k < n2 → ∃ u0 u1 u2 u3 u4 u5 : Value, w.cell? ⟨g, off + k * 6, none⟩ = some u0 ∧ w.cell? ⟨g, off + k * 6 + 1, none⟩ = some u1 ∧ w.cell? ⟨g, off + k * 6 + 2, none⟩ = some u2 ∧ w.cell? ⟨g, off + k * 6 + 3, none⟩ = some u3 ∧ w.cell? ⟨g, off + k * 6 + 4, none⟩ = some u4 ∧ w.cell? ⟨g, off + k * 6 + 5, none⟩ = some u5 ∧ ∀ W, Below w.heap.size w W → Calls Try.prog 17 #[.agg #[u0, u1, u2, u3, u4, u5]] W fun e w' => ∃ v q p1 p2, e = .returned (.tuple #[v, q]) ∧ IsD w' v p1 p2 ∧ IsE w' q p1 p2 ∧ Fits p1 256 ∧ Fits p2 256 ∧ Below W.heap.size W w') := h2
  obtain ⟨F0, eF0⟩ : ∃ F : Nat → Nm × Nm, F = fun _ => (intM 0, intM 0) := ⟨_, rfl⟩
  obtain ⟨W0, eW0, TA0, TB0, HB0⟩ := start4 w F0
  obtain ⟨base, ebase⟩ : ∃ b, w.heap.size = b := ⟨_, rfl⟩
  have EW : Hid (_ = W0) := eW0
  have HBS : Hid (w.heap.size = base) := ebase
  rw [ebase] at TA0 TB0 HB0
  have TA : Hid _ := TA0
  have TB : Hid _ := TB0
  have HB : Hid (Below base w W0) := HB0
  have DD : Hid (base ≠ base + 1 ∧ base ≠ base + 1 + 1 + 1 ∧ base + 1 + 1 ≠ base + 1 ∧ base + 1 + 1 ≠ base + 1 + 1 + 1) := ⟨by omega, by omega, by omega, by omega⟩
  clear h1 h2 eF0 eW0 TA0 TB0 HB0 ebase
  go_enter Try.func34, Try.ntmps34
  go_wp2
  rw [EW.out, HBS.out]
  obtain ⟨gd, egd⟩ : ∃ x, base + 1 + 1 + 1 = x := ⟨_, rfl⟩
  obtain ⟨g2, eg2⟩ : ∃ x, base + 1 + 1 = x := ⟨_, rfl⟩
  obtain ⟨gb, egb⟩ : ∃ x, base + 1 = x := ⟨_, rfl⟩
  rw [egd, egb] at TB
  rw [eg2] at TA
  simp only [egd] at DD
  simp only [eg2] at DD
  simp only [egb] at DD
  simp only [egd]
  simp only [eg2]
  simp only [egb]
  obtain ⟨vb, evb⟩ : ∃ x, Value.slice (some ⟨gb, 0, none⟩) 0 0 = x := ⟨_, rfl⟩
  obtain ⟨vd, evd⟩ : ∃ x, Value.slice (some ⟨gd, 0, none⟩) 0 0 = x := ⟨_, rfl⟩
  rw [evb, evd] at TB
  simp only [evb, evd]
  clear EW evb evd egd eg2 egb
  go_loopw [8, 10, 12] (fun sa sc iv wr => ∃ (k : Nat) (E : Nat → Nm × Nm) (va vc : Value) (ga gc : Nat) (xs ys : List Value), va = sa ∧ vc = sc ∧ k ≤ n1 ∧ iv = .int .i64 (k : Int) ∧ Hid (Two wr base k k E va vc ga gc xs ys) ∧ Hid (Two wr base 0 0 F0 vb vd gb gd [] []) ∧ Hid (ga ≠ gb ∧ ga ≠ gd ∧ gc ≠ gb ∧ gc ≠ gd) ∧ Hid (Below base w wr)) (fun _ _ iv _ => n1 - (intOf iv).toNat)
  case atStart => exact ⟨0, F0, _, _, _, _, [], [], rfl, rfl, Nat.zero_le _, rfl, TA.out, TB.out, DD.out, HB.out⟩
  case round =>
    clear TA TB DD HB
    obtain ⟨k, E, va, vc, ga, gc, xs, ys, rfl, rfl, hk, rfl, HT, HO, DD, HB⟩ := hrel
    by_cases hlt : k < n1
    · obtain ⟨g, off, rfl, hg, hrow⟩ := HI1.out (by omega)
      obtain ⟨u0, u1, u2, u3, u4, u5, a0, a1, a2, a3, a4, a5, cB⟩ := hrow k (by omega)
      have cw : ∀ i, wr.cell? ⟨g, i, none⟩ = w.cell? ⟨g, i, none⟩ := fun i => HB.out.cell (p := ⟨g, i, none⟩) (show g < base by have := HBS.out; omega)
      have e0 := (cw _).trans a0
      have e1 := (cw _).trans a1
      have e2 := (cw _).trans a2
      have e3 := (cw _).trans a3
      have e4 := (cw _).trans a4
      have e5 := (cw _).trans a5
      have cB2 := cB wr (by rw [HBS.out]; exact HB.out)
      have q1 : (k : Int) < (n1 : Int) := by omega
      have q2 : (k : Int) < 12 := by omega
      clear cw a0 a1 a2 a3 a4 a5 cB hrow hg
      go_upto_region 7 with (go_at_call 17; refine cB2.mono ?_; rintro e w1 ⟨v, y, pp, qq, rfl, ⟨b1, A1, L1, p1, b2, A2, L2, p2, rfl, i1, i2⟩, ⟨bq1, o1, l1, c1, r1, m1, z1, bq2, o2, l2, c2, r2, m2, z2, rfl, j1, j2⟩, F1, F2, hb1⟩)
      obtain ⟨W1, eW1, B1, kx, kp⟩ := two_new w1 (.cells #[.bool b1, .int .u64 A1, .int .u64 L1, .pointer p1, .bool b2, .int .u64 A2, .int .u64 L2, .pointer p2] 49) (.cells #[.bool bq1, .slice o1 l1 c1, .slice r1 m1 z1, .bool bq2, .slice o2 l2 c2, .slice r2 m2 z2] 51)
      rw [eW1]
      have BB := bt hb1 B1
      have hbsr : base ≤ wr.heap.size := Nat.le_trans HT.out.lta.1.1 (Nat.le_of_lt HT.out.lta.1.2)
      have HB1 := HB.out.trans (BB.mono hbsr)
      have EK : ∃ F : Nat → Nm × Nm, F k = (pp, qq) ∧ ∀ j, j < k → F j = E j := ⟨fun j => if j = k then (pp, qq) else E j, if_pos rfl, fun j hj => if_neg (by omega)⟩
      obtain ⟨E', hE', hEj⟩ := EK
      have T1 := (HT.out.below BB).congr hEj
      have O1 := HO.out.below BB
      have al8 := (Below.refl W1.heap.size W1).alloc (Nat.le_refl _) (.cells #[.bool b1, .int .u64 A1, .int .u64 L1, .pointer p1, .bool b2, .int .u64 A2, .int .u64 L2, .pointer p2] 49)
      have T2 := T1.below al8
      have O2 := O1.below al8
      have x1 : IsR (W1.alloc (.cells #[.bool b1, .int .u64 A1, .int .u64 L1, .pointer p1, .bool b2, .int .u64 A2, .int .u64 L2, .pointer p2] 49)) (.agg #[.bool b1, .int .u64 A1, .int .u64 L1, .pointer p1]) (E' k).1 := by rw [hE']; exact (i1.below B1).below al8
      have x2 : IsR (W1.alloc (.cells #[.bool b1, .int .u64 A1, .int .u64 L1, .pointer p1, .bool b2, .int .u64 A2, .int .u64 L2, .pointer p2] 49)) (.agg #[.bool b2, .int .u64 A2, .int .u64 L2, .pointer p2]) (E' k).2 := by rw [hE']; exact (i2.below B1).below al8
      have y1 : IsQ (W1.alloc (.cells #[.bool b1, .int .u64 A1, .int .u64 L1, .pointer p1, .bool b2, .int .u64 A2, .int .u64 L2, .pointer p2] 49)) (.agg #[.bool bq1, .slice o1 l1 c1, .slice r1 m1 z1]) (E' k).1 := by rw [hE']; exact (j1.below B1).below al8
      have y2 : IsQ (W1.alloc (.cells #[.bool b1, .int .u64 A1, .int .u64 L1, .pointer p1, .bool b2, .int .u64 A2, .int .u64 L2, .pointer p2] 49)) (.agg #[.bool bq2, .slice o2 l2 c2, .slice r2 m2 z2]) (E' k).2 := by rw [hE']; exact (j2.below B1).below al8
      have FF : Fits (E' k).1 256 ∧ Fits (E' k).2 256 := by rw [hE']; exact ⟨F1, F2⟩
      have zx := cell_at kx
      have cx0 : W1.cell? ⟨w1.heap.size, 0, none⟩ = some (.bool b1) := zx 0 _ rfl
      have cx1 : W1.cell? ⟨w1.heap.size, 1, none⟩ = some (.int .u64 A1) := zx 1 _ rfl
      have cx2 : W1.cell? ⟨w1.heap.size, 2, none⟩ = some (.int .u64 L1) := zx 2 _ rfl
      have cx3 : W1.cell? ⟨w1.heap.size, 3, none⟩ = some (.pointer p1) := zx 3 _ rfl
      have cx4 : W1.cell? ⟨w1.heap.size, 4, none⟩ = some (.bool b2) := zx 4 _ rfl
      have cx5 : W1.cell? ⟨w1.heap.size, 5, none⟩ = some (.int .u64 A2) := zx 5 _ rfl
      have cx6 : W1.cell? ⟨w1.heap.size, 6, none⟩ = some (.int .u64 L2) := zx 6 _ rfl
      have cx7 : W1.cell? ⟨w1.heap.size, 7, none⟩ = some (.pointer p2) := zx 7 _ rfl
      have kp2 := box_kept kp al8 (in_heap kp)
      have gpn : ga ≠ w1.heap.size + 1 := by have := HT.out.lta.1.2; have := hb1.size; omega
      have hbs : base ≤ W1.heap.size := Nat.le_trans HT.out.lta.1.1 (Nat.le_trans (Nat.le_of_lt HT.out.lta.1.2) BB.size)
      obtain ⟨gp, egp⟩ : ∃ x, w1.heap.size + 1 = x := ⟨_, rfl⟩
      obtain ⟨gx, egx⟩ : ∃ x, w1.heap.size = x := ⟨_, rfl⟩
      rw [egp] at kp2 gpn
      rw [egx] at cx0 cx1 cx2 cx3 cx4 cx5 cx6 cx7
      simp only [egp]
      simp only [egx]
      clear eW1 B1 kx kp BB hb1 T1 O1 i1 i2 j1 j2 F1 F2 zx egp egx HT HO HB cB2 e0 e1 e2 e3 e4 e5
      have ST : Hid (_ ∧ _ ∧ _ ∧ _) := ⟨T2, O2, HB1, FF⟩
      clear HB1
      go_wp2_with (first
        | (at_builtin; refine wpList_append_z _ rfl _ _ 70 rfl base 49 i0 (.agg #[.bool false, .int .u64 0, .int .u64 0, .pointer none, .bool false, .int .u64 0, .int .u64 0, .pointer none]) 8 64 Try.underlying70 hi hz0 hz1 hz2 rfl (by decide) va k xs rfl T2.oa ⟨W1.heap.size, 0, none⟩ 1 [.bool b1, .int .u64 A1, .int .u64 L1, .pointer p1, .bool b2, .int .u64 A2, .int .u64 L2, .pointer p2] rfl rfl (news_at W1 _ _ _ rfl) (by simp [Value.oneCell']) (by unfold maxLen; omega) (by omega) (Nat.le_trans hbs al8.size) pz8 pn8 T2.za ?_; intro va' w2 own2 grow2 blk2 loc2; obtain ⟨ga', hga', T3⟩ := T2.pushA x1 x2 FF own2 grow2 blk2 loc2; have GG := grow2; rw [T2.ba] at GG; obtain ⟨csa, hka⟩ := typed T2.oa T2.ba; have O3 := O2.other hka (by decide) (T2.za.plain T2.ba) DD.out.1.symm DD.out.2.1.symm GG; have kq := (GG.block gp (in_heap kp2) (by simpa using gpn.symm)).trans kp2; have zq := cell_at kq; have cq0 : w2.cell? ⟨gp, 0, none⟩ = some (.bool bq1) := zq 0 _ rfl; have cq1 : w2.cell? ⟨gp, 1, none⟩ = some (.slice o1 l1 c1) := zq 1 _ rfl; have cq2 : w2.cell? ⟨gp, 2, none⟩ = some (.slice r1 m1 z1) := zq 2 _ rfl; have cq3 : w2.cell? ⟨gp, 3, none⟩ = some (.bool bq2) := zq 3 _ rfl; have cq4 : w2.cell? ⟨gp, 4, none⟩ = some (.slice o2 l2 c2) := zq 4 _ rfl; have cq5 : w2.cell? ⟨gp, 5, none⟩ = some (.slice r2 m2 z2) := zq 5 _ rfl; have y3 := IsQ.grown y1 hka (by decide) GG; have y4 := IsQ.grown y2 hka (by decide) GG; have HB2 := (ST.out.2.2.1.alloc hbs (.cells #[.bool b1, .int .u64 A1, .int .u64 L1, .pointer p1, .bool b2, .int .u64 A2, .int .u64 L2, .pointer p2] 49)).grown grow2 (Nat.le_trans hbs al8.size) (fun j hj => (T2.oa.lt j hj).1); have al6 := (Below.refl w2.heap.size w2).alloc (Nat.le_refl _) (.cells #[.bool bq1, .slice o1 l1 c1, .slice r1 m1 z1, .bool bq2, .slice o2 l2 c2, .slice r2 m2 z2] 51); have T4 := T3.below al6; have O4 := O3.below al6; have y5 := y3.below al6; have y6 := y4.below al6; have hb2s : base ≤ w2.heap.size := Nat.le_trans hbs (Nat.le_trans al8.size GG.size); have gs := GG.size; clear zq kq own2 grow2 blk2 loc2 y3 y4 T3 O3)
        | (at_builtin; refine wpList_append_z _ rfl _ _ 71 rfl base 51 i1 (.agg #[.bool false, .slice none 0 0, .slice none 0 0, .bool false, .slice none 0 0, .slice none 0 0]) 6 112 Try.underlying71 hj hy0 hy1 hy2 rfl (by decide) vc k ys rfl T4.oc ⟨w2.heap.size, 0, none⟩ 1 [.bool bq1, .slice o1 l1 c1, .slice r1 m1 z1, .bool bq2, .slice o2 l2 c2, .slice r2 m2 z2] rfl rfl (news_at w2 _ _ _ rfl) (by simp [Value.oneCell']) (by unfold maxLen; omega) (by omega) (Nat.le_trans hb2s al6.size) pz6 pn6 T4.zc ?_; intro vc' w3 own3 grow3 blk3 loc3; obtain ⟨gc', hgc', T5⟩ := T4.pushC y5 y6 own3 grow3 blk3 loc3; have G3 := grow3; rw [T4.bc] at G3; obtain ⟨csc, hkc⟩ := typed T4.oc T4.bc; have O5 := O4.other hkc (by decide) (T4.zc.plain T4.bc) DD.out.2.2.1.symm DD.out.2.2.2.symm G3; have HB3 := (HB2.alloc hb2s (.cells #[.bool bq1, .slice o1 l1 c1, .slice r1 m1 z1, .bool bq2, .slice o2 l2 c2, .slice r2 m2 z2] 51)).grown grow3 (Nat.le_trans hb2s al6.size) (fun j hj => (T4.oc.lt j hj).1); have DN : Hid (ga' ≠ gb ∧ ga' ≠ gd ∧ gc' ≠ gb ∧ gc' ≠ gd) := dist4 hga' hgc' DD.out O2.lta O4.lta; have H5 : Hid (Two w3 base (k + 1) (k + 1) E' va' vc' ga' gc' _ _) := T5; have HO5 : Hid (Two w3 base 0 0 F0 vb vd gb gd [] []) := O5; have HB5 : Hid (Below base w w3) := HB3; clear own3 grow3 blk3 loc3 T5 O5 HB3))
      go_roundw
      case rel => exact ⟨k + 1, E', va', vc', ga', gc', _, _, rfl, rfl, by omega, by go_num, H5, HO5, DN, HB5⟩
      case measure => simp [intOf]; omega
    · obtain rfl : n1 = k := by omega
      have q9 : True := trivial
      have TA : Hid (Two wr base n1 n1 E va vc ga gc xs ys) := HT
      have TB : Hid (Two wr base 0 0 F0 vb vd gb gd [] []) := HO
      clear HT HO
      go_wp2
      go_loopw [9, 11, 15] (fun sa sc iv wr => ∃ (k_ : Nat) (E_ : Nat → Nm × Nm) (va_ vc_ : Value) (ga_ gc_ : Nat) (xs_ ys_ : List Value), va_ = sa ∧ vc_ = sc ∧ k_ ≤ n2 ∧ iv = .int .i64 (k_ : Int) ∧ Hid (Two wr base k_ k_ E_ va_ vc_ ga_ gc_ xs_ ys_) ∧ Hid (Two wr base n1 n1 E va vc ga gc xs ys) ∧ Hid (ga_ ≠ ga ∧ ga_ ≠ gc ∧ gc_ ≠ ga ∧ gc_ ≠ gc) ∧ Hid (Below base w wr)) (fun _ _ iv _ => n2 - (intOf iv).toNat)
      case atStart => exact ⟨0, F0, _, _, _, _, [], [], rfl, rfl, Nat.zero_le _, rfl, TB.out, TA.out, ⟨DD.out.1.symm, DD.out.2.2.1.symm, DD.out.2.1.symm, DD.out.2.2.2.symm⟩, HB.out⟩
      case round =>
        clear TA TB DD HB
        obtain ⟨k_, E_, va_, vc_, ga_, gc_, xs_, ys_, rfl, rfl, hk, rfl, HT, HO, DD, HB⟩ := hrel
        by_cases hlt : k_ < n2
        · obtain ⟨g, off, rfl, hg, hrow⟩ := HI2.out (by omega)
          obtain ⟨u0, u1, u2, u3, u4, u5, a0, a1, a2, a3, a4, a5, cB⟩ := hrow k_ (by omega)
          have cw : ∀ i, wr.cell? ⟨g, i, none⟩ = w.cell? ⟨g, i, none⟩ := fun i => HB.out.cell (p := ⟨g, i, none⟩) (show g < base by have := HBS.out; omega)
          have e0 := (cw _).trans a0
          have e1 := (cw _).trans a1
          have e2 := (cw _).trans a2
          have e3 := (cw _).trans a3
          have e4 := (cw _).trans a4
          have e5 := (cw _).trans a5
          have cB2 := cB wr (by rw [HBS.out]; exact HB.out)
          have q1 : (k_ : Int) < (n2 : Int) := by omega
          have q2 : (k_ : Int) < 12 := by omega
          clear cw a0 a1 a2 a3 a4 a5 cB hrow hg
          go_upto_region 13 with (go_at_call 17; refine cB2.mono ?_; rintro e w1 ⟨v, y, pp, qq, rfl, ⟨b1, A1, L1, p1, b2, A2, L2, p2, rfl, i1, i2⟩, ⟨bq1, o1, l1, c1, r1, m1, z1, bq2, o2, l2, c2, r2, m2, z2, rfl, j1, j2⟩, F1, F2, hb1⟩)
          obtain ⟨W1, eW1, B1, kx, kp⟩ := two_new w1 (.cells #[.bool b1, .int .u64 A1, .int .u64 L1, .pointer p1, .bool b2, .int .u64 A2, .int .u64 L2, .pointer p2] 49) (.cells #[.bool bq1, .slice o1 l1 c1, .slice r1 m1 z1, .bool bq2, .slice o2 l2 c2, .slice r2 m2 z2] 51)
          rw [eW1]
          have BB := bt hb1 B1
          have hbsr : base ≤ wr.heap.size := Nat.le_trans HT.out.lta.1.1 (Nat.le_of_lt HT.out.lta.1.2)
          have HB1 := HB.out.trans (BB.mono hbsr)
          have EK : ∃ F : Nat → Nm × Nm, F k_ = (pp, qq) ∧ ∀ j, j < k_ → F j = E_ j := ⟨fun j => if j = k_ then (pp, qq) else E_ j, if_pos rfl, fun j hj => if_neg (by omega)⟩
          obtain ⟨E_', hE', hEj⟩ := EK
          have T1 := (HT.out.below BB).congr hEj
          have O1 := HO.out.below BB
          have al8 := (Below.refl W1.heap.size W1).alloc (Nat.le_refl _) (.cells #[.bool b1, .int .u64 A1, .int .u64 L1, .pointer p1, .bool b2, .int .u64 A2, .int .u64 L2, .pointer p2] 49)
          have T2 := T1.below al8
          have O2 := O1.below al8
          have x1 : IsR (W1.alloc (.cells #[.bool b1, .int .u64 A1, .int .u64 L1, .pointer p1, .bool b2, .int .u64 A2, .int .u64 L2, .pointer p2] 49)) (.agg #[.bool b1, .int .u64 A1, .int .u64 L1, .pointer p1]) (E_' k_).1 := by rw [hE']; exact (i1.below B1).below al8
          have x2 : IsR (W1.alloc (.cells #[.bool b1, .int .u64 A1, .int .u64 L1, .pointer p1, .bool b2, .int .u64 A2, .int .u64 L2, .pointer p2] 49)) (.agg #[.bool b2, .int .u64 A2, .int .u64 L2, .pointer p2]) (E_' k_).2 := by rw [hE']; exact (i2.below B1).below al8
          have y1 : IsQ (W1.alloc (.cells #[.bool b1, .int .u64 A1, .int .u64 L1, .pointer p1, .bool b2, .int .u64 A2, .int .u64 L2, .pointer p2] 49)) (.agg #[.bool bq1, .slice o1 l1 c1, .slice r1 m1 z1]) (E_' k_).1 := by rw [hE']; exact (j1.below B1).below al8
          have y2 : IsQ (W1.alloc (.cells #[.bool b1, .int .u64 A1, .int .u64 L1, .pointer p1, .bool b2, .int .u64 A2, .int .u64 L2, .pointer p2] 49)) (.agg #[.bool bq2, .slice o2 l2 c2, .slice r2 m2 z2]) (E_' k_).2 := by rw [hE']; exact (j2.below B1).below al8
          have FF : Fits (E_' k_).1 256 ∧ Fits (E_' k_).2 256 := by rw [hE']; exact ⟨F1, F2⟩
          have zx := cell_at kx
          have cx0 : W1.cell? ⟨w1.heap.size, 0, none⟩ = some (.bool b1) := zx 0 _ rfl
          have cx1 : W1.cell? ⟨w1.heap.size, 1, none⟩ = some (.int .u64 A1) := zx 1 _ rfl
          have cx2 : W1.cell? ⟨w1.heap.size, 2, none⟩ = some (.int .u64 L1) := zx 2 _ rfl
          have cx3 : W1.cell? ⟨w1.heap.size, 3, none⟩ = some (.pointer p1) := zx 3 _ rfl
          have cx4 : W1.cell? ⟨w1.heap.size, 4, none⟩ = some (.bool b2) := zx 4 _ rfl
          have cx5 : W1.cell? ⟨w1.heap.size, 5, none⟩ = some (.int .u64 A2) := zx 5 _ rfl
          have cx6 : W1.cell? ⟨w1.heap.size, 6, none⟩ = some (.int .u64 L2) := zx 6 _ rfl
          have cx7 : W1.cell? ⟨w1.heap.size, 7, none⟩ = some (.pointer p2) := zx 7 _ rfl
          have kp2 := box_kept kp al8 (in_heap kp)
          have gpn : ga_ ≠ w1.heap.size + 1 := by have := HT.out.lta.1.2; have := hb1.size; omega
          have hbs : base ≤ W1.heap.size := Nat.le_trans HT.out.lta.1.1 (Nat.le_trans (Nat.le_of_lt HT.out.lta.1.2) BB.size)
          obtain ⟨gp, egp⟩ : ∃ x, w1.heap.size + 1 = x := ⟨_, rfl⟩
          obtain ⟨gx, egx⟩ : ∃ x, w1.heap.size = x := ⟨_, rfl⟩
          rw [egp] at kp2 gpn
          rw [egx] at cx0 cx1 cx2 cx3 cx4 cx5 cx6 cx7
          simp only [egp]
          simp only [egx]
          clear eW1 B1 kx kp BB hb1 T1 O1 i1 i2 j1 j2 F1 F2 zx egp egx HT HO HB cB2 e0 e1 e2 e3 e4 e5
          have ST : Hid (_ ∧ _ ∧ _ ∧ _) := ⟨T2, O2, HB1, FF⟩
          clear HB1
          go_wp2_with (first
            | (at_builtin; refine wpList_append_z _ rfl _ _ 70 rfl base 49 i0 (.agg #[.bool false, .int .u64 0, .int .u64 0, .pointer none, .bool false, .int .u64 0, .int .u64 0, .pointer none]) 8 64 Try.underlying70 hi hz0 hz1 hz2 rfl (by decide) va_ k_ xs_ rfl T2.oa ⟨W1.heap.size, 0, none⟩ 1 [.bool b1, .int .u64 A1, .int .u64 L1, .pointer p1, .bool b2, .int .u64 A2, .int .u64 L2, .pointer p2] rfl rfl (news_at W1 _ _ _ rfl) (by simp [Value.oneCell']) (by unfold maxLen; omega) (by omega) (Nat.le_trans hbs al8.size) pz8 pn8 T2.za ?_; intro va_' w2 own2 grow2 blk2 loc2; obtain ⟨ga_', hga', T3⟩ := T2.pushA x1 x2 FF own2 grow2 blk2 loc2; have GG := grow2; rw [T2.ba] at GG; obtain ⟨csa, hka⟩ := typed T2.oa T2.ba; have O3 := O2.other hka (by decide) (T2.za.plain T2.ba) DD.out.1.symm DD.out.2.1.symm GG; have kq := (GG.block gp (in_heap kp2) (by simpa using gpn.symm)).trans kp2; have zq := cell_at kq; have cq0 : w2.cell? ⟨gp, 0, none⟩ = some (.bool bq1) := zq 0 _ rfl; have cq1 : w2.cell? ⟨gp, 1, none⟩ = some (.slice o1 l1 c1) := zq 1 _ rfl; have cq2 : w2.cell? ⟨gp, 2, none⟩ = some (.slice r1 m1 z1) := zq 2 _ rfl; have cq3 : w2.cell? ⟨gp, 3, none⟩ = some (.bool bq2) := zq 3 _ rfl; have cq4 : w2.cell? ⟨gp, 4, none⟩ = some (.slice o2 l2 c2) := zq 4 _ rfl; have cq5 : w2.cell? ⟨gp, 5, none⟩ = some (.slice r2 m2 z2) := zq 5 _ rfl; have y3 := IsQ.grown y1 hka (by decide) GG; have y4 := IsQ.grown y2 hka (by decide) GG; have HB2 := (ST.out.2.2.1.alloc hbs (.cells #[.bool b1, .int .u64 A1, .int .u64 L1, .pointer p1, .bool b2, .int .u64 A2, .int .u64 L2, .pointer p2] 49)).grown grow2 (Nat.le_trans hbs al8.size) (fun j hj => (T2.oa.lt j hj).1); have al6 := (Below.refl w2.heap.size w2).alloc (Nat.le_refl _) (.cells #[.bool bq1, .slice o1 l1 c1, .slice r1 m1 z1, .bool bq2, .slice o2 l2 c2, .slice r2 m2 z2] 51); have T4 := T3.below al6; have O4 := O3.below al6; have y5 := y3.below al6; have y6 := y4.below al6; have hb2s : base ≤ w2.heap.size := Nat.le_trans hbs (Nat.le_trans al8.size GG.size); have gs := GG.size; clear zq kq own2 grow2 blk2 loc2 y3 y4 T3 O3)
            | (at_builtin; refine wpList_append_z _ rfl _ _ 71 rfl base 51 i1 (.agg #[.bool false, .slice none 0 0, .slice none 0 0, .bool false, .slice none 0 0, .slice none 0 0]) 6 112 Try.underlying71 hj hy0 hy1 hy2 rfl (by decide) vc_ k_ ys_ rfl T4.oc ⟨w2.heap.size, 0, none⟩ 1 [.bool bq1, .slice o1 l1 c1, .slice r1 m1 z1, .bool bq2, .slice o2 l2 c2, .slice r2 m2 z2] rfl rfl (news_at w2 _ _ _ rfl) (by simp [Value.oneCell']) (by unfold maxLen; omega) (by omega) (Nat.le_trans hb2s al6.size) pz6 pn6 T4.zc ?_; intro vc_' w3 own3 grow3 blk3 loc3; obtain ⟨gc_', hgc', T5⟩ := T4.pushC y5 y6 own3 grow3 blk3 loc3; have G3 := grow3; rw [T4.bc] at G3; obtain ⟨csc, hkc⟩ := typed T4.oc T4.bc; have O5 := O4.other hkc (by decide) (T4.zc.plain T4.bc) DD.out.2.2.1.symm DD.out.2.2.2.symm G3; have HB3 := (HB2.alloc hb2s (.cells #[.bool bq1, .slice o1 l1 c1, .slice r1 m1 z1, .bool bq2, .slice o2 l2 c2, .slice r2 m2 z2] 51)).grown grow3 (Nat.le_trans hb2s al6.size) (fun j hj => (T4.oc.lt j hj).1); have DN : Hid (ga_' ≠ ga ∧ ga_' ≠ gc ∧ gc_' ≠ ga ∧ gc_' ≠ gc) := dist4 hga' hgc' DD.out O2.lta O4.lta; have H5 : Hid (Two w3 base (k_ + 1) (k_ + 1) E_' va_' vc_' ga_' gc_' _ _) := T5; have HO5 : Hid (Two w3 base n1 n1 E va vc ga gc xs ys) := O5; have HB5 : Hid (Below base w w3) := HB3; clear own3 grow3 blk3 loc3 T5 O5 HB3))
          go_roundw
          case rel => exact ⟨k_ + 1, E_', va_', vc_', ga_', gc_', _, _, rfl, rfl, by omega, by go_num, H5, HO5, DN, HB5⟩
          case measure => simp [intOf]; omega
        · obtain rfl : n2 = k_ := by omega
          have q8 : True := trivial
          go_wp2
          refine bodyPost_ret (v := .tuple #[va, va_, vc, vc_]) (by simp [results, go_sem]) rfl ?_
          exact ⟨E, E_, va, va_, vc, vc_, rfl, HO.out.rd.1, HT.out.rd.1, HO.out.rd.2, HT.out.rd.2, by have := HB.out; rw [← HBS.out] at this; exact this⟩
set_option maxRecDepth 20000 in
set_option maxHeartbeats 8000000 in
theorem lists_10 (o1 o2 : Option Addr) (n1 c1 n2 c2 : Nat) (w : World) (hl1 : n1 ≤ 12) (hl2 : 12 < n2) (h1 : 0 < n1 → ∃ g off, o1 = some ⟨g, off, none⟩ ∧ g < w.heap.size ∧ ∀ k, k < n1 → ∃ u0 u1 u2 u3 u4 u5 : Value, w.cell? ⟨g, off + k * 6, none⟩ = some u0 ∧ w.cell? ⟨g, off + k * 6 + 1, none⟩ = some u1 ∧ w.cell? ⟨g, off + k * 6 + 2, none⟩ = some u2 ∧ w.cell? ⟨g, off + k * 6 + 3, none⟩ = some u3 ∧ w.cell? ⟨g, off + k * 6 + 4, none⟩ = some u4 ∧ w.cell? ⟨g, off + k * 6 + 5, none⟩ = some u5 ∧ ∀ W, Below w.heap.size w W → Calls Try.prog 17 #[.agg #[u0, u1, u2, u3, u4, u5]] W fun e w' => ∃ v q p1 p2, e = .returned (.tuple #[v, q]) ∧ IsD w' v p1 p2 ∧ IsE w' q p1 p2 ∧ Fits p1 256 ∧ Fits p2 256 ∧ Below W.heap.size W w') (h2 : 0 < n2 → ∃ g off, o2 = some ⟨g, off, none⟩ ∧ g < w.heap.size ∧ ∀ k, k < n2 → ∃ u0 u1 u2 u3 u4 u5 : Value, w.cell? ⟨g, off + k * 6, none⟩ = some u0 ∧ w.cell? ⟨g, off + k * 6 + 1, none⟩ = some u1 ∧ w.cell? ⟨g, off + k * 6 + 2, none⟩ = some u2 ∧ w.cell? ⟨g, off + k * 6 + 3, none⟩ = some u3 ∧ w.cell? ⟨g, off + k * 6 + 4, none⟩ = some u4 ∧ w.cell? ⟨g, off + k * 6 + 5, none⟩ = some u5 ∧ ∀ W, Below w.heap.size w W → Calls Try.prog 17 #[.agg #[u0, u1, u2, u3, u4, u5]] W fun e w' => ∃ v q p1 p2, e = .returned (.tuple #[v, q]) ∧ IsD w' v p1 p2 ∧ IsE w' q p1 p2 ∧ Fits p1 256 ∧ Fits p2 256 ∧ Below W.heap.size W w') :
    Calls Try.prog 34 #[.slice o1 n1 c1, .slice o2 n2 c2] w fun e w' => ∃ E F va vb vc vd, e = .returned (.tuple #[va, vb, vc, vd]) ∧ RD w' va n1 E ∧ RD w' vb 12 F ∧ RE w' vc n1 E ∧ RE w' vd 12 F ∧ Below w.heap.size w w' := by
  obtain ⟨i0, hi, hz0, hz1, hz2⟩ := info_parts infoD
  obtain ⟨i1, hj, hy0, hy1, hy2⟩ := info_parts infoE
  have HI1 : Hid (0 < n1 → ∃ g off, o1 = some ⟨g, off, none⟩ ∧ g < w.heap.size ∧ ∀ k, k < n1 → ∃ u0 u1 u2 u3 u4 u5 : Value, w.cell? ⟨g, off + k * 6, none⟩ = some u0 ∧ w.cell? ⟨g, off + k * 6 + 1, none⟩ = some u1 ∧ w.cell? ⟨g, off + k * 6 + 2, none⟩ = some u2 ∧ w.cell? ⟨g, off + k * 6 + 3, none⟩ = some u3 ∧ w.cell? ⟨g, off + k * 6 + 4, none⟩ = some u4 ∧ w.cell? ⟨g, off + k * 6 + 5, none⟩ = some u5 ∧ ∀ W, Below w.heap.size w W → Calls Try.prog 17 #[.agg #[u0, u1, u2, u3, u4, u5]] W fun e w' => ∃ v q p1 p2, e = .returned (.tuple #[v, q]) ∧ IsD w' v p1 p2 ∧ IsE w' q p1 p2 ∧ Fits p1 256 ∧ Fits p2 256 ∧ Below W.heap.size W w') := h1
  have HI2 : Hid (0 < n2 → ∃ g off, o2 = some ⟨g, off, none⟩ ∧ g < w.heap.size ∧ ∀ k, k < n2 → ∃ u0 u1 u2 u3 u4 u5 : Value, w.cell? ⟨g, off + k * 6, none⟩ = some u0 ∧ w.cell? ⟨g, off + k * 6 + 1, none⟩ = some u1 ∧ w.cell? ⟨g, off + k * 6 + 2, none⟩ = some u2 ∧ w.cell? ⟨g, off + k * 6 + 3, none⟩ = some u3 ∧ w.cell? ⟨g, off + k * 6 + 4, none⟩ = some u4 ∧ w.cell? ⟨g, off + k * 6 + 5, none⟩ = some u5 ∧ ∀ W, Below w.heap.size w W → Calls Try.prog 17 #[.agg #[u0, u1, u2, u3, u4, u5]] W fun e w' => ∃ v q p1 p2, e = .returned (.tuple #[v, q]) ∧ IsD w' v p1 p2 ∧ IsE w' q p1 p2 ∧ Fits p1 256 ∧ Fits p2 256 ∧ Below W.heap.size W w') := h2
  obtain ⟨F0, eF0⟩ : ∃ F : Nat → Nm × Nm, F = fun _ => (intM 0, intM 0) := ⟨_, rfl⟩
  obtain ⟨W0, eW0, TA0, TB0, HB0⟩ := start4 w F0
  obtain ⟨base, ebase⟩ : ∃ b, w.heap.size = b := ⟨_, rfl⟩
  have EW : Hid (_ = W0) := eW0
  have HBS : Hid (w.heap.size = base) := ebase
  rw [ebase] at TA0 TB0 HB0
  have TA : Hid _ := TA0
  have TB : Hid _ := TB0
  have HB : Hid (Below base w W0) := HB0
  have DD : Hid (base ≠ base + 1 ∧ base ≠ base + 1 + 1 + 1 ∧ base + 1 + 1 ≠ base + 1 ∧ base + 1 + 1 ≠ base + 1 + 1 + 1) := ⟨by omega, by omega, by omega, by omega⟩
  clear h1 h2 eF0 eW0 TA0 TB0 HB0 ebase
  go_enter Try.func34, Try.ntmps34
  go_wp2
  rw [EW.out, HBS.out]
  obtain ⟨gd, egd⟩ : ∃ x, base + 1 + 1 + 1 = x := ⟨_, rfl⟩
  obtain ⟨g2, eg2⟩ : ∃ x, base + 1 + 1 = x := ⟨_, rfl⟩
  obtain ⟨gb, egb⟩ : ∃ x, base + 1 = x := ⟨_, rfl⟩
  rw [egd, egb] at TB
  rw [eg2] at TA
  simp only [egd] at DD
  simp only [eg2] at DD
  simp only [egb] at DD
  simp only [egd]
  simp only [eg2]
  simp only [egb]
  obtain ⟨vb, evb⟩ : ∃ x, Value.slice (some ⟨gb, 0, none⟩) 0 0 = x := ⟨_, rfl⟩
  obtain ⟨vd, evd⟩ : ∃ x, Value.slice (some ⟨gd, 0, none⟩) 0 0 = x := ⟨_, rfl⟩
  rw [evb, evd] at TB
  simp only [evb, evd]
  clear EW evb evd egd eg2 egb
  go_loopw [8, 10, 12] (fun sa sc iv wr => ∃ (k : Nat) (E : Nat → Nm × Nm) (va vc : Value) (ga gc : Nat) (xs ys : List Value), va = sa ∧ vc = sc ∧ k ≤ n1 ∧ iv = .int .i64 (k : Int) ∧ Hid (Two wr base k k E va vc ga gc xs ys) ∧ Hid (Two wr base 0 0 F0 vb vd gb gd [] []) ∧ Hid (ga ≠ gb ∧ ga ≠ gd ∧ gc ≠ gb ∧ gc ≠ gd) ∧ Hid (Below base w wr)) (fun _ _ iv _ => n1 - (intOf iv).toNat)
  case atStart => exact ⟨0, F0, _, _, _, _, [], [], rfl, rfl, Nat.zero_le _, rfl, TA.out, TB.out, DD.out, HB.out⟩
  case round =>
    clear TA TB DD HB
    obtain ⟨k, E, va, vc, ga, gc, xs, ys, rfl, rfl, hk, rfl, HT, HO, DD, HB⟩ := hrel
    by_cases hlt : k < n1
    · obtain ⟨g, off, rfl, hg, hrow⟩ := HI1.out (by omega)
      obtain ⟨u0, u1, u2, u3, u4, u5, a0, a1, a2, a3, a4, a5, cB⟩ := hrow k (by omega)
      have cw : ∀ i, wr.cell? ⟨g, i, none⟩ = w.cell? ⟨g, i, none⟩ := fun i => HB.out.cell (p := ⟨g, i, none⟩) (show g < base by have := HBS.out; omega)
      have e0 := (cw _).trans a0
      have e1 := (cw _).trans a1
      have e2 := (cw _).trans a2
      have e3 := (cw _).trans a3
      have e4 := (cw _).trans a4
      have e5 := (cw _).trans a5
      have cB2 := cB wr (by rw [HBS.out]; exact HB.out)
      have q1 : (k : Int) < (n1 : Int) := by omega
      have q2 : (k : Int) < 12 := by omega
      clear cw a0 a1 a2 a3 a4 a5 cB hrow hg
      go_upto_region 7 with (go_at_call 17; refine cB2.mono ?_; rintro e w1 ⟨v, y, pp, qq, rfl, ⟨b1, A1, L1, p1, b2, A2, L2, p2, rfl, i1, i2⟩, ⟨bq1, o1, l1, c1, r1, m1, z1, bq2, o2, l2, c2, r2, m2, z2, rfl, j1, j2⟩, F1, F2, hb1⟩)
      obtain ⟨W1, eW1, B1, kx, kp⟩ := two_new w1 (.cells #[.bool b1, .int .u64 A1, .int .u64 L1, .pointer p1, .bool b2, .int .u64 A2, .int .u64 L2, .pointer p2] 49) (.cells #[.bool bq1, .slice o1 l1 c1, .slice r1 m1 z1, .bool bq2, .slice o2 l2 c2, .slice r2 m2 z2] 51)
      rw [eW1]
      have BB := bt hb1 B1
      have hbsr : base ≤ wr.heap.size := Nat.le_trans HT.out.lta.1.1 (Nat.le_of_lt HT.out.lta.1.2)
      have HB1 := HB.out.trans (BB.mono hbsr)
      have EK : ∃ F : Nat → Nm × Nm, F k = (pp, qq) ∧ ∀ j, j < k → F j = E j := ⟨fun j => if j = k then (pp, qq) else E j, if_pos rfl, fun j hj => if_neg (by omega)⟩
      obtain ⟨E', hE', hEj⟩ := EK
      have T1 := (HT.out.below BB).congr hEj
      have O1 := HO.out.below BB
      have al8 := (Below.refl W1.heap.size W1).alloc (Nat.le_refl _) (.cells #[.bool b1, .int .u64 A1, .int .u64 L1, .pointer p1, .bool b2, .int .u64 A2, .int .u64 L2, .pointer p2] 49)
      have T2 := T1.below al8
      have O2 := O1.below al8
      have x1 : IsR (W1.alloc (.cells #[.bool b1, .int .u64 A1, .int .u64 L1, .pointer p1, .bool b2, .int .u64 A2, .int .u64 L2, .pointer p2] 49)) (.agg #[.bool b1, .int .u64 A1, .int .u64 L1, .pointer p1]) (E' k).1 := by rw [hE']; exact (i1.below B1).below al8
      have x2 : IsR (W1.alloc (.cells #[.bool b1, .int .u64 A1, .int .u64 L1, .pointer p1, .bool b2, .int .u64 A2, .int .u64 L2, .pointer p2] 49)) (.agg #[.bool b2, .int .u64 A2, .int .u64 L2, .pointer p2]) (E' k).2 := by rw [hE']; exact (i2.below B1).below al8
      have y1 : IsQ (W1.alloc (.cells #[.bool b1, .int .u64 A1, .int .u64 L1, .pointer p1, .bool b2, .int .u64 A2, .int .u64 L2, .pointer p2] 49)) (.agg #[.bool bq1, .slice o1 l1 c1, .slice r1 m1 z1]) (E' k).1 := by rw [hE']; exact (j1.below B1).below al8
      have y2 : IsQ (W1.alloc (.cells #[.bool b1, .int .u64 A1, .int .u64 L1, .pointer p1, .bool b2, .int .u64 A2, .int .u64 L2, .pointer p2] 49)) (.agg #[.bool bq2, .slice o2 l2 c2, .slice r2 m2 z2]) (E' k).2 := by rw [hE']; exact (j2.below B1).below al8
      have FF : Fits (E' k).1 256 ∧ Fits (E' k).2 256 := by rw [hE']; exact ⟨F1, F2⟩
      have zx := cell_at kx
      have cx0 : W1.cell? ⟨w1.heap.size, 0, none⟩ = some (.bool b1) := zx 0 _ rfl
      have cx1 : W1.cell? ⟨w1.heap.size, 1, none⟩ = some (.int .u64 A1) := zx 1 _ rfl
      have cx2 : W1.cell? ⟨w1.heap.size, 2, none⟩ = some (.int .u64 L1) := zx 2 _ rfl
      have cx3 : W1.cell? ⟨w1.heap.size, 3, none⟩ = some (.pointer p1) := zx 3 _ rfl
      have cx4 : W1.cell? ⟨w1.heap.size, 4, none⟩ = some (.bool b2) := zx 4 _ rfl
      have cx5 : W1.cell? ⟨w1.heap.size, 5, none⟩ = some (.int .u64 A2) := zx 5 _ rfl
      have cx6 : W1.cell? ⟨w1.heap.size, 6, none⟩ = some (.int .u64 L2) := zx 6 _ rfl
      have cx7 : W1.cell? ⟨w1.heap.size, 7, none⟩ = some (.pointer p2) := zx 7 _ rfl
      have kp2 := box_kept kp al8 (in_heap kp)
      have gpn : ga ≠ w1.heap.size + 1 := by have := HT.out.lta.1.2; have := hb1.size; omega
      have hbs : base ≤ W1.heap.size := Nat.le_trans HT.out.lta.1.1 (Nat.le_trans (Nat.le_of_lt HT.out.lta.1.2) BB.size)
      obtain ⟨gp, egp⟩ : ∃ x, w1.heap.size + 1 = x := ⟨_, rfl⟩
      obtain ⟨gx, egx⟩ : ∃ x, w1.heap.size = x := ⟨_, rfl⟩
      rw [egp] at kp2 gpn
      rw [egx] at cx0 cx1 cx2 cx3 cx4 cx5 cx6 cx7
      simp only [egp]
      simp only [egx]
      clear eW1 B1 kx kp BB hb1 T1 O1 i1 i2 j1 j2 F1 F2 zx egp egx HT HO HB cB2 e0 e1 e2 e3 e4 e5
      have ST : Hid (_ ∧ _ ∧ _ ∧ _) := ⟨T2, O2, HB1, FF⟩
      clear HB1
      go_wp2_with (first
        | (at_builtin; refine wpList_append_z _ rfl _ _ 70 rfl base 49 i0 (.agg #[.bool false, .int .u64 0, .int .u64 0, .pointer none, .bool false, .int .u64 0, .int .u64 0, .pointer none]) 8 64 Try.underlying70 hi hz0 hz1 hz2 rfl (by decide) va k xs rfl T2.oa ⟨W1.heap.size, 0, none⟩ 1 [.bool b1, .int .u64 A1, .int .u64 L1, .pointer p1, .bool b2, .int .u64 A2, .int .u64 L2, .pointer p2] rfl rfl (news_at W1 _ _ _ rfl) (by simp [Value.oneCell']) (by unfold maxLen; omega) (by omega) (Nat.le_trans hbs al8.size) pz8 pn8 T2.za ?_; intro va' w2 own2 grow2 blk2 loc2; obtain ⟨ga', hga', T3⟩ := T2.pushA x1 x2 FF own2 grow2 blk2 loc2; have GG := grow2; rw [T2.ba] at GG; obtain ⟨csa, hka⟩ := typed T2.oa T2.ba; have O3 := O2.other hka (by decide) (T2.za.plain T2.ba) DD.out.1.symm DD.out.2.1.symm GG; have kq := (GG.block gp (in_heap kp2) (by simpa using gpn.symm)).trans kp2; have zq := cell_at kq; have cq0 : w2.cell? ⟨gp, 0, none⟩ = some (.bool bq1) := zq 0 _ rfl; have cq1 : w2.cell? ⟨gp, 1, none⟩ = some (.slice o1 l1 c1) := zq 1 _ rfl; have cq2 : w2.cell? ⟨gp, 2, none⟩ = some (.slice r1 m1 z1) := zq 2 _ rfl; have cq3 : w2.cell? ⟨gp, 3, none⟩ = some (.bool bq2) := zq 3 _ rfl; have cq4 : w2.cell? ⟨gp, 4, none⟩ = some (.slice o2 l2 c2) := zq 4 _ rfl; have cq5 : w2.cell? ⟨gp, 5, none⟩ = some (.slice r2 m2 z2) := zq 5 _ rfl; have y3 := IsQ.grown y1 hka (by decide) GG; have y4 := IsQ.grown y2 hka (by decide) GG; have HB2 := (ST.out.2.2.1.alloc hbs (.cells #[.bool b1, .int .u64 A1, .int .u64 L1, .pointer p1, .bool b2, .int .u64 A2, .int .u64 L2, .pointer p2] 49)).grown grow2 (Nat.le_trans hbs al8.size) (fun j hj => (T2.oa.lt j hj).1); have al6 := (Below.refl w2.heap.size w2).alloc (Nat.le_refl _) (.cells #[.bool bq1, .slice o1 l1 c1, .slice r1 m1 z1, .bool bq2, .slice o2 l2 c2, .slice r2 m2 z2] 51); have T4 := T3.below al6; have O4 := O3.below al6; have y5 := y3.below al6; have y6 := y4.below al6; have hb2s : base ≤ w2.heap.size := Nat.le_trans hbs (Nat.le_trans al8.size GG.size); have gs := GG.size; clear zq kq own2 grow2 blk2 loc2 y3 y4 T3 O3)
        | (at_builtin; refine wpList_append_z _ rfl _ _ 71 rfl base 51 i1 (.agg #[.bool false, .slice none 0 0, .slice none 0 0, .bool false, .slice none 0 0, .slice none 0 0]) 6 112 Try.underlying71 hj hy0 hy1 hy2 rfl (by decide) vc k ys rfl T4.oc ⟨w2.heap.size, 0, none⟩ 1 [.bool bq1, .slice o1 l1 c1, .slice r1 m1 z1, .bool bq2, .slice o2 l2 c2, .slice r2 m2 z2] rfl rfl (news_at w2 _ _ _ rfl) (by simp [Value.oneCell']) (by unfold maxLen; omega) (by omega) (Nat.le_trans hb2s al6.size) pz6 pn6 T4.zc ?_; intro vc' w3 own3 grow3 blk3 loc3; obtain ⟨gc', hgc', T5⟩ := T4.pushC y5 y6 own3 grow3 blk3 loc3; have G3 := grow3; rw [T4.bc] at G3; obtain ⟨csc, hkc⟩ := typed T4.oc T4.bc; have O5 := O4.other hkc (by decide) (T4.zc.plain T4.bc) DD.out.2.2.1.symm DD.out.2.2.2.symm G3; have HB3 := (HB2.alloc hb2s (.cells #[.bool bq1, .slice o1 l1 c1, .slice r1 m1 z1, .bool bq2, .slice o2 l2 c2, .slice r2 m2 z2] 51)).grown grow3 (Nat.le_trans hb2s al6.size) (fun j hj => (T4.oc.lt j hj).1); have DN : Hid (ga' ≠ gb ∧ ga' ≠ gd ∧ gc' ≠ gb ∧ gc' ≠ gd) := dist4 hga' hgc' DD.out O2.lta O4.lta; have H5 : Hid (Two w3 base (k + 1) (k + 1) E' va' vc' ga' gc' _ _) := T5; have HO5 : Hid (Two w3 base 0 0 F0 vb vd gb gd [] []) := O5; have HB5 : Hid (Below base w w3) := HB3; clear own3 grow3 blk3 loc3 T5 O5 HB3))
      go_roundw
      case rel => exact ⟨k + 1, E', va', vc', ga', gc', _, _, rfl, rfl, by omega, by go_num, H5, HO5, DN, HB5⟩
      case measure => simp [intOf]; omega
    · obtain rfl : n1 = k := by omega
      have q9 : True := trivial
      have TA : Hid (Two wr base n1 n1 E va vc ga gc xs ys) := HT
      have TB : Hid (Two wr base 0 0 F0 vb vd gb gd [] []) := HO
      clear HT HO
      go_wp2
      go_loopw [9, 11, 15] (fun sa sc iv wr => ∃ (k_ : Nat) (E_ : Nat → Nm × Nm) (va_ vc_ : Value) (ga_ gc_ : Nat) (xs_ ys_ : List Value), va_ = sa ∧ vc_ = sc ∧ k_ ≤ 12 ∧ iv = .int .i64 (k_ : Int) ∧ Hid (Two wr base k_ k_ E_ va_ vc_ ga_ gc_ xs_ ys_) ∧ Hid (Two wr base n1 n1 E va vc ga gc xs ys) ∧ Hid (ga_ ≠ ga ∧ ga_ ≠ gc ∧ gc_ ≠ ga ∧ gc_ ≠ gc) ∧ Hid (Below base w wr)) (fun _ _ iv _ => 12 - (intOf iv).toNat)
      case atStart => exact ⟨0, F0, _, _, _, _, [], [], rfl, rfl, Nat.zero_le _, rfl, TB.out, TA.out, ⟨DD.out.1.symm, DD.out.2.2.1.symm, DD.out.2.1.symm, DD.out.2.2.2.symm⟩, HB.out⟩
      case round =>
        clear TA TB DD HB
        obtain ⟨k_, E_, va_, vc_, ga_, gc_, xs_, ys_, rfl, rfl, hk, rfl, HT, HO, DD, HB⟩ := hrel
        by_cases hlt : k_ < 12
        · obtain ⟨g, off, rfl, hg, hrow⟩ := HI2.out (by omega)
          obtain ⟨u0, u1, u2, u3, u4, u5, a0, a1, a2, a3, a4, a5, cB⟩ := hrow k_ (by omega)
          have cw : ∀ i, wr.cell? ⟨g, i, none⟩ = w.cell? ⟨g, i, none⟩ := fun i => HB.out.cell (p := ⟨g, i, none⟩) (show g < base by have := HBS.out; omega)
          have e0 := (cw _).trans a0
          have e1 := (cw _).trans a1
          have e2 := (cw _).trans a2
          have e3 := (cw _).trans a3
          have e4 := (cw _).trans a4
          have e5 := (cw _).trans a5
          have cB2 := cB wr (by rw [HBS.out]; exact HB.out)
          have q1 : (k_ : Int) < (n2 : Int) := by omega
          have q2 : (k_ : Int) < 12 := by omega
          clear cw a0 a1 a2 a3 a4 a5 cB hrow hg
          go_upto_region 13 with (go_at_call 17; refine cB2.mono ?_; rintro e w1 ⟨v, y, pp, qq, rfl, ⟨b1, A1, L1, p1, b2, A2, L2, p2, rfl, i1, i2⟩, ⟨bq1, o1, l1, c1, r1, m1, z1, bq2, o2, l2, c2, r2, m2, z2, rfl, j1, j2⟩, F1, F2, hb1⟩)
          obtain ⟨W1, eW1, B1, kx, kp⟩ := two_new w1 (.cells #[.bool b1, .int .u64 A1, .int .u64 L1, .pointer p1, .bool b2, .int .u64 A2, .int .u64 L2, .pointer p2] 49) (.cells #[.bool bq1, .slice o1 l1 c1, .slice r1 m1 z1, .bool bq2, .slice o2 l2 c2, .slice r2 m2 z2] 51)
          rw [eW1]
          have BB := bt hb1 B1
          have hbsr : base ≤ wr.heap.size := Nat.le_trans HT.out.lta.1.1 (Nat.le_of_lt HT.out.lta.1.2)
          have HB1 := HB.out.trans (BB.mono hbsr)
          have EK : ∃ F : Nat → Nm × Nm, F k_ = (pp, qq) ∧ ∀ j, j < k_ → F j = E_ j := ⟨fun j => if j = k_ then (pp, qq) else E_ j, if_pos rfl, fun j hj => if_neg (by omega)⟩
          obtain ⟨E_', hE', hEj⟩ := EK
          have T1 := (HT.out.below BB).congr hEj
          have O1 := HO.out.below BB
          have al8 := (Below.refl W1.heap.size W1).alloc (Nat.le_refl _) (.cells #[.bool b1, .int .u64 A1, .int .u64 L1, .pointer p1, .bool b2, .int .u64 A2, .int .u64 L2, .pointer p2] 49)
          have T2 := T1.below al8
          have O2 := O1.below al8
          have x1 : IsR (W1.alloc (.cells #[.bool b1, .int .u64 A1, .int .u64 L1, .pointer p1, .bool b2, .int .u64 A2, .int .u64 L2, .pointer p2] 49)) (.agg #[.bool b1, .int .u64 A1, .int .u64 L1, .pointer p1]) (E_' k_).1 := by rw [hE']; exact (i1.below B1).below al8
          have x2 : IsR (W1.alloc (.cells #[.bool b1, .int .u64 A1, .int .u64 L1, .pointer p1, .bool b2, .int .u64 A2, .int .u64 L2, .pointer p2] 49)) (.agg #[.bool b2, .int .u64 A2, .int .u64 L2, .pointer p2]) (E_' k_).2 := by rw [hE']; exact (i2.below B1).below al8
          have y1 : IsQ (W1.alloc (.cells #[.bool b1, .int .u64 A1, .int .u64 L1, .pointer p1, .bool b2, .int .u64 A2, .int .u64 L2, .pointer p2] 49)) (.agg #[.bool bq1, .slice o1 l1 c1, .slice r1 m1 z1]) (E_' k_).1 := by rw [hE']; exact (j1.below B1).below al8
          have y2 : IsQ (W1.alloc (.cells #[.bool b1, .int .u64 A1, .int .u64 L1, .pointer p1, .bool b2, .int .u64 A2, .int .u64 L2, .pointer p2] 49)) (.agg #[.bool bq2, .slice o2 l2 c2, .slice r2 m2 z2]) (E_' k_).2 := by rw [hE']; exact (j2.below B1).below al8
          have FF : Fits (E_' k_).1 256 ∧ Fits (E_' k_).2 256 := by rw [hE']; exact ⟨F1, F2⟩
          have zx := cell_at kx
          have cx0 : W1.cell? ⟨w1.heap.size, 0, none⟩ = some (.bool b1) := zx 0 _ rfl
          have cx1 : W1.cell? ⟨w1.heap.size, 1, none⟩ = some (.int .u64 A1) := zx 1 _ rfl
          have cx2 : W1.cell? ⟨w1.heap.size, 2, none⟩ = some (.int .u64 L1) := zx 2 _ rfl
          have cx3 : W1.cell? ⟨w1.heap.size, 3, none⟩ = some (.pointer p1) := zx 3 _ rfl
          have cx4 : W1.cell? ⟨w1.heap.size, 4, none⟩ = some (.bool b2) := zx 4 _ rfl
          have cx5 : W1.cell? ⟨w1.heap.size, 5, none⟩ = some (.int .u64 A2) := zx 5 _ rfl
          have cx6 : W1.cell? ⟨w1.heap.size, 6, none⟩ = some (.int .u64 L2) := zx 6 _ rfl
          have cx7 : W1.cell? ⟨w1.heap.size, 7, none⟩ = some (.pointer p2) := zx 7 _ rfl
          have kp2 := box_kept kp al8 (in_heap kp)
          have gpn : ga_ ≠ w1.heap.size + 1 := by have := HT.out.lta.1.2; have := hb1.size; omega
          have hbs : base ≤ W1.heap.size := Nat.le_trans HT.out.lta.1.1 (Nat.le_trans (Nat.le_of_lt HT.out.lta.1.2) BB.size)
          obtain ⟨gp, egp⟩ : ∃ x, w1.heap.size + 1 = x := ⟨_, rfl⟩
          obtain ⟨gx, egx⟩ : ∃ x, w1.heap.size = x := ⟨_, rfl⟩
          rw [egp] at kp2 gpn
          rw [egx] at cx0 cx1 cx2 cx3 cx4 cx5 cx6 cx7
          simp only [egp]
          simp only [egx]
          clear eW1 B1 kx kp BB hb1 T1 O1 i1 i2 j1 j2 F1 F2 zx egp egx HT HO HB cB2 e0 e1 e2 e3 e4 e5
          have ST : Hid (_ ∧ _ ∧ _ ∧ _) := ⟨T2, O2, HB1, FF⟩
          clear HB1
          go_wp2_with (first
            | (at_builtin; refine wpList_append_z _ rfl _ _ 70 rfl base 49 i0 (.agg #[.bool false, .int .u64 0, .int .u64 0, .pointer none, .bool false, .int .u64 0, .int .u64 0, .pointer none]) 8 64 Try.underlying70 hi hz0 hz1 hz2 rfl (by decide) va_ k_ xs_ rfl T2.oa ⟨W1.heap.size, 0, none⟩ 1 [.bool b1, .int .u64 A1, .int .u64 L1, .pointer p1, .bool b2, .int .u64 A2, .int .u64 L2, .pointer p2] rfl rfl (news_at W1 _ _ _ rfl) (by simp [Value.oneCell']) (by unfold maxLen; omega) (by omega) (Nat.le_trans hbs al8.size) pz8 pn8 T2.za ?_; intro va_' w2 own2 grow2 blk2 loc2; obtain ⟨ga_', hga', T3⟩ := T2.pushA x1 x2 FF own2 grow2 blk2 loc2; have GG := grow2; rw [T2.ba] at GG; obtain ⟨csa, hka⟩ := typed T2.oa T2.ba; have O3 := O2.other hka (by decide) (T2.za.plain T2.ba) DD.out.1.symm DD.out.2.1.symm GG; have kq := (GG.block gp (in_heap kp2) (by simpa using gpn.symm)).trans kp2; have zq := cell_at kq; have cq0 : w2.cell? ⟨gp, 0, none⟩ = some (.bool bq1) := zq 0 _ rfl; have cq1 : w2.cell? ⟨gp, 1, none⟩ = some (.slice o1 l1 c1) := zq 1 _ rfl; have cq2 : w2.cell? ⟨gp, 2, none⟩ = some (.slice r1 m1 z1) := zq 2 _ rfl; have cq3 : w2.cell? ⟨gp, 3, none⟩ = some (.bool bq2) := zq 3 _ rfl; have cq4 : w2.cell? ⟨gp, 4, none⟩ = some (.slice o2 l2 c2) := zq 4 _ rfl; have cq5 : w2.cell? ⟨gp, 5, none⟩ = some (.slice r2 m2 z2) := zq 5 _ rfl; have y3 := IsQ.grown y1 hka (by decide) GG; have y4 := IsQ.grown y2 hka (by decide) GG; have HB2 := (ST.out.2.2.1.alloc hbs (.cells #[.bool b1, .int .u64 A1, .int .u64 L1, .pointer p1, .bool b2, .int .u64 A2, .int .u64 L2, .pointer p2] 49)).grown grow2 (Nat.le_trans hbs al8.size) (fun j hj => (T2.oa.lt j hj).1); have al6 := (Below.refl w2.heap.size w2).alloc (Nat.le_refl _) (.cells #[.bool bq1, .slice o1 l1 c1, .slice r1 m1 z1, .bool bq2, .slice o2 l2 c2, .slice r2 m2 z2] 51); have T4 := T3.below al6; have O4 := O3.below al6; have y5 := y3.below al6; have y6 := y4.below al6; have hb2s : base ≤ w2.heap.size := Nat.le_trans hbs (Nat.le_trans al8.size GG.size); have gs := GG.size; clear zq kq own2 grow2 blk2 loc2 y3 y4 T3 O3)
            | (at_builtin; refine wpList_append_z _ rfl _ _ 71 rfl base 51 i1 (.agg #[.bool false, .slice none 0 0, .slice none 0 0, .bool false, .slice none 0 0, .slice none 0 0]) 6 112 Try.underlying71 hj hy0 hy1 hy2 rfl (by decide) vc_ k_ ys_ rfl T4.oc ⟨w2.heap.size, 0, none⟩ 1 [.bool bq1, .slice o1 l1 c1, .slice r1 m1 z1, .bool bq2, .slice o2 l2 c2, .slice r2 m2 z2] rfl rfl (news_at w2 _ _ _ rfl) (by simp [Value.oneCell']) (by unfold maxLen; omega) (by omega) (Nat.le_trans hb2s al6.size) pz6 pn6 T4.zc ?_; intro vc_' w3 own3 grow3 blk3 loc3; obtain ⟨gc_', hgc', T5⟩ := T4.pushC y5 y6 own3 grow3 blk3 loc3; have G3 := grow3; rw [T4.bc] at G3; obtain ⟨csc, hkc⟩ := typed T4.oc T4.bc; have O5 := O4.other hkc (by decide) (T4.zc.plain T4.bc) DD.out.2.2.1.symm DD.out.2.2.2.symm G3; have HB3 := (HB2.alloc hb2s (.cells #[.bool bq1, .slice o1 l1 c1, .slice r1 m1 z1, .bool bq2, .slice o2 l2 c2, .slice r2 m2 z2] 51)).grown grow3 (Nat.le_trans hb2s al6.size) (fun j hj => (T4.oc.lt j hj).1); have DN : Hid (ga_' ≠ ga ∧ ga_' ≠ gc ∧ gc_' ≠ ga ∧ gc_' ≠ gc) := dist4 hga' hgc' DD.out O2.lta O4.lta; have H5 : Hid (Two w3 base (k_ + 1) (k_ + 1) E_' va_' vc_' ga_' gc_' _ _) := T5; have HO5 : Hid (Two w3 base n1 n1 E va vc ga gc xs ys) := O5; have HB5 : Hid (Below base w w3) := HB3; clear own3 grow3 blk3 loc3 T5 O5 HB3))
          go_roundw
          case rel => exact ⟨k_ + 1, E_', va_', vc_', ga_', gc_', _, _, rfl, rfl, by omega, by go_num, H5, HO5, DN, HB5⟩
          case measure => simp [intOf]; omega
        · obtain rfl : 12 = k_ := by omega
          have q8 : ((12 : Nat) : Int) < (n2 : Int) := by omega
          go_wp2
          refine bodyPost_ret (v := .tuple #[va, va_, vc, vc_]) (by simp [results, go_sem]) rfl ?_
          exact ⟨E, E_, va, va_, vc, vc_, rfl, HO.out.rd.1, HT.out.rd.1, HO.out.rd.2, HT.out.rd.2, by have := HB.out; rw [← HBS.out] at this; exact this⟩
set_option maxRecDepth 20000 in
set_option maxHeartbeats 8000000 in
theorem lists_01 (o1 o2 : Option Addr) (n1 c1 n2 c2 : Nat) (w : World) (hl1 : 12 < n1) (hl2 : n2 ≤ 12) (h1 : 0 < n1 → ∃ g off, o1 = some ⟨g, off, none⟩ ∧ g < w.heap.size ∧ ∀ k, k < n1 → ∃ u0 u1 u2 u3 u4 u5 : Value, w.cell? ⟨g, off + k * 6, none⟩ = some u0 ∧ w.cell? ⟨g, off + k * 6 + 1, none⟩ = some u1 ∧ w.cell? ⟨g, off + k * 6 + 2, none⟩ = some u2 ∧ w.cell? ⟨g, off + k * 6 + 3, none⟩ = some u3 ∧ w.cell? ⟨g, off + k * 6 + 4, none⟩ = some u4 ∧ w.cell? ⟨g, off + k * 6 + 5, none⟩ = some u5 ∧ ∀ W, Below w.heap.size w W → Calls Try.prog 17 #[.agg #[u0, u1, u2, u3, u4, u5]] W fun e w' => ∃ v q p1 p2, e = .returned (.tuple #[v, q]) ∧ IsD w' v p1 p2 ∧ IsE w' q p1 p2 ∧ Fits p1 256 ∧ Fits p2 256 ∧ Below W.heap.size W w') (h2 : 0 < n2 → ∃ g off, o2 = some ⟨g, off, none⟩ ∧ g < w.heap.size ∧ ∀ k, k < n2 → ∃ u0 u1 u2 u3 u4 u5 : Value, w.cell? ⟨g, off + k * 6, none⟩ = some u0 ∧ w.cell? ⟨g, off + k * 6 + 1, none⟩ = some u1 ∧ w.cell? ⟨g, off + k * 6 + 2, none⟩ = some u2 ∧ w.cell? ⟨g, off + k * 6 + 3, none⟩ = some u3 ∧ w.cell? ⟨g, off + k * 6 + 4, none⟩ = some u4 ∧ w.cell? ⟨g, off + k * 6 + 5, none⟩ = some u5 ∧ ∀ W, Below w.heap.size w W → Calls Try.prog 17 #[.agg #[u0, u1, u2, u3, u4, u5]] W fun e w' => ∃ v q p1 p2, e = .returned (.tuple #[v, q]) ∧ IsD w' v p1 p2 ∧ IsE w' q p1 p2 ∧ Fits p1 256 ∧ Fits p2 256 ∧ Below W.heap.size W w') :
    Calls Try.prog 34 #[.slice o1 n1 c1, .slice o2 n2 c2] w fun e w' => ∃ E F va vb vc vd, e = .returned (.tuple #[va, vb, vc, vd]) ∧ RD w' va 12 E ∧ RD w' vb n2 F ∧ RE w' vc 12 E ∧ RE w' vd n2 F ∧ Below w.heap.size w w' := by
  obtain ⟨i0, hi, hz0, hz1, hz2⟩ := info_parts infoD
  obtain ⟨i1, hj, hy0, hy1, hy2⟩ := info_parts infoE
  have HI1 : Hid (0 < n1 → ∃ g off, o1 = some ⟨g, off, none⟩ ∧ g < w.heap.size ∧ ∀ k, k < n1 → ∃ u0 u1 u2 u3 u4 u5 : Value, w.cell? ⟨g, off + k * 6, none⟩ = some u0 ∧ w.cell? ⟨g, off + k * 6 + 1, none⟩ = some u1 ∧ w.cell? ⟨g, off + k * 6 + 2, none⟩ = some u2 ∧ w.cell? ⟨g, off + k * 6 + 3, none⟩ = some u3 ∧ w.cell? ⟨g, off + k * 6 + 4, none⟩ = some u4 ∧ w.cell? ⟨g, off + k * 6 + 5, none⟩ = some u5 ∧ ∀ W, Below w.heap.size w W → Calls Try.prog 17 #[.agg #[u0, u1, u2, u3, u4, u5]] W fun e w' => ∃ v q p1 p2, e = .returned (.tuple #[v, q]) ∧ IsD w' v p1 p2 ∧ IsE w' q p1 p2 ∧ Fits p1 256 ∧ Fits p2 256 ∧ Below W.heap.size W w') := h1
  have HI2 : Hid (0 < n2 → ∃ g off, o2 = some ⟨g, off, none⟩ ∧ g < w.heap.size ∧ ∀ k, k < n2 → ∃ u0 u1 u2 u3 u4 u5 : Value, w.cell? ⟨g, off + k * 6, none⟩ = some u0 ∧ w.cell? ⟨g, off + k * 6 + 1, none⟩ = some u1 ∧ w.cell? ⟨g, off + k * 6 + 2, none⟩ = some u2 ∧ w.cell? ⟨g, off + k * 6 + 3, none⟩ = some u3 ∧ w.cell? ⟨g, off + k * 6 + 4, none⟩ = some u4 ∧ w.cell? ⟨g, off + k * 6 + 5, none⟩ = some u5 ∧ ∀ W, Below w.heap.size w W → Calls Try.prog 17 #[.agg #[u0, u1, u2, u3, u4, u5]] W fun e w' => ∃ v q p1 p2, e = .returned (.tuple #[v, q]) ∧ IsD w' v p1 p2 ∧ IsE w' q p1 p2 ∧ Fits p1 256 ∧ Fits p2 256 ∧ Below W.heap.size W w') := h2
  obtain ⟨F0, eF0⟩ : ∃ F : Nat → Nm × Nm, F = fun _ => (intM 0, intM 0) := ⟨_, rfl⟩
  obtain ⟨W0, eW0, TA0, TB0, HB0⟩ := start4 w F0
  obtain ⟨base, ebase⟩ : ∃ b, w.heap.size = b := ⟨_, rfl⟩
  have EW : Hid (_ = W0) := eW0
  have HBS : Hid (w.heap.size = base) := ebase
  rw [ebase] at TA0 TB0 HB0
  have TA : Hid _ := TA0
  have TB : Hid _ := TB0
  have HB : Hid (Below base w W0) := HB0
  have DD : Hid (base ≠ base + 1 ∧ base ≠ base + 1 + 1 + 1 ∧ base + 1 + 1 ≠ base + 1 ∧ base + 1 + 1 ≠ base + 1 + 1 + 1) := ⟨by omega, by omega, by omega, by omega⟩
  clear h1 h2 eF0 eW0 TA0 TB0 HB0 ebase
  go_enter Try.func34, Try.ntmps34
  go_wp2
  rw [EW.out, HBS.out]
  obtain ⟨gd, egd⟩ : ∃ x, base + 1 + 1 + 1 = x := ⟨_, rfl⟩
  obtain ⟨g2, eg2⟩ : ∃ x, base + 1 + 1 = x := ⟨_, rfl⟩
  obtain ⟨gb, egb⟩ : ∃ x, base + 1 = x := ⟨_, rfl⟩
  rw [egd, egb] at TB
  rw [eg2] at TA
  simp only [egd] at DD
  simp only [eg2] at DD
  simp only [egb] at DD
  simp only [egd]
  simp only [eg2]
  simp only [egb]
  obtain ⟨vb, evb⟩ : ∃ x, Value.slice (some ⟨gb, 0, none⟩) 0 0 = x := ⟨_, rfl⟩
  obtain ⟨vd, evd⟩ : ∃ x, Value.slice (some ⟨gd, 0, none⟩) 0 0 = x := ⟨_, rfl⟩
  rw [evb, evd] at TB
  simp only [evb, evd]
  clear EW evb evd egd eg2 egb
  go_loopw [8, 10, 12] (fun sa sc iv wr => ∃ (k : Nat) (E : Nat → Nm × Nm) (va vc : Value) (ga gc : Nat) (xs ys : List Value), va = sa ∧ vc = sc ∧ k ≤ 12 ∧ iv = .int .i64 (k : Int) ∧ Hid (Two wr base k k E va vc ga gc xs ys) ∧ Hid (Two wr base 0 0 F0 vb vd gb gd [] []) ∧ Hid (ga ≠ gb ∧ ga ≠ gd ∧ gc ≠ gb ∧ gc ≠ gd) ∧ Hid (Below base w wr)) (fun _ _ iv _ => 12 - (intOf iv).toNat)
  case atStart => exact ⟨0, F0, _, _, _, _, [], [], rfl, rfl, Nat.zero_le _, rfl, TA.out, TB.out, DD.out, HB.out⟩
  case round =>
    clear TA TB DD HB
    obtain ⟨k, E, va, vc, ga, gc, xs, ys, rfl, rfl, hk, rfl, HT, HO, DD, HB⟩ := hrel
    by_cases hlt : k < 12
    · obtain ⟨g, off, rfl, hg, hrow⟩ := HI1.out (by omega)
      obtain ⟨u0, u1, u2, u3, u4, u5, a0, a1, a2, a3, a4, a5, cB⟩ := hrow k (by omega)
      have cw : ∀ i, wr.cell? ⟨g, i, none⟩ = w.cell? ⟨g, i, none⟩ := fun i => HB.out.cell (p := ⟨g, i, none⟩) (show g < base by have := HBS.out; omega)
      have e0 := (cw _).trans a0
      have e1 := (cw _).trans a1
      have e2 := (cw _).trans a2
      have e3 := (cw _).trans a3
      have e4 := (cw _).trans a4
      have e5 := (cw _).trans a5
      have cB2 := cB wr (by rw [HBS.out]; exact HB.out)
      have q1 : (k : Int) < (n1 : Int) := by omega
      have q2 : (k : Int) < 12 := by omega
      clear cw a0 a1 a2 a3 a4 a5 cB hrow hg
      go_upto_region 7 with (go_at_call 17; refine cB2.mono ?_; rintro e w1 ⟨v, y, pp, qq, rfl, ⟨b1, A1, L1, p1, b2, A2, L2, p2, rfl, i1, i2⟩, ⟨bq1, o1, l1, c1, r1, m1, z1, bq2, o2, l2, c2, r2, m2, z2, rfl, j1, j2⟩, F1, F2, hb1⟩)
      obtain ⟨W1, eW1, B1, kx, kp⟩ := two_new w1 (.cells #[.bool b1, .int .u64 A1, .int .u64 L1, .pointer p1, .bool b2, .int .u64 A2, .int .u64 L2, .pointer p2] 49) (.cells #[.bool bq1, .slice o1 l1 c1, .slice r1 m1 z1, .bool bq2, .slice o2 l2 c2, .slice r2 m2 z2] 51)
      rw [eW1]
      have BB := bt hb1 B1
      have hbsr : base ≤ wr.heap.size := Nat.le_trans HT.out.lta.1.1 (Nat.le_of_lt HT.out.lta.1.2)
      have HB1 := HB.out.trans (BB.mono hbsr)
      have EK : ∃ F : Nat → Nm × Nm, F k = (pp, qq) ∧ ∀ j, j < k → F j = E j := ⟨fun j => if j = k then (pp, qq) else E j, if_pos rfl, fun j hj => if_neg (by omega)⟩
      obtain ⟨E', hE', hEj⟩ := EK
      have T1 := (HT.out.below BB).congr hEj
      have O1 := HO.out.below BB
      have al8 := (Below.refl W1.heap.size W1).alloc (Nat.le_refl _) (.cells #[.bool b1, .int .u64 A1, .int .u64 L1, .pointer p1, .bool b2, .int .u64 A2, .int .u64 L2, .pointer p2] 49)
      have T2 := T1.below al8
      have O2 := O1.below al8
      have x1 : IsR (W1.alloc (.cells #[.bool b1, .int .u64 A1, .int .u64 L1, .pointer p1, .bool b2, .int .u64 A2, .int .u64 L2, .pointer p2] 49)) (.agg #[.bool b1, .int .u64 A1, .int .u64 L1, .pointer p1]) (E' k).1 := by rw [hE']; exact (i1.below B1).below al8
      have x2 : IsR (W1.alloc (.cells #[.bool b1, .int .u64 A1, .int .u64 L1, .pointer p1, .bool b2, .int .u64 A2, .int .u64 L2, .pointer p2] 49)) (.agg #[.bool b2, .int .u64 A2, .int .u64 L2, .pointer p2]) (E' k).2 := by rw [hE']; exact (i2.below B1).below al8
      have y1 : IsQ (W1.alloc (.cells #[.bool b1, .int .u64 A1, .int .u64 L1, .pointer p1, .bool b2, .int .u64 A2, .int .u64 L2, .pointer p2] 49)) (.agg #[.bool bq1, .slice o1 l1 c1, .slice r1 m1 z1]) (E' k).1 := by rw [hE']; exact (j1.below B1).below al8
      have y2 : IsQ (W1.alloc (.cells #[.bool b1, .int .u64 A1, .int .u64 L1, .pointer p1, .bool b2, .int .u64 A2, .int .u64 L2, .pointer p2] 49)) (.agg #[.bool bq2, .slice o2 l2 c2, .slice r2 m2 z2]) (E' k).2 := by rw [hE']; exact (j2.below B1).below al8
      have FF : Fits (E' k).1 256 ∧ Fits (E' k).2 256 := by rw [hE']; exact ⟨F1, F2⟩
      have zx := cell_at kx
      have cx0 : W1.cell? ⟨w1.heap.size, 0, none⟩ = some (.bool b1) := zx 0 _ rfl
      have cx1 : W1.cell? ⟨w1.heap.size, 1, none⟩ = some (.int .u64 A1) := zx 1 _ rfl
      have cx2 : W1.cell? ⟨w1.heap.size, 2, none⟩ = some (.int .u64 L1) := zx 2 _ rfl
      have cx3 : W1.cell? ⟨w1.heap.size, 3, none⟩ = some (.pointer p1) := zx 3 _ rfl
      have cx4 : W1.cell? ⟨w1.heap.size, 4, none⟩ = some (.bool b2) := zx 4 _ rfl
      have cx5 : W1.cell? ⟨w1.heap.size, 5, none⟩ = some (.int .u64 A2) := zx 5 _ rfl
      have cx6 : W1.cell? ⟨w1.heap.size, 6, none⟩ = some (.int .u64 L2) := zx 6 _ rfl
      have cx7 : W1.cell? ⟨w1.heap.size, 7, none⟩ = some (.pointer p2) := zx 7 _ rfl
      have kp2 := box_kept kp al8 (in_heap kp)
      have gpn : ga ≠ w1.heap.size + 1 := by have := HT.out.lta.1.2; have := hb1.size; omega
      have hbs : base ≤ W1.heap.size := Nat.le_trans HT.out.lta.1.1 (Nat.le_trans (Nat.le_of_lt HT.out.lta.1.2) BB.size)
      obtain ⟨gp, egp⟩ : ∃ x, w1.heap.size + 1 = x := ⟨_, rfl⟩
      obtain ⟨gx, egx⟩ : ∃ x, w1.heap.size = x := ⟨_, rfl⟩
      rw [egp] at kp2 gpn
      rw [egx] at cx0 cx1 cx2 cx3 cx4 cx5 cx6 cx7
      simp only [egp]
      simp only [egx]
      clear eW1 B1 kx kp BB hb1 T1 O1 i1 i2 j1 j2 F1 F2 zx egp egx HT HO HB cB2 e0 e1 e2 e3 e4 e5
      have ST : Hid (_ ∧ _ ∧ _ ∧ _) := ⟨T2, O2, HB1, FF⟩
      clear HB1
      go_wp2_with (first
        | (at_builtin; refine wpList_append_z _ rfl _ _ 70 rfl base 49 i0 (.agg #[.bool false, .int .u64 0, .int .u64 0, .pointer none, .bool false, .int .u64 0, .int .u64 0, .pointer none]) 8 64 Try.underlying70 hi hz0 hz1 hz2 rfl (by decide) va k xs rfl T2.oa ⟨W1.heap.size, 0, none⟩ 1 [.bool b1, .int .u64 A1, .int .u64 L1, .pointer p1, .bool b2, .int .u64 A2, .int .u64 L2, .pointer p2] rfl rfl (news_at W1 _ _ _ rfl) (by simp [Value.oneCell']) (by unfold maxLen; omega) (by omega) (Nat.le_trans hbs al8.size) pz8 pn8 T2.za ?_; intro va' w2 own2 grow2 blk2 loc2; obtain ⟨ga', hga', T3⟩ := T2.pushA x1 x2 FF own2 grow2 blk2 loc2; have GG := grow2; rw [T2.ba] at GG; obtain ⟨csa, hka⟩ := typed T2.oa T2.ba; have O3 := O2.other hka (by decide) (T2.za.plain T2.ba) DD.out.1.symm DD.out.2.1.symm GG; have kq := (GG.block gp (in_heap kp2) (by simpa using gpn.symm)).trans kp2; have zq := cell_at kq; have cq0 : w2.cell? ⟨gp, 0, none⟩ = some (.bool bq1) := zq 0 _ rfl; have cq1 : w2.cell? ⟨gp, 1, none⟩ = some (.slice o1 l1 c1) := zq 1 _ rfl; have cq2 : w2.cell? ⟨gp, 2, none⟩ = some (.slice r1 m1 z1) := zq 2 _ rfl; have cq3 : w2.cell? ⟨gp, 3, none⟩ = some (.bool bq2) := zq 3 _ rfl; have cq4 : w2.cell? ⟨gp, 4, none⟩ = some (.slice o2 l2 c2) := zq 4 _ rfl; have cq5 : w2.cell? ⟨gp, 5, none⟩ = some (.slice r2 m2 z2) := zq 5 _ rfl; have y3 := IsQ.grown y1 hka (by decide) GG; have y4 := IsQ.grown y2 hka (by decide) GG; have HB2 := (ST.out.2.2.1.alloc hbs (.cells #[.bool b1, .int .u64 A1, .int .u64 L1, .pointer p1, .bool b2, .int .u64 A2, .int .u64 L2, .pointer p2] 49)).grown grow2 (Nat.le_trans hbs al8.size) (fun j hj => (T2.oa.lt j hj).1); have al6 := (Below.refl w2.heap.size w2).alloc (Nat.le_refl _) (.cells #[.bool bq1, .slice o1 l1 c1, .slice r1 m1 z1, .bool bq2, .slice o2 l2 c2, .slice r2 m2 z2] 51); have T4 := T3.below al6; have O4 := O3.below al6; have y5 := y3.below al6; have y6 := y4.below al6; have hb2s : base ≤ w2.heap.size := Nat.le_trans hbs (Nat.le_trans al8.size GG.size); have gs := GG.size; clear zq kq own2 grow2 blk2 loc2 y3 y4 T3 O3)
        | (at_builtin; refine wpList_append_z _ rfl _ _ 71 rfl base 51 i1 (.agg #[.bool false, .slice none 0 0, .slice none 0 0, .bool false, .slice none 0 0, .slice none 0 0]) 6 112 Try.underlying71 hj hy0 hy1 hy2 rfl (by decide) vc k ys rfl T4.oc ⟨w2.heap.size, 0, none⟩ 1 [.bool bq1, .slice o1 l1 c1, .slice r1 m1 z1, .bool bq2, .slice o2 l2 c2, .slice r2 m2 z2] rfl rfl (news_at w2 _ _ _ rfl) (by simp [Value.oneCell']) (by unfold maxLen; omega) (by omega) (Nat.le_trans hb2s al6.size) pz6 pn6 T4.zc ?_; intro vc' w3 own3 grow3 blk3 loc3; obtain ⟨gc', hgc', T5⟩ := T4.pushC y5 y6 own3 grow3 blk3 loc3; have G3 := grow3; rw [T4.bc] at G3; obtain ⟨csc, hkc⟩ := typed T4.oc T4.bc; have O5 := O4.other hkc (by decide) (T4.zc.plain T4.bc) DD.out.2.2.1.symm DD.out.2.2.2.symm G3; have HB3 := (HB2.alloc hb2s (.cells #[.bool bq1, .slice o1 l1 c1, .slice r1 m1 z1, .bool bq2, .slice o2 l2 c2, .slice r2 m2 z2] 51)).grown grow3 (Nat.le_trans hb2s al6.size) (fun j hj => (T4.oc.lt j hj).1); have DN : Hid (ga' ≠ gb ∧ ga' ≠ gd ∧ gc' ≠ gb ∧ gc' ≠ gd) := dist4 hga' hgc' DD.out O2.lta O4.lta; have H5 : Hid (Two w3 base (k + 1) (k + 1) E' va' vc' ga' gc' _ _) := T5; have HO5 : Hid (Two w3 base 0 0 F0 vb vd gb gd [] []) := O5; have HB5 : Hid (Below base w w3) := HB3; clear own3 grow3 blk3 loc3 T5 O5 HB3))
      go_roundw
      case rel => exact ⟨k + 1, E', va', vc', ga', gc', _, _, rfl, rfl, by omega, by go_num, H5, HO5, DN, HB5⟩
      case measure => simp [intOf]; omega
    · obtain rfl : 12 = k := by omega
      have q9 : ((12 : Nat) : Int) < (n1 : Int) := by omega
      have TA : Hid (Two wr base 12 12 E va vc ga gc xs ys) := HT
      have TB : Hid (Two wr base 0 0 F0 vb vd gb gd [] []) := HO
      clear HT HO
      go_wp2
      go_loopw [9, 11, 15] (fun sa sc iv wr => ∃ (k_ : Nat) (E_ : Nat → Nm × Nm) (va_ vc_ : Value) (ga_ gc_ : Nat) (xs_ ys_ : List Value), va_ = sa ∧ vc_ = sc ∧ k_ ≤ n2 ∧ iv = .int .i64 (k_ : Int) ∧ Hid (Two wr base k_ k_ E_ va_ vc_ ga_ gc_ xs_ ys_) ∧ Hid (Two wr base 12 12 E va vc ga gc xs ys) ∧ Hid (ga_ ≠ ga ∧ ga_ ≠ gc ∧ gc_ ≠ ga ∧ gc_ ≠ gc) ∧ Hid (Below base w wr)) (fun _ _ iv _ => n2 - (intOf iv).toNat)
      case atStart => exact ⟨0, F0, _, _, _, _, [], [], rfl, rfl, Nat.zero_le _, rfl, TB.out, TA.out, ⟨DD.out.1.symm, DD.out.2.2.1.symm, DD.out.2.1.symm, DD.out.2.2.2.symm⟩, HB.out⟩
      case round =>
        clear TA TB DD HB
        obtain ⟨k_, E_, va_, vc_, ga_, gc_, xs_, ys_, rfl, rfl, hk, rfl, HT, HO, DD, HB⟩ := hrel
        by_cases hlt : k_ < n2
        · obtain ⟨g, off, rfl, hg, hrow⟩ := HI2.out (by omega)
          obtain ⟨u0, u1, u2, u3, u4, u5, a0, a1, a2, a3, a4, a5, cB⟩ := hrow k_ (by omega)
          have cw : ∀ i, wr.cell? ⟨g, i, none⟩ = w.cell? ⟨g, i, none⟩ := fun i => HB.out.cell (p := ⟨g, i, none⟩) (show g < base by have := HBS.out; omega)
          have e0 := (cw _).trans a0
          have e1 := (cw _).trans a1
          have e2 := (cw _).trans a2
          have e3 := (cw _).trans a3
          have e4 := (cw _).trans a4
          have e5 := (cw _).trans a5
          have cB2 := cB wr (by rw [HBS.out]; exact HB.out)
          have q1 : (k_ : Int) < (n2 : Int) := by omega
          have q2 : (k_ : Int) < 12 := by omega
          clear cw a0 a1 a2 a3 a4 a5 cB hrow hg
          go_upto_region 13 with (go_at_call 17; refine cB2.mono ?_; rintro e w1 ⟨v, y, pp, qq, rfl, ⟨b1, A1, L1, p1, b2, A2, L2, p2, rfl, i1, i2⟩, ⟨bq1, o1, l1, c1, r1, m1, z1, bq2, o2, l2, c2, r2, m2, z2, rfl, j1, j2⟩, F1, F2, hb1⟩)
          obtain ⟨W1, eW1, B1, kx, kp⟩ := two_new w1 (.cells #[.bool b1, .int .u64 A1, .int .u64 L1, .pointer p1, .bool b2, .int .u64 A2, .int .u64 L2, .pointer p2] 49) (.cells #[.bool bq1, .slice o1 l1 c1, .slice r1 m1 z1, .bool bq2, .slice o2 l2 c2, .slice r2 m2 z2] 51)
          rw [eW1]
          have BB := bt hb1 B1
          have hbsr : base ≤ wr.heap.size := Nat.le_trans HT.out.lta.1.1 (Nat.le_of_lt HT.out.lta.1.2)
          have HB1 := HB.out.trans (BB.mono hbsr)
          have EK : ∃ F : Nat → Nm × Nm, F k_ = (pp, qq) ∧ ∀ j, j < k_ → F j = E_ j := ⟨fun j => if j = k_ then (pp, qq) else E_ j, if_pos rfl, fun j hj => if_neg (by omega)⟩
          obtain ⟨E_', hE', hEj⟩ := EK
          have T1 := (HT.out.below BB).congr hEj
          have O1 := HO.out.below BB
          have al8 := (Below.refl W1.heap.size W1).alloc (Nat.le_refl _) (.cells #[.bool b1, .int .u64 A1, .int .u64 L1, .pointer p1, .bool b2, .int .u64 A2, .int .u64 L2, .pointer p2] 49)
          have T2 := T1.below al8
          have O2 := O1.below al8
          have x1 : IsR (W1.alloc (.cells #[.bool b1, .int .u64 A1, .int .u64 L1, .pointer p1, .bool b2, .int .u64 A2, .int .u64 L2, .pointer p2] 49)) (.agg #[.bool b1, .int .u64 A1, .int .u64 L1, .pointer p1]) (E_' k_).1 := by rw [hE']; exact (i1.below B1).below al8
          have x2 : IsR (W1.alloc (.cells #[.bool b1, .int .u64 A1, .int .u64 L1, .pointer p1, .bool b2, .int .u64 A2, .int .u64 L2, .pointer p2] 49)) (.agg #[.bool b2, .int .u64 A2, .int .u64 L2, .pointer p2]) (E_' k_).2 := by rw [hE']; exact (i2.below B1).below al8
          have y1 : IsQ (W1.alloc (.cells #[.bool b1, .int .u64 A1, .int .u64 L1, .pointer p1, .bool b2, .int .u64 A2, .int .u64 L2, .pointer p2] 49)) (.agg #[.bool bq1, .slice o1 l1 c1, .slice r1 m1 z1]) (E_' k_).1 := by rw [hE']; exact (j1.below B1).below al8
          have y2 : IsQ (W1.alloc (.cells #[.bool b1, .int .u64 A1, .int .u64 L1, .pointer p1, .bool b2, .int .u64 A2, .int .u64 L2, .pointer p2] 49)) (.agg #[.bool bq2, .slice o2 l2 c2, .slice r2 m2 z2]) (E_' k_).2 := by rw [hE']; exact (j2.below B1).below al8
          have FF : Fits (E_' k_).1 256 ∧ Fits (E_' k_).2 256 := by rw [hE']; exact ⟨F1, F2⟩
          have zx := cell_at kx
          have cx0 : W1.cell? ⟨w1.heap.size, 0, none⟩ = some (.bool b1) := zx 0 _ rfl
          have cx1 : W1.cell? ⟨w1.heap.size, 1, none⟩ = some (.int .u64 A1) := zx 1 _ rfl
          have cx2 : W1.cell? ⟨w1.heap.size, 2, none⟩ = some (.int .u64 L1) := zx 2 _ rfl
          have cx3 : W1.cell? ⟨w1.heap.size, 3, none⟩ = some (.pointer p1) := zx 3 _ rfl
          have cx4 : W1.cell? ⟨w1.heap.size, 4, none⟩ = some (.bool b2) := zx 4 _ rfl
          have cx5 : W1.cell? ⟨w1.heap.size, 5, none⟩ = some (.int .u64 A2) := zx 5 _ rfl
          have cx6 : W1.cell? ⟨w1.heap.size, 6, none⟩ = some (.int .u64 L2) := zx 6 _ rfl
          have cx7 : W1.cell? ⟨w1.heap.size, 7, none⟩ = some (.pointer p2) := zx 7 _ rfl
          have kp2 := box_kept kp al8 (in_heap kp)
          have gpn : ga_ ≠ w1.heap.size + 1 := by have := HT.out.lta.1.2; have := hb1.size; omega
          have hbs : base ≤ W1.heap.size := Nat.le_trans HT.out.lta.1.1 (Nat.le_trans (Nat.le_of_lt HT.out.lta.1.2) BB.size)
          obtain ⟨gp, egp⟩ : ∃ x, w1.heap.size + 1 = x := ⟨_, rfl⟩
          obtain ⟨gx, egx⟩ : ∃ x, w1.heap.size = x := ⟨_, rfl⟩
          rw [egp] at kp2 gpn
          rw [egx] at cx0 cx1 cx2 cx3 cx4 cx5 cx6 cx7
          simp only [egp]
          simp only [egx]
          clear eW1 B1 kx kp BB hb1 T1 O1 i1 i2 j1 j2 F1 F2 zx egp egx HT HO HB cB2 e0 e1 e2 e3 e4 e5
          have ST : Hid (_ ∧ _ ∧ _ ∧ _) := ⟨T2, O2, HB1, FF⟩
          clear HB1
          go_wp2_with (first
            | (at_builtin; refine wpList_append_z _ rfl _ _ 70 rfl base 49 i0 (.agg #[.bool false, .int .u64 0, .int .u64 0, .pointer none, .bool false, .int .u64 0, .int .u64 0, .pointer none]) 8 64 Try.underlying70 hi hz0 hz1 hz2 rfl (by decide) va_ k_ xs_ rfl T2.oa ⟨W1.heap.size, 0, none⟩ 1 [.bool b1, .int .u64 A1, .int .u64 L1, .pointer p1, .bool b2, .int .u64 A2, .int .u64 L2, .pointer p2] rfl rfl (news_at W1 _ _ _ rfl) (by simp [Value.oneCell']) (by unfold maxLen; omega) (by omega) (Nat.le_trans hbs al8.size) pz8 pn8 T2.za ?_; intro va_' w2 own2 grow2 blk2 loc2; obtain ⟨ga_', hga', T3⟩ := T2.pushA x1 x2 FF own2 grow2 blk2 loc2; have GG := grow2; rw [T2.ba] at GG; obtain ⟨csa, hka⟩ := typed T2.oa T2.ba; have O3 := O2.other hka (by decide) (T2.za.plain T2.ba) DD.out.1.symm DD.out.2.1.symm GG; have kq := (GG.block gp (in_heap kp2) (by simpa using gpn.symm)).trans kp2; have zq := cell_at kq; have cq0 : w2.cell? ⟨gp, 0, none⟩ = some (.bool bq1) := zq 0 _ rfl; have cq1 : w2.cell? ⟨gp, 1, none⟩ = some (.slice o1 l1 c1) := zq 1 _ rfl; have cq2 : w2.cell? ⟨gp, 2, none⟩ = some (.slice r1 m1 z1) := zq 2 _ rfl; have cq3 : w2.cell? ⟨gp, 3, none⟩ = some (.bool bq2) := zq 3 _ rfl; have cq4 : w2.cell? ⟨gp, 4, none⟩ = some (.slice o2 l2 c2) := zq 4 _ rfl; have cq5 : w2.cell? ⟨gp, 5, none⟩ = some (.slice r2 m2 z2) := zq 5 _ rfl; have y3 := IsQ.grown y1 hka (by decide) GG; have y4 := IsQ.grown y2 hka (by decide) GG; have HB2 := (ST.out.2.2.1.alloc hbs (.cells #[.bool b1, .int .u64 A1, .int .u64 L1, .pointer p1, .bool b2, .int .u64 A2, .int .u64 L2, .pointer p2] 49)).grown grow2 (Nat.le_trans hbs al8.size) (fun j hj => (T2.oa.lt j hj).1); have al6 := (Below.refl w2.heap.size w2).alloc (Nat.le_refl _) (.cells #[.bool bq1, .slice o1 l1 c1, .slice r1 m1 z1, .bool bq2, .slice o2 l2 c2, .slice r2 m2 z2] 51); have T4 := T3.below al6; have O4 := O3.below al6; have y5 := y3.below al6; have y6 := y4.below al6; have hb2s : base ≤ w2.heap.size := Nat.le_trans hbs (Nat.le_trans al8.size GG.size); have gs := GG.size; clear zq kq own2 grow2 blk2 loc2 y3 y4 T3 O3)
            | (at_builtin; refine wpList_append_z _ rfl _ _ 71 rfl base 51 i1 (.agg #[.bool false, .slice none 0 0, .slice none 0 0, .bool false, .slice none 0 0, .slice none 0 0]) 6 112 Try.underlying71 hj hy0 hy1 hy2 rfl (by decide) vc_ k_ ys_ rfl T4.oc ⟨w2.heap.size, 0, none⟩ 1 [.bool bq1, .slice o1 l1 c1, .slice r1 m1 z1, .bool bq2, .slice o2 l2 c2, .slice r2 m2 z2] rfl rfl (news_at w2 _ _ _ rfl) (by simp [Value.oneCell']) (by unfold maxLen; omega) (by omega) (Nat.le_trans hb2s al6.size) pz6 pn6 T4.zc ?_; intro vc_' w3 own3 grow3 blk3 loc3; obtain ⟨gc_', hgc', T5⟩ := T4.pushC y5 y6 own3 grow3 blk3 loc3; have G3 := grow3; rw [T4.bc] at G3; obtain ⟨csc, hkc⟩ := typed T4.oc T4.bc; have O5 := O4.other hkc (by decide) (T4.zc.plain T4.bc) DD.out.2.2.1.symm DD.out.2.2.2.symm G3; have HB3 := (HB2.alloc hb2s (.cells #[.bool bq1, .slice o1 l1 c1, .slice r1 m1 z1, .bool bq2, .slice o2 l2 c2, .slice r2 m2 z2] 51)).grown grow3 (Nat.le_trans hb2s al6.size) (fun j hj => (T4.oc.lt j hj).1); have DN : Hid (ga_' ≠ ga ∧ ga_' ≠ gc ∧ gc_' ≠ ga ∧ gc_' ≠ gc) := dist4 hga' hgc' DD.out O2.lta O4.lta; have H5 : Hid (Two w3 base (k_ + 1) (k_ + 1) E_' va_' vc_' ga_' gc_' _ _) := T5; have HO5 : Hid (Two w3 base 12 12 E va vc ga gc xs ys) := O5; have HB5 : Hid (Below base w w3) := HB3; clear own3 grow3 blk3 loc3 T5 O5 HB3))
          go_roundw
          case rel => exact ⟨k_ + 1, E_', va_', vc_', ga_', gc_', _, _, rfl, rfl, by omega, by go_num, H5, HO5, DN, HB5⟩
          case measure => simp [intOf]; omega
        · obtain rfl : n2 = k_ := by omega
          have q8 : True := trivial
          go_wp2
          refine bodyPost_ret (v := .tuple #[va, va_, vc, vc_]) (by simp [results, go_sem]) rfl ?_
          exact ⟨E, E_, va, va_, vc, vc_, rfl, HO.out.rd.1, HT.out.rd.1, HO.out.rd.2, HT.out.rd.2, by have := HB.out; rw [← HBS.out] at this; exact this⟩
set_option maxRecDepth 20000 in
set_option maxHeartbeats 8000000 in
theorem lists_00 (o1 o2 : Option Addr) (n1 c1 n2 c2 : Nat) (w : World) (hl1 : 12 < n1) (hl2 : 12 < n2) (h1 : 0 < n1 → ∃ g off, o1 = some ⟨g, off, none⟩ ∧ g < w.heap.size ∧ ∀ k, k < n1 → ∃ u0 u1 u2 u3 u4 u5 : Value, w.cell? ⟨g, off + k * 6, none⟩ = some u0 ∧ w.cell? ⟨g, off + k * 6 + 1, none⟩ = some u1 ∧ w.cell? ⟨g, off + k * 6 + 2, none⟩ = some u2 ∧ w.cell? ⟨g, off + k * 6 + 3, none⟩ = some u3 ∧ w.cell? ⟨g, off + k * 6 + 4, none⟩ = some u4 ∧ w.cell? ⟨g, off + k * 6 + 5, none⟩ = some u5 ∧ ∀ W, Below w.heap.size w W → Calls Try.prog 17 #[.agg #[u0, u1, u2, u3, u4, u5]] W fun e w' => ∃ v q p1 p2, e = .returned (.tuple #[v, q]) ∧ IsD w' v p1 p2 ∧ IsE w' q p1 p2 ∧ Fits p1 256 ∧ Fits p2 256 ∧ Below W.heap.size W w') (h2 : 0 < n2 → ∃ g off, o2 = some ⟨g, off, none⟩ ∧ g < w.heap.size ∧ ∀ k, k < n2 → ∃ u0 u1 u2 u3 u4 u5 : Value, w.cell? ⟨g, off + k * 6, none⟩ = some u0 ∧ w.cell? ⟨g, off + k * 6 + 1, none⟩ = some u1 ∧ w.cell? ⟨g, off + k * 6 + 2, none⟩ = some u2 ∧ w.cell? ⟨g, off + k * 6 + 3, none⟩ = some u3 ∧ w.cell? ⟨g, off + k * 6 + 4, none⟩ = some u4 ∧ w.cell? ⟨g, off + k * 6 + 5, none⟩ = some u5 ∧ ∀ W, Below w.heap.size w W → Calls Try.prog 17 #[.agg #[u0, u1, u2, u3, u4, u5]] W fun e w' => ∃ v q p1 p2, e = .returned (.tuple #[v, q]) ∧ IsD w' v p1 p2 ∧ IsE w' q p1 p2 ∧ Fits p1 256 ∧ Fits p2 256 ∧ Below W.heap.size W w') :
    Calls Try.prog 34 #[.slice o1 n1 c1, .slice o2 n2 c2] w fun e w' => ∃ E F va vb vc vd, e = .returned (.tuple #[va, vb, vc, vd]) ∧ RD w' va 12 E ∧ RD w' vb 12 F ∧ RE w' vc 12 E ∧ RE w' vd 12 F ∧ Below w.heap.size w w' := by
  obtain ⟨i0, hi, hz0, hz1, hz2⟩ := info_parts infoD
  obtain ⟨i1, hj, hy0, hy1, hy2⟩ := info_parts infoE
  have HI1 : Hid (0 < n1 → ∃ g off, o1 = some ⟨g, off, none⟩ ∧ g < w.heap.size ∧ ∀ k, k < n1 → ∃ u0 u1 u2 u3 u4 u5 : Value, w.cell? ⟨g, off + k * 6, none⟩ = some u0 ∧ w.cell? ⟨g, off + k * 6 + 1, none⟩ = some u1 ∧ w.cell? ⟨g, off + k * 6 + 2, none⟩ = some u2 ∧ w.cell? ⟨g, off + k * 6 + 3, none⟩ = some u3 ∧ w.cell? ⟨g, off + k * 6 + 4, none⟩ = some u4 ∧ w.cell? ⟨g, off + k * 6 + 5, none⟩ = some u5 ∧ ∀ W, Below w.heap.size w W → Calls Try.prog 17 #[.agg #[u0, u1, u2, u3, u4, u5]] W fun e w' => ∃ v q p1 p2, e = .returned (.tuple #[v, q]) ∧ IsD w' v p1 p2 ∧ IsE w' q p1 p2 ∧ Fits p1 256 ∧ Fits p2 256 ∧ Below W.heap.size W w') := h1
  have HI2 : Hid (0 < n2 → ∃ g off, o2 = some ⟨g, off, none⟩ ∧ g < w.heap.size ∧ ∀ k, k < n2 → ∃ u0 u1 u2 u3 u4 u5 : Value, w.cell? ⟨g, off + k * 6, none⟩ = some u0 ∧ w.cell? ⟨g, off + k * 6 + 1, none⟩ = some u1 ∧ w.cell? ⟨g, off + k * 6 + 2, none⟩ = some u2 ∧ w.cell? ⟨g, off + k * 6 + 3, none⟩ = some u3 ∧ w.cell? ⟨g, off + k * 6 + 4, none⟩ = some u4 ∧ w.cell? ⟨g, off + k * 6 + 5, none⟩ = some u5 ∧ ∀ W, Below w.heap.size w W → Calls Try.prog 17 #[.agg #[u0, u1, u2, u3, u4, u5]] W fun e w' => ∃ v q p1 p2, e = .returned (.tuple #[v, q]) ∧ IsD w' v p1 p2 ∧ IsE w' q p1 p2 ∧ Fits p1 256 ∧ Fits p2 256 ∧ Below W.heap.size W w') := h2
  obtain ⟨F0, eF0⟩ : ∃ F : Nat → Nm × Nm, F = fun _ => (intM 0, intM 0) := ⟨_, rfl⟩
  obtain ⟨W0, eW0, TA0, TB0, HB0⟩ := start4 w F0
  obtain ⟨base, ebase⟩ : ∃ b, w.heap.size = b := ⟨_, rfl⟩
  have EW : Hid (_ = W0) := eW0
  have HBS : Hid (w.heap.size = base) := ebase
  rw [ebase] at TA0 TB0 HB0
  have TA : Hid _ := TA0
  have TB : Hid _ := TB0
  have HB : Hid (Below base w W0) := HB0
  have DD : Hid (base ≠ base + 1 ∧ base ≠ base + 1 + 1 + 1 ∧ base + 1 + 1 ≠ base + 1 ∧ base + 1 + 1 ≠ base + 1 + 1 + 1) := ⟨by omega, by omega, by omega, by omega⟩
  clear h1 h2 eF0 eW0 TA0 TB0 HB0 ebase
  go_enter Try.func34, Try.ntmps34
  go_wp2
  rw [EW.out, HBS.out]
  obtain ⟨gd, egd⟩ : ∃ x, base + 1 + 1 + 1 = x := ⟨_, rfl⟩
  obtain ⟨g2, eg2⟩ : ∃ x, base + 1 + 1 = x := ⟨_, rfl⟩
  obtain ⟨gb, egb⟩ : ∃ x, base + 1 = x := ⟨_, rfl⟩
  rw [egd, egb] at TB
  rw [eg2] at TA
  simp only [egd] at DD
  simp only [eg2] at DD
  simp only [egb] at DD
  simp only [egd]
  simp only [eg2]
  simp only [egb]
  obtain ⟨vb, evb⟩ : ∃ x, Value.slice (some ⟨gb, 0, none⟩) 0 0 = x := ⟨_, rfl⟩
  obtain ⟨vd, evd⟩ : ∃ x, Value.slice (some ⟨gd, 0, none⟩) 0 0 = x := ⟨_, rfl⟩
  rw [evb, evd] at TB
  simp only [evb, evd]
  clear EW evb evd egd eg2 egb
  go_loopw [8, 10, 12] (fun sa sc iv wr => ∃ (k : Nat) (E : Nat → Nm × Nm) (va vc : Value) (ga gc : Nat) (xs ys : List Value), va = sa ∧ vc = sc ∧ k ≤ 12 ∧ iv = .int .i64 (k : Int) ∧ Hid (Two wr base k k E va vc ga gc xs ys) ∧ Hid (Two wr base 0 0 F0 vb vd gb gd [] []) ∧ Hid (ga ≠ gb ∧ ga ≠ gd ∧ gc ≠ gb ∧ gc ≠ gd) ∧ Hid (Below base w wr)) (fun _ _ iv _ => 12 - (intOf iv).toNat)
  case atStart => exact ⟨0, F0, _, _, _, _, [], [], rfl, rfl, Nat.zero_le _, rfl, TA.out, TB.out, DD.out, HB.out⟩
  case round =>
    clear TA TB DD HB
    obtain ⟨k, E, va, vc, ga, gc, xs, ys, rfl, rfl, hk, rfl, HT, HO, DD, HB⟩ := hrel
    by_cases hlt : k < 12
    · obtain ⟨g, off, rfl, hg, hrow⟩ := HI1.out (by omega)
      obtain ⟨u0, u1, u2, u3, u4, u5, a0, a1, a2, a3, a4, a5, cB⟩ := hrow k (by omega)
      have cw : ∀ i, wr.cell? ⟨g, i, none⟩ = w.cell? ⟨g, i, none⟩ := fun i => HB.out.cell (p := ⟨g, i, none⟩) (show g < base by have := HBS.out; omega)
      have e0 := (cw _).trans a0
      have e1 := (cw _).trans a1
      have e2 := (cw _).trans a2
      have e3 := (cw _).trans a3
      have e4 := (cw _).trans a4
      have e5 := (cw _).trans a5
      have cB2 := cB wr (by rw [HBS.out]; exact HB.out)
      have q1 : (k : Int) < (n1 : Int) := by omega
      have q2 : (k : Int) < 12 := by omega
      clear cw a0 a1 a2 a3 a4 a5 cB hrow hg
      go_upto_region 7 with (go_at_call 17; refine cB2.mono ?_; rintro e w1 ⟨v, y, pp, qq, rfl, ⟨b1, A1, L1, p1, b2, A2, L2, p2, rfl, i1, i2⟩, ⟨bq1, o1, l1, c1, r1, m1, z1, bq2, o2, l2, c2, r2, m2, z2, rfl, j1, j2⟩, F1, F2, hb1⟩)
      obtain ⟨W1, eW1, B1, kx, kp⟩ := two_new w1 (.cells #[.bool b1, .int .u64 A1, .int .u64 L1, .pointer p1, .bool b2, .int .u64 A2, .int .u64 L2, .pointer p2] 49) (.cells #[.bool bq1, .slice o1 l1 c1, .slice r1 m1 z1, .bool bq2, .slice o2 l2 c2, .slice r2 m2 z2] 51)
      rw [eW1]
      have BB := bt hb1 B1
      have hbsr : base ≤ wr.heap.size := Nat.le_trans HT.out.lta.1.1 (Nat.le_of_lt HT.out.lta.1.2)
      have HB1 := HB.out.trans (BB.mono hbsr)
      have EK : ∃ F : Nat → Nm × Nm, F k = (pp, qq) ∧ ∀ j, j < k → F j = E j := ⟨fun j => if j = k then (pp, qq) else E j, if_pos rfl, fun j hj => if_neg (by omega)⟩
      obtain ⟨E', hE', hEj⟩ := EK
      have T1 := (HT.out.below BB).congr hEj
      have O1 := HO.out.below BB
      have al8 := (Below.refl W1.heap.size W1).alloc (Nat.le_refl _) (.cells #[.bool b1, .int .u64 A1, .int .u64 L1, .pointer p1, .bool b2, .int .u64 A2, .int .u64 L2, .pointer p2] 49)
      have T2 := T1.below al8
      have O2 := O1.below al8
      have x1 : IsR (W1.alloc (.cells #[.bool b1, .int .u64 A1, .int .u64 L1, .pointer p1, .bool b2, .int .u64 A2, .int .u64 L2, .pointer p2] 49)) (.agg #[.bool b1, .int .u64 A1, .int .u64 L1, .pointer p1]) (E' k).1 := by rw [hE']; exact (i1.below B1).below al8
      have x2 : IsR (W1.alloc (.cells #[.bool b1, .int .u64 A1, .int .u64 L1, .pointer p1, .bool b2, .int .u64 A2, .int .u64 L2, .pointer p2] 49)) (.agg #[.bool b2, .int .u64 A2, .int .u64 L2, .pointer p2]) (E' k).2 := by rw [hE']; exact (i2.below B1).below al8
      have y1 : IsQ (W1.alloc (.cells #[.bool b1, .int .u64 A1, .int .u64 L1, .pointer p1, .bool b2, .int .u64 A2, .int .u64 L2, .pointer p2] 49)) (.agg #[.bool bq1, .slice o1 l1 c1, .slice r1 m1 z1]) (E' k).1 := by rw [hE']; exact (j1.below B1).below al8
      have y2 : IsQ (W1.alloc (.cells #[.bool b1, .int .u64 A1, .int .u64 L1, .pointer p1, .bool b2, .int .u64 A2, .int .u64 L2, .pointer p2] 49)) (.agg #[.bool bq2, .slice o2 l2 c2, .slice r2 m2 z2]) (E' k).2 := by rw [hE']; exact (j2.below B1).below al8
      have FF : Fits (E' k).1 256 ∧ Fits (E' k).2 256 := by rw [hE']; exact ⟨F1, F2⟩
      have zx := cell_at kx
      have cx0 : W1.cell? ⟨w1.heap.size, 0, none⟩ = some (.bool b1) := zx 0 _ rfl
      have cx1 : W1.cell? ⟨w1.heap.size, 1, none⟩ = some (.int .u64 A1) := zx 1 _ rfl
      have cx2 : W1.cell? ⟨w1.heap.size, 2, none⟩ = some (.int .u64 L1) := zx 2 _ rfl
      have cx3 : W1.cell? ⟨w1.heap.size, 3, none⟩ = some (.pointer p1) := zx 3 _ rfl
      have cx4 : W1.cell? ⟨w1.heap.size, 4, none⟩ = some (.bool b2) := zx 4 _ rfl
      have cx5 : W1.cell? ⟨w1.heap.size, 5, none⟩ = some (.int .u64 A2) := zx 5 _ rfl
      have cx6 : W1.cell? ⟨w1.heap.size, 6, none⟩ = some (.int .u64 L2) := zx 6 _ rfl
      have cx7 : W1.cell? ⟨w1.heap.size, 7, none⟩ = some (.pointer p2) := zx 7 _ rfl
      have kp2 := box_kept kp al8 (in_heap kp)
      have gpn : ga ≠ w1.heap.size + 1 := by have := HT.out.lta.1.2; have := hb1.size; omega
      have hbs : base ≤ W1.heap.size := Nat.le_trans HT.out.lta.1.1 (Nat.le_trans (Nat.le_of_lt HT.out.lta.1.2) BB.size)
      obtain ⟨gp, egp⟩ : ∃ x, w1.heap.size + 1 = x := ⟨_, rfl⟩
      obtain ⟨gx, egx⟩ : ∃ x, w1.heap.size = x := ⟨_, rfl⟩
      rw [egp] at kp2 gpn
      rw [egx] at cx0 cx1 cx2 cx3 cx4 cx5 cx6 cx7
      simp only [egp]
      simp only [egx]
      clear eW1 B1 kx kp BB hb1 T1 O1 i1 i2 j1 j2 F1 F2 zx egp egx HT HO HB cB2 e0 e1 e2 e3 e4 e5
      have ST : Hid (_ ∧ _ ∧ _ ∧ _) := ⟨T2, O2, HB1, FF⟩
      clear HB1
      go_wp2_with (first
        | (at_builtin; refine wpList_append_z _ rfl _ _ 70 rfl base 49 i0 (.agg #[.bool false, .int .u64 0, .int .u64 0, .pointer none, .bool false, .int .u64 0, .int .u64 0, .pointer none]) 8 64 Try.underlying70 hi hz0 hz1 hz2 rfl (by decide) va k xs rfl T2.oa ⟨W1.heap.size, 0, none⟩ 1 [.bool b1, .int .u64 A1, .int .u64 L1, .pointer p1, .bool b2, .int .u64 A2, .int .u64 L2, .pointer p2] rfl rfl (news_at W1 _ _ _ rfl) (by simp [Value.oneCell']) (by unfold maxLen; omega) (by omega) (Nat.le_trans hbs al8.size) pz8 pn8 T2.za ?_; intro va' w2 own2 grow2 blk2 loc2; obtain ⟨ga', hga', T3⟩ := T2.pushA x1 x2 FF own2 grow2 blk2 loc2; have GG := grow2; rw [T2.ba] at GG; obtain ⟨csa, hka⟩ := typed T2.oa T2.ba; have O3 := O2.other hka (by decide) (T2.za.plain T2.ba) DD.out.1.symm DD.out.2.1.symm GG; have kq := (GG.block gp (in_heap kp2) (by simpa using gpn.symm)).trans kp2; have zq := cell_at kq; have cq0 : w2.cell? ⟨gp, 0, none⟩ = some (.bool bq1) := zq 0 _ rfl; have cq1 : w2.cell? ⟨gp, 1, none⟩ = some (.slice o1 l1 c1) := zq 1 _ rfl; have cq2 : w2.cell? ⟨gp, 2, none⟩ = some (.slice r1 m1 z1) := zq 2 _ rfl; have cq3 : w2.cell? ⟨gp, 3, none⟩ = some (.bool bq2) := zq 3 _ rfl; have cq4 : w2.cell? ⟨gp, 4, none⟩ = some (.slice o2 l2 c2) := zq 4 _ rfl; have cq5 : w2.cell? ⟨gp, 5, none⟩ = some (.slice r2 m2 z2) := zq 5 _ rfl; have y3 := IsQ.grown y1 hka (by decide) GG; have y4 := IsQ.grown y2 hka (by decide) GG; have HB2 := (ST.out.2.2.1.alloc hbs (.cells #[.bool b1, .int .u64 A1, .int .u64 L1, .pointer p1, .bool b2, .int .u64 A2, .int .u64 L2, .pointer p2] 49)).grown grow2 (Nat.le_trans hbs al8.size) (fun j hj => (T2.oa.lt j hj).1); have al6 := (Below.refl w2.heap.size w2).alloc (Nat.le_refl _) (.cells #[.bool bq1, .slice o1 l1 c1, .slice r1 m1 z1, .bool bq2, .slice o2 l2 c2, .slice r2 m2 z2] 51); have T4 := T3.below al6; have O4 := O3.below al6; have y5 := y3.below al6; have y6 := y4.below al6; have hb2s : base ≤ w2.heap.size := Nat.le_trans hbs (Nat.le_trans al8.size GG.size); have gs := GG.size; clear zq kq own2 grow2 blk2 loc2 y3 y4 T3 O3)
        | (at_builtin; refine wpList_append_z _ rfl _ _ 71 rfl base 51 i1 (.agg #[.bool false, .slice none 0 0, .slice none 0 0, .bool false, .slice none 0 0, .slice none 0 0]) 6 112 Try.underlying71 hj hy0 hy1 hy2 rfl (by decide) vc k ys rfl T4.oc ⟨w2.heap.size, 0, none⟩ 1 [.bool bq1, .slice o1 l1 c1, .slice r1 m1 z1, .bool bq2, .slice o2 l2 c2, .slice r2 m2 z2] rfl rfl (news_at w2 _ _ _ rfl) (by simp [Value.oneCell']) (by unfold maxLen; omega) (by omega) (Nat.le_trans hb2s al6.size) pz6 pn6 T4.zc ?_; intro vc' w3 own3 grow3 blk3 loc3; obtain ⟨gc', hgc', T5⟩ := T4.pushC y5 y6 own3 grow3 blk3 loc3; have G3 := grow3; rw [T4.bc] at G3; obtain ⟨csc, hkc⟩ := typed T4.oc T4.bc; have O5 := O4.other hkc (by decide) (T4.zc.plain T4.bc) DD.out.2.2.1.symm DD.out.2.2.2.symm G3; have HB3 := (HB2.alloc hb2s (.cells #[.bool bq1, .slice o1 l1 c1, .slice r1 m1 z1, .bool bq2, .slice o2 l2 c2, .slice r2 m2 z2] 51)).grown grow3 (Nat.le_trans hb2s al6.size) (fun j hj => (T4.oc.lt j hj).1); have DN : Hid (ga' ≠ gb ∧ ga' ≠ gd ∧ gc' ≠ gb ∧ gc' ≠ gd) := dist4 hga' hgc' DD.out O2.lta O4.lta; have H5 : Hid (Two w3 base (k + 1) (k + 1) E' va' vc' ga' gc' _ _) := T5; have HO5 : Hid (Two w3 base 0 0 F0 vb vd gb gd [] []) := O5; have HB5 : Hid (Below base w w3) := HB3; clear own3 grow3 blk3 loc3 T5 O5 HB3))
      go_roundw
      case rel => exact ⟨k + 1, E', va', vc', ga', gc', _, _, rfl, rfl, by omega, by go_num, H5, HO5, DN, HB5⟩
      case measure => simp [intOf]; omega
    · obtain rfl : 12 = k := by omega
      have q9 : ((12 : Nat) : Int) < (n1 : Int) := by omega
      have TA : Hid (Two wr base 12 12 E va vc ga gc xs ys) := HT
      have TB : Hid (Two wr base 0 0 F0 vb vd gb gd [] []) := HO
      clear HT HO
      go_wp2
      go_loopw [9, 11, 15] (fun sa sc iv wr => ∃ (k_ : Nat) (E_ : Nat → Nm × Nm) (va_ vc_ : Value) (ga_ gc_ : Nat) (xs_ ys_ : List Value), va_ = sa ∧ vc_ = sc ∧ k_ ≤ 12 ∧ iv = .int .i64 (k_ : Int) ∧ Hid (Two wr base k_ k_ E_ va_ vc_ ga_ gc_ xs_ ys_) ∧ Hid (Two wr base 12 12 E va vc ga gc xs ys) ∧ Hid (ga_ ≠ ga ∧ ga_ ≠ gc ∧ gc_ ≠ ga ∧ gc_ ≠ gc) ∧ Hid (Below base w wr)) (fun _ _ iv _ => 12 - (intOf iv).toNat)
      case atStart => exact ⟨0, F0, _, _, _, _, [], [], rfl, rfl, Nat.zero_le _, rfl, TB.out, TA.out, ⟨DD.out.1.symm, DD.out.2.2.1.symm, DD.out.2.1.symm, DD.out.2.2.2.symm⟩, HB.out⟩
      case round =>
        clear TA TB DD HB
        obtain ⟨k_, E_, va_, vc_, ga_, gc_, xs_, ys_, rfl, rfl, hk, rfl, HT, HO, DD, HB⟩ := hrel
        by_cases hlt : k_ < 12
        · obtain ⟨g, off, rfl, hg, hrow⟩ := HI2.out (by omega)
          obtain ⟨u0, u1, u2, u3, u4, u5, a0, a1, a2, a3, a4, a5, cB⟩ := hrow k_ (by omega)
          have cw : ∀ i, wr.cell? ⟨g, i, none⟩ = w.cell? ⟨g, i, none⟩ := fun i => HB.out.cell (p := ⟨g, i, none⟩) (show g < base by have := HBS.out; omega)
          have e0 := (cw _).trans a0
          have e1 := (cw _).trans a1
          have e2 := (cw _).trans a2
          have e3 := (cw _).trans a3
          have e4 := (cw _).trans a4
          have e5 := (cw _).trans a5
          have cB2 := cB wr (by rw [HBS.out]; exact HB.out)
          have q1 : (k_ : Int) < (n2 : Int) := by omega
          have q2 : (k_ : Int) < 12 := by omega
          clear cw a0 a1 a2 a3 a4 a5 cB hrow hg
          go_upto_region 13 with (go_at_call 17; refine cB2.mono ?_; rintro e w1 ⟨v, y, pp, qq, rfl, ⟨b1, A1, L1, p1, b2, A2, L2, p2, rfl, i1, i2⟩, ⟨bq1, o1, l1, c1, r1, m1, z1, bq2, o2, l2, c2, r2, m2, z2, rfl, j1, j2⟩, F1, F2, hb1⟩)
          obtain ⟨W1, eW1, B1, kx, kp⟩ := two_new w1 (.cells #[.bool b1, .int .u64 A1, .int .u64 L1, .pointer p1, .bool b2, .int .u64 A2, .int .u64 L2, .pointer p2] 49) (.cells #[.bool bq1, .slice o1 l1 c1, .slice r1 m1 z1, .bool bq2, .slice o2 l2 c2, .slice r2 m2 z2] 51)
          rw [eW1]
          have BB := bt hb1 B1
          have hbsr : base ≤ wr.heap.size := Nat.le_trans HT.out.lta.1.1 (Nat.le_of_lt HT.out.lta.1.2)
          have HB1 := HB.out.trans (BB.mono hbsr)
          have EK : ∃ F : Nat → Nm × Nm, F k_ = (pp, qq) ∧ ∀ j, j < k_ → F j = E_ j := ⟨fun j => if j = k_ then (pp, qq) else E_ j, if_pos rfl, fun j hj => if_neg (by omega)⟩
          obtain ⟨E_', hE', hEj⟩ := EK
          have T1 := (HT.out.below BB).congr hEj
          have O1 := HO.out.below BB
          have al8 := (Below.refl W1.heap.size W1).alloc (Nat.le_refl _) (.cells #[.bool b1, .int .u64 A1, .int .u64 L1, .pointer p1, .bool b2, .int .u64 A2, .int .u64 L2, .pointer p2] 49)
          have T2 := T1.below al8
          have O2 := O1.below al8
          have x1 : IsR (W1.alloc (.cells #[.bool b1, .int .u64 A1, .int .u64 L1, .pointer p1, .bool b2, .int .u64 A2, .int .u64 L2, .pointer p2] 49)) (.agg #[.bool b1, .int .u64 A1, .int .u64 L1, .pointer p1]) (E_' k_).1 := by rw [hE']; exact (i1.below B1).below al8
          have x2 : IsR (W1.alloc (.cells #[.bool b1, .int .u64 A1, .int .u64 L1, .pointer p1, .bool b2, .int .u64 A2, .int .u64 L2, .pointer p2] 49)) (.agg #[.bool b2, .int .u64 A2, .int .u64 L2, .pointer p2]) (E_' k_).2 := by rw [hE']; exact (i2.below B1).below al8
          have y1 : IsQ (W1.alloc (.cells #[.bool b1, .int .u64 A1, .int .u64 L1, .pointer p1, .bool b2, .int .u64 A2, .int .u64 L2, .pointer p2] 49)) (.agg #[.bool bq1, .slice o1 l1 c1, .slice r1 m1 z1]) (E_' k_).1 := by rw [hE']; exact (j1.below B1).below al8
          have y2 : IsQ (W1.alloc (.cells #[.bool b1, .int .u64 A1, .int .u64 L1, .pointer p1, .bool b2, .int .u64 A2, .int .u64 L2, .pointer p2] 49)) (.agg #[.bool bq2, .slice o2 l2 c2, .slice r2 m2 z2]) (E_' k_).2 := by rw [hE']; exact (j2.below B1).below al8
          have FF : Fits (E_' k_).1 256 ∧ Fits (E_' k_).2 256 := by rw [hE']; exact ⟨F1, F2⟩
          have zx := cell_at kx
          have cx0 : W1.cell? ⟨w1.heap.size, 0, none⟩ = some (.bool b1) := zx 0 _ rfl
          have cx1 : W1.cell? ⟨w1.heap.size, 1, none⟩ = some (.int .u64 A1) := zx 1 _ rfl
          have cx2 : W1.cell? ⟨w1.heap.size, 2, none⟩ = some (.int .u64 L1) := zx 2 _ rfl
          have cx3 : W1.cell? ⟨w1.heap.size, 3, none⟩ = some (.pointer p1) := zx 3 _ rfl
          have cx4 : W1.cell? ⟨w1.heap.size, 4, none⟩ = some (.bool b2) := zx 4 _ rfl
          have cx5 : W1.cell? ⟨w1.heap.size, 5, none⟩ = some (.int .u64 A2) := zx 5 _ rfl
          have cx6 : W1.cell? ⟨w1.heap.size, 6, none⟩ = some (.int .u64 L2) := zx 6 _ rfl
          have cx7 : W1.cell? ⟨w1.heap.size, 7, none⟩ = some (.pointer p2) := zx 7 _ rfl
          have kp2 := box_kept kp al8 (in_heap kp)
          have gpn : ga_ ≠ w1.heap.size + 1 := by have := HT.out.lta.1.2; have := hb1.size; omega
          have hbs : base ≤ W1.heap.size := Nat.le_trans HT.out.lta.1.1 (Nat.le_trans (Nat.le_of_lt HT.out.lta.1.2) BB.size)
          obtain ⟨gp, egp⟩ : ∃ x, w1.heap.size + 1 = x := ⟨_, rfl⟩
          obtain ⟨gx, egx⟩ : ∃ x, w1.heap.size = x := ⟨_, rfl⟩
          rw [egp] at kp2 gpn
          rw [egx] at cx0 cx1 cx2 cx3 cx4 cx5 cx6 cx7
          simp only [egp]
          simp only [egx]
          clear eW1 B1 kx kp BB hb1 T1 O1 i1 i2 j1 j2 F1 F2 zx egp egx HT HO HB cB2 e0 e1 e2 e3 e4 e5
          have ST : Hid (_ ∧ _ ∧ _ ∧ _) := ⟨T2, O2, HB1, FF⟩
          clear HB1
          go_wp2_with (first
            | (at_builtin; refine wpList_append_z _ rfl _ _ 70 rfl base 49 i0 (.agg #[.bool false, .int .u64 0, .int .u64 0, .pointer none, .bool false, .int .u64 0, .int .u64 0, .pointer none]) 8 64 Try.underlying70 hi hz0 hz1 hz2 rfl (by decide) va_ k_ xs_ rfl T2.oa ⟨W1.heap.size, 0, none⟩ 1 [.bool b1, .int .u64 A1, .int .u64 L1, .pointer p1, .bool b2, .int .u64 A2, .int .u64 L2, .pointer p2] rfl rfl (news_at W1 _ _ _ rfl) (by simp [Value.oneCell']) (by unfold maxLen; omega) (by omega) (Nat.le_trans hbs al8.size) pz8 pn8 T2.za ?_; intro va_' w2 own2 grow2 blk2 loc2; obtain ⟨ga_', hga', T3⟩ := T2.pushA x1 x2 FF own2 grow2 blk2 loc2; have GG := grow2; rw [T2.ba] at GG; obtain ⟨csa, hka⟩ := typed T2.oa T2.ba; have O3 := O2.other hka (by decide) (T2.za.plain T2.ba) DD.out.1.symm DD.out.2.1.symm GG; have kq := (GG.block gp (in_heap kp2) (by simpa using gpn.symm)).trans kp2; have zq := cell_at kq; have cq0 : w2.cell? ⟨gp, 0, none⟩ = some (.bool bq1) := zq 0 _ rfl; have cq1 : w2.cell? ⟨gp, 1, none⟩ = some (.slice o1 l1 c1) := zq 1 _ rfl; have cq2 : w2.cell? ⟨gp, 2, none⟩ = some (.slice r1 m1 z1) := zq 2 _ rfl; have cq3 : w2.cell? ⟨gp, 3, none⟩ = some (.bool bq2) := zq 3 _ rfl; have cq4 : w2.cell? ⟨gp, 4, none⟩ = some (.slice o2 l2 c2) := zq 4 _ rfl; have cq5 : w2.cell? ⟨gp, 5, none⟩ = some (.slice r2 m2 z2) := zq 5 _ rfl; have y3 := IsQ.grown y1 hka (by decide) GG; have y4 := IsQ.grown y2 hka (by decide) GG; have HB2 := (ST.out.2.2.1.alloc hbs (.cells #[.bool b1, .int .u64 A1, .int .u64 L1, .pointer p1, .bool b2, .int .u64 A2, .int .u64 L2, .pointer p2] 49)).grown grow2 (Nat.le_trans hbs al8.size) (fun j hj => (T2.oa.lt j hj).1); have al6 := (Below.refl w2.heap.size w2).alloc (Nat.le_refl _) (.cells #[.bool bq1, .slice o1 l1 c1, .slice r1 m1 z1, .bool bq2, .slice o2 l2 c2, .slice r2 m2 z2] 51); have T4 := T3.below al6; have O4 := O3.below al6; have y5 := y3.below al6; have y6 := y4.below al6; have hb2s : base ≤ w2.heap.size := Nat.le_trans hbs (Nat.le_trans al8.size GG.size); have gs := GG.size; clear zq kq own2 grow2 blk2 loc2 y3 y4 T3 O3)
            | (at_builtin; refine wpList_append_z _ rfl _ _ 71 rfl base 51 i1 (.agg #[.bool false, .slice none 0 0, .slice none 0 0, .bool false, .slice none 0 0, .slice none 0 0]) 6 112 Try.underlying71 hj hy0 hy1 hy2 rfl (by decide) vc_ k_ ys_ rfl T4.oc ⟨w2.heap.size, 0, none⟩ 1 [.bool bq1, .slice o1 l1 c1, .slice r1 m1 z1, .bool bq2, .slice o2 l2 c2, .slice r2 m2 z2] rfl rfl (news_at w2 _ _ _ rfl) (by simp [Value.oneCell']) (by unfold maxLen; omega) (by omega) (Nat.le_trans hb2s al6.size) pz6 pn6 T4.zc ?_; intro vc_' w3 own3 grow3 blk3 loc3; obtain ⟨gc_', hgc', T5⟩ := T4.pushC y5 y6 own3 grow3 blk3 loc3; have G3 := grow3; rw [T4.bc] at G3; obtain ⟨csc, hkc⟩ := typed T4.oc T4.bc; have O5 := O4.other hkc (by decide) (T4.zc.plain T4.bc) DD.out.2.2.1.symm DD.out.2.2.2.symm G3; have HB3 := (HB2.alloc hb2s (.cells #[.bool bq1, .slice o1 l1 c1, .slice r1 m1 z1, .bool bq2, .slice o2 l2 c2, .slice r2 m2 z2] 51)).grown grow3 (Nat.le_trans hb2s al6.size) (fun j hj => (T4.oc.lt j hj).1); have DN : Hid (ga_' ≠ ga ∧ ga_' ≠ gc ∧ gc_' ≠ ga ∧ gc_' ≠ gc) := dist4 hga' hgc' DD.out O2.lta O4.lta; have H5 : Hid (Two w3 base (k_ + 1) (k_ + 1) E_' va_' vc_' ga_' gc_' _ _) := T5; have HO5 : Hid (Two w3 base 12 12 E va vc ga gc xs ys) := O5; have HB5 : Hid (Below base w w3) := HB3; clear own3 grow3 blk3 loc3 T5 O5 HB3))
          go_roundw
          case rel => exact ⟨k_ + 1, E_', va_', vc_', ga_', gc_', _, _, rfl, rfl, by omega, by go_num, H5, HO5, DN, HB5⟩
          case measure => simp [intOf]; omega
        · obtain rfl : 12 = k_ := by omega
          have q8 : ((12 : Nat) : Int) < (n2 : Int) := by omega
          go_wp2
          refine bodyPost_ret (v := .tuple #[va, va_, vc, vc_]) (by simp [results, go_sem]) rfl ?_
          exact ⟨E, E_, va, va_, vc, vc_, rfl, HO.out.rd.1, HT.out.rd.1, HO.out.rd.2, HT.out.rd.2, by have := HB.out; rw [← HBS.out] at this; exact this⟩
end Go.Proofs.Ytdliookkkgobbaa.LiL

/- DeltaChoice: the walk. -/
namespace Go.Proofs.Ytdliookkkgobbaa.ChW
open Go.RowKit Mem LimbNum Limb1 NatL GcdA RatL RatM RatN RatF RatO MulN MulW MulL RefR RefT RefU InvL DivL QNum CmpL CmqL RefX RefY RefZ FloL Mk5 AddN JoinL AddW AddV AddR FldL SubL NmL DelL DelM DelB DaL DmL DcL Law5 Aw5 RcL RdL CnL LiN LiL

theorem cho_fits {E F : Nat → Nm × Nm} {N : Nat} (hE : ∀ k, k < N → Fits (E k).1 256 ∧ Fits (E k).2 256) (hF : ∀ k, k < N → Fits (F k).1 256 ∧ Fits (F k).2 256) (n : Nat) (hn : n ≤ N) : ∀ m, cho E F n = some m → Fits m 1026 := by
  induction n with
  | zero =>
    intro m h
    simp only [cho, Option.some.injEq] at h
    rw [← h]
    exact (fits_int 1 (by decide) (by decide)).more (by omega)
  | succ n ih =>
    intro m h
    cases hc : cho E F n with
    | none => simp [cho, hc] at h
    | some m' =>
      by_cases hp : 0 < cmpD (E n).1 (E n).2 (F n).1 (F n).2
      · rw [cho_stop hc hp] at h; cases h
      · rw [cho_some hc hp] at h
        obtain rfl := Option.some.inj h
        exact fits_step (ih (by omega) m' hc) (hE n (by omega)) (hF n (by omega))
theorem both_choose (va vb vc vd : Value) (K1 K2 : Nat) (E F : Nat → Nm × Nm) (w : World) (h1 : RD w va K1 E) (h2 : RD w vb K2 F) (h3 : RE w vc K1 E) (h4 : RE w vd K2 F) (hK : K1 ≤ 12) :
    ∃ res : Option Nm, (∀ m, res = some m → Fits m 1026) ∧ (∀ W, Below w.heap.size w W → Calls Try.prog 35 #[va, vb] W fun e w' => ∃ v, e = .returned (.tuple #[v, .int .i64 (if res.isSome then 0 else 4)]) ∧ IsR w' v (res.getD (intM 0)) ∧ Below W.heap.size W w') ∧
      (∀ W, Below w.heap.size w W → Calls Try.prog 36 #[vc, vd] W fun e w' => ∃ v, e = .returned (.tuple #[v, .bool res.isSome]) ∧ IsQ w' v (res.getD (intM 0)) ∧ Below W.heap.size W w') := by
  by_cases h : K1 = K2
  · subst h
    refine ⟨cho E F K1, ?_, fun W hW => choose_any va vb K1 E F W (h1.below hW) (h2.below hW) (by omega), fun W hW => rchoose_any vc vd K1 E F W (h3.below hW) (h4.below hW) (by omega)⟩
    obtain ⟨_, _, _, f1, _⟩ := h1
    obtain ⟨_, _, _, f2, _⟩ := h2
    exact cho_fits f1 f2 K1 (Nat.le_refl _)
  · obtain ⟨o1, c1, rfl, _⟩ := h1
    obtain ⟨o2, c2, rfl, _⟩ := h2
    obtain ⟨o3, c3, rfl, _⟩ := h3
    obtain ⟨o4, c4, rfl, _⟩ := h4
    exact ⟨none, (fun m e => by cases e), fun W _ => choose_ne o1 o2 K1 c1 K2 c2 W h, fun W _ => rchoose_ne o3 o4 K1 c3 K2 c4 W h⟩
set_option maxRecDepth 20000 in
set_option maxHeartbeats 4000000 in
theorem law (v1 v2 : Value) (w : World) (cL : Calls Try.prog 34 #[v1, v2] w fun e w' => ∃ E F va vb vc vd K1 K2, e = .returned (.tuple #[va, vb, vc, vd]) ∧ RD w' va K1 E ∧ RD w' vb K2 F ∧ RE w' vc K1 E ∧ RE w' vd K2 F ∧ K1 ≤ 12 ∧ Below w.heap.size w w') :
    Calls Try.prog 6 #[v1, v2] w fun e w' => e = .returned (.bool true) ∧ Below w.heap.size w w' := by
  go_enter Try.func6, Try.ntmps6
  go_upto_region 2 with (go_at_call 34; refine cL.mono ?_; rintro e w1 ⟨E, F, va, vb, vc, vd, K1, K2, rfl, h1, h2, h3, h4, hK, hb1⟩)
  obtain ⟨res, hres, c1, c2⟩ := both_choose va vb vc vd K1 K2 E F w1 h1 h2 h3 h4 hK
  clear h1 h2 h3 h4 hK cL
  rcases res with _ | m
  · simp only [Option.isSome_none, Option.getD_none, Bool.false_eq_true, if_false] at c1 c2
    go_upto_region 3 with (go_at_call 35; refine (c1 _ (Below.refl _ _)).mono ?_; rintro e w2 ⟨x2, rfl, R2, hb2⟩; obtain ⟨b1, A1, L1, p1, rfl⟩ := R2.shape4)
    obtain ⟨W2, eW2, B2, k2⟩ := one_new w2 (.cells #[.bool b1, .int .u64 A1, .int .u64 L1, .pointer p1] 28)
    rw [eW2]
    have HW := bt hb2 B2
    have i2 := R2.below B2
    obtain ⟨gr, egr⟩ : ∃ x, w2.heap.size = x := ⟨_, rfl⟩
    rw [egr] at k2 ⊢
    clear eW2 R2 egr
    go_upto_region 4 with (go_at_call 36; refine (c2 _ HW).mono ?_; rintro e w3 ⟨x3, rfl, R3, hb3⟩; obtain ⟨bq8, o8, l8, c8, r8, m8, z8, rfl⟩ := R3.shape3)
    obtain ⟨W3, eW3, B3, k3⟩ := one_new w3 (.cells #[.bool bq8, .slice o8 l8 c8, .slice r8 m8 z8] 31)
    rw [eW3]
    have i3 := i2.below (bt hb3 B3)
    have j3 := R3.below B3
    have kr := box_kept k2 (bt hb3 B3) (in_heap k2)
    have CC := bt (bt hb1 HW) (bt hb3 B3)
    obtain ⟨gq, egq⟩ : ∃ x, w3.heap.size = x := ⟨_, rfl⟩
    rw [egq] at k3 ⊢
    clear eW3 R3 egq c1 c2 k2 i2 HW hb1 hb2 hb3 B2 B3
    go_wp2_with (first
      | (go_at_call 18; refine (awake7 _).mono ?_; rintro e w4 ⟨rfl, hb4⟩; have dr := cell_at (box_kept kr hb4 (in_heap kr)); have r0 : w4.cell? ⟨gr, 0, none⟩ = some (.bool b1) := dr 0 _ rfl; have r1 : w4.cell? ⟨gr, 1, none⟩ = some (.int .u64 A1) := dr 1 _ rfl; have r2 : w4.cell? ⟨gr, 2, none⟩ = some (.int .u64 L1) := dr 2 _ rfl; have r3 : w4.cell? ⟨gr, 3, none⟩ = some (.pointer p1) := dr 3 _ rfl; clear dr)
      | (go_at_call 37; refine (sign_any _ _ _ _ _ (i3.below hb4)).mono ?_; rintro e w5 ⟨rfl, hb5⟩))
    all_goals go_ret
    all_goals exact ⟨rfl, bt CC (bt hb4 hb5)⟩
  · simp only [Option.isSome_some, Option.getD_some, if_true] at c1 c2
    go_upto_region 3 with (go_at_call 35; refine (c1 _ (Below.refl _ _)).mono ?_; rintro e w2 ⟨x2, rfl, R2, hb2⟩; obtain ⟨b1, A1, L1, p1, rfl⟩ := R2.shape4)
    obtain ⟨W2, eW2, B2, k2⟩ := one_new w2 (.cells #[.bool b1, .int .u64 A1, .int .u64 L1, .pointer p1] 28)
    rw [eW2]
    have HW := bt hb2 B2
    have i2 := R2.below B2
    obtain ⟨gr, egr⟩ : ∃ x, w2.heap.size = x := ⟨_, rfl⟩
    rw [egr] at k2 ⊢
    clear eW2 R2 egr
    go_upto_region 4 with (go_at_call 36; refine (c2 _ HW).mono ?_; rintro e w3 ⟨x3, rfl, R3, hb3⟩; obtain ⟨bq8, o8, l8, c8, r8, m8, z8, rfl⟩ := R3.shape3)
    obtain ⟨W3, eW3, B3, k3⟩ := one_new w3 (.cells #[.bool bq8, .slice o8 l8 c8, .slice r8 m8 z8] 31)
    rw [eW3]
    have i3 := i2.below (bt hb3 B3)
    have j3 := R3.below B3
    have kr := box_kept k2 (bt hb3 B3) (in_heap k2)
    have CC := bt (bt hb1 HW) (bt hb3 B3)
    obtain ⟨gq, egq⟩ : ∃ x, w3.heap.size = x := ⟨_, rfl⟩
    rw [egq] at k3 ⊢
    clear eW3 R3 egq c1 c2 k2 i2 HW hb1 hb2 hb3 B2 B3
    go_wp2_with (first
      | (go_at_call 18; refine (awake7 _).mono ?_; rintro e w4 ⟨rfl, hb4⟩; have dr := cell_at (box_kept kr hb4 (in_heap kr)); have r0 : w4.cell? ⟨gr, 0, none⟩ = some (.bool b1) := dr 0 _ rfl; have r1 : w4.cell? ⟨gr, 1, none⟩ = some (.int .u64 A1) := dr 1 _ rfl; have r2 : w4.cell? ⟨gr, 2, none⟩ = some (.int .u64 L1) := dr 2 _ rfl; have r3 : w4.cell? ⟨gr, 3, none⟩ = some (.pointer p1) := dr 3 _ rfl; have dq := cell_at (box_kept k3 hb4 (in_heap k3)); have q0 : w4.cell? ⟨gq, 0, none⟩ = some (.bool bq8) := dq 0 _ rfl; have q1 : w4.cell? ⟨gq, 1, none⟩ = some (.slice o8 l8 c8) := dq 1 _ rfl; have q2 : w4.cell? ⟨gq, 2, none⟩ = some (.slice r8 m8 z8) := dq 2 _ rfl; clear dr)
      | (go_at_call 29; refine (a_is (k := 1026) (by omega) (i3.below hb4) (j3.below hb4) (hres _ rfl)).mono ?_; rintro e w5 ⟨rfl, hb5⟩))
    all_goals go_ret
    all_goals exact ⟨rfl, bt CC (bt hb4 hb5)⟩
end Go.Proofs.Ytdliookkkgobbaa.ChW

/- DeltaHolds: the walk. -/
namespace Go.Proofs.Ytdliookkkgobbaa.HlW
open Go.RowKit Mem LimbNum Limb1 NatL GcdA RatL RatM RatN RatF RatO MulN MulW MulL RefR RefT RefU InvL DivL QNum CmpL CmqL RefX RefY RefZ FloL Mk5 AddN JoinL AddW AddV AddR FldL SubL NmL DelL DelM DelB DaL DmL DcL RcL RdL CnL LiN LiL ChW HoN Law5 Aw5

theorem keep8 {W W' : World} {ga gb : Nat} {xb : Bool} {xA xL : Int} {xp : Option Addr} {yb : Bool} {yA yL : Int} {yp : Option Addr} (hb : Below W.heap.size W W') (H : W.cell? ⟨ga, 0, none⟩ = some (.bool xb) ∧ W.cell? ⟨ga, 1, none⟩ = some (.int .u64 xA) ∧ W.cell? ⟨ga, 2, none⟩ = some (.int .u64 xL) ∧ W.cell? ⟨ga, 3, none⟩ = some (.pointer xp) ∧ W.cell? ⟨gb, 0, none⟩ = some (.bool yb) ∧ W.cell? ⟨gb, 1, none⟩ = some (.int .u64 yA) ∧ W.cell? ⟨gb, 2, none⟩ = some (.int .u64 yL) ∧ W.cell? ⟨gb, 3, none⟩ = some (.pointer yp)) : W'.cell? ⟨ga, 0, none⟩ = some (.bool xb) ∧ W'.cell? ⟨ga, 1, none⟩ = some (.int .u64 xA) ∧ W'.cell? ⟨ga, 2, none⟩ = some (.int .u64 xL) ∧ W'.cell? ⟨ga, 3, none⟩ = some (.pointer xp) ∧ W'.cell? ⟨gb, 0, none⟩ = some (.bool yb) ∧ W'.cell? ⟨gb, 1, none⟩ = some (.int .u64 yA) ∧ W'.cell? ⟨gb, 2, none⟩ = some (.int .u64 yL) ∧ W'.cell? ⟨gb, 3, none⟩ = some (.pointer yp) := by
  have kc : ∀ {p : Addr} {v : Value}, W.cell? p = some v → W'.cell? p = some v := fun {p v} h => by rw [hb.cell (World.block_lt_of_cell? W p h)]; exact h
  exact ⟨kc H.1, kc H.2.1, kc H.2.2.1, kc H.2.2.2.1, kc H.2.2.2.2.1, kc H.2.2.2.2.2.1, kc H.2.2.2.2.2.2.1, kc H.2.2.2.2.2.2.2⟩
theorem set8 {W : World} {ga gb g : Nat} {xb : Bool} {xA xL : Int} {xp : Option Addr} {yb : Bool} {yA yL : Int} {yp : Option Addr} (hn : ga ≠ g ∧ gb ≠ g) (a0 a1 a2 a3 : Value) (H : W.cell? ⟨ga, 0, none⟩ = some (.bool xb) ∧ W.cell? ⟨ga, 1, none⟩ = some (.int .u64 xA) ∧ W.cell? ⟨ga, 2, none⟩ = some (.int .u64 xL) ∧ W.cell? ⟨ga, 3, none⟩ = some (.pointer xp) ∧ W.cell? ⟨gb, 0, none⟩ = some (.bool yb) ∧ W.cell? ⟨gb, 1, none⟩ = some (.int .u64 yA) ∧ W.cell? ⟨gb, 2, none⟩ = some (.int .u64 yL) ∧ W.cell? ⟨gb, 3, none⟩ = some (.pointer yp)) : ((((W.setCell ⟨g, 0, none⟩ a0).setCell ⟨g, 1, none⟩ a1).setCell ⟨g, 2, none⟩ a2).setCell ⟨g, 3, none⟩ a3).cell? ⟨ga, 0, none⟩ = some (.bool xb) ∧ ((((W.setCell ⟨g, 0, none⟩ a0).setCell ⟨g, 1, none⟩ a1).setCell ⟨g, 2, none⟩ a2).setCell ⟨g, 3, none⟩ a3).cell? ⟨ga, 1, none⟩ = some (.int .u64 xA) ∧ ((((W.setCell ⟨g, 0, none⟩ a0).setCell ⟨g, 1, none⟩ a1).setCell ⟨g, 2, none⟩ a2).setCell ⟨g, 3, none⟩ a3).cell? ⟨ga, 2, none⟩ = some (.int .u64 xL) ∧ ((((W.setCell ⟨g, 0, none⟩ a0).setCell ⟨g, 1, none⟩ a1).setCell ⟨g, 2, none⟩ a2).setCell ⟨g, 3, none⟩ a3).cell? ⟨ga, 3, none⟩ = some (.pointer xp) ∧ ((((W.setCell ⟨g, 0, none⟩ a0).setCell ⟨g, 1, none⟩ a1).setCell ⟨g, 2, none⟩ a2).setCell ⟨g, 3, none⟩ a3).cell? ⟨gb, 0, none⟩ = some (.bool yb) ∧ ((((W.setCell ⟨g, 0, none⟩ a0).setCell ⟨g, 1, none⟩ a1).setCell ⟨g, 2, none⟩ a2).setCell ⟨g, 3, none⟩ a3).cell? ⟨gb, 1, none⟩ = some (.int .u64 yA) ∧ ((((W.setCell ⟨g, 0, none⟩ a0).setCell ⟨g, 1, none⟩ a1).setCell ⟨g, 2, none⟩ a2).setCell ⟨g, 3, none⟩ a3).cell? ⟨gb, 2, none⟩ = some (.int .u64 yL) ∧ ((((W.setCell ⟨g, 0, none⟩ a0).setCell ⟨g, 1, none⟩ a1).setCell ⟨g, 2, none⟩ a2).setCell ⟨g, 3, none⟩ a3).cell? ⟨gb, 3, none⟩ = some (.pointer yp) := by
  have e1 : ∀ i, ((((W.setCell ⟨g, 0, none⟩ a0).setCell ⟨g, 1, none⟩ a1).setCell ⟨g, 2, none⟩ a2).setCell ⟨g, 3, none⟩ a3).cell? ⟨ga, i, none⟩ = W.cell? ⟨ga, i, none⟩ := fun i => sto4_cell W g a0 a1 a2 a3 ga i hn.1
  have e2 : ∀ i, ((((W.setCell ⟨g, 0, none⟩ a0).setCell ⟨g, 1, none⟩ a1).setCell ⟨g, 2, none⟩ a2).setCell ⟨g, 3, none⟩ a3).cell? ⟨gb, i, none⟩ = W.cell? ⟨gb, i, none⟩ := fun i => sto4_cell W g a0 a1 a2 a3 gb i hn.2
  exact ⟨(e1 _).trans H.1, (e1 _).trans H.2.1, (e1 _).trans H.2.2.1, (e1 _).trans H.2.2.2.1, (e2 _).trans H.2.2.2.2.1, (e2 _).trans H.2.2.2.2.2.1, (e2 _).trans H.2.2.2.2.2.2.1, (e2 _).trans H.2.2.2.2.2.2.2⟩
theorem new8 {W : World} {ga gb : Nat} {xb : Bool} {xA xL : Int} {xp : Option Addr} {yb : Bool} {yA yL : Int} {yp : Option Addr} (o : Obj) (H : W.cell? ⟨ga, 0, none⟩ = some (.bool xb) ∧ W.cell? ⟨ga, 1, none⟩ = some (.int .u64 xA) ∧ W.cell? ⟨ga, 2, none⟩ = some (.int .u64 xL) ∧ W.cell? ⟨ga, 3, none⟩ = some (.pointer xp) ∧ W.cell? ⟨gb, 0, none⟩ = some (.bool yb) ∧ W.cell? ⟨gb, 1, none⟩ = some (.int .u64 yA) ∧ W.cell? ⟨gb, 2, none⟩ = some (.int .u64 yL) ∧ W.cell? ⟨gb, 3, none⟩ = some (.pointer yp)) : (W.alloc o).cell? ⟨ga, 0, none⟩ = some (.bool xb) ∧ (W.alloc o).cell? ⟨ga, 1, none⟩ = some (.int .u64 xA) ∧ (W.alloc o).cell? ⟨ga, 2, none⟩ = some (.int .u64 xL) ∧ (W.alloc o).cell? ⟨ga, 3, none⟩ = some (.pointer xp) ∧ (W.alloc o).cell? ⟨gb, 0, none⟩ = some (.bool yb) ∧ (W.alloc o).cell? ⟨gb, 1, none⟩ = some (.int .u64 yA) ∧ (W.alloc o).cell? ⟨gb, 2, none⟩ = some (.int .u64 yL) ∧ (W.alloc o).cell? ⟨gb, 3, none⟩ = some (.pointer yp) := keep8 ((Below.refl _ _).alloc (Nat.le_refl _) o) H
theorem keep24 {W W' : World} {g1 g2 f1 f2 k ga gb : Nat} {b1 : Bool} {A1 L1 : Int} {p1 : Option Addr} {b2 : Bool} {A2 L2 : Int} {p2 : Option Addr} {b3 : Bool} {A3 L3 : Int} {p3 : Option Addr} {b4 : Bool} {A4 L4 : Int} {p4 : Option Addr} {xb : Bool} {xA xL : Int} {xp : Option Addr} {yb : Bool} {yA yL : Int} {yp : Option Addr} (hb : Below W.heap.size W W') (H : W.cell? ⟨g1, f1 + k * 8, none⟩ = some (.bool b1) ∧ W.cell? ⟨g1, f1 + k * 8 + 1, none⟩ = some (.int .u64 A1) ∧ W.cell? ⟨g1, f1 + k * 8 + 2, none⟩ = some (.int .u64 L1) ∧ W.cell? ⟨g1, f1 + k * 8 + 3, none⟩ = some (.pointer p1) ∧ W.cell? ⟨g1, f1 + k * 8 + 4, none⟩ = some (.bool b2) ∧ W.cell? ⟨g1, f1 + k * 8 + 5, none⟩ = some (.int .u64 A2) ∧ W.cell? ⟨g1, f1 + k * 8 + 6, none⟩ = some (.int .u64 L2) ∧ W.cell? ⟨g1, f1 + k * 8 + 7, none⟩ = some (.pointer p2) ∧ W.cell? ⟨g2, f2 + k * 8, none⟩ = some (.bool b3) ∧ W.cell? ⟨g2, f2 + k * 8 + 1, none⟩ = some (.int .u64 A3) ∧ W.cell? ⟨g2, f2 + k * 8 + 2, none⟩ = some (.int .u64 L3) ∧ W.cell? ⟨g2, f2 + k * 8 + 3, none⟩ = some (.pointer p3) ∧ W.cell? ⟨g2, f2 + k * 8 + 4, none⟩ = some (.bool b4) ∧ W.cell? ⟨g2, f2 + k * 8 + 5, none⟩ = some (.int .u64 A4) ∧ W.cell? ⟨g2, f2 + k * 8 + 6, none⟩ = some (.int .u64 L4) ∧ W.cell? ⟨g2, f2 + k * 8 + 7, none⟩ = some (.pointer p4) ∧ W.cell? ⟨ga, 0, none⟩ = some (.bool xb) ∧ W.cell? ⟨ga, 1, none⟩ = some (.int .u64 xA) ∧ W.cell? ⟨ga, 2, none⟩ = some (.int .u64 xL) ∧ W.cell? ⟨ga, 3, none⟩ = some (.pointer xp) ∧ W.cell? ⟨gb, 0, none⟩ = some (.bool yb) ∧ W.cell? ⟨gb, 1, none⟩ = some (.int .u64 yA) ∧ W.cell? ⟨gb, 2, none⟩ = some (.int .u64 yL) ∧ W.cell? ⟨gb, 3, none⟩ = some (.pointer yp)) : W'.cell? ⟨g1, f1 + k * 8, none⟩ = some (.bool b1) ∧ W'.cell? ⟨g1, f1 + k * 8 + 1, none⟩ = some (.int .u64 A1) ∧ W'.cell? ⟨g1, f1 + k * 8 + 2, none⟩ = some (.int .u64 L1) ∧ W'.cell? ⟨g1, f1 + k * 8 + 3, none⟩ = some (.pointer p1) ∧ W'.cell? ⟨g1, f1 + k * 8 + 4, none⟩ = some (.bool b2) ∧ W'.cell? ⟨g1, f1 + k * 8 + 5, none⟩ = some (.int .u64 A2) ∧ W'.cell? ⟨g1, f1 + k * 8 + 6, none⟩ = some (.int .u64 L2) ∧ W'.cell? ⟨g1, f1 + k * 8 + 7, none⟩ = some (.pointer p2) ∧ W'.cell? ⟨g2, f2 + k * 8, none⟩ = some (.bool b3) ∧ W'.cell? ⟨g2, f2 + k * 8 + 1, none⟩ = some (.int .u64 A3) ∧ W'.cell? ⟨g2, f2 + k * 8 + 2, none⟩ = some (.int .u64 L3) ∧ W'.cell? ⟨g2, f2 + k * 8 + 3, none⟩ = some (.pointer p3) ∧ W'.cell? ⟨g2, f2 + k * 8 + 4, none⟩ = some (.bool b4) ∧ W'.cell? ⟨g2, f2 + k * 8 + 5, none⟩ = some (.int .u64 A4) ∧ W'.cell? ⟨g2, f2 + k * 8 + 6, none⟩ = some (.int .u64 L4) ∧ W'.cell? ⟨g2, f2 + k * 8 + 7, none⟩ = some (.pointer p4) ∧ W'.cell? ⟨ga, 0, none⟩ = some (.bool xb) ∧ W'.cell? ⟨ga, 1, none⟩ = some (.int .u64 xA) ∧ W'.cell? ⟨ga, 2, none⟩ = some (.int .u64 xL) ∧ W'.cell? ⟨ga, 3, none⟩ = some (.pointer xp) ∧ W'.cell? ⟨gb, 0, none⟩ = some (.bool yb) ∧ W'.cell? ⟨gb, 1, none⟩ = some (.int .u64 yA) ∧ W'.cell? ⟨gb, 2, none⟩ = some (.int .u64 yL) ∧ W'.cell? ⟨gb, 3, none⟩ = some (.pointer yp) := by
  have kc : ∀ {p : Addr} {v : Value}, W.cell? p = some v → W'.cell? p = some v := fun {p v} h => by rw [hb.cell (World.block_lt_of_cell? W p h)]; exact h
  exact ⟨kc H.1, kc H.2.1, kc H.2.2.1, kc H.2.2.2.1, kc H.2.2.2.2.1, kc H.2.2.2.2.2.1, kc H.2.2.2.2.2.2.1, kc H.2.2.2.2.2.2.2.1, kc H.2.2.2.2.2.2.2.2.1, kc H.2.2.2.2.2.2.2.2.2.1, kc H.2.2.2.2.2.2.2.2.2.2.1, kc H.2.2.2.2.2.2.2.2.2.2.2.1, kc H.2.2.2.2.2.2.2.2.2.2.2.2.1, kc H.2.2.2.2.2.2.2.2.2.2.2.2.2.1, kc H.2.2.2.2.2.2.2.2.2.2.2.2.2.2.1, kc H.2.2.2.2.2.2.2.2.2.2.2.2.2.2.2.1, kc H.2.2.2.2.2.2.2.2.2.2.2.2.2.2.2.2.1, kc H.2.2.2.2.2.2.2.2.2.2.2.2.2.2.2.2.2.1, kc H.2.2.2.2.2.2.2.2.2.2.2.2.2.2.2.2.2.2.1, kc H.2.2.2.2.2.2.2.2.2.2.2.2.2.2.2.2.2.2.2.1, kc H.2.2.2.2.2.2.2.2.2.2.2.2.2.2.2.2.2.2.2.2.1, kc H.2.2.2.2.2.2.2.2.2.2.2.2.2.2.2.2.2.2.2.2.2.1, kc H.2.2.2.2.2.2.2.2.2.2.2.2.2.2.2.2.2.2.2.2.2.2.1, kc H.2.2.2.2.2.2.2.2.2.2.2.2.2.2.2.2.2.2.2.2.2.2.2⟩
theorem keep20 {W W' : World} {g1 g2 f1 f2 k ga : Nat} {b1 : Bool} {A1 L1 : Int} {p1 : Option Addr} {b2 : Bool} {A2 L2 : Int} {p2 : Option Addr} {b3 : Bool} {A3 L3 : Int} {p3 : Option Addr} {b4 : Bool} {A4 L4 : Int} {p4 : Option Addr} {xb : Bool} {xA xL : Int} {xp : Option Addr} (hb : Below W.heap.size W W') (H : W.cell? ⟨g1, f1 + k * 8, none⟩ = some (.bool b1) ∧ W.cell? ⟨g1, f1 + k * 8 + 1, none⟩ = some (.int .u64 A1) ∧ W.cell? ⟨g1, f1 + k * 8 + 2, none⟩ = some (.int .u64 L1) ∧ W.cell? ⟨g1, f1 + k * 8 + 3, none⟩ = some (.pointer p1) ∧ W.cell? ⟨g1, f1 + k * 8 + 4, none⟩ = some (.bool b2) ∧ W.cell? ⟨g1, f1 + k * 8 + 5, none⟩ = some (.int .u64 A2) ∧ W.cell? ⟨g1, f1 + k * 8 + 6, none⟩ = some (.int .u64 L2) ∧ W.cell? ⟨g1, f1 + k * 8 + 7, none⟩ = some (.pointer p2) ∧ W.cell? ⟨g2, f2 + k * 8, none⟩ = some (.bool b3) ∧ W.cell? ⟨g2, f2 + k * 8 + 1, none⟩ = some (.int .u64 A3) ∧ W.cell? ⟨g2, f2 + k * 8 + 2, none⟩ = some (.int .u64 L3) ∧ W.cell? ⟨g2, f2 + k * 8 + 3, none⟩ = some (.pointer p3) ∧ W.cell? ⟨g2, f2 + k * 8 + 4, none⟩ = some (.bool b4) ∧ W.cell? ⟨g2, f2 + k * 8 + 5, none⟩ = some (.int .u64 A4) ∧ W.cell? ⟨g2, f2 + k * 8 + 6, none⟩ = some (.int .u64 L4) ∧ W.cell? ⟨g2, f2 + k * 8 + 7, none⟩ = some (.pointer p4) ∧ W.cell? ⟨ga, 0, none⟩ = some (.bool xb) ∧ W.cell? ⟨ga, 1, none⟩ = some (.int .u64 xA) ∧ W.cell? ⟨ga, 2, none⟩ = some (.int .u64 xL) ∧ W.cell? ⟨ga, 3, none⟩ = some (.pointer xp)) : W'.cell? ⟨g1, f1 + k * 8, none⟩ = some (.bool b1) ∧ W'.cell? ⟨g1, f1 + k * 8 + 1, none⟩ = some (.int .u64 A1) ∧ W'.cell? ⟨g1, f1 + k * 8 + 2, none⟩ = some (.int .u64 L1) ∧ W'.cell? ⟨g1, f1 + k * 8 + 3, none⟩ = some (.pointer p1) ∧ W'.cell? ⟨g1, f1 + k * 8 + 4, none⟩ = some (.bool b2) ∧ W'.cell? ⟨g1, f1 + k * 8 + 5, none⟩ = some (.int .u64 A2) ∧ W'.cell? ⟨g1, f1 + k * 8 + 6, none⟩ = some (.int .u64 L2) ∧ W'.cell? ⟨g1, f1 + k * 8 + 7, none⟩ = some (.pointer p2) ∧ W'.cell? ⟨g2, f2 + k * 8, none⟩ = some (.bool b3) ∧ W'.cell? ⟨g2, f2 + k * 8 + 1, none⟩ = some (.int .u64 A3) ∧ W'.cell? ⟨g2, f2 + k * 8 + 2, none⟩ = some (.int .u64 L3) ∧ W'.cell? ⟨g2, f2 + k * 8 + 3, none⟩ = some (.pointer p3) ∧ W'.cell? ⟨g2, f2 + k * 8 + 4, none⟩ = some (.bool b4) ∧ W'.cell? ⟨g2, f2 + k * 8 + 5, none⟩ = some (.int .u64 A4) ∧ W'.cell? ⟨g2, f2 + k * 8 + 6, none⟩ = some (.int .u64 L4) ∧ W'.cell? ⟨g2, f2 + k * 8 + 7, none⟩ = some (.pointer p4) ∧ W'.cell? ⟨ga, 0, none⟩ = some (.bool xb) ∧ W'.cell? ⟨ga, 1, none⟩ = some (.int .u64 xA) ∧ W'.cell? ⟨ga, 2, none⟩ = some (.int .u64 xL) ∧ W'.cell? ⟨ga, 3, none⟩ = some (.pointer xp) := by
  have kc : ∀ {p : Addr} {v : Value}, W.cell? p = some v → W'.cell? p = some v := fun {p v} h => by rw [hb.cell (World.block_lt_of_cell? W p h)]; exact h
  exact ⟨kc H.1, kc H.2.1, kc H.2.2.1, kc H.2.2.2.1, kc H.2.2.2.2.1, kc H.2.2.2.2.2.1, kc H.2.2.2.2.2.2.1, kc H.2.2.2.2.2.2.2.1, kc H.2.2.2.2.2.2.2.2.1, kc H.2.2.2.2.2.2.2.2.2.1, kc H.2.2.2.2.2.2.2.2.2.2.1, kc H.2.2.2.2.2.2.2.2.2.2.2.1, kc H.2.2.2.2.2.2.2.2.2.2.2.2.1, kc H.2.2.2.2.2.2.2.2.2.2.2.2.2.1, kc H.2.2.2.2.2.2.2.2.2.2.2.2.2.2.1, kc H.2.2.2.2.2.2.2.2.2.2.2.2.2.2.2.1, kc H.2.2.2.2.2.2.2.2.2.2.2.2.2.2.2.2.1, kc H.2.2.2.2.2.2.2.2.2.2.2.2.2.2.2.2.2.1, kc H.2.2.2.2.2.2.2.2.2.2.2.2.2.2.2.2.2.2.1, kc H.2.2.2.2.2.2.2.2.2.2.2.2.2.2.2.2.2.2.2⟩
/-- The number p in the block g. -/
structure Bx (w : World) (g : Nat) (p : Nm) (xb : Bool) (xA xL : Int) (xp : Option Addr) : Prop where
  box : w.heap[g]? = some (.cells #[.bool xb, .int .u64 xA, .int .u64 xL, .pointer xp] 28)
  is : IsR w (.agg #[.bool xb, .int .u64 xA, .int .u64 xL, .pointer xp]) p
theorem Bx.new {w : World} {p : Nm} {xb : Bool} {xA xL : Int} {xp : Option Addr} (h : IsR w (.agg #[.bool xb, .int .u64 xA, .int .u64 xL, .pointer xp]) p) : Bx (w.alloc (.cells #[.bool xb, .int .u64 xA, .int .u64 xL, .pointer xp] 28)) w.heap.size p xb xA xL xp :=
  ⟨heap_alloc_new _ _, h.below ((Below.refl _ _).alloc (Nat.le_refl _) _)⟩
theorem Bx.set {w : World} {g : Nat} {p : Nm} {xb : Bool} {xA xL : Int} {xp : Option Addr} (h : IsR w (.agg #[.bool xb, .int .u64 xA, .int .u64 xL, .pointer xp]) p) (hk : w.heap[g]? = some (.cells #[.bool false, .int .u64 0, .int .u64 0, .pointer none] 28)) : Bx ((((w.setCell ⟨g, 0, none⟩ (.bool xb)).setCell ⟨g, 1, none⟩ (.int .u64 xA)).setCell ⟨g, 2, none⟩ (.int .u64 xL)).setCell ⟨g, 3, none⟩ (.pointer xp)) g p xb xA xL xp :=
  ⟨sto4_box hk _ _ _ _, h.offP (plain4 hk) (sto4_off w g _ _ _ _).1 (sto4_off w g _ _ _ _).2⟩
theorem Bx.below {w w' : World} {g : Nat} {p : Nm} {xb : Bool} {xA xL : Int} {xp : Option Addr} (h : Bx w g p xb xA xL xp) (hb : Below w.heap.size w w') : Bx w' g p xb xA xL xp := ⟨box_kept h.box hb (in_heap h.box), h.is.below hb⟩
theorem Bx.cells {w : World} {g : Nat} {p : Nm} {xb : Bool} {xA xL : Int} {xp : Option Addr} (h : Bx w g p xb xA xL xp) : w.cell? ⟨g, 0, none⟩ = some (.bool xb) ∧ w.cell? ⟨g, 1, none⟩ = some (.int .u64 xA) ∧ w.cell? ⟨g, 2, none⟩ = some (.int .u64 xL) ∧ w.cell? ⟨g, 3, none⟩ = some (.pointer xp) := by
  have dd := cell_at h.box
  exact ⟨dd 0 _ rfl, dd 1 _ rfl, dd 2 _ rfl, dd 3 _ rfl⟩
/-- Broken so far. -/
def brk (b : Bool) (C : Nat → Int) : Nat → Bool
  | 0 => b
  | k + 1 => brk b C k || decide (0 < C k)
theorem brk_yes {b : Bool} {C : Nat → Int} (n : Nat) (h : b = true ∨ ∃ k, k < n ∧ 0 < C k) : brk b C n = true := by
  induction n with
  | zero =>
    rcases h with h | ⟨k, hk, _⟩
    · exact h
    · omega
  | succ n ih =>
    unfold brk
    rcases h with h | ⟨k, hk, h⟩
    · rw [ih (.inl h)]; rfl
    · by_cases e : k = n
      · subst e; rw [decide_eq_true h, Bool.or_true]
      · rw [ih (.inr ⟨k, by omega, h⟩)]; rfl
theorem half_any (W : World) : Calls Try.prog 38 #[.int .i64 1, .int .i64 2] W fun e w' => ∃ v, e = .returned (.tuple #[v, .bool true]) ∧ IsR w' v halfM ∧ Below W.heap.size W w' := by
  refine (frac_any 1 2 W (by decide) (by decide) (by decide) (by decide) (by decide)).mono ?_
  rintro e w' ⟨v, rfl, h, hb⟩
  exact ⟨v, rfl, h, hb⟩
theorem a_abs {v : Value} {p : Nm} {w : World} (h : IsR w v p) : Calls Try.prog 40 #[v] w fun e w' => ∃ v', e = .returned v' ∧ IsR w' v' (absM p) ∧ Below w.heap.size w w' := abs_any v _ _ _ w h
theorem a_sign {v : Value} {p : Nm} {w : World} (h : IsR w v p) : Calls Try.prog 37 #[v] w fun e w' => e = .returned (.int .i64 (sgnM p)) ∧ Below w.heap.size w w' := sign_any v _ _ _ w h
theorem one_choose (va vb : Value) (K1 K2 : Nat) (E F : Nat → Nm × Nm) (w : World) (h1 : RD w va K1 E) (h2 : RD w vb K2 F) (hK : K1 ≤ 12) :
    ∃ res : Option Nm, (∀ m, res = some m → K1 = K2 ∧ cho E F K1 = some m ∧ Fits m 1026) ∧ (∀ W, Below w.heap.size w W → Calls Try.prog 35 #[va, vb] W fun e w' => ∃ v, e = .returned (.tuple #[v, .int .i64 (if res.isSome then 0 else 4)]) ∧ IsR w' v (res.getD (intM 0)) ∧ Below W.heap.size W w') := by
  by_cases h : K1 = K2
  · subst h
    refine ⟨cho E F K1, fun m hm => ⟨rfl, hm, ?_⟩, fun W hW => choose_any va vb K1 E F W (h1.below hW) (h2.below hW) (by omega)⟩
    obtain ⟨_, _, _, f1, _⟩ := h1
    obtain ⟨_, _, _, f2, _⟩ := h2
    exact cho_fits f1 f2 K1 (Nat.le_refl _) m hm
  · obtain ⟨o1, c1, rfl, _⟩ := h1
    obtain ⟨o2, c2, rfl, _⟩ := h2
    exact ⟨none, (fun m e => by cases e), fun W _ => choose_ne o1 o2 K1 c1 K2 c2 W h⟩
theorem f_abs {p : Nm} {k : Nat} (h : Fits p k) : Fits (absM p) k := h
theorem f_at {p : Nm × Nm} {e : Nm} {k : Nat} (hk : 256 ≤ k) (hp : Fits p.1 256 ∧ Fits p.2 256) (he : Fits e k) : Fits (atM p e) (4 * k + 1) :=
  (fits_add (k := 2 * k) (hp.1.more (by omega)) (fits_mul (hp.2.more hk) he)).more (by omega)
set_option maxRecDepth 20000 in
set_option maxHeartbeats 8000000 in
theorem law (v1 v2 : Value) (xx2 : Bool) (SA2 SB2 : Value) (w : World)
    (cL : ∀ W, Below w.heap.size w W → Calls Try.prog 34 #[v1, v2] W fun e w' => ∃ E F va vb vc vd K1 K2, e = .returned (.tuple #[va, vb, vc, vd]) ∧ RD w' va K1 E ∧ RD w' vb K2 F ∧ RE w' vc K1 E ∧ RE w' vd K2 F ∧ K1 ≤ 12 ∧ Below W.heap.size W w')
    (cB : ∀ W, Below w.heap.size w W → Calls Try.prog 8 #[.agg #[.bool xx2, SA2, SB2]] W fun e w' => ∃ v q p, e = .returned (.tuple #[v, q]) ∧ IsR w' v p ∧ IsQ w' q p ∧ Fits p 256 ∧ Below W.heap.size W w') :
    Calls Try.prog 7 #[v1, v2, .agg #[.bool xx2, SA2, SB2]] w fun e w' => e = .returned (.bool true) ∧ Below w.heap.size w w' := by
  obtain ⟨W0, eW0, hb0, k0⟩ := one_new w (.cells #[.bool xx2, SA2, SB2] 24)
  have EW : Hid (_ = W0) := eW0
  have C0 : Hid (Below w.heap.size w W0) := hb0
  have HN0 : Hid (W0.heap[w.heap.size]? = some (.cells #[.bool xx2, SA2, SB2] 24)) := k0
  have cL0 := cL W0 hb0
  clear eW0 hb0 k0 cL
  go_enter Try.func7, Try.ntmps7
  go_upto_region 1 with fail
  rw [EW.out]
  clear EW
  go_upto_region 2 with (go_at_call 34; refine cL0.mono ?_; rintro e w1 ⟨E, F, va, vb, vc, vd, K1, K2, rfl, h1, h2, _, _, hK, hb1⟩)
  obtain ⟨res, hres, c1⟩ := one_choose va vb K1 K2 E F w1 h1 h2 hK
  have C1 : Hid (Below w.heap.size w w1) := bt C0.out hb1
  have HN1 : Hid (w1.heap[w.heap.size]? = some (.cells #[.bool xx2, SA2, SB2] 24)) := box_kept HN0.out hb1 (in_heap HN0.out)
  clear cL0 C0 HN0 hb1
  rcases res with _ | m
  · clear h1 h2
    simp only [Option.isSome_none, Option.getD_none, Bool.false_eq_true, if_false] at c1
    go_upto_region 3 with (go_at_call 35; refine (c1 _ (Below.refl _ _)).mono ?_; rintro e w2 ⟨x2, rfl, R2, hb2⟩; obtain ⟨b1, A1, L1, p1, rfl⟩ := R2.shape4)
    obtain ⟨W2, eW2, B2, k2⟩ := one_new w2 (.cells #[.bool b1, .int .u64 A1, .int .u64 L1, .pointer p1] 28)
    rw [eW2]
    have CC := bt C1.out (bt hb2 B2)
    clear eW2 k2 R2 c1 HN1
    go_wp2_with (go_at_call 18; refine (awake7 _).mono ?_; rintro e w4 ⟨rfl, hb4⟩)
    all_goals go_ret
    all_goals exact ⟨rfl, bt CC hb4⟩
  · obtain ⟨rfl, hcho, fm⟩ := hres m rfl
    simp only [Option.isSome_some, Option.getD_some, if_true] at c1
    obtain ⟨o1, cp1, rfl, fE, hE⟩ := h1
    obtain ⟨o2, cp2, rfl, fF, hF⟩ := h2
    have HR : Hid ((0 < K1 → _) ∧ (0 < K1 → _)) := ⟨hE, hF⟩
    have HF : Hid ((∀ k, k < K1 → Fits (E k).1 256 ∧ Fits (E k).2 256) ∧ (∀ k, k < K1 → Fits (F k).1 256 ∧ Fits (F k).2 256)) := ⟨fE, fF⟩
    have HC : Hid (cho E F K1 = some m ∧ Fits m 1026) := ⟨hcho, fm⟩
    clear hE hF fE fF hcho fm hres
    go_upto_region 3 with (go_at_call 35; refine (c1 _ (Below.refl _ _)).mono ?_; rintro e w2 ⟨x2, rfl, R2, hb2⟩; obtain ⟨rb, rA, rL, rp, rfl⟩ := R2.shape4)
    obtain ⟨W2, eW2, B2, k2⟩ := one_new w2 (.cells #[.bool rb, .int .u64 rA, .int .u64 rL, .pointer rp] 28)
    rw [eW2]
    have BB := bt hb2 B2
    have C2 : Hid (Below w.heap.size w W2) := bt C1.out BB
    have L2 : Hid (Below w1.heap.size w1 W2) := BB
    have HN2 : Hid (W2.heap[w.heap.size]? = some (.cells #[.bool xx2, SA2, SB2] 24)) := box_kept HN1.out BB (in_heap HN1.out)
    obtain ⟨gr, egr⟩ : ∃ x, w2.heap.size = x := ⟨_, rfl⟩
    rw [egr] at k2 ⊢
    have Br2 : Hid (Bx W2 gr m rb rA rL rp) := ⟨k2, R2.below B2⟩
    clear eW2 k2 R2 c1 BB hb2 B2 egr C1 HN1
    go_upto_region 8 with (go_at_call 38; refine (half_any _).mono ?_; rintro e w3 ⟨x3, rfl, R3, hb3⟩; obtain ⟨hb, hA, hL, hp, rfl⟩ := R3.shape4)
    obtain ⟨W3, eW3, B3, k3⟩ := one_new w3 (.cells #[.bool hb, .int .u64 hA, .int .u64 hL, .pointer hp] 28)
    rw [eW3]
    have BB := bt hb3 B3
    have C3 : Hid (Below w.heap.size w W3) := bt C2.out BB
    have L3 : Hid (Below w1.heap.size w1 W3) := bt L2.out BB
    have HN3 := box_kept HN2.out BB (in_heap HN2.out)
    obtain ⟨gh, egh⟩ : ∃ x, w3.heap.size = x := ⟨_, rfl⟩
    rw [egh] at k3 ⊢
    have Bh3 : Hid (Bx W3 gh halfM hb hA hL hp) := ⟨k3, R3.below B3⟩
    have Br3 : Hid (Bx W3 gr m rb rA rL rp) := Br2.out.below BB
    have cc := cB W3 C3.out
    have e0 := cell_at HN3
    have ha0 : W3.cell? ⟨w.heap.size, 0, none⟩ = some (.bool xx2) := e0 0 _ rfl
    have ha1 : W3.cell? ⟨w.heap.size, 1, none⟩ = some SA2 := e0 1 _ rfl
    have ha2 : W3.cell? ⟨w.heap.size, 2, none⟩ = some SB2 := e0 2 _ rfl
    clear eW3 k3 R3 BB hb3 B3 egh C2 L2 HN2 Br2 e0 HN3 cB
    go_upto_region 9 with (go_at_call 8; refine cc.mono ?_; rintro e w4 ⟨x4, y4, u, rfl, R4, Q4, fu, hb4⟩; obtain ⟨ub, uA, uL, up, rfl⟩ := R4.shape4; obtain ⟨bq8, o8, l8, c8, r8, m8, z8, rfl⟩ := Q4.shape3)
    obtain ⟨W4, eW4, B4, kx, kp⟩ := two_new w4 (.cells #[.bool ub, .int .u64 uA, .int .u64 uL, .pointer up] 28) (.cells #[.bool bq8, .slice o8 l8 c8, .slice r8 m8 z8] 31)
    rw [eW4]
    have BB := bt hb4 B4
    have C4 : Hid (Below w.heap.size w W4) := bt C3.out BB
    have L4 : Hid (Below w1.heap.size w1 W4) := bt L3.out BB
    obtain ⟨gu, egu⟩ : ∃ x, w4.heap.size = x := ⟨_, rfl⟩
    rw [egu] at kx ⊢
    have Bu4 : Hid (Bx W4 gu u ub uA uL up) := ⟨kx, R4.below B4⟩
    have Bh4 : Hid (Bx W4 gh halfM hb hA hL hp) := Bh3.out.below BB
    have Br4 : Hid (Bx W4 gr m rb rA rL rp) := Br3.out.below BB
    have HU : Hid (Fits u 256) := fu
    clear eW4 kx kp R4 Q4 BB hb4 B4 egu C3 L3 Bh3 Br3 cc ha0 ha1 ha2 fu
    have hlow : Hid (0 < sgnM m ∧ ∀ k, k < K1 → ¬ 0 < cmpM (atM (E k) m) (atM (F k) m) ∧ ¬ 0 < cmpM (atM (E k) (mulM m halfM)) (atM (F k) (mulM m halfM))) :=
      low_ok (fun k hk => ⟨(HF.out.1 k hk).1.1, (HF.out.1 k hk).2.1⟩) (fun k hk => ⟨(HF.out.2 k hk).1.1, (HF.out.2 k hk).2.1⟩) HC.out.1
    have hbig : Hid (u.n ≠ 0 → ¬ 0 < cmpM (addM m (absM u)) (intM 1) → ∃ k, k < K1 ∧ 0 < cmpM (atM (E k) (addM m (absM u))) (atM (F k) (addM m (absM u)))) :=
      fun hn h1 => big_no (fun k hk => ⟨(HF.out.1 k hk).1.1, (HF.out.1 k hk).2.1⟩) (fun k hk => ⟨(HF.out.2 k hk).1.1, (HF.out.2 k hk).2.1⟩) HC.out.1 HU.out.1 hn h1
    have s0 : W4.drew.cell? ⟨gr, 0, none⟩ = some (.bool rb) ∧ W4.drew.cell? ⟨gr, 1, none⟩ = some (.int .u64 rA) ∧ W4.drew.cell? ⟨gr, 2, none⟩ = some (.int .u64 rL) ∧ W4.drew.cell? ⟨gr, 3, none⟩ = some (.pointer rp) ∧ W4.drew.cell? ⟨gu, 0, none⟩ = some (.bool ub) ∧ W4.drew.cell? ⟨gu, 1, none⟩ = some (.int .u64 uA) ∧ W4.drew.cell? ⟨gu, 2, none⟩ = some (.int .u64 uL) ∧ W4.drew.cell? ⟨gu, 3, none⟩ = some (.pointer up) := ⟨Br4.out.cells.1, Br4.out.cells.2.1, Br4.out.cells.2.2.1, Br4.out.cells.2.2.2, Bu4.out.cells.1, Bu4.out.cells.2.1, Bu4.out.cells.2.2.1, Bu4.out.cells.2.2.2⟩
    have s0z : (W4.drew.alloc (.cells #[.bool false, .int .u64 0, .int .u64 0, .pointer none] 28)).cell? ⟨gr, 0, none⟩ = some (.bool rb) ∧ (W4.drew.alloc (.cells #[.bool false, .int .u64 0, .int .u64 0, .pointer none] 28)).cell? ⟨gr, 1, none⟩ = some (.int .u64 rA) ∧ (W4.drew.alloc (.cells #[.bool false, .int .u64 0, .int .u64 0, .pointer none] 28)).cell? ⟨gr, 2, none⟩ = some (.int .u64 rL) ∧ (W4.drew.alloc (.cells #[.bool false, .int .u64 0, .int .u64 0, .pointer none] 28)).cell? ⟨gr, 3, none⟩ = some (.pointer rp) ∧ (W4.drew.alloc (.cells #[.bool false, .int .u64 0, .int .u64 0, .pointer none] 28)).cell? ⟨gu, 0, none⟩ = some (.bool ub) ∧ (W4.drew.alloc (.cells #[.bool false, .int .u64 0, .int .u64 0, .pointer none] 28)).cell? ⟨gu, 1, none⟩ = some (.int .u64 uA) ∧ (W4.drew.alloc (.cells #[.bool false, .int .u64 0, .int .u64 0, .pointer none] 28)).cell? ⟨gu, 2, none⟩ = some (.int .u64 uL) ∧ (W4.drew.alloc (.cells #[.bool false, .int .u64 0, .int .u64 0, .pointer none] 28)).cell? ⟨gu, 3, none⟩ = some (.pointer up) := new8 _ s0
    have s0v : ((W4.alloc (.cells #[.bool false, .int .u64 0, .int .u64 0, .pointer none] 28)).drew).cell? ⟨gr, 0, none⟩ = some (.bool rb) ∧ ((W4.alloc (.cells #[.bool false, .int .u64 0, .int .u64 0, .pointer none] 28)).drew).cell? ⟨gr, 1, none⟩ = some (.int .u64 rA) ∧ ((W4.alloc (.cells #[.bool false, .int .u64 0, .int .u64 0, .pointer none] 28)).drew).cell? ⟨gr, 2, none⟩ = some (.int .u64 rL) ∧ ((W4.alloc (.cells #[.bool false, .int .u64 0, .int .u64 0, .pointer none] 28)).drew).cell? ⟨gr, 3, none⟩ = some (.pointer rp) ∧ ((W4.alloc (.cells #[.bool false, .int .u64 0, .int .u64 0, .pointer none] 28)).drew).cell? ⟨gu, 0, none⟩ = some (.bool ub) ∧ ((W4.alloc (.cells #[.bool false, .int .u64 0, .int .u64 0, .pointer none] 28)).drew).cell? ⟨gu, 1, none⟩ = some (.int .u64 uA) ∧ ((W4.alloc (.cells #[.bool false, .int .u64 0, .int .u64 0, .pointer none] 28)).drew).cell? ⟨gu, 2, none⟩ = some (.int .u64 uL) ∧ ((W4.alloc (.cells #[.bool false, .int .u64 0, .int .u64 0, .pointer none] 28)).drew).cell? ⟨gu, 3, none⟩ = some (.pointer up) := new8 _ s0
    have hwV : Below W4.heap.size W4 ((W4.alloc (.cells #[.bool false, .int .u64 0, .int .u64 0, .pointer none] 28)).drew) := ((Below.refl _ _).alloc (Nat.le_refl _) _).drew
    have kv : ((W4.alloc (.cells #[.bool false, .int .u64 0, .int .u64 0, .pointer none] 28)).drew).heap[W4.heap.size]? = some (.cells #[.bool false, .int .u64 0, .int .u64 0, .pointer none] 28) := heap_alloc_new W4 _
    have ltv := in_heap kv
    have hwD : Below W4.heap.size W4 W4.drew := (Below.refl _ _).drew
    have hwZ : Below W4.heap.size W4 (W4.drew.alloc (.cells #[.bool false, .int .u64 0, .int .u64 0, .pointer none] 28)) := hwD.alloc (Nat.le_refl _) _
    have kz : (W4.drew.alloc (.cells #[.bool false, .int .u64 0, .int .u64 0, .pointer none] 28)).heap[W4.heap.size]? = some (.cells #[.bool false, .int .u64 0, .int .u64 0, .pointer none] 28) := heap_alloc_new W4.drew _
    have ltz := in_heap kz
    have nR : gr ≠ W4.heap.size ∧ gu ≠ W4.heap.size := ⟨Nat.ne_of_lt (in_heap Br4.out.box), Nat.ne_of_lt (in_heap Bu4.out.box)⟩
    have nR2 : ∀ W : World, Below W4.heap.size W4 W → gr ≠ W.heap.size ∧ gu ≠ W.heap.size := fun W h => ⟨Nat.ne_of_lt (Nat.lt_of_lt_of_le (in_heap Br4.out.box) h.size), Nat.ne_of_lt (Nat.lt_of_lt_of_le (in_heap Bu4.out.box) h.size)⟩
    have cA := fun (W : World) (h : Below W4.heap.size W4 W) => a_abs (Bu4.out.is.below h)
    have cS := fun (W : World) (v : Value) (h : Below W4.heap.size W4 W) (h2 : IsR W v (absM u)) => a_add (k := 1026) (by omega) (Br4.out.is.below h) h2 HC.out.2 ((f_abs HU.out).more (by omega))
    go_cut [17] from 51 to 54 (fun v17 wx => ∃ (gb : Nat) (bb : Bool) (bA bL : Int) (bp : Option Addr), v17 = .pointer (some ⟨gb, 0, none⟩) ∧ Hid (Bx wx gb (addM m (absM u)) bb bA bL bp) ∧ Hid (Below W4.heap.size W4 wx))
    case first =>
      clear hlow hbig HR HF HC HU C4 L4 Br4 Bh4 Bu4
      go_region_held3 (fun w' => w'.cell? ⟨gr, 0, none⟩ = some (.bool rb) ∧ w'.cell? ⟨gr, 1, none⟩ = some (.int .u64 rA) ∧ w'.cell? ⟨gr, 2, none⟩ = some (.int .u64 rL) ∧ w'.cell? ⟨gr, 3, none⟩ = some (.pointer rp) ∧ w'.cell? ⟨gu, 0, none⟩ = some (.bool ub) ∧ w'.cell? ⟨gu, 1, none⟩ = some (.int .u64 uA) ∧ w'.cell? ⟨gu, 2, none⟩ = some (.int .u64 uL) ∧ w'.cell? ⟨gu, 3, none⟩ = some (.pointer up)) (first | with_reducible exact s0 | with_reducible exact s0z | with_reducible exact s0v | with_reducible exact s1 | with_reducible exact s1z | with_reducible exact s2 | with_reducible exact new8 _ s2 | with_reducible exact set8 nx _ _ _ _ s2) (first
        | (go_at_call 40; refine (cA _ ?_).mono ?_; (first | with_reducible exact hwD | with_reducible exact hwZ | with_reducible exact hwV); rintro e wa ⟨x5, rfl, R5, hba⟩; (first | with_reducible have Ha := bt hwD hba | with_reducible have Ha := bt hwZ hba | with_reducible have Ha := bt hwV hba); (first | with_reducible have s1 := keep8 hba s0 | with_reducible have s1 := keep8 hba s0z | with_reducible have s1 := keep8 hba s0v); obtain ⟨ab, aA, aL, ap, rfl⟩ := R5.shape4; have s1z := new8 (.cells #[.bool false, .int .u64 0, .int .u64 0, .pointer none] 28) s1; have Hy : Below W4.heap.size W4 (wa.alloc (.cells #[.bool false, .int .u64 0, .int .u64 0, .pointer none] 28)) := Ha.alloc Ha.size _; have R5y := R5.below ((Below.refl _ _).alloc (Nat.le_refl _) (.cells #[.bool false, .int .u64 0, .int .u64 0, .pointer none] 28)); have ky : (wa.alloc (.cells #[.bool false, .int .u64 0, .int .u64 0, .pointer none] 28)).heap[wa.heap.size]? = some (.cells #[.bool false, .int .u64 0, .int .u64 0, .pointer none] 28) := heap_alloc_new wa _; have lty := in_heap ky; have nY := nR2 _ Ha; (first | with_reducible have kr := box_kept kz hba ltz | with_reducible have kr := box_kept kv hba ltv | skip))
        | (go_at_call 39; refine (cS _ _ ?_ ?_).mono ?_; (first | with_reducible exact Ha | with_reducible exact Hy); (first | with_reducible exact R5 | with_reducible exact R5y); rintro e wb ⟨x6, rfl, R6, hbb⟩; (first | with_reducible have Hb := bt Ha hbb | with_reducible have Hb := bt Hy hbb); (first | with_reducible have s2 := keep8 hbb s1 | with_reducible have s2 := keep8 hbb s1z); obtain ⟨bb, bA, bL, bp, rfl⟩ := R6.shape4; (first | (with_reducible have kr2 := box_kept kr hbb (in_heap kr); have nx := nR; have lx : W4.heap.size ≤ W4.heap.size := Nat.le_refl _; have dd := cell_at kr2; have d0 : wb.cell? ⟨W4.heap.size, 0, none⟩ = some (.bool false) := dd 0 _ rfl; have d1 : wb.cell? ⟨W4.heap.size, 1, none⟩ = some (.int .u64 0) := dd 1 _ rfl; have d2 : wb.cell? ⟨W4.heap.size, 2, none⟩ = some (.int .u64 0) := dd 2 _ rfl; have d3 : wb.cell? ⟨W4.heap.size, 3, none⟩ = some (.pointer none) := dd 3 _ rfl; have ff := nofreeze kr2; clear dd) | (with_reducible have kr2 := box_kept ky hbb lty; have nx := nY; have lx := Ha.size; have dd := cell_at kr2; have d0 : wb.cell? ⟨wa.heap.size, 0, none⟩ = some (.bool false) := dd 0 _ rfl; have d1 : wb.cell? ⟨wa.heap.size, 1, none⟩ = some (.int .u64 0) := dd 1 _ rfl; have d2 : wb.cell? ⟨wa.heap.size, 2, none⟩ = some (.int .u64 0) := dd 2 _ rfl; have d3 : wb.cell? ⟨wa.heap.size, 3, none⟩ = some (.pointer none) := dd 3 _ rfl; have ff := nofreeze kr2; clear dd) | skip)))
      all_goals go_wp2
      all_goals go_meet
      all_goals first
        | exact ⟨_, bb, bA, bL, bp, rfl, Bx.new R6, Hb.alloc Hb.size _⟩
        | exact ⟨_, bb, bA, bL, bp, rfl, Bx.set R6 kr2, sto4_below Hb lx _ _ _ _⟩
    case rest =>
      obtain ⟨gb, bb, bA, bL, bp, rfl, Bb, HX⟩ := hcut
      have C5 : Hid (Below w.heap.size w wc) := bt C4.out HX.out
      have L5 : Hid (Below w1.heap.size w1 wc) := bt L4.out HX.out
      have Br5 : Hid (Bx wc gr m rb rA rL rp) := Br4.out.below HX.out
      have Bh5 : Hid (Bx wc gh halfM hb hA hL hp) := Bh4.out.below HX.out
      have Bu5 : Hid (Bx wc gu u ub uA uL up) := Bu4.out.below HX.out
      have fbig : Hid (Fits (addM m (absM u)) 2053) := fits_add (k := 1026) HC.out.2 ((f_abs HU.out).more (by omega))
      clear C4 L4 Br4 Bh4 Bu4 HX s0 s0z s0v hwD hwZ hwV kz kv ltz ltv nR nR2 cA cS
      have s0 : wc.drew.cell? ⟨gb, 0, none⟩ = some (.bool bb) ∧ wc.drew.cell? ⟨gb, 1, none⟩ = some (.int .u64 bA) ∧ wc.drew.cell? ⟨gb, 2, none⟩ = some (.int .u64 bL) ∧ wc.drew.cell? ⟨gb, 3, none⟩ = some (.pointer bp) ∧ wc.drew.cell? ⟨gu, 0, none⟩ = some (.bool ub) ∧ wc.drew.cell? ⟨gu, 1, none⟩ = some (.int .u64 uA) ∧ wc.drew.cell? ⟨gu, 2, none⟩ = some (.int .u64 uL) ∧ wc.drew.cell? ⟨gu, 3, none⟩ = some (.pointer up) := ⟨Bb.out.cells.1, Bb.out.cells.2.1, Bb.out.cells.2.2.1, Bb.out.cells.2.2.2, Bu5.out.cells.1, Bu5.out.cells.2.1, Bu5.out.cells.2.2.1, Bu5.out.cells.2.2.2⟩
      have H0 : Below wc.heap.size wc wc.drew := (Below.refl _ _).drew
      have hcv := cmpM_range (addM m (absM u)) (intM 1)
      have cC := fun (W : World) (v : Value) (h : Below wc.heap.size wc W) (h2 : IsR W v (intM 1)) => a_cmp (k := 2053) (by omega) (Bb.out.is.below h) h2 fbig.out ((fits_int 1 (by decide) (by decide)).more (by omega))
      have cG := fun (W : World) (h : Below wc.heap.size wc W) => a_sign (Bu5.out.is.below h)
      obtain ⟨CV, eCV⟩ : ∃ x, cmpM (addM m (absM u)) (intM 1) = x := ⟨_, rfl⟩
      obtain ⟨SG, eSG⟩ : ∃ x, sgnM u = x := ⟨_, rfl⟩
      have hSG : Hid (u.n = 0 → SG = 0) := fun h => by rw [← eSG]; unfold sgnM sgn; rw [if_pos h]
      rw [eCV] at hcv cC hbig
      rw [eSG] at cG
      obtain ⟨big, ebig⟩ : ∃ x, addM m (absM u) = x := ⟨_, rfl⟩
      rw [ebig] at Bb fbig hbig
      clear eCV eSG ebig
      go_upto_region 10 with fail
      go_cut [18] from 55 to 63 (fun v18 wx => ∃ b0 : Bool, v18 = .bool b0 ∧ Hid (u.n = 0 ∨ 0 < CV → b0 = true) ∧ Hid (Below wc.heap.size wc wx))
      case first =>
        clear hlow hbig HR HF HC HU C5 L5 Br5 Bh5 Bu5 Bb fbig
        rcases hcv with rfl | rfl | rfl
        · go_region_held3 (fun w' => w'.cell? ⟨gb, 0, none⟩ = some (.bool bb) ∧ w'.cell? ⟨gb, 1, none⟩ = some (.int .u64 bA) ∧ w'.cell? ⟨gb, 2, none⟩ = some (.int .u64 bL) ∧ w'.cell? ⟨gb, 3, none⟩ = some (.pointer bp) ∧ w'.cell? ⟨gu, 0, none⟩ = some (.bool ub) ∧ w'.cell? ⟨gu, 1, none⟩ = some (.int .u64 uA) ∧ w'.cell? ⟨gu, 2, none⟩ = some (.int .u64 uL) ∧ w'.cell? ⟨gu, 3, none⟩ = some (.pointer up)) (first | with_reducible exact s0 | with_reducible exact sa0 | with_reducible exact sa1 | with_reducible exact sa2) (first
            | (go_at_call 41; refine (a_int 1 _ (by decide) (by decide)).mono ?_; rintro e wa0 ⟨va0, rfl, Ra0, hba0⟩; have Ha0 := bt H0 hba0; have sa0 := keep8 hba0 s0)
            | (go_at_call 16; refine (cC _ _ Ha0 Ra0).mono ?_; rintro e wa1 ⟨rfl, hba1⟩; have Ha1 := bt Ha0 hba1; have sa1 := keep8 hba1 sa0)
            | (go_at_call 37; refine (cG _ Ha1).mono ?_; rintro e wa2 ⟨rfl, hba2⟩; have Ha2 := bt Ha1 hba2; have sa2 := keep8 hba2 sa1))
          all_goals go_wp2
          all_goals go_meet
          all_goals exact ⟨_, rfl, (fun h => by rcases h with h | h; exact decide_eq_true (hSG.out h); omega), Ha2⟩
        · go_region_held3 (fun w' => w'.cell? ⟨gb, 0, none⟩ = some (.bool bb) ∧ w'.cell? ⟨gb, 1, none⟩ = some (.int .u64 bA) ∧ w'.cell? ⟨gb, 2, none⟩ = some (.int .u64 bL) ∧ w'.cell? ⟨gb, 3, none⟩ = some (.pointer bp) ∧ w'.cell? ⟨gu, 0, none⟩ = some (.bool ub) ∧ w'.cell? ⟨gu, 1, none⟩ = some (.int .u64 uA) ∧ w'.cell? ⟨gu, 2, none⟩ = some (.int .u64 uL) ∧ w'.cell? ⟨gu, 3, none⟩ = some (.pointer up)) (first | with_reducible exact s0 | with_reducible exact sb0 | with_reducible exact sb1 | with_reducible exact sb2) (first
            | (go_at_call 41; refine (a_int 1 _ (by decide) (by decide)).mono ?_; rintro e wb0 ⟨vb0, rfl, Rb0, hbb0⟩; have Hb0 := bt H0 hbb0; have sb0 := keep8 hbb0 s0)
            | (go_at_call 16; refine (cC _ _ Hb0 Rb0).mono ?_; rintro e wb1 ⟨rfl, hbb1⟩; have Hb1 := bt Hb0 hbb1; have sb1 := keep8 hbb1 sb0)
            | (go_at_call 37; refine (cG _ Hb1).mono ?_; rintro e wb2 ⟨rfl, hbb2⟩; have Hb2 := bt Hb1 hbb2; have sb2 := keep8 hbb2 sb1))
          all_goals go_wp2
          all_goals go_meet
          all_goals exact ⟨_, rfl, (fun h => by rcases h with h | h; exact decide_eq_true (hSG.out h); omega), Hb2⟩
        · skip
          refine wp_region_held_drew (S := (fun w' => w'.cell? ⟨gb, 0, none⟩ = some (.bool bb) ∧ w'.cell? ⟨gb, 1, none⟩ = some (.int .u64 bA) ∧ w'.cell? ⟨gb, 2, none⟩ = some (.int .u64 bL) ∧ w'.cell? ⟨gb, 3, none⟩ = some (.pointer bp) ∧ w'.cell? ⟨gu, 0, none⟩ = some (.bool ub) ∧ w'.cell? ⟨gu, 1, none⟩ = some (.int .u64 uA) ∧ w'.cell? ⟨gu, 2, none⟩ = some (.int .u64 uL) ∧ w'.cell? ⟨gu, 3, none⟩ = some (.pointer up))) (by kernel_rfl) ?_ (fun hHeld => ?_)
          · exact s0
          refine wpAnyH_take (i := 0) (oi := { dst := some 55, op := Op.load 28 (Operand.tmp 17), type := 28, pos := "law.go:88", after := #[], guard := none }) (v := ?vy0) rfl (by kernel_rfl) (by kernel_rfl) (by kernel_rfl) (fun _ _ _ h => h) (Or.inl ⟨by rfl, ?hyy0⟩) hHeld ?resty0
          case hyy0 =>
            intro w hSw
            (try dsimp only at hSw)
            first | (go_simp; done) | (go_simp; with_reducible rfl) | with_reducible rfl | rfl
          simp only [Act.put, List.setIfInBounds_toArray, List.set_cons_zero, List.set_cons_succ]
          refine wpAnyH_ready (rs := [1]) (by kernel_rfl) (by simp) ?_
          refine AllReadyH.cons (o := { dst := some 56, op := Op.call { callee := Callee.value (Operand.func 41), args := #[Operand.const (Value.int IntKind.i64 1)], argTypes := #[3] }, type := 28, pos := "law.go:88", after := #[], guard := none }) rfl (fun K hK => ?_) AllReadyH.nil
          go_simp
          (go_at_call 41; refine (a_int 1 _ (by decide) (by decide)).mono ?_; rintro e wd ⟨v7, rfl, R7, hb7⟩; have H7 := bt H0 hb7; have s1 := keep8 hb7 s0)
          first | go_wp2 | skip
          refine hK.out _ _ ?_ (fun hHeld2 => ?_)
          · exact s1
          clear hK K hHeld
          have hHeld := hHeld2
          clear hHeld2
          refine wpAnyH_ready (rs := [2]) (by kernel_rfl) (by simp) ?_
          refine AllReadyH.cons (o := { dst := some 57, op := Op.call { callee := Callee.value (Operand.func 16), args := #[Operand.tmp 55, Operand.tmp 56], argTypes := #[28, 28] }, type := 3, pos := "law.go:88", after := #[{ on := 0, ground := Ground.data }, { on := 1, ground := Ground.data }, { on := 1, ground := Ground.chain }], guard := none }) rfl (fun K hK => ?_) AllReadyH.nil
          go_simp
          (go_at_call 16; refine (cC _ _ H7 R7).mono ?_; rintro e we ⟨rfl, hb8⟩; have H8 := bt H7 hb8; have s2 := keep8 hb8 s1)
          first | go_wp2 | skip
          refine hK.out _ _ ?_ (fun hHeld2 => ?_)
          · exact s2
          clear hK K hHeld
          have hHeld := hHeld2
          clear hHeld2
          refine wpAnyH_take (i := 3) (oi := { dst := some 58, op := Op.binOp BinOp.gtr 3 (Operand.tmp 57) (Operand.const (Value.int IntKind.i64 0)) 3, type := 4, pos := "law.go:88", after := #[{ on := 2, ground := Ground.data }], guard := none }) (v := ?vy3) rfl (by kernel_rfl) (by kernel_rfl) (by kernel_rfl) (fun _ _ _ h => h) (Or.inl ⟨by rfl, ?hyy3⟩) hHeld ?resty3
          case hyy3 =>
            intro w hSw
            (try dsimp only at hSw)
            first | (go_simp; done) | (go_simp; with_reducible rfl) | with_reducible rfl | rfl
          simp only [Act.put, List.setIfInBounds_toArray, List.set_cons_zero, List.set_cons_succ]
          refine wpAnyH_take (i := 4) (oi := { dst := some 59, op := Op.move (Operand.tmp 58), type := 4, pos := "law.go:88", after := #[{ on := 3, ground := Ground.data }, { on := 2, ground := Ground.chain }], guard := none }) (v := ?vy4) rfl (by kernel_rfl) (by kernel_rfl) (by kernel_rfl) (fun _ _ _ h => h) (Or.inl ⟨by rfl, ?hyy4⟩) hHeld ?resty4
          case hyy4 =>
            intro w hSw
            (try dsimp only at hSw)
            first | (go_simp; done) | (go_simp; with_reducible rfl) | with_reducible rfl | rfl
          simp only [Act.put, List.setIfInBounds_toArray, List.set_cons_zero, List.set_cons_succ]
          refine wpAnyH_take (i := 5) (oi := { dst := some 60, op := Op.load 28 (Operand.tmp 15), type := 28, pos := "law.go:88", after := #[{ on := 4, ground := Ground.guard }], guard := some (4, false) }) (v := undef) rfl (by kernel_rfl) (by kernel_rfl) (by kernel_rfl) (fun _ _ _ h => h) (Or.inr ⟨by rfl, rfl⟩) hHeld ?resty5
          simp only [Act.put, List.setIfInBounds_toArray, List.set_cons_zero, List.set_cons_succ]
          refine wpAnyH_take (i := 6) (oi := { dst := some 61, op := Op.call { callee := Callee.value (Operand.func 37), args := #[Operand.tmp 60], argTypes := #[28] }, type := 3, pos := "law.go:88", after := #[{ on := 5, ground := Ground.data }, { on := 4, ground := Ground.chain }, { on := 4, ground := Ground.guard }], guard := some (4, false) }) (v := undef) rfl (by kernel_rfl) (by kernel_rfl) (by kernel_rfl) (fun _ _ _ h => h) (Or.inr ⟨by rfl, rfl⟩) hHeld ?resty6
          simp only [Act.put, List.setIfInBounds_toArray, List.set_cons_zero, List.set_cons_succ]
          refine wpAnyH_take (i := 7) (oi := { dst := some 62, op := Op.binOp BinOp.eql 3 (Operand.tmp 61) (Operand.const (Value.int IntKind.i64 0)) 3, type := 4, pos := "law.go:88", after := #[{ on := 6, ground := Ground.data }, { on := 4, ground := Ground.guard }], guard := some (4, false) }) (v := undef) rfl (by kernel_rfl) (by kernel_rfl) (by kernel_rfl) (fun _ _ _ h => h) (Or.inr ⟨by rfl, rfl⟩) hHeld ?resty7
          simp only [Act.put, List.setIfInBounds_toArray, List.set_cons_zero, List.set_cons_succ]
          refine wpAnyH_take (i := 8) (oi := { dst := some 63, op := Op.pick (Operand.tmp 59) (Operand.const (Value.bool true)) (Operand.tmp 62), type := 4, pos := "law.go:88", after := #[{ on := 4, ground := Ground.data }, { on := 7, ground := Ground.data }], guard := none }) (v := ?vy8) rfl (by kernel_rfl) (by kernel_rfl) (by kernel_rfl) (fun _ _ _ h => h) (Or.inl ⟨by rfl, ?hyy8⟩) hHeld ?resty8
          case hyy8 =>
            intro w hSw
            (try dsimp only at hSw)
            first | (go_simp; done) | (go_simp; with_reducible rfl) | with_reducible rfl | rfl
          simp only [Act.put, List.setIfInBounds_toArray, List.set_cons_zero, List.set_cons_succ]
          refine wpAnyH_take (i := 9) (oi := { dst := some 18, op := Op.assign (Operand.tmp 63), type := 4, pos := "law.go:88", after := #[{ on := 8, ground := Ground.data }, { on := 6, ground := Ground.chain }, { on := 0, ground := Ground.phase }, { on := 1, ground := Ground.phase }, { on := 2, ground := Ground.phase }, { on := 3, ground := Ground.phase }, { on := 4, ground := Ground.phase }, { on := 5, ground := Ground.phase }, { on := 6, ground := Ground.phase }, { on := 7, ground := Ground.phase }, { on := 8, ground := Ground.phase }], guard := none }) (v := ?vy9) rfl (by kernel_rfl) (by kernel_rfl) (by kernel_rfl) (fun _ _ _ h => h) (Or.inl ⟨by rfl, ?hyy9⟩) hHeld ?resty9
          case hyy9 =>
            intro w hSw
            (try dsimp only at hSw)
            first | (go_simp; done) | (go_simp; with_reducible rfl) | with_reducible rfl | rfl
          simp only [Act.put, List.setIfInBounds_toArray, List.set_cons_zero, List.set_cons_succ]
          refine wpAnyH_done (by kernel_rfl) ?_ _
          go_wp2
          go_meet
          exact ⟨_, rfl, (fun _ => rfl), H8⟩
      case rest =>
        obtain ⟨b0, rfl, hb0, HX⟩ := hcut
        have C6 : Hid (Below w.heap.size w wc) := bt C5.out HX.out
        have L6 : Hid (Below w1.heap.size w1 wc) := bt L5.out HX.out
        have Br6 : Hid (Bx wc gr m rb rA rL rp) := Br5.out.below HX.out
        have Bh6 : Hid (Bx wc gh halfM hb hA hL hp) := Bh5.out.below HX.out
        have Bb6 : Hid (Bx wc gb big bb bA bL bp) := Bb.out.below HX.out
        have hend : Hid (brk b0 (fun k => cmpM (atM (E k) big) (atM (F k) big)) K1 = true) := by
          apply brk_yes
          by_cases h1 : u.n = 0
          · exact .inl (hb0.out (.inl h1))
          · by_cases h2 : 0 < CV
            · exact .inl (hb0.out (.inr h2))
            · exact .inr (hbig.out h1 h2)
        obtain ⟨CB, eCB⟩ : ∃ f : Nat → Int, (fun k => cmpM (atM (E k) big) (atM (F k) big)) = f := ⟨_, rfl⟩
        rw [eCB] at hend
        have HCB : Hid (∀ k, cmpM (atM (E k) big) (atM (F k) big) = CB k) := fun k => by rw [← eCB]
        clear C5 L5 Br5 Bh5 Bu5 Bb HX s0 H0 cC cG hcv hSG hb0 hbig eCB HU
        go_wp2
        go_loopw [18, 66] (fun sb iv wr => ∃ (k : Nat) (bk : Bool), k ≤ K1 ∧ sb = .bool bk ∧ iv = .int .i64 (k : Int) ∧ Hid (bk = brk b0 CB k) ∧ Hid (Below wc.heap.size wc wr)) (fun _ iv _ => K1 - (intOf iv).toNat)
        case atStart => exact ⟨0, b0, Nat.zero_le _, rfl, rfl, rfl, Below.refl _ _⟩
        case round =>
          obtain ⟨k, bk, hk, rfl, rfl, HK, HB⟩ := hrel
          have Cr : Hid (Below w.heap.size w wr) := bt C6.out HB.out
          have Lr : Hid (Below w1.heap.size w1 wr) := bt L6.out HB.out
          have Brr : Hid (Bx wr gr m rb rA rL rp) := Br6.out.below HB.out
          have Bhr : Hid (Bx wr gh halfM hb hA hL hp) := Bh6.out.below HB.out
          have Bbr : Hid (Bx wr gb big bb bA bL bp) := Bb6.out.below HB.out
          by_cases hlt : k < K1
          · obtain ⟨g1, f1, rfl, hg1, hrow1⟩ := HR.out.1 (by omega)
            obtain ⟨g2, f2, rfl, hg2, hrow2⟩ := HR.out.2 (by omega)
            obtain ⟨b1, A1, L1, p1, b2, A2, L2, p2, a0, a1, a2, a3, a4, a5, a6, a7, i1, i2⟩ := hrow1 k hlt
            obtain ⟨b3, A3, L3, p3, b4, A4, L4, p4, e0, e1, e2, e3, e4, e5, e6, e7, i3, i4⟩ := hrow2 k hlt
            have cw1 : ∀ i, wr.cell? ⟨g1, i, none⟩ = w1.cell? ⟨g1, i, none⟩ := fun i => Lr.out.cell (p := ⟨g1, i, none⟩) hg1
            have cw2 : ∀ i, wr.cell? ⟨g2, i, none⟩ = w1.cell? ⟨g2, i, none⟩ := fun i => Lr.out.cell (p := ⟨g2, i, none⟩) hg2
            have s0 : wr.drew.cell? ⟨g1, f1 + k * 8, none⟩ = some (.bool b1) ∧ wr.drew.cell? ⟨g1, f1 + k * 8 + 1, none⟩ = some (.int .u64 A1) ∧ wr.drew.cell? ⟨g1, f1 + k * 8 + 2, none⟩ = some (.int .u64 L1) ∧ wr.drew.cell? ⟨g1, f1 + k * 8 + 3, none⟩ = some (.pointer p1) ∧ wr.drew.cell? ⟨g1, f1 + k * 8 + 4, none⟩ = some (.bool b2) ∧ wr.drew.cell? ⟨g1, f1 + k * 8 + 5, none⟩ = some (.int .u64 A2) ∧ wr.drew.cell? ⟨g1, f1 + k * 8 + 6, none⟩ = some (.int .u64 L2) ∧ wr.drew.cell? ⟨g1, f1 + k * 8 + 7, none⟩ = some (.pointer p2) ∧ wr.drew.cell? ⟨g2, f2 + k * 8, none⟩ = some (.bool b3) ∧ wr.drew.cell? ⟨g2, f2 + k * 8 + 1, none⟩ = some (.int .u64 A3) ∧ wr.drew.cell? ⟨g2, f2 + k * 8 + 2, none⟩ = some (.int .u64 L3) ∧ wr.drew.cell? ⟨g2, f2 + k * 8 + 3, none⟩ = some (.pointer p3) ∧ wr.drew.cell? ⟨g2, f2 + k * 8 + 4, none⟩ = some (.bool b4) ∧ wr.drew.cell? ⟨g2, f2 + k * 8 + 5, none⟩ = some (.int .u64 A4) ∧ wr.drew.cell? ⟨g2, f2 + k * 8 + 6, none⟩ = some (.int .u64 L4) ∧ wr.drew.cell? ⟨g2, f2 + k * 8 + 7, none⟩ = some (.pointer p4) ∧ wr.drew.cell? ⟨gr, 0, none⟩ = some (.bool rb) ∧ wr.drew.cell? ⟨gr, 1, none⟩ = some (.int .u64 rA) ∧ wr.drew.cell? ⟨gr, 2, none⟩ = some (.int .u64 rL) ∧ wr.drew.cell? ⟨gr, 3, none⟩ = some (.pointer rp) ∧ wr.drew.cell? ⟨gh, 0, none⟩ = some (.bool hb) ∧ wr.drew.cell? ⟨gh, 1, none⟩ = some (.int .u64 hA) ∧ wr.drew.cell? ⟨gh, 2, none⟩ = some (.int .u64 hL) ∧ wr.drew.cell? ⟨gh, 3, none⟩ = some (.pointer hp) := ⟨(cw1 _).trans a0, (cw1 _).trans a1, (cw1 _).trans a2, (cw1 _).trans a3, (cw1 _).trans a4, (cw1 _).trans a5, (cw1 _).trans a6, (cw1 _).trans a7, (cw2 _).trans e0, (cw2 _).trans e1, (cw2 _).trans e2, (cw2 _).trans e3, (cw2 _).trans e4, (cw2 _).trans e5, (cw2 _).trans e6, (cw2 _).trans e7, Brr.out.cells.1, Brr.out.cells.2.1, Brr.out.cells.2.2.1, Brr.out.cells.2.2.2, Bhr.out.cells.1, Bhr.out.cells.2.1, Bhr.out.cells.2.2.1, Bhr.out.cells.2.2.2⟩
            have P1 : Hid (IsD wr (.agg #[.bool b1, .int .u64 A1, .int .u64 L1, .pointer p1, .bool b2, .int .u64 A2, .int .u64 L2, .pointer p2]) (E k).1 (E k).2) := ⟨_, _, _, _, _, _, _, _, rfl, i1.below Lr.out, i2.below Lr.out⟩
            have P2 : Hid (IsD wr (.agg #[.bool b3, .int .u64 A3, .int .u64 L3, .pointer p3, .bool b4, .int .u64 A4, .int .u64 L4, .pointer p4]) (F k).1 (F k).2) := ⟨_, _, _, _, _, _, _, _, rfl, i3.below Lr.out, i4.below Lr.out⟩
            have H0 : Below wr.heap.size wr wr.drew := (Below.refl _ _).drew
            have fe := HF.out.1 k hlt
            have ff := HF.out.2 k hlt
            have hl := hlow.out.2 k hlt
            have r1 := cmpM_range (atM (E k) m) (atM (F k) m)
            have mh : Fits (mulM m halfM) 2052 := fits_mul (k := 1026) HC.out.2 (show Fits halfM 1026 from ⟨by decide, by decide +kernel, by decide +kernel⟩)
            have cA := fun (W : World) (e : Nm) (v : Value) (n : Nat) (hn : n ≤ 3000) (hn2 : 256 ≤ n) (hf : Fits e n) (h : Below wr.heap.size wr W) (h2 : IsR W v e) => dat _ _ _ _ _ n (by omega) W (P1.out.below h) h2 (fe.1.more hn2) (fe.2.more hn2) hf
            have cF := fun (W : World) (e : Nm) (v : Value) (n : Nat) (hn : n ≤ 3000) (hn2 : 256 ≤ n) (hf : Fits e n) (h : Below wr.heap.size wr W) (h2 : IsR W v e) => dat _ _ _ _ _ n (by omega) W (P2.out.below h) h2 (ff.1.more hn2) (ff.2.more hn2) hf
            have cC := fun (W : World) (e : Nm) (v v' : Value) (n : Nat) (hn : n ≤ 3000) (hn2 : 256 ≤ n) (hf : Fits e n) (h1 : IsR W v (atM (E k) e)) (h2 : IsR W v' (atM (F k) e)) => a_cmp (k := 4 * n + 1) (by omega) h1 h2 (f_at hn2 fe hf) (f_at hn2 ff hf)
            have cM := fun (W : World) (h : Below wr.heap.size wr W) => a_mul (k := 1026) (by omega) (Brr.out.is.below h) (Bhr.out.is.below h) HC.out.2 (show Fits halfM 1026 from ⟨by decide, by decide +kernel, by decide +kernel⟩)
            have cR := fun (W : World) (h : Below wr.heap.size wr W) => Brr.out.is.below h
            have cB := fun (W : World) (h : Below wr.heap.size wr W) => Bbr.out.is.below h
            have cC1 := fun (W : World) (v v' : Value) => cC W m v v' 1026 (by omega) (by omega) HC.out.2
            have cC2 := fun (W : World) (v v' : Value) => cC W (mulM m halfM) v v' 2052 (by omega) (by omega) mh
            have cC3 := fun (W : World) (v v' : Value) => cC W big v v' 2053 (by omega) (by omega) fbig.out
            rw [HCB.out k] at cC3
            have fm : Hid (Fits m 1026 ∧ Fits (mulM m halfM) 2052 ∧ Fits big 2053) := ⟨HC.out.2, mh, fbig.out⟩
            obtain ⟨CV1, e1'⟩ : ∃ x, cmpM (atM (E k) m) (atM (F k) m) = x := ⟨_, rfl⟩
            obtain ⟨CV2, e2'⟩ : ∃ x, cmpM (atM (E k) (mulM m halfM)) (atM (F k) (mulM m halfM)) = x := ⟨_, rfl⟩
            obtain ⟨CV3, e3'⟩ : ∃ x, CB k = x := ⟨_, rfl⟩
            rw [e1'] at cC1 hl r1
            rw [e2'] at cC2 hl
            rw [e3'] at cC3
            have HK1 : Hid (brk b0 CB (k + 1) = (bk || decide (0 < CV3))) := by unfold Hid; rw [HK.out, ← e3']; rfl
            have hd2 : decide (0 < CV2) = false := decide_eq_false (by have := hl.2; omega)
            have hv1 : CV1 = -1 ∨ CV1 = 0 := by have := hl.1; omega
            have q1 : (k : Int) < (K1 : Int) := by omega
            have s0k : wr.cell? ⟨g1, f1 + k * 8, none⟩ = some (.bool b1) ∧ wr.cell? ⟨g1, f1 + k * 8 + 1, none⟩ = some (.int .u64 A1) ∧ wr.cell? ⟨g1, f1 + k * 8 + 2, none⟩ = some (.int .u64 L1) ∧ wr.cell? ⟨g1, f1 + k * 8 + 3, none⟩ = some (.pointer p1) ∧ wr.cell? ⟨g1, f1 + k * 8 + 4, none⟩ = some (.bool b2) ∧ wr.cell? ⟨g1, f1 + k * 8 + 5, none⟩ = some (.int .u64 A2) ∧ wr.cell? ⟨g1, f1 + k * 8 + 6, none⟩ = some (.int .u64 L2) ∧ wr.cell? ⟨g1, f1 + k * 8 + 7, none⟩ = some (.pointer p2) ∧ wr.cell? ⟨g2, f2 + k * 8, none⟩ = some (.bool b3) ∧ wr.cell? ⟨g2, f2 + k * 8 + 1, none⟩ = some (.int .u64 A3) ∧ wr.cell? ⟨g2, f2 + k * 8 + 2, none⟩ = some (.int .u64 L3) ∧ wr.cell? ⟨g2, f2 + k * 8 + 3, none⟩ = some (.pointer p3) ∧ wr.cell? ⟨g2, f2 + k * 8 + 4, none⟩ = some (.bool b4) ∧ wr.cell? ⟨g2, f2 + k * 8 + 5, none⟩ = some (.int .u64 A4) ∧ wr.cell? ⟨g2, f2 + k * 8 + 6, none⟩ = some (.int .u64 L4) ∧ wr.cell? ⟨g2, f2 + k * 8 + 7, none⟩ = some (.pointer p4) ∧ wr.cell? ⟨gb, 0, none⟩ = some (.bool bb) ∧ wr.cell? ⟨gb, 1, none⟩ = some (.int .u64 bA) ∧ wr.cell? ⟨gb, 2, none⟩ = some (.int .u64 bL) ∧ wr.cell? ⟨gb, 3, none⟩ = some (.pointer bp) := ⟨(cw1 _).trans a0, (cw1 _).trans a1, (cw1 _).trans a2, (cw1 _).trans a3, (cw1 _).trans a4, (cw1 _).trans a5, (cw1 _).trans a6, (cw1 _).trans a7, (cw2 _).trans e0, (cw2 _).trans e1, (cw2 _).trans e2, (cw2 _).trans e3, (cw2 _).trans e4, (cw2 _).trans e5, (cw2 _).trans e6, (cw2 _).trans e7, Bbr.out.cells.1, Bbr.out.cells.2.1, Bbr.out.cells.2.2.1, Bbr.out.cells.2.2.2⟩
            have HSB : Hid _ := s0k
            clear a0 a1 a2 a3 a4 a5 a6 a7 e0 e1 e2 e3 e4 e5 e6 e7 i1 i2 i3 i4 cw1 cw2 hrow1 hrow2 hg1 hg2 e1' e2' e3' hl r1 cC fe ff mh P1 P2 Brr Bhr Bbr hlow s0k HF HR HCB hend Lr
            go_upto_region 14 with fail
            go_cut [102] from 69 to 102 (fun v102 wx => v102 = .bool false ∧ Hid (Below wr.heap.size wr wx))
            case first =>
              rcases hv1 with rfl | rfl
              · have Tc0 : True := trivial
                have Tc1 : True := trivial
                have Tc4 : True := trivial
                have Tc2 : True := trivial
                have Tc3 : True := trivial
                go_region_held3 (fun w' => w'.cell? ⟨g1, f1 + k * 8, none⟩ = some (.bool b1) ∧ w'.cell? ⟨g1, f1 + k * 8 + 1, none⟩ = some (.int .u64 A1) ∧ w'.cell? ⟨g1, f1 + k * 8 + 2, none⟩ = some (.int .u64 L1) ∧ w'.cell? ⟨g1, f1 + k * 8 + 3, none⟩ = some (.pointer p1) ∧ w'.cell? ⟨g1, f1 + k * 8 + 4, none⟩ = some (.bool b2) ∧ w'.cell? ⟨g1, f1 + k * 8 + 5, none⟩ = some (.int .u64 A2) ∧ w'.cell? ⟨g1, f1 + k * 8 + 6, none⟩ = some (.int .u64 L2) ∧ w'.cell? ⟨g1, f1 + k * 8 + 7, none⟩ = some (.pointer p2) ∧ w'.cell? ⟨g2, f2 + k * 8, none⟩ = some (.bool b3) ∧ w'.cell? ⟨g2, f2 + k * 8 + 1, none⟩ = some (.int .u64 A3) ∧ w'.cell? ⟨g2, f2 + k * 8 + 2, none⟩ = some (.int .u64 L3) ∧ w'.cell? ⟨g2, f2 + k * 8 + 3, none⟩ = some (.pointer p3) ∧ w'.cell? ⟨g2, f2 + k * 8 + 4, none⟩ = some (.bool b4) ∧ w'.cell? ⟨g2, f2 + k * 8 + 5, none⟩ = some (.int .u64 A4) ∧ w'.cell? ⟨g2, f2 + k * 8 + 6, none⟩ = some (.int .u64 L4) ∧ w'.cell? ⟨g2, f2 + k * 8 + 7, none⟩ = some (.pointer p4) ∧ w'.cell? ⟨gr, 0, none⟩ = some (.bool rb) ∧ w'.cell? ⟨gr, 1, none⟩ = some (.int .u64 rA) ∧ w'.cell? ⟨gr, 2, none⟩ = some (.int .u64 rL) ∧ w'.cell? ⟨gr, 3, none⟩ = some (.pointer rp) ∧ w'.cell? ⟨gh, 0, none⟩ = some (.bool hb) ∧ w'.cell? ⟨gh, 1, none⟩ = some (.int .u64 hA) ∧ w'.cell? ⟨gh, 2, none⟩ = some (.int .u64 hL) ∧ w'.cell? ⟨gh, 3, none⟩ = some (.pointer hp)) (first | with_reducible exact s0 | with_reducible exact sc0 | with_reducible exact sc1 | with_reducible exact sc2 | with_reducible exact sc3 | with_reducible exact sc4 | with_reducible exact sc5 | with_reducible exact sc6 | with_reducible exact sc7) (first
                  | (go_at_call 30; have _t := Tc0; clear _t Tc0; refine (cA _ m _ 1026 (by omega) (by omega) fm.out.1 H0 (cR _ H0)).mono ?_; rintro e wc0 ⟨vc0, rfl, Rc0, hbc0⟩; have Hc0 := bt H0 hbc0; have sc0 := keep24 hbc0 s0)
                  | (go_at_call 30; have _t := Tc1; clear _t Tc1; refine (cF _ m _ 1026 (by omega) (by omega) fm.out.1 Hc0 (cR _ Hc0)).mono ?_; rintro e wc1 ⟨vc1, rfl, Rc1, hbc1⟩; have Hc1 := bt Hc0 hbc1; have sc1 := keep24 hbc1 sc0)
                  | (go_at_call 16; have _t := Tc2; clear _t Tc2; refine (cC1 _ _ _ (Rc0.below hbc1) Rc1).mono ?_; rintro e wc2 ⟨rfl, hbc2⟩; have Hc2 := bt Hc1 hbc2; have sc2 := keep24 hbc2 sc1)
                  | (go_at_call 42; have _t := Tc3; clear _t Tc3; refine (cM _ Hc2).mono ?_; rintro e wc3 ⟨vc3, rfl, Rc3, hbc3⟩; have Hc3 := bt Hc2 hbc3; have sc3 := keep24 hbc3 sc2)
                  | (go_at_call 30; have _t := Tc4; clear _t Tc4; refine (cA _ (mulM m halfM) _ 2052 (by omega) (by omega) fm.out.2.1 Hc3 Rc3).mono ?_; rintro e wc4 ⟨vc4, rfl, Rc4, hbc4⟩; have Hc4 := bt Hc3 hbc4; have sc4 := keep24 hbc4 sc3)
                  | (go_at_call 42; refine (cM _ Hc4).mono ?_; rintro e wc5 ⟨vc5, rfl, Rc5, hbc5⟩; have Hc5 := bt Hc4 hbc5; have sc5 := keep24 hbc5 sc4)
                  | (go_at_call 30; refine (cF _ (mulM m halfM) _ 2052 (by omega) (by omega) fm.out.2.1 Hc5 Rc5).mono ?_; rintro e wc6 ⟨vc6, rfl, Rc6, hbc6⟩; have Hc6 := bt Hc5 hbc6; have sc6 := keep24 hbc6 sc5)
                  | (go_at_call 16; refine (cC2 _ _ _ ((Rc4.below hbc5).below hbc6) Rc6).mono ?_; rintro e wc7 ⟨rfl, hbc7⟩; have Hc7 := bt Hc6 hbc7; have sc7 := keep24 hbc7 sc6))
                all_goals go_wp2
                all_goals go_meet
                all_goals exact ⟨(by first | rfl | simp only [hd2]), Hc7⟩
              · have Td0 : True := trivial
                have Td1 : True := trivial
                have Td4 : True := trivial
                have Td2 : True := trivial
                have Td3 : True := trivial
                go_region_held3 (fun w' => w'.cell? ⟨g1, f1 + k * 8, none⟩ = some (.bool b1) ∧ w'.cell? ⟨g1, f1 + k * 8 + 1, none⟩ = some (.int .u64 A1) ∧ w'.cell? ⟨g1, f1 + k * 8 + 2, none⟩ = some (.int .u64 L1) ∧ w'.cell? ⟨g1, f1 + k * 8 + 3, none⟩ = some (.pointer p1) ∧ w'.cell? ⟨g1, f1 + k * 8 + 4, none⟩ = some (.bool b2) ∧ w'.cell? ⟨g1, f1 + k * 8 + 5, none⟩ = some (.int .u64 A2) ∧ w'.cell? ⟨g1, f1 + k * 8 + 6, none⟩ = some (.int .u64 L2) ∧ w'.cell? ⟨g1, f1 + k * 8 + 7, none⟩ = some (.pointer p2) ∧ w'.cell? ⟨g2, f2 + k * 8, none⟩ = some (.bool b3) ∧ w'.cell? ⟨g2, f2 + k * 8 + 1, none⟩ = some (.int .u64 A3) ∧ w'.cell? ⟨g2, f2 + k * 8 + 2, none⟩ = some (.int .u64 L3) ∧ w'.cell? ⟨g2, f2 + k * 8 + 3, none⟩ = some (.pointer p3) ∧ w'.cell? ⟨g2, f2 + k * 8 + 4, none⟩ = some (.bool b4) ∧ w'.cell? ⟨g2, f2 + k * 8 + 5, none⟩ = some (.int .u64 A4) ∧ w'.cell? ⟨g2, f2 + k * 8 + 6, none⟩ = some (.int .u64 L4) ∧ w'.cell? ⟨g2, f2 + k * 8 + 7, none⟩ = some (.pointer p4) ∧ w'.cell? ⟨gr, 0, none⟩ = some (.bool rb) ∧ w'.cell? ⟨gr, 1, none⟩ = some (.int .u64 rA) ∧ w'.cell? ⟨gr, 2, none⟩ = some (.int .u64 rL) ∧ w'.cell? ⟨gr, 3, none⟩ = some (.pointer rp) ∧ w'.cell? ⟨gh, 0, none⟩ = some (.bool hb) ∧ w'.cell? ⟨gh, 1, none⟩ = some (.int .u64 hA) ∧ w'.cell? ⟨gh, 2, none⟩ = some (.int .u64 hL) ∧ w'.cell? ⟨gh, 3, none⟩ = some (.pointer hp)) (first | with_reducible exact s0 | with_reducible exact sd0 | with_reducible exact sd1 | with_reducible exact sd2 | with_reducible exact sd3 | with_reducible exact sd4 | with_reducible exact sd5 | with_reducible exact sd6 | with_reducible exact sd7) (first
                  | (go_at_call 30; have _t := Td0; clear _t Td0; refine (cA _ m _ 1026 (by omega) (by omega) fm.out.1 H0 (cR _ H0)).mono ?_; rintro e wd0 ⟨vd0, rfl, Rd0, hbd0⟩; have Hd0 := bt H0 hbd0; have sd0 := keep24 hbd0 s0)
                  | (go_at_call 30; have _t := Td1; clear _t Td1; refine (cF _ m _ 1026 (by omega) (by omega) fm.out.1 Hd0 (cR _ Hd0)).mono ?_; rintro e wd1 ⟨vd1, rfl, Rd1, hbd1⟩; have Hd1 := bt Hd0 hbd1; have sd1 := keep24 hbd1 sd0)
                  | (go_at_call 16; have _t := Td2; clear _t Td2; refine (cC1 _ _ _ (Rd0.below hbd1) Rd1).mono ?_; rintro e wd2 ⟨rfl, hbd2⟩; have Hd2 := bt Hd1 hbd2; have sd2 := keep24 hbd2 sd1)
                  | (go_at_call 42; have _t := Td3; clear _t Td3; refine (cM _ Hd2).mono ?_; rintro e wd3 ⟨vd3, rfl, Rd3, hbd3⟩; have Hd3 := bt Hd2 hbd3; have sd3 := keep24 hbd3 sd2)
                  | (go_at_call 30; have _t := Td4; clear _t Td4; refine (cA _ (mulM m halfM) _ 2052 (by omega) (by omega) fm.out.2.1 Hd3 Rd3).mono ?_; rintro e wd4 ⟨vd4, rfl, Rd4, hbd4⟩; have Hd4 := bt Hd3 hbd4; have sd4 := keep24 hbd4 sd3)
                  | (go_at_call 42; refine (cM _ Hd4).mono ?_; rintro e wd5 ⟨vd5, rfl, Rd5, hbd5⟩; have Hd5 := bt Hd4 hbd5; have sd5 := keep24 hbd5 sd4)
                  | (go_at_call 30; refine (cF _ (mulM m halfM) _ 2052 (by omega) (by omega) fm.out.2.1 Hd5 Rd5).mono ?_; rintro e wd6 ⟨vd6, rfl, Rd6, hbd6⟩; have Hd6 := bt Hd5 hbd6; have sd6 := keep24 hbd6 sd5)
                  | (go_at_call 16; refine (cC2 _ _ _ ((Rd4.below hbd5).below hbd6) Rd6).mono ?_; rintro e wd7 ⟨rfl, hbd7⟩; have Hd7 := bt Hd6 hbd7; have sd7 := keep24 hbd7 sd6))
                all_goals go_wp2
                all_goals go_meet
                all_goals exact ⟨(by first | rfl | simp only [hd2]), Hd7⟩
            case rest =>
              obtain ⟨rfl, HX⟩ := hcut
              have s5 : wc.drew.cell? ⟨g1, f1 + k * 8, none⟩ = some (.bool b1) ∧ wc.drew.cell? ⟨g1, f1 + k * 8 + 1, none⟩ = some (.int .u64 A1) ∧ wc.drew.cell? ⟨g1, f1 + k * 8 + 2, none⟩ = some (.int .u64 L1) ∧ wc.drew.cell? ⟨g1, f1 + k * 8 + 3, none⟩ = some (.pointer p1) ∧ wc.drew.cell? ⟨g1, f1 + k * 8 + 4, none⟩ = some (.bool b2) ∧ wc.drew.cell? ⟨g1, f1 + k * 8 + 5, none⟩ = some (.int .u64 A2) ∧ wc.drew.cell? ⟨g1, f1 + k * 8 + 6, none⟩ = some (.int .u64 L2) ∧ wc.drew.cell? ⟨g1, f1 + k * 8 + 7, none⟩ = some (.pointer p2) ∧ wc.drew.cell? ⟨g2, f2 + k * 8, none⟩ = some (.bool b3) ∧ wc.drew.cell? ⟨g2, f2 + k * 8 + 1, none⟩ = some (.int .u64 A3) ∧ wc.drew.cell? ⟨g2, f2 + k * 8 + 2, none⟩ = some (.int .u64 L3) ∧ wc.drew.cell? ⟨g2, f2 + k * 8 + 3, none⟩ = some (.pointer p3) ∧ wc.drew.cell? ⟨g2, f2 + k * 8 + 4, none⟩ = some (.bool b4) ∧ wc.drew.cell? ⟨g2, f2 + k * 8 + 5, none⟩ = some (.int .u64 A4) ∧ wc.drew.cell? ⟨g2, f2 + k * 8 + 6, none⟩ = some (.int .u64 L4) ∧ wc.drew.cell? ⟨g2, f2 + k * 8 + 7, none⟩ = some (.pointer p4) ∧ wc.drew.cell? ⟨gb, 0, none⟩ = some (.bool bb) ∧ wc.drew.cell? ⟨gb, 1, none⟩ = some (.int .u64 bA) ∧ wc.drew.cell? ⟨gb, 2, none⟩ = some (.int .u64 bL) ∧ wc.drew.cell? ⟨gb, 3, none⟩ = some (.pointer bp) := keep20 HX.out.drew HSB.out
              have H5 : Below wr.heap.size wr wc.drew := HX.out.drew
              have HBn : Hid (Below _ _ wc) := bt HB.out HX.out
              clear s0 H0 hv1 hd2 cM cC1 cC2 HB HX
              go_upto_region 16 with fail
              rcases bk with _ | _
              · skip
                have Tz0 : True := trivial
                go_region_held3 (fun w' => w'.cell? ⟨g1, f1 + k * 8, none⟩ = some (.bool b1) ∧ w'.cell? ⟨g1, f1 + k * 8 + 1, none⟩ = some (.int .u64 A1) ∧ w'.cell? ⟨g1, f1 + k * 8 + 2, none⟩ = some (.int .u64 L1) ∧ w'.cell? ⟨g1, f1 + k * 8 + 3, none⟩ = some (.pointer p1) ∧ w'.cell? ⟨g1, f1 + k * 8 + 4, none⟩ = some (.bool b2) ∧ w'.cell? ⟨g1, f1 + k * 8 + 5, none⟩ = some (.int .u64 A2) ∧ w'.cell? ⟨g1, f1 + k * 8 + 6, none⟩ = some (.int .u64 L2) ∧ w'.cell? ⟨g1, f1 + k * 8 + 7, none⟩ = some (.pointer p2) ∧ w'.cell? ⟨g2, f2 + k * 8, none⟩ = some (.bool b3) ∧ w'.cell? ⟨g2, f2 + k * 8 + 1, none⟩ = some (.int .u64 A3) ∧ w'.cell? ⟨g2, f2 + k * 8 + 2, none⟩ = some (.int .u64 L3) ∧ w'.cell? ⟨g2, f2 + k * 8 + 3, none⟩ = some (.pointer p3) ∧ w'.cell? ⟨g2, f2 + k * 8 + 4, none⟩ = some (.bool b4) ∧ w'.cell? ⟨g2, f2 + k * 8 + 5, none⟩ = some (.int .u64 A4) ∧ w'.cell? ⟨g2, f2 + k * 8 + 6, none⟩ = some (.int .u64 L4) ∧ w'.cell? ⟨g2, f2 + k * 8 + 7, none⟩ = some (.pointer p4) ∧ w'.cell? ⟨gb, 0, none⟩ = some (.bool bb) ∧ w'.cell? ⟨gb, 1, none⟩ = some (.int .u64 bA) ∧ w'.cell? ⟨gb, 2, none⟩ = some (.int .u64 bL) ∧ w'.cell? ⟨gb, 3, none⟩ = some (.pointer bp)) (first | with_reducible exact s5 | with_reducible exact sz0 | with_reducible exact sz1 | with_reducible exact sz2) (first
                  | (go_at_call 30; have _t := Tz0; clear _t Tz0; refine (cA _ big _ 2053 (by omega) (by omega) fm.out.2.2 H5 (cB _ H5)).mono ?_; rintro e wz0 ⟨vz0, rfl, Rz0, hbz0⟩; have Hz0 := bt H5 hbz0; have sz0 := keep20 hbz0 s5)
                  | (go_at_call 30; refine (cF _ big _ 2053 (by omega) (by omega) fm.out.2.2 Hz0 (cB _ Hz0)).mono ?_; rintro e wz1 ⟨vz1, rfl, Rz1, hbz1⟩; have Hz1 := bt Hz0 hbz1; have sz1 := keep20 hbz1 sz0)
                  | (go_at_call 16; refine (cC3 _ _ _ (Rz0.below hbz1) Rz1).mono ?_; rintro e wz2 ⟨rfl, hbz2⟩; have Hz2 := bt Hz1 hbz2; have sz2 := keep20 hbz2 sz1))
                go_wp2
                go_roundw
                case rel => exact ⟨k + 1, decide (0 < CV3), hlt, rfl, by go_num, HK1.out.symm, bt HBn.out (bt (Below.refl _ _).drew (bt hbz0 (bt hbz1 hbz2)))⟩
                case measure => simp only [intOf]; omega
              · skip
                refine wp_region_held_drew (S := (fun _ => True)) (by kernel_rfl) ?_ (fun hHeld => ?_)
                · trivial
                refine wpAnyH_take (i := 0) (oi := { dst := some 103, op := Op.move (Operand.tmp 18), type := 4, pos := "law.go:93", after := #[], guard := none }) (v := ?vs0) rfl (by kernel_rfl) (by kernel_rfl) (by kernel_rfl) (fun _ _ _ h => h) (Or.inl ⟨by rfl, ?hys0⟩) hHeld ?rests0
                case hys0 =>
                  intro w hSw
                  (try dsimp only at hSw)
                  first | (go_simp; done) | (go_simp; with_reducible rfl) | with_reducible rfl | rfl
                simp only [Act.put, List.setIfInBounds_toArray, List.set_cons_zero, List.set_cons_succ]
                refine wpAnyH_take (i := 1) (oi := { dst := some 104, op := Op.move (Operand.tmp 103), type := 4, pos := "law.go:93", after := #[{ on := 0, ground := Ground.data }], guard := none }) (v := ?vs1) rfl (by kernel_rfl) (by kernel_rfl) (by kernel_rfl) (fun _ _ _ h => h) (Or.inl ⟨by rfl, ?hys1⟩) hHeld ?rests1
                case hys1 =>
                  intro w hSw
                  (try dsimp only at hSw)
                  first | (go_simp; done) | (go_simp; with_reducible rfl) | with_reducible rfl | rfl
                simp only [Act.put, List.setIfInBounds_toArray, List.set_cons_zero, List.set_cons_succ]
                refine wpAnyH_take (i := 2) (oi := { dst := some 105, op := Op.move (Operand.tmp 7), type := 70, pos := "law.go:93", after := #[{ on := 1, ground := Ground.guard }], guard := some (1, false) }) (v := undef) rfl (by kernel_rfl) (by kernel_rfl) (by kernel_rfl) (fun _ _ _ h => h) (Or.inr ⟨by rfl, rfl⟩) hHeld ?rests2
                simp only [Act.put, List.setIfInBounds_toArray, List.set_cons_zero, List.set_cons_succ]
                refine wpAnyH_take (i := 3) (oi := { dst := some 106, op := Op.move (Operand.tmp 19), type := 3, pos := "law.go:93", after := #[{ on := 1, ground := Ground.guard }], guard := some (1, false) }) (v := undef) rfl (by kernel_rfl) (by kernel_rfl) (by kernel_rfl) (fun _ _ _ h => h) (Or.inr ⟨by rfl, rfl⟩) hHeld ?rests3
                simp only [Act.put, List.setIfInBounds_toArray, List.set_cons_zero, List.set_cons_succ]
                refine wpAnyH_take (i := 4) (oi := { dst := some 107, op := Op.indexAddr 70 (Operand.tmp 105) (Operand.tmp 106), type := 0, pos := "law.go:93", after := #[{ on := 2, ground := Ground.data }, { on := 3, ground := Ground.data }, { on := 1, ground := Ground.guard }], guard := some (1, false) }) (v := undef) rfl (by kernel_rfl) (by kernel_rfl) (by kernel_rfl) (fun _ _ _ h => h) (Or.inr ⟨by rfl, rfl⟩) hHeld ?rests4
                simp only [Act.put, List.setIfInBounds_toArray, List.set_cons_zero, List.set_cons_succ]
                refine wpAnyH_take (i := 5) (oi := { dst := some 108, op := Op.load 49 (Operand.tmp 107), type := 49, pos := "law.go:93", after := #[{ on := 4, ground := Ground.data }, { on := 1, ground := Ground.guard }], guard := some (1, false) }) (v := undef) rfl (by kernel_rfl) (by kernel_rfl) (by kernel_rfl) (fun _ _ _ h => h) (Or.inr ⟨by rfl, rfl⟩) hHeld ?rests5
                simp only [Act.put, List.setIfInBounds_toArray, List.set_cons_zero, List.set_cons_succ]
                refine wpAnyH_take (i := 6) (oi := { dst := some 109, op := Op.load 28 (Operand.tmp 17), type := 28, pos := "law.go:93", after := #[{ on := 1, ground := Ground.guard }], guard := some (1, false) }) (v := undef) rfl (by kernel_rfl) (by kernel_rfl) (by kernel_rfl) (fun _ _ _ h => h) (Or.inr ⟨by rfl, rfl⟩) hHeld ?rests6
                simp only [Act.put, List.setIfInBounds_toArray, List.set_cons_zero, List.set_cons_succ]
                refine wpAnyH_take (i := 7) (oi := { dst := some 110, op := Op.call { callee := Callee.value (Operand.func 30), args := #[Operand.tmp 108, Operand.tmp 109], argTypes := #[49, 28] }, type := 28, pos := "law.go:93", after := #[{ on := 5, ground := Ground.data }, { on := 6, ground := Ground.data }, { on := 1, ground := Ground.chain }, { on := 1, ground := Ground.guard }], guard := some (1, false) }) (v := undef) rfl (by kernel_rfl) (by kernel_rfl) (by kernel_rfl) (fun _ _ _ h => h) (Or.inr ⟨by rfl, rfl⟩) hHeld ?rests7
                simp only [Act.put, List.setIfInBounds_toArray, List.set_cons_zero, List.set_cons_succ]
                refine wpAnyH_take (i := 8) (oi := { dst := some 111, op := Op.move (Operand.tmp 8), type := 70, pos := "law.go:93", after := #[{ on := 1, ground := Ground.guard }], guard := some (1, false) }) (v := undef) rfl (by kernel_rfl) (by kernel_rfl) (by kernel_rfl) (fun _ _ _ h => h) (Or.inr ⟨by rfl, rfl⟩) hHeld ?rests8
                simp only [Act.put, List.setIfInBounds_toArray, List.set_cons_zero, List.set_cons_succ]
                refine wpAnyH_take (i := 9) (oi := { dst := some 112, op := Op.move (Operand.tmp 19), type := 3, pos := "law.go:93", after := #[{ on := 1, ground := Ground.guard }], guard := some (1, false) }) (v := undef) rfl (by kernel_rfl) (by kernel_rfl) (by kernel_rfl) (fun _ _ _ h => h) (Or.inr ⟨by rfl, rfl⟩) hHeld ?rests9
                simp only [Act.put, List.setIfInBounds_toArray, List.set_cons_zero, List.set_cons_succ]
                refine wpAnyH_take (i := 10) (oi := { dst := some 113, op := Op.indexAddr 70 (Operand.tmp 111) (Operand.tmp 112), type := 0, pos := "law.go:93", after := #[{ on := 8, ground := Ground.data }, { on := 9, ground := Ground.data }, { on := 1, ground := Ground.guard }], guard := some (1, false) }) (v := undef) rfl (by kernel_rfl) (by kernel_rfl) (by kernel_rfl) (fun _ _ _ h => h) (Or.inr ⟨by rfl, rfl⟩) hHeld ?rests10
                simp only [Act.put, List.setIfInBounds_toArray, List.set_cons_zero, List.set_cons_succ]
                refine wpAnyH_take (i := 11) (oi := { dst := some 114, op := Op.load 49 (Operand.tmp 113), type := 49, pos := "law.go:93", after := #[{ on := 10, ground := Ground.data }, { on := 1, ground := Ground.guard }], guard := some (1, false) }) (v := undef) rfl (by kernel_rfl) (by kernel_rfl) (by kernel_rfl) (fun _ _ _ h => h) (Or.inr ⟨by rfl, rfl⟩) hHeld ?rests11
                simp only [Act.put, List.setIfInBounds_toArray, List.set_cons_zero, List.set_cons_succ]
                refine wpAnyH_take (i := 12) (oi := { dst := some 115, op := Op.load 28 (Operand.tmp 17), type := 28, pos := "law.go:93", after := #[{ on := 1, ground := Ground.guard }], guard := some (1, false) }) (v := undef) rfl (by kernel_rfl) (by kernel_rfl) (by kernel_rfl) (fun _ _ _ h => h) (Or.inr ⟨by rfl, rfl⟩) hHeld ?rests12
                simp only [Act.put, List.setIfInBounds_toArray, List.set_cons_zero, List.set_cons_succ]
                refine wpAnyH_take (i := 13) (oi := { dst := some 116, op := Op.call { callee := Callee.value (Operand.func 30), args := #[Operand.tmp 114, Operand.tmp 115], argTypes := #[49, 28] }, type := 28, pos := "law.go:93", after := #[{ on := 11, ground := Ground.data }, { on := 12, ground := Ground.data }, { on := 7, ground := Ground.chain }, { on := 1, ground := Ground.guard }], guard := some (1, false) }) (v := undef) rfl (by kernel_rfl) (by kernel_rfl) (by kernel_rfl) (fun _ _ _ h => h) (Or.inr ⟨by rfl, rfl⟩) hHeld ?rests13
                simp only [Act.put, List.setIfInBounds_toArray, List.set_cons_zero, List.set_cons_succ]
                refine wpAnyH_take (i := 14) (oi := { dst := some 117, op := Op.call { callee := Callee.value (Operand.func 16), args := #[Operand.tmp 110, Operand.tmp 116], argTypes := #[28, 28] }, type := 3, pos := "law.go:93", after := #[{ on := 7, ground := Ground.data }, { on := 13, ground := Ground.data }, { on := 13, ground := Ground.chain }, { on := 1, ground := Ground.guard }], guard := some (1, false) }) (v := undef) rfl (by kernel_rfl) (by kernel_rfl) (by kernel_rfl) (fun _ _ _ h => h) (Or.inr ⟨by rfl, rfl⟩) hHeld ?rests14
                simp only [Act.put, List.setIfInBounds_toArray, List.set_cons_zero, List.set_cons_succ]
                refine wpAnyH_take (i := 15) (oi := { dst := some 118, op := Op.binOp BinOp.gtr 3 (Operand.tmp 117) (Operand.const (Value.int IntKind.i64 0)) 3, type := 4, pos := "law.go:93", after := #[{ on := 14, ground := Ground.data }, { on := 1, ground := Ground.guard }], guard := some (1, false) }) (v := undef) rfl (by kernel_rfl) (by kernel_rfl) (by kernel_rfl) (fun _ _ _ h => h) (Or.inr ⟨by rfl, rfl⟩) hHeld ?rests15
                simp only [Act.put, List.setIfInBounds_toArray, List.set_cons_zero, List.set_cons_succ]
                refine wpAnyH_take (i := 16) (oi := { dst := some 119, op := Op.pick (Operand.tmp 104) (Operand.const (Value.bool true)) (Operand.tmp 118), type := 4, pos := "law.go:93", after := #[{ on := 1, ground := Ground.data }, { on := 15, ground := Ground.data }], guard := none }) (v := ?vs16) rfl (by kernel_rfl) (by kernel_rfl) (by kernel_rfl) (fun _ _ _ h => h) (Or.inl ⟨by rfl, ?hys16⟩) hHeld ?rests16
                case hys16 =>
                  intro w hSw
                  (try dsimp only at hSw)
                  first | (go_simp; done) | (go_simp; with_reducible rfl) | with_reducible rfl | rfl
                simp only [Act.put, List.setIfInBounds_toArray, List.set_cons_zero, List.set_cons_succ]
                refine wpAnyH_take (i := 17) (oi := { dst := some 18, op := Op.assign (Operand.tmp 119), type := 4, pos := "law.go:93", after := #[{ on := 16, ground := Ground.data }, { on := 14, ground := Ground.chain }, { on := 0, ground := Ground.phase }, { on := 1, ground := Ground.phase }, { on := 2, ground := Ground.phase }, { on := 3, ground := Ground.phase }, { on := 4, ground := Ground.phase }, { on := 5, ground := Ground.phase }, { on := 6, ground := Ground.phase }, { on := 7, ground := Ground.phase }, { on := 8, ground := Ground.phase }, { on := 9, ground := Ground.phase }, { on := 10, ground := Ground.phase }, { on := 11, ground := Ground.phase }, { on := 12, ground := Ground.phase }, { on := 13, ground := Ground.phase }, { on := 14, ground := Ground.phase }, { on := 15, ground := Ground.phase }, { on := 16, ground := Ground.phase }], guard := none }) (v := ?vs17) rfl (by kernel_rfl) (by kernel_rfl) (by kernel_rfl) (fun _ _ _ h => h) (Or.inl ⟨by rfl, ?hys17⟩) hHeld ?rests17
                case hys17 =>
                  intro w hSw
                  (try dsimp only at hSw)
                  first | (go_simp; done) | (go_simp; with_reducible rfl) | with_reducible rfl | rfl
                simp only [Act.put, List.setIfInBounds_toArray, List.set_cons_zero, List.set_cons_succ]
                refine wpAnyH_done (by kernel_rfl) ?_ _
                go_wp2
                go_roundw
                case rel => exact ⟨k + 1, true, hlt, rfl, by go_num, HK1.out.symm, HBn.out.drew⟩
                case measure => simp only [intOf]; omega
          · obtain rfl : k = K1 := by omega
            obtain rfl : bk = true := by rw [HK.out, hend.out]
            have hs1 : sgnM m = 1 := by
              have := hlow.out.1
              unfold sgnM sgn at this ⊢
              split
              · simp_all
              · split
                · simp_all
                · rfl
            have cG := fun (W : World) (h : Below wr.heap.size wr W) => a_sign (Brr.out.is.below h)
            rw [hs1] at cG
            have q2 : ¬ (k : Int) < (k : Int) := by omega
            clear hs1 hlow Lr Bhr Bbr HR HF HC HK hend
            go_wp2_with (first
              | (go_at_call 18; refine (awake7 _).mono ?_; rintro e w4 ⟨rfl, hb4⟩; have dr := cell_at (box_kept Brr.out.box hb4 (in_heap Brr.out.box)); have r0 : w4.cell? ⟨gr, 0, none⟩ = some (.bool rb) := dr 0 _ rfl; have r1 : w4.cell? ⟨gr, 1, none⟩ = some (.int .u64 rA) := dr 1 _ rfl; have r2 : w4.cell? ⟨gr, 2, none⟩ = some (.int .u64 rL) := dr 2 _ rfl; have r3 : w4.cell? ⟨gr, 3, none⟩ = some (.pointer rp) := dr 3 _ rfl; clear dr)
              | (go_at_call 37; refine (cG _ hb4).mono ?_; rintro e w5 ⟨rfl, hb5⟩))
            all_goals go_ret
            all_goals exact ⟨rfl, bt Cr.out (bt hb4 hb5)⟩
end Go.Proofs.Ytdliookkkgobbaa.HlW
