/- Append to a row of one's own whose block is known whole: each of its cells is no limb, the first is no slice. -/
import Derived.Test.YtefckmkcbgckfabSetAX
import Derived.Maps.AppendAt
namespace Go.Proofs.Ytefckmkcbgckfab.AppZ
open Go.RowKit Go.Maps Mem LimbNum NmL

/-- No limb. -/
def NoLimb (u : Value) : Prop := ∀ k z, u = .int k z → k = .u64
def NoSlice (u : Value) : Prop := ∀ o n c, u ≠ .slice o n c
/-- No cell is a limb, the first is no slice. -/
def PlL (l : List Value) : Prop := (∀ u ∈ l, NoLimb u) ∧ ∀ u, l[0]? = some u → NoSlice u
theorem PlL.app {a b : List Value} (ha : PlL a) (h0 : a ≠ []) (hb : ∀ u ∈ b, NoLimb u) : PlL (a ++ b) := by
  refine ⟨fun u hu => ?_, fun u hu => ?_⟩
  · rcases List.mem_append.1 hu with h | h
    · exact ha.1 u h
    · exact hb u h
  · rcases a with _ | ⟨x, t⟩
    · exact absurd rfl h0
    · exact ha.2 u (by simpa using hu)
theorem zeros_nl {z : Array Value} (hz : ∀ u ∈ z.toList, NoLimb u) (h0 : 0 < z.size) (n : Nat) : ∀ u ∈ (Builtin.zeroCells z n).toList, NoLimb u := by
  intro u hu
  simp only [Builtin.zeroCells, Array.toList_map, List.mem_map] at hu
  obtain ⟨i, _, rfl⟩ := hu
  have hlt : i % z.size < z.size := Nat.mod_lt _ h0
  rw [getElem!_pos z _ hlt]
  exact hz _ (Array.mem_toList_iff.2 (Array.getElem_mem hlt))
/-- The row's block holds no limb and begins with no slice. -/
def BlkZ (w : World) (v : Value) : Prop := ∀ g, v.ownBlock = some g → ∃ cur e, w.heap[g]? = some (.cells cur e (0, 0)) ∧ PlL cur.toList
theorem BlkZ.plain {w : World} {v : Value} {g : Nat} (h : BlkZ w v) (hg : v.ownBlock = some g) : Plain w g := by
  obtain ⟨cur, e, hk, hp⟩ := h g hg
  intro i u hu
  simp only [World.cell?, hk] at hu
  have hm : u ∈ cur.toList := by
    obtain ⟨hlt, e2⟩ := Array.getElem?_eq_some_iff.1 hu
    rw [← e2]
    exact Array.mem_toList_iff.2 (Array.getElem_mem hlt)
  refine ⟨hp.1 u hm, fun h0 => hp.2 u ?_⟩
  subst h0
  simpa using hu
theorem BlkZ.kept {w w' : World} {v : Value} (h : BlkZ w v) (hk : ∀ g, v.ownBlock = some g → w'.heap[g]? = w.heap[g]?) : BlkZ w' v := by
  intro g hg
  obtain ⟨cur, e, h1, h2⟩ := h g hg
  exact ⟨cur, e, (hk g hg).trans h1, h2⟩
theorem run_append_z {P : Program} (w : World) (base : Nat) (t ty e : TypeId) (i : TypeInfo) (z : Value) (size bytes : Nat) (ht : P.underlying t = some (.slice e)) (hi : P.info? e = some i) (hz : i.zero = some z)
    (hsize : i.size = size) (hby : i.bytes = bytes) (hzs : z.cells.size = size) (hsz : 0 < size)
    (v : Value) (n : Nat) (xs : List Value) (hown : w.ownsRow base e size v n xs)
    (a : Addr) (c : Nat) (news : List Value) (hl : news.length = 1 * size) (hnews : ∀ j u, news[j]? = some u → w.cell? (a.add j) = some u) (h1 : ∀ u ∈ news, u.oneCell' = true)
    (h63 : n + 1 ≤ maxLen) (hbytes : (n + 1) * bytes ≤ 140737488355328) (hbase : base ≤ w.heap.size)
    (pz : ∀ u ∈ z.cells.toList, NoLimb u) (pn : PlL news) (pb : BlkZ w v) :
    ∃ v' w', (Builtin.append_ #[t, t] ty #[v, .slice (some a) 1 c]).run P w = .ok v' w' ∧ w'.ownsRow base e size v' (n + 1) (xs ++ news) ∧ w.grownBy w' v.ownBlock ∧ BlkZ w' v' ∧ (v'.ownBlock = v.ownBlock ∨ v'.ownBlock = some w.heap.size) := by
  obtain ⟨v', w', hrun, hown', hgr, _, hblk⟩ := run_append_own_at (P := P) w base t ty e i z size bytes ht hi hz hsize hby hzs hsz v n xs hown a 1 c news hl hnews h1 h63 hbytes hbase
  refine ⟨v', w', hrun, hown', hgr, ?_, hblk⟩
  subst hsize
  subst hby
  have hsmall : n + 1 ≤ 9223372036854775807 := by simp only [maxLen] at h63; omega
  have hne : news ≠ [] := by
    intro e0
    rw [e0] at hl
    simp at hl
    omega
  have zz := fun k => zeros_nl (z := z.cells) pz (by omega) k
  have hx := hown.1
  rcases hown.2 with ⟨rfl, rfl⟩ | ⟨g, cap, cur, rfl, hbg, hg, hnc, hcm, hcs, htake⟩
  · have hr := run_append_nil (P := P) w t ty e i z ht hi hz a 1 c news hl hnews (by omega) (by omega) (by omega)
    rw [hr] at hrun
    injection hrun with ev ew
    subst ev
    subst ew
    intro g hg
    simp only [Value.ownBlock, Option.some.injEq] at hg
    subst hg
    refine ⟨_, _, heap_alloc_new w.drew _, ?_⟩
    simp only [Array.toList_append]
    exact pn.app hne (zz _)
  · obtain ⟨cur', e', hk, hp⟩ := pb g rfl
    have ec : cur' = cur := by
      have := hk.symm.trans hg
      simp at this
      exact this.1
    subst ec
    have px : ∀ u ∈ xs, NoLimb u := fun u hu => hp.1 u (by rw [← htake] at hu; exact List.mem_of_mem_take hu)
    have all : PlL (xs ++ news) := by
      by_cases h0 : xs = []
      · rw [h0, List.nil_append]; exact pn
      · refine PlL.app ⟨px, fun u hu => hp.2 u ?_⟩ h0 pn.1
        rw [← htake, List.getElem?_take] at hu
        split at hu
        · exact hu
        · simp at hu
    have ane : xs ++ news ≠ [] := by simp [hne]
    by_cases hroom : n + 1 ≤ cap
    · have hfit : n * i.size + news.length ≤ cur'.size := by rw [hl, hcs, ← Nat.add_mul]; exact Nat.mul_le_mul_right _ hroom
      have hr := run_append_room (P := P) w t ty e i ht hi g n cap cur' hg a 1 c news hl hnews h1 hroom hfit
      rw [hr] at hrun
      injection hrun with ev ew
      subst ev
      subst ew
      intro g' hg'
      simp only [Value.ownBlock, Option.some.injEq] at hg'
      subst hg'
      refine ⟨_, _, setRow_heap w g cur' _ e _ hg, ?_⟩
      rw [htake]
      simp only
      exact all.app ane (fun u hu => hp.1 u (List.mem_of_mem_drop hu))
    · have holds : ∀ j u, xs[j]? = some u → w.cell? ((⟨g, 0, none⟩ : Addr).add j) = some u := hown.cells (g := g) rfl
      have hr := run_append_grow (P := P) w t ty e i z ht hi hz ⟨g, 0, none⟩ n cap xs hown.1 holds a 1 c news hl hnews (by omega) (by omega) (growslice_fits (by omega) hbytes)
      rw [hr] at hrun
      injection hrun with ev ew
      subst ev
      subst ew
      intro g' hg'
      simp only [Value.ownBlock, Option.some.injEq] at hg'
      subst hg'
      refine ⟨_, _, heap_alloc_new w.drew _, ?_⟩
      simp only [Array.toList_append]
      exact all.app ane (zz _)
theorem wpList_append_z {P : Program} (w : World) {ops : Array Oper} {rest : List Oper} {o : Oper} {a : Act} {Q : Exit → Act → World → Prop} (hgd : o.guard = none) (s x : Operand) (t : TypeId)
    (ho : o.op = .call { callee := .builtin .append, args := #[s, x], argTypes := #[t, t] })
    (base : Nat) (e : TypeId) (i : TypeInfo) (z : Value) (size bytes : Nat) (ht : P.underlying t = some (.slice e)) (hi : P.info? e = some i) (hz : i.zero = some z)
    (hsize : i.size = size) (hby : i.bytes = bytes) (hzs : z.cells.size = size) (hsz : 0 < size)
    (v : Value) (n : Nat) (xs : List Value) (hs : a.eval s = v) (hown : w.ownsRow base e size v n xs)
    (ad : Addr) (c : Nat) (news : List Value) (hx : a.eval x = .slice (some ad) 1 c) (hl : news.length = 1 * size) (hnews : ∀ j u, news[j]? = some u → w.cell? (ad.add j) = some u) (h1 : ∀ u ∈ news, u.oneCell' = true)
    (h63 : n + 1 ≤ maxLen) (hbytes : (n + 1) * bytes ≤ 140737488355328) (hbase : base ≤ w.heap.size)
    (pz : ∀ u ∈ z.cells.toList, NoLimb u) (pn : PlL news) (pb : BlkZ w v)
    (h : ∀ v' w', w'.ownsRow base e size v' (n + 1) (xs ++ news) → w.grownBy w' v.ownBlock → BlkZ w' v' → (v'.ownBlock = v.ownBlock ∨ v'.ownBlock = some w.heap.size) → wpList P ops Q rest (a.put o.dst v') w') : wpList P ops Q (o :: rest) a w :=
  wpList_plain hgd fun _ hK => by
    obtain ⟨v', w', hr, h2, h3, h4, h5⟩ := run_append_z (P := P) w base t o.type e i z size bytes ht hi hz hsize hby hzs hsz v n xs hown ad c news hl hnews h1 h63 hbytes hbase pz pn pb
    unfold Oper.wp execOp
    simp only [ho, resolve, invoke, builtin, Sem.run_bind, Sem.run_pure, Result.andThen_ok, List.map_toArray, List.map_cons, List.map_nil, hs, hx, hr]
    exact hK _ _ (h v' w' h2 h3 h4 h5)
/-- A number stays where a row of whole blocks without limbs grows. -/
theorem lies_grown {w W : World} {g : Nat} {o : Option Addr} {c : Nat} {A : List Nat} (h : Lies w o c (ints .u32 A)) (hk : Plain w g) (hg : w.grownBy W (some g)) : Lies W o c (ints .u32 A) := by
  obtain ⟨h1, h2, h3, h4⟩ := h
  refine ⟨h1, h2, h3, fun hp => ?_⟩
  obtain ⟨b, off, rfl, hlt, hc⟩ := h4 hp
  have hne : b ≠ g := by
    rintro rfl
    have h0 := hc 0 hp
    rw [ints_get _ _ _ (by rw [ints_length] at hp; exact hp)] at h0
    have := (hk _ _ h0).1 _ _ rfl
    simp at this
  refine ⟨b, off, rfl, Nat.lt_of_lt_of_le hlt hg.size, fun i hi => ?_⟩
  rw [← hc i hi]
  simp only [World.cell?, hg.block b hlt (by simpa using hne)]
theorem IsR.grown {w W : World} {g : Nat} {v : Value} {p : Nm} (h : IsR w v p) (hk : Plain w g) (hg : w.grownBy W (some g)) : IsR W v p := by
  obtain ⟨h1, h2 | ⟨h2, g2, o1, c1, o2, c2, e, h3, h4, h5, h6, h7⟩⟩ := h
  · exact ⟨h1, .inl h2⟩
  · have hne : g2 ≠ g := by
      rintro rfl
      exact (hk _ _ h4).2 rfl _ _ _ rfl
    have hb := hg.block g2 h3 (by simpa using hne)
    refine ⟨h1, .inr ⟨h2, g2, o1, c1, o2, c2, e, Nat.lt_of_lt_of_le h3 hg.size, ?_, ?_, lies_grown h6 hk hg, lies_grown h7 hk hg⟩⟩
    · rw [← h4]; simp only [World.cell?, hb]
    · rw [← h5]; simp only [World.cell?, hb]
theorem owns_grown {w W : World} {g base : Nat} {e t : TypeId} {v : Value} {n size : Nat} {xs : List Value} {cs : Array Value} (h : w.ownsRow base e size v n xs) (hk : w.heap[g]? = some (.cells cs t)) (hne : t ≠ e) (hg : w.grownBy W (some g)) : W.ownsRow base e size v n xs := by
  refine h.kept hg ?_
  rcases h.2 with ⟨rfl, _⟩ | ⟨g', cap, cur, rfl, _, hg', _⟩
  · exact .inl rfl
  · refine .inr fun e2 => ?_
    simp only [Value.ownBlock, Option.some.injEq] at e2
    subst e2
    rw [hk] at hg'
    simp at hg'
    exact hne hg'.2
theorem IsQ.grown {w W : World} {g : Nat} {v : Value} {p : Nm} {cs : Array Value} {t : TypeId} (h : IsQ w v p) (hk : w.heap[g]? = some (.cells cs t)) (hne : t ≠ 4) (hg : w.grownBy W (some g)) : IsQ W v p := by
  obtain ⟨o1, c1, o2, c2, e, h1, h2⟩ := h
  exact ⟨o1, c1, o2, c2, e, owns_grown h1 hk hne hg, owns_grown h2 hk hne hg⟩
end Go.Proofs.Ytefckmkcbgckfab.AppZ
