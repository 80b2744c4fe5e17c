/- Slices in memory: what lies where, and that it stays there where nothing old is turned; The builtin append onto a row of one's own, from whatever slice, nil or not; What the check of a count of digits answers. -/
import Derived.Test.YtefckmkcbgckfaaGreatDoorRows
import Derived.WalkKit
import Derived.ProofKit
import Derived.OpenShut
import Derived.Laws.AppendOwnNone
import Derived.Deep.QuietTactic
import Derived.BigQuiet
/- Slices in memory: what lies where, and that it stays there where nothing old is turned. -/
namespace Go.Proofs.YtefckmkcbgckfaaGreatDoor.Mem
open Go.RowKit Go.ChangeShapes
theorem bulk_lits {H : Type} (k : IntKind) (zs : List Int) : Rows.uptoBulkAll (H := H) (lits k zs) = zs.length := by
  induction zs with
  | nil => simp [lits, Rows.uptoBulkAll]
  | cons a t ih => simp only [lits, List.map_cons, Rows.uptoBulkAll, Rows.uptoBulk, List.length_cons] at ih ⊢; omega
theorem ret_int {k : IntKind} {a b : Int} (h : a = b) : Ending.returned (.int k a) = .returned (.int k b) := by rw [h]
theorem grown_of_below {w w' : World} (h : Below w.heap.size w w') : w.grownBy w' none := ⟨h.os, h.tape, h.output, h.size, fun k hk _ => h.block k hk⟩

/-- Two steps in which nothing old turns are one. -/
theorem bt {a b c : World} (h : Below a.heap.size a b) (k : Below b.heap.size b c) : Below a.heap.size a c := h.trans (k.mono h.size)

/-- The slice at address ao, of capacity cap, holds the values xs. -/
def Lies (w : World) (ao : Option Addr) (cap : Nat) (xs : List Value) : Prop :=
  xs.length ≤ cap ∧ cap ≤ maxLen ∧ (ao = none → cap = 0) ∧ (0 < xs.length → ∃ b off, ao = some ⟨b, off, none⟩ ∧ b < w.heap.size ∧ ∀ i, i < xs.length → w.cell? ⟨b, off + i, none⟩ = xs[i]?)

theorem Lies.below {w w' : World} {B : Nat} {ao : Option Addr} {cap : Nat} {xs : List Value} (h : Lies w ao cap xs) (hb : Below B w w') (hB : w.heap.size ≤ B) : Lies w' ao cap xs := by
  obtain ⟨h1, h2, h3, h4⟩ := h
  refine ⟨h1, h2, h3, fun hp => ?_⟩
  obtain ⟨b, off, rfl, hlt, hc⟩ := h4 hp
  refine ⟨b, off, rfl, Nat.lt_of_lt_of_le hlt hb.size, fun i hi => ?_⟩
  rw [hb.cell (p := ⟨b, off + i, none⟩) (Nat.lt_of_lt_of_le hlt hB)]
  exact hc i hi
theorem lies_of_owns {w : World} {base : Nat} {e : TypeId} {ao : Option Addr} {n cap : Nat} {xs : List Value} (h : w.ownsRow base e 1 (.slice ao n cap) n xs) : Lies w ao cap xs := by
  have hl : xs.length = n := by have := h.1; omega
  rcases h.2 with ⟨h', h0⟩ | ⟨g, cap', cur, h', hb, hg, hnc, hcm, hcs, htake⟩
  · simp only [Value.slice.injEq] at h'
    obtain ⟨rfl, _, rfl⟩ := h'
    exact ⟨by omega, by decide, fun _ => rfl, fun hp => by omega⟩
  · simp only [Value.slice.injEq] at h'
    obtain ⟨rfl, _, rfl⟩ := h'
    refine ⟨by omega, hcm, fun hn => by simp at hn, fun hp => ⟨g, 0, rfl, (h.lt g rfl).2, fun i hi => ?_⟩⟩
    rw [Nat.zero_add, h.cellAt i (by omega)]
theorem owns_shape {w : World} {base : Nat} {e : TypeId} {v : Value} {n : Nat} {xs : List Value} (h : w.ownsRow base e 1 v n xs) : ∃ ao cap, v = .slice ao n cap := by
  rcases h.2 with ⟨h', h0⟩ | ⟨g, cap', cur, h', _⟩
  · exact ⟨none, 0, by rw [h', h0]⟩
  · exact ⟨_, _, h'⟩
/-- A row of one's own stays where nothing old turns. -/
theorem keep {w w' : World} {base : Nat} {e : TypeId} {v : Value} {n : Nat} {xs : List Value} (h : w.ownsRow base e 1 v n xs) (hb : Below w.heap.size w w') : w'.ownsRow base e 1 v n xs :=
  h.kept (grown_of_below hb) (by cases v.ownBlock <;> simp)
theorem Lies.src {w : World} {ad : Addr} {cap : Nat} {xs : List Value} (h : Lies w (some ad) cap xs) : ∀ j u, xs[j]? = some u → w.cell? (ad.add j) = some u := by
  intro j u hj
  have hlt : j < xs.length := by
    rcases Nat.lt_or_ge j xs.length with h1 | h1
    · exact h1
    · rw [List.getElem?_eq_none h1] at hj; simp at hj
  obtain ⟨b, off, e, _, hc⟩ := h.2.2.2 (by omega)
  simp only [Option.some.injEq] at e
  subst e
  rw [Go.WideShapes.add_plain, hc j hlt, hj]
theorem Lies.size {w : World} {ao : Option Addr} {cap : Nat} {xs : List Value} (h : Lies w ao cap xs) : xs.length ≤ maxLen := Nat.le_trans h.1 h.2.1
/-- A slice cut at its end. -/
theorem Lies.take {w : World} {ao : Option Addr} {cap : Nat} {xs : List Value} (h : Lies w ao cap xs) (n : Nat) : Lies w ao cap (xs.take n) := by
  obtain ⟨h1, h2, h3, h4⟩ := h
  have hl : (xs.take n).length ≤ xs.length := by simp; omega
  refine ⟨by omega, h2, h3, fun hp => ?_⟩
  obtain ⟨b, off, rfl, hlt, hc⟩ := h4 (by omega)
  refine ⟨b, off, rfl, hlt, fun i hi => ?_⟩
  rw [hc i (by omega), List.getElem?_take, if_pos (by simp at hi; omega)]
theorem owns_take {w : World} {base : Nat} {e : TypeId} {ao : Option Addr} {n cap : Nat} {xs : List Value} (h : w.ownsRow base e 1 (.slice ao n cap) n xs) (m : Nat) (hm : m ≤ n) : w.ownsRow base e 1 (.slice ao m cap) m (xs.take m) := by
  have hl : xs.length = n := by have := h.1; omega
  refine ⟨by simp; omega, ?_⟩
  rcases h.2 with ⟨h', h0⟩ | ⟨g, cap', cur, h', hb, hg, hnc, hcm, hcs, htake⟩
  · simp only [Value.slice.injEq] at h'
    obtain ⟨rfl, _, rfl⟩ := h'
    exact .inl ⟨by rw [show m = 0 by omega], by omega⟩
  · simp only [Value.slice.injEq] at h'
    obtain ⟨rfl, _, rfl⟩ := h'
    refine .inr ⟨g, cap, cur, rfl, hb, hg, by omega, hcm, hcs, ?_⟩
    rw [← htake, List.take_take, Nat.mul_one, Nat.mul_one, Nat.min_eq_left hm]
theorem owns_base {w : World} {base base' : Nat} {e : TypeId} {v : Value} {n : Nat} {xs : List Value} (h : w.ownsRow base e 1 v n xs) (hb : base' ≤ base) : w.ownsRow base' e 1 v n xs := by
  refine ⟨h.1, ?_⟩
  rcases h.2 with h' | ⟨g, cap', cur, h', hb', hg, r⟩
  · exact .inl h'
  · exact .inr ⟨g, cap', cur, h', by omega, hg, r⟩

theorem owns_head {w : World} {base : Nat} {e : TypeId} {ao : Option Addr} {n cap : Nat} {xs : List Value} (h : w.ownsRow base e 1 (.slice ao n cap) n xs) (hn : 0 < n) : ∃ g, ao = some ⟨g, 0, none⟩ ∧ base ≤ g := by
  rcases h.2 with ⟨h', h0⟩ | ⟨g, cap', cur, h', hb, _⟩
  · omega
  · simp only [Value.slice.injEq] at h'
    exact ⟨g, h'.1, hb⟩
theorem Lies.alloc {w : World} {ao : Option Addr} {cap : Nat} {xs : List Value} (h : Lies w ao cap xs) (o : Obj) : Lies (w.alloc o) ao cap xs :=
  h.below ((Below.refl _ _).alloc (Nat.le_refl _) o) (Nat.le_refl _)
theorem cells1 (W : World) (x : Value) (e : TypeId) : ∀ j u, [x][j]? = some u → (W.alloc (.cells #[x] e)).cell? ((⟨W.heap.size, 0, none⟩ : Addr).add j) = some u := by
  intro j u hj
  match j, hj with
  | 0, hj => simp at hj; subst hj; simp [Addr.add]
theorem cells2 (W : World) (x y : Value) (e : TypeId) : ∀ j u, [x, y][j]? = some u → (W.alloc (.cells #[x, y] e)).cell? ((⟨W.heap.size, 0, none⟩ : Addr).add j) = some u := by
  intro j u hj
  match j, hj with
  | 0, hj => simp at hj; subst hj; simp [Addr.add]
  | 1, hj => simp at hj; subst hj; simp [Addr.add]
/-- A list of numbers of one kind, as values. -/
def ints (k : IntKind) (l : List Nat) : List Value := l.map fun (n : Nat) => Value.int k (n : Int)
theorem ints_length (k : IntKind) (l : List Nat) : (ints k l).length = l.length := by simp [ints]
theorem ints_get (k : IntKind) (l : List Nat) (i : Nat) (h : i < l.length) : (ints k l)[i]? = some (.int k ((l.getD i 0 : Nat) : Int)) := by simp [ints, h]
theorem ints_append (k : IntKind) (a b : List Nat) : ints k (a ++ b) = ints k a ++ ints k b := by simp [ints]
theorem ints_one (k : IntKind) (l : List Nat) : ∀ u ∈ ints k l, u.oneCell' = true := by
  intro u hu; simp only [ints, List.mem_map] at hu; obtain ⟨n, _, rfl⟩ := hu; rfl
theorem ints_set (k : IntKind) (l : List Nat) (i n : Nat) : (ints k l).set i (.int k (n : Int)) = ints k (l.set i n) := by rw [ints, ints, List.map_set]
theorem bools_one (l : List Bool) : ∀ u ∈ l.map Value.bool, u.oneCell' = true := by
  intro u hu; simp only [List.mem_map] at hu; obtain ⟨n, _, rfl⟩ := hu; rfl
theorem bools_get (l : List Bool) (j : Nat) (h : j < l.length) : (l.map Value.bool)[j]? = some (.bool (l.getD j false)) := by simp [h]
/-- What an argument holds: its elements as naturals. -/
theorem lies_of_row {k : IntKind} {w : World} {a : Option Addr} {len cap : Nat} {zs : List Int} (hk : ∀ n : Int, (Lit.int k n).wf = true → 0 ≤ n)
    (h : (a = none ∧ len = 0 ∧ cap = 0 ∧ zs = []) ∨
      ∃ x, a = some x ∧ len ≤ cap ∧ cap ≤ maxLen ∧ zs.length = cap ∧ (∀ i, i < zs.length → w.cell? (x.add i) = some (.int k (zs.getD i 0))) ∧ ∀ n ∈ zs, (Lit.int k n).wf = true) :
    ∃ l : List Nat, l.length = len ∧ Lies w a cap (ints k l) ∧ ∀ n ∈ l, (Lit.int k (n : Int)).wf = true := by
  rcases h with ⟨rfl, rfl, rfl, rfl⟩ | ⟨x, rfl, h1, h2, h3, h4, h5⟩
  · exact ⟨[], rfl, ⟨by simp [ints], by decide, fun _ => rfl, fun hp => by simp [ints] at hp⟩, fun n hn => by simp at hn⟩
  · refine ⟨(zs.take len).map Int.toNat, by simp; omega, ⟨by simp [ints]; omega, h2, fun hn => by simp at hn, fun hp => ?_⟩, fun n hn => ?_⟩
    · have hp2 : 0 < zs.length := by simp [ints] at hp; omega
      obtain ⟨b, off, rfl, hc⟩ := ints_at h4 hp2
      refine ⟨b, off, rfl, ?_, fun i hi => ?_⟩
      · have h0 := hc 0 hp2
        rcases Nat.lt_or_ge b w.heap.size with h6 | h6
        · exact h6
        · simp [World.cell?, Array.getElem?_eq_none h6] at h0
      · have hi2 : i < len := by simp [ints] at hi; omega
        have hi3 : i < zs.length := by omega
        rw [hc i hi3]
        have h7 := hk _ (h5 zs[i] (List.getElem_mem hi3))
        simp [ints, hi2, hi3]
        omega
    · simp only [List.mem_map] at hn
      obtain ⟨z, hz, rfl⟩ := hn
      have h6 := h5 z (List.mem_of_mem_take hz)
      rw [Int.toNat_of_nonneg (hk z h6)]; exact h6
theorem ints_zero (k : IntKind) (n : Nat) : ints k (List.replicate n 0) = List.replicate n (.int k 0) := by simp [ints]
theorem nonneg_u8 (n : Int) (h : (Lit.int .u8 n).wf = true) : 0 ≤ n := (bounds_u8 h).1
theorem nonneg_u32 (n : Int) (h : (Lit.int .u32 n).wf = true) : 0 ≤ n := (bounds_u32 h).1
theorem nonneg_u64 (n : Int) (h : (Lit.int .u64 n).wf = true) : 0 ≤ n := (bounds_u64 h).1
end Go.Proofs.YtefckmkcbgckfaaGreatDoor.Mem

/- The builtin append onto a row of one's own, from whatever slice, nil or not. -/
namespace Go.Proofs.YtefckmkcbgckfaaGreatDoor.AppL
open Go.RowKit Mem

/-- A guarded operation whose guard says yes. -/
theorem wpList_wanted {P : Program} {ops : Array Oper} {rest : List Oper} {o : Oper} {a : Act} {w : World} {Q : Exit → Act → World → Prop} (hw : Region.wanted o (yielded ops a.tmps) = true) (h : wpList P ops Q ({ o with guard := none } :: rest) a w) : wpList P ops Q (o :: rest) a w := by
  unfold wpList at h ⊢
  rw [if_pos hw]
  rw [if_pos (by simp [Region.wanted])] at h
  exact h

theorem wpList_append_lies {P : Program} (w : World) {ops : Array Oper} {rest : List Oper} {o : Oper} {a : Act} {Q : Exit → Act → World → Prop} (hgd : o.guard = none) (s x : Operand) (t : TypeId)
    (ho : o.op = .call { callee := .builtin .append, args := #[s, x], argTypes := #[t, t] })
    (base : Nat) (e : TypeId) (i : TypeInfo) (z : Value) (bytes : Nat) (ht : P.underlying t = some (.slice e)) (hi : P.info? e = some i) (hz : i.zero = some z)
    (hsize : i.size = 1) (hby : i.bytes = bytes) (hzs : z.cells.size = 1)
    (v : Value) (n : Nat) (xs : List Value) (hs : a.eval s = v) (hown : w.ownsRow base e 1 v n xs)
    (ao : Option Addr) (m c : Nat) (news : List Value) (hx : a.eval x = .slice ao m c) (hm : news.length = m) (hl : Lies w ao c news) (h1 : ∀ u ∈ news, u.oneCell' = true)
    (h63 : n + m ≤ maxLen) (hbytes : (n + m) * bytes ≤ 140737488355328) (hbase : base ≤ w.heap.size)
    (h : ∀ v' w', w'.ownsRow base e 1 v' (n + m) (xs ++ news) → w.grownBy w' v.ownBlock → wpList P ops Q rest (a.put o.dst v') w') : wpList P ops Q (o :: rest) a w := by
  cases ao with
  | none =>
    have h0 := hl.2.2.1 rfl
    have h2 := hl.1
    obtain rfl : c = 0 := h0
    obtain rfl : news = [] := List.length_eq_zero_iff.1 (by omega)
    obtain rfl : m = 0 := hm.symm
    exact wpList_append_own_none hgd s x t ho base e i 1 ht hi v n xs hs hown hx (h v w (by simpa using hown) ⟨rfl, rfl, rfl, Nat.le_refl _, fun _ _ _ => rfl⟩)
  | some ad => exact wpList_append_own w hgd s x t ho base e i z 1 bytes ht hi hz hsize hby hzs (by decide) v n xs hs hown ad m c news hx (by omega) hl.src h1 h63 hbytes hbase (fun v' w' h2 h3 _ => h v' w' h2 h3)
end Go.Proofs.YtefckmkcbgckfaaGreatDoor.AppL

/- What the check of a count of digits answers. -/
namespace Go.Proofs.YtefckmkcbgckfaaGreatDoor.OutL
open Go.RowKit Mem

theorem outside_in (n : Int) (w : World) (h0 : 0 ≤ n) (h1 : n ≤ 20000) : Calls Tryz.prog 72 #[.int .i64 n] w fun e w' => e = .returned (.int .i64 0) ∧ w' = w := by
  go_enter Tryz.func72, Tryz.ntmps72
  go_wp2
  go_ret
  exact ⟨rfl, rfl⟩
theorem outside_low (n : Int) (w : World) (h0 : n < 0) : Calls Tryz.prog 72 #[.int .i64 n] w fun e w' => e = .returned (.int .i64 1) ∧ w' = w := by
  go_enter Tryz.func72, Tryz.ntmps72
  go_wp2
  go_ret
  exact ⟨rfl, rfl⟩
theorem outside_high (n : Int) (w : World) (h0 : 20000 < n) : Calls Tryz.prog 72 #[.int .i64 n] w fun e w' => e = .returned (.int .i64 2) ∧ w' = w := by
  go_enter Tryz.func72, Tryz.ntmps72
  go_wp2
  go_ret
  exact ⟨rfl, rfl⟩
end Go.Proofs.YtefckmkcbgckfaaGreatDoor.OutL
