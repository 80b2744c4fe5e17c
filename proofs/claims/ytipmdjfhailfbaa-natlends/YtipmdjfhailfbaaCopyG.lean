/- Copy of a list of up to 2^46 limbs. -/
import Derived.Test.YtipmdjfhailfbaaLimb1
import Derived.Laws.AppendOwn
namespace Go.Proofs.Ytipmdjfhailfbaa.CopyG
open Go.RowKit Mem LimbNum Limb1

/-- append to a list that has no room, of as much as make gives. -/
theorem wpList_append_first {P : Program} (w : World) {ops : Array Oper} {rest : List Oper} {o : Oper} {a : Act} {Q : Exit → Act → World → Prop} (hgd : o.guard = none) (s x : Operand) (t : TypeId)
    (ho : o.op = .call { callee := .builtin .append, args := #[s, x], argTypes := #[t, t] })
    (base g : Nat) (e : TypeId) (i : TypeInfo) (z : Value) (ht : P.underlying t = some (.slice e)) (hi : P.info? e = some i) (hz : i.zero = some z) (hsize : i.size = 1) (hby : i.bytes = 4) (hzs : z.cells.size = 1)
    (hs : a.eval s = .slice (some ⟨g, 0, none⟩) 0 0) (ad : Addr) (m c : Nat) (news : List Value) (hx : a.eval x = .slice (some ad) m c) (hl : news.length = m) (hnews : ∀ j u, news[j]? = some u → w.cell? (ad.add j) = some u)
    (hm : 0 < m) (hbytes : m ≤ 70368744177664) (hbase : base ≤ w.heap.size)
    (h : ∀ cap w', w'.ownsRow base e 1 (.slice (some ⟨w.heap.size, 0, none⟩) m cap) m news → w.grownBy w' none → wpList P ops Q rest (a.put o.dst (.slice (some ⟨w.heap.size, 0, none⟩) m cap)) w') : wpList P ops Q (o :: rest) a w := by
  refine wpList_plain hgd fun K hK => ?_
  have hfit : Builtin.nextslicecap (0 + m) 0 * i.bytes ≤ 281474976710656 := by rw [nextslicecap_zero (by omega), hby]; omega
  have hr := run_append_grow (P := P) w t o.type e i z ht hi hz ⟨g, 0, none⟩ 0 0 [] (by simp) (by simp) ad m c news (by rw [hsize]; omega) hnews (by omega) (by omega) hfit
  rw [Nat.zero_add] at hr
  have hge := grownCap_ge w m 0 e
  have hcm := grownCap_le_maxLen w m 0 e (by unfold maxLen; omega)
  unfold Oper.wp execOp
  simp only [ho, resolve, invoke, builtin, Sem.run_bind, Sem.run_pure, Result.andThen_ok, List.map_toArray, List.map_cons, List.map_nil, hs, hx, hr]
  refine hK _ _ (h _ _ ⟨by omega, .inr ⟨w.heap.size, _, _, rfl, hbase, heap_alloc_new w.drew _, hge, hcm, ?_, ?_⟩⟩ ⟨rfl, rfl, rfl, by simp, fun k hk _ => heap_alloc_old w.drew _ hk⟩)
  · simp only [Array.size_append, List.size_toArray, size_zeroCells, hzs, hl, List.length_nil]
    omega
  · simp only [Array.toList_append, List.nil_append]
    rw [Nat.mul_one, ← hl]
    exact List.take_left
theorem copy_great (A : List Nat) (ao : Option Addr) (cap : Nat) (w : World) (h : Lies w ao cap (ints .u32 A)) (hA : A.length ≤ 70368744177664) :
    Calls Try.prog 7 #[.slice ao A.length cap] w fun e w' => ∃ ao' cap', e = .returned (.slice ao' A.length cap') ∧ w'.ownsRow w.heap.size 33 1 (.slice ao' A.length cap') A.length (ints .u32 A) ∧ Below w.heap.size w w' := by
  obtain ⟨i0, hi, hz0, hz1, hz2⟩ := info_parts info32
  by_cases hs : A.length ≤ 35184372088832
  · exact copy_any A ao cap w h hs
  · obtain ⟨b, off, rfl, _, _⟩ := h.2.2.2 (by rw [ints_length]; omega)
    have hpos : 0 < A.length := by omega
    clear hs
    go_enter Try.func7, Try.ntmps7
    go_wp2_with (at_builtin; refine wpList_append_first _ rfl _ _ 22 rfl w.heap.size w.heap.size 33 i0 (.int .u32 0) Try.underlying22 hi hz0 hz1 hz2 rfl rfl ⟨b, off, none⟩ A.length cap (ints .u32 A) rfl (ints_length _ _) (h.alloc _).src hpos hA (by simp) ?_; intro c1 w1 hown1 hgr1)
    have hb : Below w.heap.size w w1 := ((Below.refl w.heap.size w).alloc (Nat.le_refl _) _).grown hgr1 (by simp) (by simp)
    go_ret
    exact ⟨_, _, rfl, by simpa using hown1, hb⟩
end Go.Proofs.Ytipmdjfhailfbaa.CopyG
