/- Numbers in blocks of their own, rows of numbers, keys held against each other; number, alike, Make, Gcd of a number's parts; attesttop.number, of a number that came in. -/
import Derived.Test.YtefckmkcbgckfabSetBC
import Derived.Test.YtefckmkcbgckfabSetBD
import Derived.Test.YtefckmkcbgckfabSetBE
import Derived.Test.YtefckmkcbgckfabSetAW
import Derived.Test.YtefckmkcbgckfabSetAQ
import Derived.DeepKeys4
import Derived.Maps.Keyed
/- Numbers in blocks of their own, rows of numbers, keys held against each other; number, alike, Make, Gcd of a number's parts. -/
namespace Go.Proofs.Ytefckmkcbgckfab.FrN
open Go.RowKit Mem LimbNum Limb1 DigNum DigL StrL TxN ShelfC TextL RText RatL RatM RatN RatW RefR RefT RefU InvL DivL QNum CmpL CmqL RefX RefY RefZ FloL Mk5 AddN JoinL AddW AddV AddR FldL SubL NmL MulN MulW MulL PaL PtL PbL Law5 Aw5 VqN BkL RatF RatO ByNum AppZ GcdA
open Go.Maps

/-- The number p in the block g. -/
structure Bx (w : World) (g : Nat) (p : Nm) (xb : Bool) (xA xL : Int) (xp : Option Addr) : Prop where
  box : w.heap[g]? = some (.cells #[.bool xb, .int .u64 xA, .int .u64 xL, .pointer xp] 28)
  is : IsR w (.agg #[.bool xb, .int .u64 xA, .int .u64 xL, .pointer xp]) p
theorem Bx.new {w : World} {p : Nm} {xb : Bool} {xA xL : Int} {xp : Option Addr} (h : IsR w (.agg #[.bool xb, .int .u64 xA, .int .u64 xL, .pointer xp]) p) : Bx (w.alloc (.cells #[.bool xb, .int .u64 xA, .int .u64 xL, .pointer xp] 28)) w.heap.size p xb xA xL xp :=
  ⟨heap_alloc_new _ _, h.below ((Below.refl _ _).alloc (Nat.le_refl _) _)⟩
theorem Bx.set {w : World} {g : Nat} {p : Nm} {xb : Bool} {xA xL : Int} {xp : Option Addr} {yb : Bool} {yA yL : Int} {yp : Option Addr} (h : IsR w (.agg #[.bool xb, .int .u64 xA, .int .u64 xL, .pointer xp]) p) (hk : w.heap[g]? = some (.cells #[.bool yb, .int .u64 yA, .int .u64 yL, .pointer yp] 28)) : Bx ((((w.setCell ⟨g, 0, none⟩ (.bool xb)).setCell ⟨g, 1, none⟩ (.int .u64 xA)).setCell ⟨g, 2, none⟩ (.int .u64 xL)).setCell ⟨g, 3, none⟩ (.pointer xp)) g p xb xA xL xp :=
  ⟨sto4_box hk _ _ _ _, h.offP (plain4 hk) (sto4_off w g _ _ _ _).1 (sto4_off w g _ _ _ _).2⟩
theorem Bx.off {w : World} {g g' : Nat} {p : Nm} {xb : Bool} {xA xL : Int} {xp : Option Addr} {yb : Bool} {yA yL : Int} {yp : Option Addr} (h : Bx w g p xb xA xL xp) (hk : w.heap[g']? = some (.cells #[.bool yb, .int .u64 yA, .int .u64 yL, .pointer yp] 28)) (hn : g ≠ g') (a0 a1 a2 a3 : Value) : Bx ((((w.setCell ⟨g', 0, none⟩ a0).setCell ⟨g', 1, none⟩ a1).setCell ⟨g', 2, none⟩ a2).setCell ⟨g', 3, none⟩ a3) g p xb xA xL xp :=
  ⟨((sto4_off w g' a0 a1 a2 a3).1 g hn).trans h.box, h.is.offP (plain4 hk) (sto4_off w g' a0 a1 a2 a3).1 (sto4_off w g' a0 a1 a2 a3).2⟩
theorem Bx.below {w w' : World} {g : Nat} {p : Nm} {xb : Bool} {xA xL : Int} {xp : Option Addr} (h : Bx w g p xb xA xL xp) (hb : Below w.heap.size w w') : Bx w' g p xb xA xL xp := ⟨box_kept h.box hb (in_heap h.box), h.is.below hb⟩
theorem Bx.cells {w : World} {g : Nat} {p : Nm} {xb : Bool} {xA xL : Int} {xp : Option Addr} (h : Bx w g p xb xA xL xp) : w.cell? ⟨g, 0, none⟩ = some (.bool xb) ∧ w.cell? ⟨g, 1, none⟩ = some (.int .u64 xA) ∧ w.cell? ⟨g, 2, none⟩ = some (.int .u64 xL) ∧ w.cell? ⟨g, 3, none⟩ = some (.pointer xp) := by
  have dd := cell_at h.box
  exact ⟨dd 0 _ rfl, dd 1 _ rfl, dd 2 _ rfl, dd 3 _ rfl⟩
/-- A row of K numbers. -/
def RowN (W : World) (va : Value) (K : Nat) (E : Nat → Nm) : Prop := ∃ g c, va = .slice (some ⟨g, 0, none⟩) K c ∧ g < W.heap.size ∧ ∀ k, k < K → ∃ b A L p, W.cell? ⟨g, k * 4, none⟩ = some (.bool b) ∧ W.cell? ⟨g, k * 4 + 1, none⟩ = some (.int .u64 A) ∧ W.cell? ⟨g, k * 4 + 2, none⟩ = some (.int .u64 L) ∧ W.cell? ⟨g, k * 4 + 3, none⟩ = some (.pointer p) ∧ IsR W (.agg #[.bool b, .int .u64 A, .int .u64 L, .pointer p]) (E k)
theorem RowN.below {W W' : World} {va : Value} {K : Nat} {E : Nat → Nm} (h : RowN W va K E) (hb : Below W.heap.size W W') : RowN W' va K E := by
  obtain ⟨g, c, e, hg, hr⟩ := h
  refine ⟨g, c, e, Nat.lt_of_lt_of_le hg hb.size, fun k hk => ?_⟩
  obtain ⟨b, A, L, p, a0, a1, a2, a3, hi⟩ := hr k hk
  have kc : ∀ {p : Addr} {v : Value}, W.cell? p = some v → W'.cell? p = some v := fun {p v} h => by rw [hb.cell (World.block_lt_of_cell? W p h)]; exact h
  exact ⟨b, A, L, p, kc a0, kc a1, kc a2, kc a3, hi.below hb⟩
/-- What has come up: a load, a call that answers a number, a variable's block, a number stored there. -/
def LdF (b : Bool) (x v : Value) : Prop := b = true → x = v
def ClF (b : Bool) (k : Nat) (w : World) (x : Value) : Prop := b = true → ∃ (q : Nm) (xb : Bool) (xA xL : Int) (xp : Option Addr), x = .agg #[.bool xb, .int .u64 xA, .int .u64 xL, .pointer xp] ∧ IsR w (.agg #[.bool xb, .int .u64 xA, .int .u64 xL, .pointer xp]) q ∧ Fits q k
def AlF (b : Bool) (B : Nat) (w : World) (p : Value) : Prop := b = true → ∃ (g : Nat) (xb : Bool) (xA xL : Int) (xp : Option Addr), p = .pointer (some ⟨g, 0, none⟩) ∧ B ≤ g ∧ w.heap[g]? = some (.cells #[.bool xb, .int .u64 xA, .int .u64 xL, .pointer xp] 28)
def StF (b : Bool) (k : Nat) (w : World) (p : Value) : Prop := b = true → ∃ (g : Nat) (q : Nm) (xb : Bool) (xA xL : Int) (xp : Option Addr), p = .pointer (some ⟨g, 0, none⟩) ∧ Bx w g q xb xA xL xp ∧ Fits q k
theorem ClF.below {b : Bool} {k : Nat} {w w' : World} {x : Value} (h : ClF b k w x) (hb : Below w.heap.size w w') : ClF b k w' x := fun e => by
  obtain ⟨q, xb, xA, xL, xp, e1, R, F⟩ := h e
  exact ⟨q, xb, xA, xL, xp, e1, R.below hb, F⟩
theorem AlF.below {b : Bool} {B : Nat} {w w' : World} {p : Value} (h : AlF b B w p) (hb : Below w.heap.size w w') : AlF b B w' p := fun e => by
  obtain ⟨g, xb, xA, xL, xp, e1, e2, K⟩ := h e
  exact ⟨g, xb, xA, xL, xp, e1, e2, box_kept K hb (in_heap K)⟩
theorem StF.below {b : Bool} {k : Nat} {w w' : World} {p : Value} (h : StF b k w p) (hb : Below w.heap.size w w') : StF b k w' p := fun e => by
  obtain ⟨g, q, xb, xA, xL, xp, e1, B, F⟩ := h e
  exact ⟨g, q, xb, xA, xL, xp, e1, B.below hb, F⟩
theorem ClF.off {b : Bool} {k : Nat} {w : World} {x : Value} {g : Nat} {yb : Bool} {yA yL : Int} {yp : Option Addr} (h : ClF b k w x) (hk : w.heap[g]? = some (.cells #[.bool yb, .int .u64 yA, .int .u64 yL, .pointer yp] 28)) (a0 a1 a2 a3 : Value) : ClF b k ((((w.setCell ⟨g, 0, none⟩ a0).setCell ⟨g, 1, none⟩ a1).setCell ⟨g, 2, none⟩ a2).setCell ⟨g, 3, none⟩ a3) x := fun e => by
  obtain ⟨q, xb, xA, xL, xp, e1, R, F⟩ := h e
  exact ⟨q, xb, xA, xL, xp, e1, R.offP (plain4 hk) (sto4_off w g a0 a1 a2 a3).1 (sto4_off w g a0 a1 a2 a3).2, F⟩
theorem AlF.off {b : Bool} {B : Nat} {w : World} {p : Value} {g : Nat} {yb : Bool} {yA yL : Int} {yp : Option Addr} (h : AlF b B w p) (hk : w.heap[g]? = some (.cells #[.bool yb, .int .u64 yA, .int .u64 yL, .pointer yp] 28)) (zb : Bool) (zA zL : Int) (zp : Option Addr) : AlF b B ((((w.setCell ⟨g, 0, none⟩ (.bool zb)).setCell ⟨g, 1, none⟩ (.int .u64 zA)).setCell ⟨g, 2, none⟩ (.int .u64 zL)).setCell ⟨g, 3, none⟩ (.pointer zp)) p := fun e => by
  obtain ⟨g', xb, xA, xL, xp, e1, e2, K⟩ := h e
  by_cases hg : g' = g
  · subst hg
    exact ⟨g', zb, zA, zL, zp, e1, e2, sto4_box hk _ _ _ _⟩
  · exact ⟨g', xb, xA, xL, xp, e1, e2, ((sto4_off w g _ _ _ _).1 g' hg).trans K⟩
theorem StF.off {b : Bool} {k : Nat} {w : World} {p : Value} {g : Nat} {yb : Bool} {yA yL : Int} {yp : Option Addr} (h : StF b k w p) (hk : w.heap[g]? = some (.cells #[.bool yb, .int .u64 yA, .int .u64 yL, .pointer yp] 28)) (hn : b = true → p ≠ .pointer (some ⟨g, 0, none⟩)) (a0 a1 a2 a3 : Value) : StF b k ((((w.setCell ⟨g, 0, none⟩ a0).setCell ⟨g, 1, none⟩ a1).setCell ⟨g, 2, none⟩ a2).setCell ⟨g, 3, none⟩ a3) p := fun e => by
  obtain ⟨g', q, xb, xA, xL, xp, e1, B, F⟩ := h e
  refine ⟨g', q, xb, xA, xL, xp, e1, B.off hk (fun e3 => hn e ?_) a0 a1 a2 a3, F⟩
  rw [e1, e3]
theorem StF.new {k : Nat} {w : World} {g : Nat} {q : Nm} {xb : Bool} {xA xL : Int} {xp : Option Addr} {yb : Bool} {yA yL : Int} {yp : Option Addr} (h : IsR w (.agg #[.bool xb, .int .u64 xA, .int .u64 xL, .pointer xp]) q) (f : Fits q k) (hk : w.heap[g]? = some (.cells #[.bool yb, .int .u64 yA, .int .u64 yL, .pointer yp] 28)) : StF true k ((((w.setCell ⟨g, 0, none⟩ (.bool xb)).setCell ⟨g, 1, none⟩ (.int .u64 xA)).setCell ⟨g, 2, none⟩ (.int .u64 xL)).setCell ⟨g, 3, none⟩ (.pointer xp)) (.pointer (some ⟨g, 0, none⟩)) :=
  fun _ => ⟨g, q, xb, xA, xL, xp, rfl, Bx.set h hk, f⟩
theorem AlF.new {B : Nat} {w : World} (h : B ≤ w.heap.size) : AlF true B (w.alloc (.cells #[.bool false, .int .u64 0, .int .u64 0, .pointer none] 28)) (.pointer (some ⟨w.heap.size, 0, none⟩)) := fun _ => ⟨_, _, _, _, _, rfl, h, heap_alloc_new _ _⟩
theorem AlF.ne {b : Bool} {B : Nat} {w : World} {p : Value} (h : AlF b B w p) (hb : b = true) : p ≠ .pointer (some ⟨w.heap.size, 0, none⟩) := by
  obtain ⟨g, _, _, _, _, e, _, K⟩ := h hb
  rw [e]
  intro e2
  have hlt := in_heap K
  simp at e2
theorem laidOut : laidOutB Try.prog = true := by kernel_rfl
theorem rowK : (46 : TypeId) < Try.prog.types.size := of_decide_eq_true (by kernel_rfl)
theorem wideK : (match Try.prog.underlying 46 with | some (.array _ _) | some (.struct _) => true | _ => false) = true := by rw [Try.underlying46]
set_option maxRecDepth 20000 in
theorem lawK : Keyed Try.prog 46 := Keyed.of_law (deep_law_laid laidOut (m := 2) (by omega) rowK (by kernel_rfl) wideK)
theorem keyTypeK : Try.prog.keyType 46 = true := by kernel_rfl
theorem cellsK : Try.prog.cellsOf 46 = 3 := by kernel_rfl
theorem cellsS : Try.prog.cellsOf 9 = 1 := by kernel_rfl
theorem cellsB : Try.prog.cellsOf 4 = 1 := by kernel_rfl
set_option maxRecDepth 20000 in
theorem key_some (b : Bool) (s1 s2 : ByteArray) (h1 : s1.size ≤ maxLen) (h2 : s2.size ≤ maxLen) : ∃ l, keyOf Try.prog 46 (.agg #[.bool b, .string s1, .string s2]) = some l := by
  obtain ⟨m, hm⟩ : ∃ m, Try.prog.types.size + 1 = m + 1 + 1 := ⟨Try.prog.types.size - 1, by have h0 : 0 < Try.prog.types.size := Nat.lt_of_le_of_lt (Nat.zero_le _) rowK; omega⟩
  unfold keyOf
  rw [Try.underlying46, hm]
  simp [keyTypeK, Value.formed, Try.underlying46, cellsK, Value.cells, Program.keyLits, cellsS, cellsB, Try.underlying9, Try.underlying4, h1, h2]
theorem ny_inj {a b : Nat} (h : KeyL.bs (ny a) = KeyL.bs (ny b)) : a = b := by
  have := KeyL.bs_inj (byte_ny a) (byte_ny b) h
  rw [← bv_ny a, ← bv_ny b, this]
set_option maxRecDepth 20000 in
theorem eql_key (w : World) (p q : Nm) (h1 : (ny p.n).length ≤ 1000000) (h2 : (ny p.d).length ≤ 1000000) (h3 : (ny q.n).length ≤ 1000000) (h4 : (ny q.d).length ≤ 1000000) :
    (binOp .eql 46 (.agg #[.bool p.b, .string (KeyL.bs (ny p.n)), .string (KeyL.bs (ny p.d))]) (.agg #[.bool q.b, .string (KeyL.bs (ny q.n)), .string (KeyL.bs (ny q.d))])).run Try.prog w = .ok (.bool (decide (p.b = q.b ∧ p.n = q.n ∧ p.d = q.d))) w := by
  have hm : ∀ n, (ny n).length ≤ 1000000 → (KeyL.bs (ny n)).size ≤ maxLen := fun n h => by rw [KeyL.bs_size]; unfold maxLen; omega
  obtain ⟨lx, hx⟩ := key_some p.b _ _ (hm _ h1) (hm _ h2)
  obtain ⟨ly, hy⟩ := key_some q.b _ _ (hm _ h3) (hm _ h4)
  obtain ⟨r, e1, e2⟩ := run_equal_deep (P := Try.prog) w (m := 2) (by omega) (k := 46) (by kernel_rfl) wideK hx hy
  have er : r = decide (p.b = q.b ∧ p.n = q.n ∧ p.d = q.d) := by
    rw [Bool.eq_iff_iff, e2, decide_eq_true_iff]
    constructor
    · intro e
      have := lawK.inj hx (by rw [e]; exact hy)
      simp at this
      exact ⟨this.1, ny_inj this.2.1, ny_inj this.2.2⟩
    · rintro ⟨a, b, c⟩
      rw [a, b, c] at hx
      exact Option.some.inj (hx.symm.trans hy)
  rw [er] at e1
  simp only [binOp]
  simp [e1]
/-- The keys of two numbers in lowest terms are the same just if Cmp says so. -/
theorem key_cmp {p q : Nm} (hp : Low p.b p.n p.d) (hq : Low q.b q.n q.d) : (decide (p.b = q.b ∧ p.n = q.n ∧ p.d = q.d)) = decide (cmpM p q = 0) := by
  rw [Bool.eq_iff_iff, decide_eq_true_iff, decide_eq_true_iff]
  constructor
  · rintro ⟨a, b, c⟩
    have : p = q := by obtain ⟨_, _, _⟩ := p; obtain ⟨_, _, _⟩ := q; simp_all
    rw [this, cmp_self]
  · intro h
    have := same_of hp hq h
    rw [this]
    exact ⟨rfl, rfl, rfl⟩
theorem fits_ny {p : Nm} {k : Nat} (h : Fits p k) (hk : k ≤ 100000) : (ny p.n).length ≤ 1000000 ∧ (ny p.d).length ≤ 1000000 := by
  rw [ny_len, ny_len]
  have := h.2.1
  have := h.2.2
  omega
def invM (p : Nm) : Nm := ⟨p.b, p.d, p.n⟩
def floM (p : Nm) : Nm := ⟨p.b && decide (floN p.b p.n p.d ≠ 0), floN p.b p.n p.d, 1⟩
theorem a_abs {v : Value} {p : Nm} {w : World} (h : IsR w v p) : Calls Try.prog 11 #[v] w fun e w' => ∃ v', e = .returned v' ∧ IsR w' v' (absM p) ∧ Below w.heap.size w w' := abs_any v _ _ _ w h
theorem a_flo {v : Value} {p : Nm} {k : Nat} (hk : k ≤ 100000) {w : World} (h : IsR w v p) (f : Fits p k) : Calls Try.prog 12 #[v] w fun e w' => ∃ v', e = .returned v' ∧ IsR w' v' (floM p) ∧ Below w.heap.size w w' := floor_any v _ _ _ w h (f.nl (by omega)).1 (f.nl (by omega)).2
theorem a_div {v1 v2 : Value} {p q : Nm} {k : Nat} (hk : k ≤ 100000) {w : World} (h1 : IsR w v1 p) (h2 : IsR w v2 q) (hn : q.n ≠ 0) (f1 : Fits p k) (f2 : Fits q k) :
    Calls Try.prog 13 #[v1, v2] w fun e w' => ∃ v, e = .returned (.tuple #[v, .bool true]) ∧ IsR w' v (mulM p (invM q)) ∧ Below w.heap.size w w' :=
  div_yes v1 v2 _ _ _ _ _ _ w h1 h2 hn (Nat.le_trans (f1.nl (by omega)).1 (by omega)) (Nat.le_trans (f1.nl (by omega)).2 (by omega)) (Nat.le_trans (f2.nl (by omega)).1 (by omega)) (Nat.le_trans (f2.nl (by omega)).2 (by omega))
theorem a_div0 {v1 v2 : Value} {p q : Nm} {w : World} (h1 : IsR w v1 p) (h2 : IsR w v2 q) (hn : q.n = 0) :
    Calls Try.prog 13 #[v1, v2] w fun e w' => e = .returned (.tuple #[.agg #[.bool false, .int .u64 0, .int .u64 0, .pointer none], .bool false]) ∧ Below w.heap.size w w' := by
  unfold IsR at h2
  rw [hn] at h2
  exact div_no v1 v2 _ _ _ _ _ w h1 h2
/-- Make of a number's own parts. -/
theorem a_make (p : Nm) (o1 o2 : Option Addr) (c1 c2 : Nat) {k : Nat} (hk : k ≤ 100000) {w : World} (h1 : Lies w o1 c1 (ints .u32 (nl p.n))) (h2 : Lies w o2 c2 (ints .u32 (nl p.d))) (f : Fits p k) (lo : Low p.b p.n p.d) :
    Calls Try.prog 15 #[.bool p.b, .slice o1 (nl p.n).length c1, .slice o2 (nl p.d).length c2] w fun e w' => ∃ v, e = .returned (.tuple #[v, .bool true]) ∧ IsR w' v p ∧ Below w.heap.size w w' := by
  have l1 := (f.nl (by omega)).1
  have l2 := (f.nl (by omega)).2
  have h := make_any p.b (nl p.n) (nl p.d) o1 o2 c1 c2 w h1 h2 (small_nl _) (small_nl _) (by omega) (by omega) (by rw [val_nl]; exact f.pos)
  rw [val_nl, val_nl] at h
  have e := low_same lo
  refine h.mono ?_
  rintro e1 w' ⟨v, rfl, R, hb⟩
  refine ⟨v, rfl, ?_, hb⟩
  have : IsR w' v ⟨p.b && decide (p.n / Nat.gcd p.n p.d ≠ 0), p.n / Nat.gcd p.n p.d, p.d / Nat.gcd p.n p.d⟩ := R
  rw [e] at this
  exact this
theorem nl_one : nl 1 = [1] := by decide +kernel
/-- Gcd of a number's parts: the row of 1 alone. -/
theorem a_gcd (p : Nm) (o1 o2 : Option Addr) (c1 c2 : Nat) {k : Nat} (hk : k ≤ 100000) {w : World} (h1 : Lies w o1 c1 (ints .u32 (nl p.n))) (h2 : Lies w o2 c2 (ints .u32 (nl p.d))) (f : Fits p k) (lo : Low p.b p.n p.d) :
    Calls Try.prog 17 #[.slice o1 (nl p.n).length c1, .slice o2 (nl p.d).length c2] w fun e w' => ∃ g off c, e = .returned (.slice (some ⟨g, off, none⟩) 1 c) ∧ w'.cell? ⟨g, off, none⟩ = some (.int .u32 1) ∧ Below w.heap.size w w' := by
  have l1 := (f.nl (by omega)).1
  have l2 := (f.nl (by omega)).2
  refine (gcd_nl p.n p.d o1 o2 c1 c2 w h1 h2 (by omega) (by omega)).mono ?_
  rintro e w' ⟨o, c, rfl, L, hb⟩
  rw [lo.one, nl_one] at L
  obtain ⟨_, _, _, L4⟩ := L
  obtain ⟨b, off, rfl, hlt, hc⟩ := L4 (by simp [ints])
  refine ⟨b, off, c, by rw [lo.one, nl_one]; rfl, ?_, hb⟩
  have := hc 0 (by simp [ints])
  simpa [ints] using this
set_option maxRecDepth 20000 in
theorem alike_any {v1 v2 : Value} {p q : Nm} {k : Nat} (hk : k ≤ 100000) {w : World} (h1 : IsR w v1 p) (h2 : IsR w v2 q) (f1 : Fits p k) (f2 : Fits q k) :
    Calls Try.prog 16 #[v1, v2] w fun e w' => e = .returned (.bool (decide (cmpM p q = 0))) ∧ Below w.heap.size w w' := by
  obtain ⟨xb, xA, xL, xp, rfl⟩ := h1.shape4
  obtain ⟨yb, yA, yL, yp, rfl⟩ := h2.shape4
  obtain ⟨W0, eW0, hb0, k0, k1⟩ := two_new w (.cells #[.bool xb, .int .u64 xA, .int .u64 xL, .pointer xp] 28) (.cells #[.bool yb, .int .u64 yA, .int .u64 yL, .pointer yp] 28)
  have e0 := cell_at k0
  have e1 := cell_at k1
  have a0 : W0.cell? ⟨w.heap.size, 0, none⟩ = some (.bool xb) := e0 0 _ rfl
  have a1 : W0.cell? ⟨w.heap.size, 1, none⟩ = some (.int .u64 xA) := e0 1 _ rfl
  have a2 : W0.cell? ⟨w.heap.size, 2, none⟩ = some (.int .u64 xL) := e0 2 _ rfl
  have a3 : W0.cell? ⟨w.heap.size, 3, none⟩ = some (.pointer xp) := e0 3 _ rfl
  have c0 : W0.cell? ⟨w.heap.size + 1, 0, none⟩ = some (.bool yb) := e1 0 _ rfl
  have c1 : W0.cell? ⟨w.heap.size + 1, 1, none⟩ = some (.int .u64 yA) := e1 1 _ rfl
  have c2 : W0.cell? ⟨w.heap.size + 1, 2, none⟩ = some (.int .u64 yL) := e1 2 _ rfl
  have c3 : W0.cell? ⟨w.heap.size + 1, 3, none⟩ = some (.pointer yp) := e1 3 _ rfl
  have EW : Hid (_ = W0) := eW0
  have C0 : Hid (Below w.heap.size w W0) := hb0
  have cC := a_cmp hk (h1.below hb0) (h2.below hb0) f1 f2
  clear eW0 hb0 k0 k1 e0 e1 h1 h2
  go_enter Try.func16, Try.ntmps16
  go_upto_region 1 with fail
  rw [EW.out]
  clear EW
  go_wp2_with (go_at_call 40; refine cC.mono ?_; rintro e w1 ⟨rfl, hb1⟩)
  all_goals go_ret
  all_goals exact ⟨by rw [show (cmpM p q == 0) = decide (cmpM p q = 0) by rw [Bool.eq_iff_iff]; simp]; rfl, bt C0.out hb1⟩
set_option maxRecDepth 20000 in
theorem number_any (xx : Bool) (SA SB : Value) (q : Nm) (w : World)
    (cB : ∀ W, Below w.heap.size w W → Calls Try.prog 25 #[.agg #[.bool xx, SA, SB]] W fun e w' => ∃ v y, e = .returned (.tuple #[v, y]) ∧ IsR w' v q ∧ IsQ w' y q ∧ Below W.heap.size W w') :
    Calls Try.prog 6 #[.agg #[.bool xx, SA, SB]] w fun e w' => ∃ v, e = .returned v ∧ IsR w' v q ∧ Below w.heap.size w w' := by
  obtain ⟨W0, eW0, hb0, k0, k1⟩ := two_new w (.cells #[.bool xx, SA, SB] 24) (.cells #[.bool false, .int .u64 0, .int .u64 0, .pointer none] 28)
  have e0 := cell_at k0
  have a0 : W0.cell? ⟨w.heap.size, 0, none⟩ = some (.bool xx) := e0 0 _ rfl
  have a1 : W0.cell? ⟨w.heap.size, 1, none⟩ = some SA := e0 1 _ rfl
  have a2 : W0.cell? ⟨w.heap.size, 2, none⟩ = some SB := e0 2 _ rfl
  have EW : Hid (_ = W0) := eW0
  have C0 : Hid (Below w.heap.size w W0) := hb0
  have K1 : Hid (W0.heap[w.heap.size + 1]? = some (.cells #[.bool false, .int .u64 0, .int .u64 0, .pointer none] 28)) := k1
  have cc := cB W0 hb0
  clear eW0 hb0 k0 k1 e0 cB
  go_enter Try.func6, Try.ntmps6
  go_upto_region 1 with fail
  rw [EW.out]
  clear EW
  go_upto_region 2 with (go_at_call 25; refine cc.mono ?_; rintro e w1 ⟨v, y, rfl, RR, QQ, hb1⟩; obtain ⟨xb, xA, xL, xp, rfl⟩ := RR.shape4; obtain ⟨yb, yo, yl, yc, zo, zl, zc, rfl⟩ := QQ.shape3)
  obtain ⟨W1, eW1, B1, kx, kp⟩ := two_new w1 (.cells #[.bool xb, .int .u64 xA, .int .u64 xL, .pointer xp] 28) (.cells #[.bool yb, .slice yo yl yc, .slice zo zl zc] 59)
  rw [eW1]
  have BB := bt hb1 B1
  have K2 : W1.heap[w.heap.size + 1]? = some (.cells #[.bool false, .int .u64 0, .int .u64 0, .pointer none] 28) := box_kept K1.out BB (in_heap K1.out)
  have R1 := RR.below B1
  have RS : Hid (Bx ((((W1.setCell ⟨(w.heap.size + 1), 0, none⟩ (.bool xb)).setCell ⟨(w.heap.size + 1), 1, none⟩ (.int .u64 xA)).setCell ⟨(w.heap.size + 1), 2, none⟩ (.int .u64 xL)).setCell ⟨(w.heap.size + 1), 3, none⟩ (.pointer xp)) (w.heap.size + 1) q xb xA xL xp) := Bx.set R1 K2
  have HB : Hid (Below w.heap.size w ((((W1.setCell ⟨(w.heap.size + 1), 0, none⟩ (.bool xb)).setCell ⟨(w.heap.size + 1), 1, none⟩ (.int .u64 xA)).setCell ⟨(w.heap.size + 1), 2, none⟩ (.int .u64 xL)).setCell ⟨(w.heap.size + 1), 3, none⟩ (.pointer xp))) := sto4_below (bt C0.out BB) (Nat.le_succ _) _ _ _ _
  have e0 := cell_at kx
  have c0 : W1.cell? ⟨w1.heap.size, 0, none⟩ = some (.bool xb) := e0 0 _ rfl
  have c1 : W1.cell? ⟨w1.heap.size, 1, none⟩ = some (.int .u64 xA) := e0 1 _ rfl
  have c2 : W1.cell? ⟨w1.heap.size, 2, none⟩ = some (.int .u64 xL) := e0 2 _ rfl
  have c3 : W1.cell? ⟨w1.heap.size, 3, none⟩ = some (.pointer xp) := e0 3 _ rfl
  have e1 := cell_at K2
  have z0 : W1.cell? ⟨w.heap.size + 1, 0, none⟩ = some (.bool false) := e1 0 _ rfl
  have z1 : W1.cell? ⟨w.heap.size + 1, 1, none⟩ = some (.int .u64 0) := e1 1 _ rfl
  have z2 : W1.cell? ⟨w.heap.size + 1, 2, none⟩ = some (.int .u64 0) := e1 2 _ rfl
  have z3 : W1.cell? ⟨w.heap.size + 1, 3, none⟩ = some (.pointer none) := e1 3 _ rfl
  have fz : ∀ i, W1.frozen? ⟨w.heap.size + 1, i, none⟩ = false := fun i => by simp [World.frozen?, K2]
  have fz0 := fz 0
  have fz1 := fz 1
  have fz2 := fz 2
  have fz3 := fz 3
  clear fz
  clear eW1 B1 kx kp BB hb1 RR QQ e0 e1 cc K1 C0 R1 K2 a0 a1 a2
  go_wp2
  obtain ⟨y0, y1, y2, y3⟩ := RS.out.cells
  have RI := RS.out.is
  have HB2 := HB.out
  clear RS HB
  generalize World.setCell _ _ _ = W' at *
  refine bodyPost_ret (v := .agg #[.bool xb, .int .u64 xA, .int .u64 xL, .pointer xp]) ?_ rfl ?_
  · simp [results, go_sem, y0, y1, y2, y3]
  · exact ⟨_, rfl, RI, HB2⟩
end Go.Proofs.Ytefckmkcbgckfab.FrN

/- attesttop.number, of a number that came in. -/
namespace Go.Proofs.Ytefckmkcbgckfab.FrB
open Go.RowKit Mem LimbNum Limb1 DigNum DigL StrL TxN ShelfC TextL RText RatL RatM RatN RatW RefR RefT RefU InvL DivL QNum CmpL CmqL RefX RefY RefZ FloL Mk5 AddN JoinL AddW AddV AddR FldL SubL NmL MulN MulW MulL PaL PtL PbL Law5 Aw5 VqN BkL RatF RatO ByNum AppZ GcdA FrN

set_option maxRecDepth 20000 in
theorem number_nm (xx : Bool) (SA SB : Value) (w : World)
    (cB : ∀ W, Below w.heap.size w W → Calls Try.prog 25 #[.agg #[.bool xx, SA, SB]] W fun e w' => ∃ v y q, e = .returned (.tuple #[v, y]) ∧ IsR w' v q ∧ IsQ w' y q ∧ Fits q 256 ∧ Below W.heap.size W w') :
    Calls Try.prog 6 #[.agg #[.bool xx, SA, SB]] w fun e w' => ∃ v q, e = .returned v ∧ IsR w' v q ∧ Fits q 256 ∧ Below w.heap.size w w' := by
  obtain ⟨W0, eW0, hb0, k0, k1⟩ := two_new w (.cells #[.bool xx, SA, SB] 24) (.cells #[.bool false, .int .u64 0, .int .u64 0, .pointer none] 28)
  have e0 := cell_at k0
  have a0 : W0.cell? ⟨w.heap.size, 0, none⟩ = some (.bool xx) := e0 0 _ rfl
  have a1 : W0.cell? ⟨w.heap.size, 1, none⟩ = some SA := e0 1 _ rfl
  have a2 : W0.cell? ⟨w.heap.size, 2, none⟩ = some SB := e0 2 _ rfl
  have EW : Hid (_ = W0) := eW0
  have C0 : Hid (Below w.heap.size w W0) := hb0
  have K1 : Hid (W0.heap[w.heap.size + 1]? = some (.cells #[.bool false, .int .u64 0, .int .u64 0, .pointer none] 28)) := k1
  have cc := cB W0 hb0
  clear eW0 hb0 k0 k1 e0 cB
  go_enter Try.func6, Try.ntmps6
  go_upto_region 1 with fail
  rw [EW.out]
  clear EW
  go_upto_region 2 with (go_at_call 25; refine cc.mono ?_; rintro e w1 ⟨v, y, q, rfl, RR, QQ, FF, hb1⟩; obtain ⟨xb, xA, xL, xp, rfl⟩ := RR.shape4; obtain ⟨yb, yo, yl, yc, zo, zl, zc, rfl⟩ := QQ.shape3)
  obtain ⟨W1, eW1, B1, kx, kp⟩ := two_new w1 (.cells #[.bool xb, .int .u64 xA, .int .u64 xL, .pointer xp] 28) (.cells #[.bool yb, .slice yo yl yc, .slice zo zl zc] 59)
  rw [eW1]
  have BB := bt hb1 B1
  have K2 : W1.heap[w.heap.size + 1]? = some (.cells #[.bool false, .int .u64 0, .int .u64 0, .pointer none] 28) := box_kept K1.out BB (in_heap K1.out)
  have R1 := RR.below B1
  have RS : Hid (Bx ((((W1.setCell ⟨(w.heap.size + 1), 0, none⟩ (.bool xb)).setCell ⟨(w.heap.size + 1), 1, none⟩ (.int .u64 xA)).setCell ⟨(w.heap.size + 1), 2, none⟩ (.int .u64 xL)).setCell ⟨(w.heap.size + 1), 3, none⟩ (.pointer xp)) (w.heap.size + 1) q xb xA xL xp) := Bx.set R1 K2
  have HB : Hid (Below w.heap.size w ((((W1.setCell ⟨(w.heap.size + 1), 0, none⟩ (.bool xb)).setCell ⟨(w.heap.size + 1), 1, none⟩ (.int .u64 xA)).setCell ⟨(w.heap.size + 1), 2, none⟩ (.int .u64 xL)).setCell ⟨(w.heap.size + 1), 3, none⟩ (.pointer xp))) := sto4_below (bt C0.out BB) (Nat.le_succ _) _ _ _ _
  have e0 := cell_at kx
  have c0 : W1.cell? ⟨w1.heap.size, 0, none⟩ = some (.bool xb) := e0 0 _ rfl
  have c1 : W1.cell? ⟨w1.heap.size, 1, none⟩ = some (.int .u64 xA) := e0 1 _ rfl
  have c2 : W1.cell? ⟨w1.heap.size, 2, none⟩ = some (.int .u64 xL) := e0 2 _ rfl
  have c3 : W1.cell? ⟨w1.heap.size, 3, none⟩ = some (.pointer xp) := e0 3 _ rfl
  have e1 := cell_at K2
  have z0 : W1.cell? ⟨w.heap.size + 1, 0, none⟩ = some (.bool false) := e1 0 _ rfl
  have z1 : W1.cell? ⟨w.heap.size + 1, 1, none⟩ = some (.int .u64 0) := e1 1 _ rfl
  have z2 : W1.cell? ⟨w.heap.size + 1, 2, none⟩ = some (.int .u64 0) := e1 2 _ rfl
  have z3 : W1.cell? ⟨w.heap.size + 1, 3, none⟩ = some (.pointer none) := e1 3 _ rfl
  have fz : ∀ i, W1.frozen? ⟨w.heap.size + 1, i, none⟩ = false := fun i => by simp [World.frozen?, K2]
  have fz0 := fz 0
  have fz1 := fz 1
  have fz2 := fz 2
  have fz3 := fz 3
  clear fz
  clear eW1 B1 kx kp BB hb1 RR QQ e0 e1 cc K1 C0 R1 K2 a0 a1 a2
  go_wp2
  obtain ⟨y0, y1, y2, y3⟩ := RS.out.cells
  have RI := RS.out.is
  have HB2 := HB.out
  clear RS HB
  generalize World.setCell _ _ _ = W' at *
  refine bodyPost_ret (v := .agg #[.bool xb, .int .u64 xA, .int .u64 xL, .pointer xp]) ?_ rfl ?_
  · simp [results, go_sem, y0, y1, y2, y3]
  · exact ⟨_, q, rfl, RI, FF, HB2⟩
end Go.Proofs.Ytefckmkcbgckfab.FrB
