/- The inverse of a rational number, quotients; the sign that the document tells; Quotients of rational numbers; the sign that the document tells; Numbers with a sign: sums, order; The document's rational numbers: sums of sizes with signs, the opposite; The document's rational numbers: the opposite. -/
import Derived.Test.YtefckmkcbgckfaaGreatDoorSetAR
import Derived.Test.YtefckmkcbgckfaaGreatDoorSetAT
import Derived.Test.YtefckmkcbgckfaaGreatDoorSetAF
/- The inverse of a rational number, quotients; the sign that the document tells. -/
namespace Go.Proofs.YtefckmkcbgckfaaGreatDoor.InvL
open Go.RowKit Mem LimbNum RatL RatM RatN RatF MulN MulW MulL RefR RefT RefU

theorem five_same {W w5 : World} {g : Nat} {a b c d : Value} (hb : Below W.heap.size W w5) (H : W.cell? ⟨g, 0, none⟩ = some a ∧ W.cell? ⟨g, 1, none⟩ = some b ∧ W.cell? ⟨g, 2, none⟩ = some c ∧ W.cell? ⟨g, 3, none⟩ = some d) :
    w5.cell? ⟨g, 0, none⟩ = some a ∧ w5.cell? ⟨g, 1, none⟩ = some b ∧ w5.cell? ⟨g, 2, none⟩ = some c ∧ w5.cell? ⟨g, 3, none⟩ = some d := by
  have kc : ∀ {p : Addr} {v : Value}, W.cell? p = some v → w5.cell? p = some v := fun {p v} h => by rw [hb.cell (World.block_lt_of_cell? W p h)]; exact h
  exact ⟨kc H.1, kc H.2.1, kc H.2.2.1, kc H.2.2.2⟩
theorem four_off {W W' : World} {g : Nat} {a b c d : Value} (hg : W'.heap[g]? = W.heap[g]?) (H : W.cell? ⟨g, 0, none⟩ = some a ∧ W.cell? ⟨g, 1, none⟩ = some b ∧ W.cell? ⟨g, 2, none⟩ = some c ∧ W.cell? ⟨g, 3, none⟩ = some d) :
    W'.cell? ⟨g, 0, none⟩ = some a ∧ W'.cell? ⟨g, 1, none⟩ = some b ∧ W'.cell? ⟨g, 2, none⟩ = some c ∧ W'.cell? ⟨g, 3, none⟩ = some d := by
  simp only [World.cell?, hg] at H ⊢
  exact H
theorem mix_kept {W w5 : World} {k g : Nat} {a b c d : Value} (hb : Below W.heap.size W w5) (H : W.cell? ⟨k, 0, none⟩ = some a ∧ W.cell? ⟨k, 3, none⟩ = some b ∧ W.cell? ⟨g, 0, none⟩ = some c ∧ W.cell? ⟨g, 1, none⟩ = some d) : w5.cell? ⟨k, 0, none⟩ = some a ∧ w5.cell? ⟨k, 3, none⟩ = some b ∧ w5.cell? ⟨g, 0, none⟩ = some c ∧ w5.cell? ⟨g, 1, none⟩ = some d := by
  have kc : ∀ {p : Addr} {v : Value}, W.cell? p = some v → w5.cell? p = some v := fun {p v} h => by rw [hb.cell (World.block_lt_of_cell? W p h)]; exact h
  exact ⟨kc H.1, kc H.2.1, kc H.2.2.1, kc H.2.2.2⟩
theorem mix_off {W w5 : World} {k g : Nat} {a b c d : Value} (hk : w5.heap[k]? = W.heap[k]?) (hg : w5.heap[g]? = W.heap[g]?) (H : W.cell? ⟨k, 0, none⟩ = some a ∧ W.cell? ⟨k, 3, none⟩ = some b ∧ W.cell? ⟨g, 0, none⟩ = some c ∧ W.cell? ⟨g, 1, none⟩ = some d) : w5.cell? ⟨k, 0, none⟩ = some a ∧ w5.cell? ⟨k, 3, none⟩ = some b ∧ w5.cell? ⟨g, 0, none⟩ = some c ∧ w5.cell? ⟨g, 1, none⟩ = some d := by
  simp only [World.cell?, hk, hg] at H ⊢
  exact H
/-- The opposite of being in lowest terms. -/
theorem low_turn {b : Bool} {n d : Nat} (h : Low b n d) (hn : n ≠ 0) : Low b d n := ⟨by omega, by rw [Nat.gcd_comm]; exact h.one, fun e => by have := h.pos; omega⟩
theorem zero_rat (w : World) : IsRat w (.agg #[.bool false, .int .u64 0, .int .u64 0, .pointer none]) false 0 1 := ⟨⟨by omega, by decide, fun _ => rfl⟩, .inl ⟨by omega, by omega, rfl⟩⟩
theorem sgn_ne {b : Bool} {n : Nat} (h : n ≠ 0) : (sgn b n == 0) = false := by unfold sgn; cases b <;> simp [h]
theorem sgn_zero {b : Bool} (h : b = false) : sgn b 0 = 0 := by subst h; simp [sgn]
end Go.Proofs.YtefckmkcbgckfaaGreatDoor.InvL

/- Quotients of rational numbers; the sign that the document tells. -/
namespace Go.Proofs.YtefckmkcbgckfaaGreatDoor.DivL
open Go.RowKit Mem LimbNum RatL RatM RatN RatF MulN MulW MulL RefR RefT RefU InvL

end Go.Proofs.YtefckmkcbgckfaaGreatDoor.DivL

/- Numbers with a sign: sums, order. -/
namespace Go.Proofs.YtefckmkcbgckfaaGreatDoor.QNum
open Go.RowKit Mem LimbNum Limb1 RatL RatM RatN RatF MulN MulW MulL RefL RefR RefT RefU InvL DivL

/-- A size with its sign. -/
def sv (b : Bool) (n : Nat) : Int := if b then -(n : Int) else (n : Int)
/-- The sum of two sizes with their signs: its sign. -/
def sumB (a b : Bool) (x y : Nat) : Bool := if a = b then a else if y ≤ x then a else b
/-- Its size. -/
def sumV (a b : Bool) (x y : Nat) : Nat := if a = b then x + y else if y ≤ x then x - y else y - x
theorem sum_sv (a b : Bool) (x y : Nat) : sv (sumB a b x y) (sumV a b x y) = sv a x + sv b y := by
  unfold sv sumB sumV
  by_cases h : y ≤ x <;> cases a <;> cases b <;> simp [h] <;> omega
def cmpI (x y : Int) : Int := if x < y then -1 else if x = y then 0 else 1
theorem sgn_sv (b : Bool) (n : Nat) : sgn b n = cmpI (sv b n) 0 := by
  unfold sgn cmpI sv
  by_cases h : n = 0
  · subst h; cases b <;> simp
  · have hp : 0 < n := by omega
    cases b
    · simp [h]
    · simp [h]; try omega
theorem sgn_flag (b : Bool) (n : Nat) : sgn (b && decide (n ≠ 0)) n = sgn b n := by
  unfold sgn
  by_cases h : n = 0
  · simp [h]
  · simp [h]
theorem sgn_quot (b : Bool) (n g : Nat) (hg : g ≠ 0) (hd : g ∣ n) : sgn b (n / g) = sgn b n := by
  obtain ⟨k, rfl⟩ := hd
  rw [Nat.mul_div_cancel_left _ (by omega)]
  unfold sgn
  have : (g * k = 0) ↔ (k = 0) := by rw [Nat.mul_eq_zero]; omega
  by_cases h : k = 0
  · simp [h]
  · have h2 : ¬ g * k = 0 := fun e => h (this.1 e)
    simp [h, h2]
theorem sv_not (b : Bool) (n : Nat) : sv (!b && decide (n ≠ 0)) n = - sv b n := by
  unfold sv
  by_cases h : n = 0
  · subst h; cases b <;> simp
  · cases b <;> simp [h]
theorem cmpI_sub (x y : Int) : cmpI (x - y) 0 = cmpI x y := by unfold cmpI; by_cases h1 : x < y <;> by_cases h2 : x = y <;> simp [h1, h2] <;> omega
theorem sv_mul (b : Bool) (n k : Nat) : sv b (n * k) = sv b n * k := by
  unfold sv; cases b <;> simp [Int.neg_mul]
/-- The order of n1 / d1 and n2 / d2 with their signs. -/
def cmpQ (b1 : Bool) (n1 d1 : Nat) (b2 : Bool) (n2 d2 : Nat) : Int := cmpI (sv b1 (n1 * d2)) (sv b2 (n2 * d1))
theorem cmp_cases (b1 b2 : Bool) (n1 d1 n2 d2 : Nat) (h1 : n1 = 0 → b1 = false) (h2 : n2 = 0 → b2 = false) (p1 : 1 ≤ d1) (p2 : 1 ≤ d2) :
    cmpQ b1 n1 d1 b2 n2 d2 = if sgn b1 n1 < sgn b2 n2 then -1 else if sgn b2 n2 < sgn b1 n1 then 1 else if sgn b1 n1 < 0 then cmpV (n2 * d1) (n1 * d2) else cmpV (n1 * d2) (n2 * d1) := by
  have z1 : n1 * d2 = 0 ↔ n1 = 0 := by rw [Nat.mul_eq_zero]; omega
  have z2 : n2 * d1 = 0 ↔ n2 = 0 := by rw [Nat.mul_eq_zero]; omega
  unfold cmpQ
  generalize n1 * d2 = X at *
  generalize n2 * d1 = Y at *
  unfold cmpI sv sgn cmpV
  by_cases e1 : n1 = 0
  · have := z1.2 e1; have := h1 e1; subst_vars
    by_cases e2 : n2 = 0
    · have := z2.2 e2; have := h2 e2; subst_vars; simp
    · have hY : Y ≠ 0 := fun h => e2 (z2.1 h)
      have hY2 : 0 < Y := by omega
      cases b2
      · simp [e2, hY2]
      · simp [e2]; omega
  · have hX : X ≠ 0 := fun h => e1 (z1.1 h)
    have hX2 : 0 < X := by omega
    by_cases e2 : n2 = 0
    · have := z2.2 e2; have := h2 e2; subst_vars
      cases b1
      · simp [e1]; omega
      · simp [e1]; omega
    · have hY : Y ≠ 0 := fun h => e2 (z2.1 h)
      have hY2 : 0 < Y := by omega
      cases b1 <;> cases b2 <;> simp [e1, e2] <;> (try omega)
      all_goals (repeat' split) <;> omega
/-- Two fractions in lowest terms that are alike. -/
theorem uniq (n1 d1 n2 d2 : Nat) (h1 : Nat.gcd n1 d1 = 1) (h2 : Nat.gcd n2 d2 = 1) (p1 : 1 ≤ d1) (h : n1 * d2 = n2 * d1) : n1 = n2 ∧ d1 = d2 := by
  have c1 : d1 ∣ d2 := by
    have : d1 ∣ n1 * d2 := ⟨n2, by rw [h, Nat.mul_comm]⟩
    exact Nat.Coprime.dvd_of_dvd_mul_left (Nat.Coprime.symm h1) this
  have c2 : d2 ∣ d1 := by
    have : d2 ∣ n2 * d1 := ⟨n1, by rw [← h, Nat.mul_comm]⟩
    exact Nat.Coprime.dvd_of_dvd_mul_left (Nat.Coprime.symm h2) this
  have e := Nat.dvd_antisymm c1 c2
  subst e
  exact ⟨Nat.eq_of_mul_eq_mul_right (by omega) h, rfl⟩
/-- Three blocks more. -/
theorem three_new (w : World) (o o' o'' : Obj) : ∃ W, ((w.alloc o).alloc o').alloc o'' = W ∧ Below w.heap.size w W ∧ W.heap[w.heap.size]? = some o ∧ W.heap[w.heap.size + 1]? = some o' ∧ W.heap[w.heap.size + 1 + 1]? = some o'' := by
  have z1 : (w.alloc o).heap.size = w.heap.size + 1 := by simp
  have z2 : ((w.alloc o).alloc o').heap.size = w.heap.size + 1 + 1 := by simp
  refine ⟨_, rfl, (((Below.refl _ _).alloc (Nat.le_refl _) _).alloc (by simp) _).alloc (by simp; omega) _, ?_, ?_, ?_⟩
  · rw [heap_alloc_old _ _ (by omega), heap_alloc_old _ _ (by omega)]; exact heap_alloc_new _ _
  · rw [heap_alloc_old _ _ (by omega), ← z1]; exact heap_alloc_new _ _
  · rw [← z2]; exact heap_alloc_new _ _
/-- One block more. -/
theorem one_new (w : World) (o : Obj) : ∃ W, w.alloc o = W ∧ Below w.heap.size w W ∧ W.heap[w.heap.size]? = some o := ⟨_, rfl, (Below.refl _ _).alloc (Nat.le_refl _) _, heap_alloc_new _ _⟩
/-- Two blocks more. -/
theorem two_new (w : World) (o o' : Obj) : ∃ W, (w.alloc o).alloc o' = W ∧ Below w.heap.size w W ∧ W.heap[w.heap.size]? = some o ∧ W.heap[w.heap.size + 1]? = some o' := by
  refine ⟨_, rfl, ((Below.refl _ _).alloc (Nat.le_refl _) _).alloc (by simp) _, ?_, ?_⟩
  · rw [heap_alloc_old _ _ (by simp)]; exact heap_alloc_new _ _
  · have z1 : (w.alloc o).heap.size = w.heap.size + 1 := by simp
    rw [← z1]; exact heap_alloc_new _ _
/-- A number of the program's that lies in the block g. -/
structure RL (W : World) (g : Nat) (b : Bool) (n d : Nat) (A L : Int) (p : Option Addr) : Prop where
  box : W.heap[g]? = some (.cells #[.bool b, .int .u64 A, .int .u64 L, .pointer p] 28)
  is : IsRat W (.agg #[.bool b, .int .u64 A, .int .u64 L, .pointer p]) b n d
theorem RL.kept {W W' : World} {g : Nat} {b : Bool} {n d : Nat} {A L : Int} {p : Option Addr} (h : RL W g b n d A L p) (hb : Below W.heap.size W W') : RL W' g b n d A L p :=
  ⟨box_kept h.box hb (in_heap h.box), h.is.below hb⟩
theorem RL.cells {W : World} {g : Nat} {b : Bool} {n d : Nat} {A L : Int} {p : Option Addr} (h : RL W g b n d A L p) : W.cell? ⟨g, 0, none⟩ = some (.bool b) ∧ W.cell? ⟨g, 1, none⟩ = some (.int .u64 A) ∧ W.cell? ⟨g, 2, none⟩ = some (.int .u64 L) ∧ W.cell? ⟨g, 3, none⟩ = some (.pointer p) := box0 h.box
/-- A number of the reference's that lies in the block g. -/
structure QL (W : World) (g : Nat) (b : Bool) (n d : Nat) (o1 : Option Addr) (c1 : Nat) (o2 : Option Addr) (c2 : Nat) : Prop where
  box : W.heap[g]? = some (.cells #[.bool b, .slice o1 (nb n).length c1, .slice o2 (nb d).length c2] 31)
  is : IsRef W (.agg #[.bool b, .slice o1 (nb n).length c1, .slice o2 (nb d).length c2]) b n d
theorem QL.kept {W W' : World} {g : Nat} {b : Bool} {n d : Nat} {o1 : Option Addr} {c1 : Nat} {o2 : Option Addr} {c2 : Nat} (h : QL W g b n d o1 c1 o2 c2) (hb : Below W.heap.size W W') : QL W' g b n d o1 c1 o2 c2 :=
  ⟨box_kept h.box hb (in_heap h.box), h.is.below hb⟩
theorem QL.cells {W : World} {g : Nat} {b : Bool} {n d : Nat} {o1 : Option Addr} {c1 : Nat} {o2 : Option Addr} {c2 : Nat} (h : QL W g b n d o1 c1 o2 c2) : W.cell? ⟨g, 0, none⟩ = some (.bool b) ∧ W.cell? ⟨g, 1, none⟩ = some (.slice o1 (nb n).length c1) ∧ W.cell? ⟨g, 2, none⟩ = some (.slice o2 (nb d).length c2) := box3_cells h.box
end Go.Proofs.YtefckmkcbgckfaaGreatDoor.QNum

/- The document's rational numbers: sums of sizes with signs, the opposite. -/
namespace Go.Proofs.YtefckmkcbgckfaaGreatDoor.RefX
open Go.RowKit Mem LimbNum Limb1 Limb2 RefL RefA RefC RefS BitMul BitDiv RGcd Words RatL RatN RefR RefT RefU RefI InvL MulL QNum

theorem nb_less {x y : Nat} (h : (nb x).length < (nb y).length) : x < y := by
  rcases Nat.lt_or_ge x y with h1 | h1
  · exact h1
  · have := nb_mono _ _ h1; omega
theorem rcmp_nb (x y : Nat) (o1 o2 : Option Addr) (c1 c2 : Nat) (w : World) (h1 : Lies w o1 c1 (bools (nb x))) (h2 : Lies w o2 c2 (bools (nb y))) :
    Calls Tryz.prog 57 #[.slice o1 (nb x).length c1, .slice o2 (nb y).length c2] w fun e w' => e = .returned (.int .i64 (cmpV x y)) ∧ Below w.heap.size w w' := by
  have := rcmp_any (nb x) (nb y) o1 o2 c1 c2 w h1 h2 (by rw [fromL_nb, fromL_nb]; exact nb_less) (by rw [fromL_nb, fromL_nb]; exact nb_less)
  rw [fromL_nb, fromL_nb] at this
  exact this
theorem rsub_nb (x y : Nat) (h : y ≤ x) (o1 o2 : Option Addr) (c1 c2 : Nat) (w : World) (h1 : Lies w o1 c1 (bools (nb x))) (h2 : Lies w o2 c2 (bools (nb y))) (hl1 : (nb x).length ≤ 1073741824) :
    Calls Tryz.prog 58 #[.slice o1 (nb x).length c1, .slice o2 (nb y).length c2] w fun e w' => ∃ ao cap, e = .returned (.slice ao (nb (x - y)).length cap) ∧ w'.ownsRow w.heap.size 4 1 (.slice ao (nb (x - y)).length cap) (nb (x - y)).length (bools (nb (x - y))) ∧ Below w.heap.size w w' :=
  rsub_core (nb x) (nb y) (x - y) (by unfold Hid; rw [fromL_nb, fromL_nb]) (by rw [fromL_nb, fromL_nb]; exact h) (nb_mono _ _ h) o1 o2 c1 c2 w h1 h2 hl1
end Go.Proofs.YtefckmkcbgckfaaGreatDoor.RefX

/- The document's rational numbers: the opposite. -/
namespace Go.Proofs.YtefckmkcbgckfaaGreatDoor.RefY
open Go.RowKit Mem LimbNum Limb1 Limb2 RefL RefA RefC RefS BitMul BitDiv RGcd Words RatL RatN RefR RefT RefU RefI InvL MulL MulW QNum RefX

end Go.Proofs.YtefckmkcbgckfaaGreatDoor.RefY
