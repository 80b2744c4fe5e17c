/- Numbers behind Lehmer's steps. No program is named here. -/
import Derived.Test.YtipmdjfhailfbaaLimbNum
namespace Go.Proofs.Ytipmdjfhailfbaa.GcdNum
open LimbNum

/-- The steps on the highest bits: a and b, and how often a0 and b0 go into them. -/
structure St (a0 b0 a b sx sy tx ty : Nat) (ev : Bool) : Prop where
  i1 : ty * a + sy * b = a0
  i2 : tx * a + sx * b = b0
  ge : b ≤ a
  pos : 1 ≤ a
  tle : tx ≤ ty
  tpos : 1 ≤ ty
  mono : sy ≤ ty
  sle : sx ≤ sy ∨ (sx = 1 ∧ sy = 0 ∧ tx = 0 ∧ ty = 1)
  det : if ev then sy * tx = sx * ty + 1 else sx * ty = sy * tx + 1
theorem St.start (a0 b0 : Nat) (h : b0 ≤ a0) (h1 : 1 ≤ a0) : St a0 b0 a0 b0 1 0 0 1 false := ⟨by simp, by simp, h, h1, by simp, by simp, by simp, .inr ⟨rfl, rfl, rfl, rfl⟩, by simp⟩
theorem St.step {a0 b0 a b sx sy tx ty : Nat} {ev : Bool} (h : St a0 b0 a b sx sy tx ty ev) (hb : ty ≤ b) : St a0 b0 b (a % b) tx ty (sx + a / b * tx) (sy + a / b * ty) (!ev) := by
  have hb1 : 1 ≤ b := Nat.le_trans h.tpos hb
  have hd := Nat.div_add_mod a b
  have hr := Nat.mod_lt a hb1
  have hq : 1 ≤ a / b := (Nat.one_le_div_iff hb1).2 h.ge
  obtain ⟨q, eq⟩ : ∃ q, q = a / b := ⟨_, rfl⟩
  obtain ⟨r, er⟩ : ∃ r, r = a % b := ⟨_, rfl⟩
  rw [← eq, ← er] at hd
  rw [← er] at hr
  rw [← eq] at hq
  rw [← eq, ← er]
  have h1 := h.i1
  have h2 := h.i2
  refine ⟨?_, ?_, by omega, hb1, ?_, ?_, ?_, .inl h.tle, ?_⟩
  · rw [← hd] at h1; rw [← h1]; grind
  · rw [← hd] at h2; rw [← h2]; grind
  · rcases h.sle with h3 | ⟨rfl, rfl, rfl, rfl⟩
    · exact Nat.add_le_add h3 (Nat.mul_le_mul_left _ h.tle)
    · omega
  · have : 1 * 1 ≤ q * ty := Nat.mul_le_mul hq h.tpos
    omega
  · have : 1 * ty ≤ q * ty := Nat.mul_le_mul_right _ hq
    omega
  · have h3 := h.det
    cases ev with
    | false => simp at h3 ⊢; grind
    | true => simp at h3 ⊢; grind
theorem St.lim {a0 b0 a b sx sy tx ty : Nat} {ev : Bool} (h : St a0 b0 a b sx sy tx ty ev) : ty ≤ a0 ∧ tx ≤ a0 ∧ (1 ≤ b → sy + ty ≤ a0) := by
  have h1 := h.i1
  have h2 : ty * 1 ≤ ty * a := Nat.mul_le_mul_left _ h.pos
  have h3 := h.tle
  refine ⟨by omega, by omega, fun hb => ?_⟩
  have h4 : sy * 1 ≤ sy * b := Nat.mul_le_mul_left _ hb
  omega
/-- Where a step is made, the counts are below 2^32. -/
theorem St.small {a0 b0 a b sx sy tx ty : Nat} {ev : Bool} (h : St a0 b0 a b sx sy tx ty ev) (hb : ty ≤ b) (h0 : a0 < 18446744073709551616) : tx < 4294967296 ∧ ty < 4294967296 := by
  have h1 := h.i1
  have h2 : ty * ty ≤ ty * a := Nat.mul_le_mul_left _ (Nat.le_trans hb h.ge)
  have h3 : ty < 4294967296 := by
    rcases Nat.lt_or_ge ty 4294967296 with h4 | h4
    · exact h4
    · have : 4294967296 * 4294967296 ≤ ty * ty := Nat.mul_le_mul h4 h4
      omega
  exact ⟨Nat.lt_of_le_of_lt h.tle h3, h3⟩
theorem St.small2 {a0 b0 a b sx sy tx ty : Nat} {ev : Bool} (h : St a0 b0 a b sx sy tx ty ev) (hb : ty ≤ b) (h0 : a0 < 18446744073709551616) : sx < 4294967296 ∧ sy < 4294967296 := by
  have h1 := (h.small hb h0).2
  have h2 := h.mono
  rcases h.sle with h3 | ⟨h3, h4, _, _⟩ <;> omega
/-- The pair that is answered: two neighbours at which the steps' condition held. -/
structure Ret (a0 b0 fx fy sx sy : Nat) (ev : Bool) : Prop where
  out : ∃ a b, St a0 b0 a b fx fy sx sy (!ev) ∧ sy ≤ b ∧ b + fy + sy ≤ a
theorem leh_sg {a0 b0 a b sx sy tx ty : Nat} (h : St a0 b0 a b sx sy tx ty false) : sx * a0 = a + sy * b0 ∧ ty * b0 = b + tx * a0 := by
  have h1 := h.i1
  have h2 := h.i2
  have h3 := h.det
  simp at h3
  constructor
  · rw [← h1, ← h2]; grind
  · rw [← h1, ← h2]; grind
theorem leh_sg' {a0 b0 a b sx sy tx ty : Nat} (h : St a0 b0 a b sx sy tx ty true) : sy * b0 = a + sx * a0 ∧ tx * a0 = b + ty * b0 := by
  have h1 := h.i1
  have h2 := h.i2
  have h3 := h.det
  simp at h3
  constructor
  · rw [← h1, ← h2]; grind
  · rw [← h1, ← h2]; grind
theorem leh_ineq {x y a0 b0 M xr yr a b fx fy sx sy : Nat} (hx : x = a0 * M + xr) (hy : y = b0 * M + yr) (h1 : xr ≤ M) (h2 : yr ≤ M) (s1 : fx * a0 = a + fy * b0) (s2 : sy * b0 = b + sx * a0) (hs : sx ≤ sy) (hf : a + fx ≤ a0) (c1 : sy ≤ b) (c2 : b + fy + sy ≤ a) :
    fy * y ≤ fx * x ∧ sx * x ≤ sy * y ∧ sy * y + fy * y ≤ fx * x + sx * x ∧ fx * x ≤ x + fy * y := by
  have e1 : fx * x = a * M + fy * b0 * M + fx * xr := by rw [hx, Nat.mul_add, ← Nat.mul_assoc, s1, Nat.add_mul]
  have e2 : fy * y = fy * b0 * M + fy * yr := by rw [hy, Nat.mul_add, ← Nat.mul_assoc]
  have e3 : sy * y = b * M + sx * a0 * M + sy * yr := by rw [hy, Nat.mul_add, ← Nat.mul_assoc, s2, Nat.add_mul]
  have e4 : sx * x = sx * a0 * M + sx * xr := by rw [hx, Nat.mul_add, ← Nat.mul_assoc]
  have b1 : fy * yr ≤ fy * M := Nat.mul_le_mul_left _ h2
  have b2 : sx * xr ≤ sx * M := Nat.mul_le_mul_left _ h1
  have b3 : sy * yr ≤ sy * M := Nat.mul_le_mul_left _ h2
  have b4 : fx * xr ≤ fx * M := Nat.mul_le_mul_left _ h1
  have b5 : sx * M ≤ sy * M := Nat.mul_le_mul_right _ hs
  have b6 : sy * M ≤ b * M := Nat.mul_le_mul_right _ c1
  have b7 : b * M + fy * M + sy * M ≤ a * M := by rw [← Nat.add_mul, ← Nat.add_mul]; exact Nat.mul_le_mul_right _ c2
  have b8 : a * M + fx * M ≤ a0 * M := by rw [← Nat.add_mul]; exact Nat.mul_le_mul_right _ hf
  rw [e1, e2, e3, e4]
  have hx2 : a0 * M ≤ x := by omega
  generalize fx * xr = p1 at *
  generalize fy * yr = p2 at *
  generalize sx * xr = p3 at *
  generalize sy * yr = p4 at *
  generalize fy * b0 * M = p5 at *
  generalize sx * a0 * M = p6 at *
  generalize a * M = p7 at *
  generalize b * M = p8 at *
  generalize sy * M = p9 at *
  generalize fy * M = p10 at *
  generalize sx * M = p11 at *
  generalize fx * M = p12 at *
  generalize a0 * M = p13 at *
  omega
theorem leh_gcd {x y X Y fx fy sx sy : Nat} (hX : fx * x = X + fy * y) (hY : sy * y = Y + sx * x) (hd : fx * sy = fy * sx + 1) : x = sy * X + fy * Y ∧ y = sx * X + fx * Y ∧ Nat.gcd X Y = Nat.gcd x y := by
  have e1 : x = sy * X + fy * Y := by grind
  have e2 : y = sx * X + fx * Y := by grind
  refine ⟨e1, e2, Nat.dvd_antisymm (Nat.dvd_gcd ?_ ?_) (Nat.dvd_gcd ?_ ?_)⟩
  · rw [e1]; exact Nat.dvd_add (Nat.dvd_trans (Nat.gcd_dvd_left _ _) (Nat.dvd_mul_left _ _)) (Nat.dvd_trans (Nat.gcd_dvd_right _ _) (Nat.dvd_mul_left _ _))
  · rw [e2]; exact Nat.dvd_add (Nat.dvd_trans (Nat.gcd_dvd_left _ _) (Nat.dvd_mul_left _ _)) (Nat.dvd_trans (Nat.gcd_dvd_right _ _) (Nat.dvd_mul_left _ _))
  · have h1 : Nat.gcd x y ∣ fx * x := Nat.dvd_trans (Nat.gcd_dvd_left _ _) (Nat.dvd_mul_left _ _)
    have h2 : Nat.gcd x y ∣ fy * y := Nat.dvd_trans (Nat.gcd_dvd_right _ _) (Nat.dvd_mul_left _ _)
    have h3 := Nat.dvd_sub h1 h2
    rwa [hX, Nat.add_sub_cancel] at h3
  · have h1 : Nat.gcd x y ∣ sy * y := Nat.dvd_trans (Nat.gcd_dvd_right _ _) (Nat.dvd_mul_left _ _)
    have h2 : Nat.gcd x y ∣ sx * x := Nat.dvd_trans (Nat.gcd_dvd_left _ _) (Nat.dvd_mul_left _ _)
    have h3 := Nat.dvd_sub h1 h2
    rwa [hY, Nat.add_sub_cancel] at h3
/-- What a step that was seen on the highest bits does to the whole numbers. -/
structure Near (x y X Y : Nat) : Prop where
  le : Y ≤ X
  top : X ≤ x
  less : X + Y ≤ x
  gcd : Nat.gcd X Y = Nat.gcd x y
theorem Ret.even {x y a0 b0 M xr yr fx fy sx sy : Nat} (h : Ret a0 b0 fx fy sx sy true) (hx : x = a0 * M + xr) (hy : y = b0 * M + yr) (h1 : xr ≤ M) (h2 : yr ≤ M) (hf : 1 ≤ fy) : fy * y ≤ fx * x ∧ sx * x ≤ sy * y ∧ Near x y (fx * x - fy * y) (sy * y - sx * x) := by
  obtain ⟨a, b, hs, c1, c2⟩ := h.out
  simp only [Bool.not_true] at hs
  obtain ⟨s1, s2⟩ := leh_sg hs
  have hle : fx ≤ fy := by rcases hs.sle with h3 | ⟨_, h3, _, _⟩ <;> omega
  have h0 := hs.i1
  have hb : 1 ≤ b := Nat.le_trans hs.tpos c1
  have h4 : 1 * a ≤ sy * a := Nat.mul_le_mul_right _ hs.tpos
  have h5 : fy * 1 ≤ fy * b := Nat.mul_le_mul_left _ hb
  obtain ⟨k1, k2, k3, k4⟩ := leh_ineq hx hy h1 h2 s1 s2 hs.tle (by omega) c1 c2
  have hdet := hs.det
  simp at hdet
  obtain ⟨X, eX⟩ : ∃ X, X = fx * x - fy * y := ⟨_, rfl⟩
  obtain ⟨Y, eY⟩ : ∃ Y, Y = sy * y - sx * x := ⟨_, rfl⟩
  obtain ⟨g1, _, g3⟩ := leh_gcd (x := x) (y := y) (X := X) (Y := Y) (by omega) (by omega) hdet
  rw [← eX, ← eY]
  have h6 : 1 * X ≤ sy * X := Nat.mul_le_mul_right _ hs.tpos
  have h7 : 1 * Y ≤ fy * Y := Nat.mul_le_mul_right _ hf
  exact ⟨k1, k2, by omega, by omega, by omega, g3⟩
theorem Ret.odd {x y a0 b0 M xr yr fx fy sx sy : Nat} (h : Ret a0 b0 fx fy sx sy false) (hx : x = a0 * M + xr) (hy : y = b0 * M + yr) (h1 : xr ≤ M) (h2 : yr ≤ M) (hf : 1 ≤ fy) : fx * x ≤ fy * y ∧ sy * y ≤ sx * x ∧ Near x y (fy * y - fx * x) (sx * x - sy * y) := by
  obtain ⟨a, b, hs, c1, c2⟩ := h.out
  simp only [Bool.not_false] at hs
  obtain ⟨s1, s2⟩ := leh_sg' hs
  have hle : fx ≤ fy := by rcases hs.sle with h3 | ⟨_, h3, _, _⟩ <;> omega
  have h0 := hs.i1
  have hb : 1 ≤ b := Nat.le_trans hs.tpos c1
  have htl := hs.tle
  have h4 : 1 * a ≤ sy * a := Nat.mul_le_mul_right _ hs.tpos
  have h5 : fy * 1 ≤ fy * b := Nat.mul_le_mul_left _ hb
  have k : fx * x ≤ fy * y ∧ sy * y ≤ sx * x ∧ sx * x + fx * x ≤ fy * y + sy * y ∧ fy * y ≤ x + fx * x := by
    have e1 : fy * y = a * M + fx * a0 * M + fy * yr := by rw [hy, Nat.mul_add, ← Nat.mul_assoc, s1, Nat.add_mul]
    have e2 : fx * x = fx * a0 * M + fx * xr := by rw [hx, Nat.mul_add, ← Nat.mul_assoc]
    have e3 : sx * x = b * M + sy * b0 * M + sx * xr := by rw [hx, Nat.mul_add, ← Nat.mul_assoc, s2, Nat.add_mul]
    have e4 : sy * y = sy * b0 * M + sy * yr := by rw [hy, Nat.mul_add, ← Nat.mul_assoc]
    have b1 : fy * yr ≤ fy * M := Nat.mul_le_mul_left _ h2
    have b2 : sx * xr ≤ sx * M := Nat.mul_le_mul_left _ h1
    have b3 : sy * yr ≤ sy * M := Nat.mul_le_mul_left _ h2
    have b4 : fx * xr ≤ fx * M := Nat.mul_le_mul_left _ h1
    have b5 : sx * M ≤ sy * M := Nat.mul_le_mul_right _ htl
    have b5' : fx * M ≤ fy * M := Nat.mul_le_mul_right _ hle
    have b6 : sy * M ≤ b * M := Nat.mul_le_mul_right _ c1
    have b7 : b * M + fy * M + sy * M ≤ a * M := by rw [← Nat.add_mul, ← Nat.add_mul]; exact Nat.mul_le_mul_right _ c2
    have b8 : a * M + fy * M ≤ a0 * M := by rw [← Nat.add_mul]; exact Nat.mul_le_mul_right _ (by omega)
    rw [e1, e2, e3, e4]
    have hx2 : a0 * M ≤ x := by omega
    generalize fx * xr = p1 at *
    generalize fy * yr = p2 at *
    generalize sx * xr = p3 at *
    generalize sy * yr = p4 at *
    generalize fx * a0 * M = p5 at *
    generalize sy * b0 * M = p6 at *
    generalize a * M = p7 at *
    generalize b * M = p8 at *
    generalize sy * M = p9 at *
    generalize fy * M = p10 at *
    generalize sx * M = p11 at *
    generalize fx * M = p12 at *
    generalize a0 * M = p13 at *
    omega
  obtain ⟨k1, k2, k3, k4⟩ := k
  have hdet := hs.det
  simp at hdet
  obtain ⟨X, eX⟩ : ∃ X, X = fy * y - fx * x := ⟨_, rfl⟩
  obtain ⟨Y, eY⟩ : ∃ Y, Y = sx * x - sy * y := ⟨_, rfl⟩
  obtain ⟨_, g1, g3⟩ := leh_gcd (x := y) (y := x) (X := X) (Y := Y) (fx := fy) (fy := fx) (sx := sy) (sy := sx) (by omega) (by omega) (by omega)
  rw [← eX, ← eY]
  have h6 : 1 * X ≤ sy * X := Nat.mul_le_mul_right _ hs.tpos
  have h7 : 1 * Y ≤ fy * Y := Nat.mul_le_mul_right _ hf
  exact ⟨k1, k2, by omega, by omega, by omega, by rw [g3, Nat.gcd_comm]⟩
end Go.Proofs.Ytipmdjfhailfbaa.GcdNum
