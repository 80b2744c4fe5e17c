/- A decimal text's number lies towards nought, by less than a unit of its last digit; RtextNear: boxes of numbers that stay when another is written; the calls of its walk; RtextNear: the walk, a count below nought; RtextNear: the walk. -/
import Derived.Test.YtefckmkcbgckfaaGreatSetBB
import Derived.Test.YtefckmkcbgckfaaGreatSetBE
import Derived.Test.YtefckmkcbgckfaaGreatSetAW
import Derived.Test.YtefckmkcbgckfaaGreatSetAQ
import Derived.Test.YtefckmkcbgckfaaGreatSetAT
import Derived.Test.YtefckmkcbgckfaaGreatSetAU
/- A decimal text's number lies towards nought, by less than a unit of its last digit. -/
namespace Go.Proofs.YtefckmkcbgckfaaGreat.NrN
open Go.RowKit Mem LimbNum Limb1 DigNum DigL StrL TxN RatL RatM RatN NmL QNum MulW MulL PaL PtL PbL DcM VqN BkL FldL

theorem pad_dg (n d k : Nat) : DG (padM n d k) := fun x hx => by
  unfold padM at hx
  rcases List.mem_append.1 hx with h | h
  · have := List.eq_of_mem_replicate h; omega
  · exact dg_tx _ x h
theorem pad_dv (n d k : Nat) : dv (padM n d k) = cutM n d k := by
  unfold padM
  rw [dv_append, dv_noughts _ (fun x hx => List.eq_of_mem_replicate hx), dv_tx]
  simp
/-- The text without its sign. -/
def bodyM (n d k : Nat) : List Nat := if k = 0 then padM n d k else (padM n d k).take ((padM n d k).length - k) ++ 46 :: (padM n d k).drop ((padM n d k).length - k)
theorem dec_is (b : Bool) (n d k : Nat) : decM b n d k = (if b && decide (0 < cutM n d k) then [45] else []) ++ bodyM n d k := rfl
theorem dg_take {l : List Nat} (h : DG l) (i : Nat) : DG (l.take i) := fun x hx => h x (List.mem_of_mem_take hx)
theorem dg_drop {l : List Nat} (h : DG l) (i : Nat) : DG (l.drop i) := fun x hx => h x (List.mem_of_mem_drop hx)
theorem body_read (n d k : Nat) : readM (bodyM n d k) = some (cutM n d k, 10 ^ k) := by
  have hl := pad_len n d k
  have hd := pad_dg n d k
  have hv := pad_dv n d k
  unfold bodyM
  generalize padM n d k = L at *
  have ho : okN L = true := ok_iff.2 ⟨by intro h; rw [h] at hl; simp at hl, hd⟩
  by_cases hk : k = 0
  · rw [if_pos hk]
    unfold readM
    rw [cut_none (dg_not hd (by omega)), cut_none (dg_not hd (by omega))]
    simp [ho, hv, hk]
  · rw [if_neg hk]
    have n47 : 47 ∉ L.take (L.length - k) ++ 46 :: L.drop (L.length - k) := by
      intro h
      rcases List.mem_append.1 h with h | h
      · exact dg_not (dg_take hd _) (by omega) h
      · rcases List.mem_cons.1 h with h | h
        · omega
        · exact dg_not (dg_drop hd _) (by omega) h
    unfold readM
    rw [cut_none n47, cut_at _ (dg_not (dg_take hd _) (by omega))]
    have e1 : L.take (L.length - k) ≠ [] := by
      intro h
      have := congrArg List.length h
      rw [List.length_take] at this
      simp at this
      omega
    have e2 : L.drop (L.length - k) ≠ [] := by
      intro h
      have := congrArg List.length h
      rw [List.length_drop] at this
      simp at this
      omega
    have e3 : (L.drop (L.length - k)).length = k := by rw [List.length_drop]; omega
    simp only [Bool.false_eq_true, if_false, List.take_append_drop, ho, if_true, hv, e3]
    simp [e1, e2]
theorem body_head (n d k : Nat) : ∀ t, bodyM n d k ≠ 45 :: t := fun t h => by
  have hl := pad_len n d k
  have hd := pad_dg n d k
  unfold bodyM at h
  generalize padM n d k = L at *
  split at h
  · have := hd 45 (by rw [h]; exact List.mem_cons_self ..)
    omega
  · cases e : L.take (L.length - k) with
    | nil =>
      have := congrArg List.length e
      rw [List.length_take] at this
      simp at this
      omega
    | cons x l =>
      rw [e] at h
      simp only [List.cons_append, List.cons.injEq] at h
      have := dg_take hd (L.length - k) x (by rw [e]; exact List.mem_cons_self ..)
      omega
theorem dec_sign (b : Bool) (n d k : Nat) : signM (decM b n d k) = (b && decide (0 < cutM n d k), bodyM n d k) := by
  rw [dec_is]
  cases b && decide (0 < cutM n d k)
  · simp only [Bool.false_eq_true, if_false, List.nil_append]
    unfold signM
    split
    · rename_i t h; exact absurd h (body_head n d k t)
    · rfl
  · rfl
theorem b8_dec (b : Bool) (n d k : Nat) : B8 (decM b n d k) := by
  have hd := pad_dg n d k
  rw [dec_is]
  refine b8_app ?_ ?_
  · split
    · intro x hx; simp at hx; omega
    · intro x hx; simp at hx
  · unfold bodyM
    split
    · exact b8_dg hd
    · refine b8_app (b8_dg (dg_take hd _)) ?_
      intro x hx
      rcases List.mem_cons.1 hx with h | h
      · omega
      · exact b8_dg (dg_drop hd _) x h
theorem body_len (n d k : Nat) : (bodyM n d k).length ≤ (padM n d k).length + 1 := by
  unfold bodyM
  split
  · omega
  · rw [List.length_append, List.length_cons, List.length_take, List.length_drop]
    omega
/-- The text's number. -/
def decV (p : Nm) (k : Nat) : Nm := lowM (p.b && decide (0 < cutM p.n p.d k)) (cutM p.n p.d k) (10 ^ k)
def unitM (k : Nat) : Nm := ⟨false, 1, 10 ^ k⟩
def tenthM : Nm := ⟨false, 1, 10⟩
theorem unit_step (k : Nat) : mulM (unitM k) tenthM = unitM (k + 1) := by
  unfold mulM unitM tenthM
  have : Nat.gcd (1 * 1) (10 ^ k * 10) = 1 := by simp
  simp only [this, Nat.div_one, Nat.pow_succ]
  simp
theorem vq_low (b : Bool) (n d : Nat) (hd : 0 < d) : vq (lowM b n d) = ((sv b n : Int) : Rat) / (((d : Nat) : Int) : Rat) := by
  unfold vq lowM
  have hg : 0 < Nat.gcd n d := Nat.gcd_pos_of_pos_right _ hd
  refine frac_eq (g := (Nat.gcd n d : Int)) ?_ ?_ (by omega)
  · show sv (b && decide (n / Nat.gcd n d ≠ 0)) (n / Nat.gcd n d) * (Nat.gcd n d : Int) = _
    rw [sv_flag, ← sv_mul, Nat.div_mul_cancel (Nat.gcd_dvd_left _ _)]
  · show ((d / Nat.gcd n d : Nat) : Int) * (Nat.gcd n d : Int) = _
    rw [← Int.natCast_mul, Nat.div_mul_cancel (Nat.gcd_dvd_right _ _)]
theorem low_d (b : Bool) (n d : Nat) (hd : 0 < d) : 0 < (lowM b n d).d := Nat.div_pos (Nat.le_of_dvd hd (Nat.gcd_dvd_right _ _)) (Nat.gcd_pos_of_pos_right _ hd)
theorem abs_low (b : Bool) (n d : Nat) (hd : 0 < d) : vq (absM (lowM b n d)) = (((n : Nat) : Int) : Rat) / (((d : Nat) : Int) : Rat) := by
  have h := vq_low false n d hd
  have e : sv false n = (n : Int) := rfl
  rw [e] at h
  rw [← h]
  unfold absM lowM
  simp
theorem sgn_ge {p : Nm} (hp : 0 < p.d) : 0 ≤ sgnM p ↔ 0 ≤ vq p := by
  have h := sgn_lt (p := negM p) hp
  rw [vq_neg] at h
  have e : sgnM (negM p) = - sgnM p := by
    unfold sgnM sgn negM
    by_cases h0 : p.n = 0
    · simp [h0]
    · simp only [h0, if_false, ne_eq, not_false_eq_true, decide_true, Bool.and_true]
      cases p.b <;> simp
  rw [e] at h
  constructor
  · intro h1
    apply Rat.not_lt.mp
    intro h2
    have := h.mpr (by grind)
    omega
  · intro h1
    have h3 : ¬ 0 < - sgnM p := fun h2 => by have := h.mp h2; grind
    omega
/-- What is cut off: from nought on, below a unit. -/
theorem off_ok (p : Nm) (k : Nat) (hp : 0 < p.d) : 0 ≤ sgnM (addM (absM p) (negM (absM (decV p k)))) ∧ cmpM (addM (absM p) (negM (absM (decV p k)))) (unitM k) < 0 := by
  have ht : 0 < 10 ^ k := Nat.pow_pos (by omega)
  have hd := low_d (p.b && decide (0 < cutM p.n p.d k)) (cutM p.n p.d k) (10 ^ k) ht
  have h1 : 0 < (absM p).d := hp
  have h2 : 0 < (negM (absM (decV p k))).d := hd
  have hs := d_add h1 h2
  have hv : vq (addM (absM p) (negM (absM (decV p k)))) = vq (absM p) - vq (absM (decV p k)) := by
    rw [vq_add h1 h2, vq_neg]; grind
  have ha : vq (absM (decV p k)) = (((cutM p.n p.d k : Nat) : Int) : Rat) / (((10 ^ k : Nat) : Int) : Rat) := abs_low _ _ _ ht
  have hx : vq (absM p) = (((p.n : Nat) : Int) : Rat) / (((p.d : Nat) : Int) : Rat) := by unfold vq absM sv; simp
  have hu : vq (unitM k) = 1 / (((10 ^ k : Nat) : Int) : Rat) := by unfold vq unitM sv; simp
  have c1 : cutM p.n p.d k * p.d ≤ p.n * 10 ^ k := Nat.div_mul_le_self _ _
  have c2 : p.n * 10 ^ k < (cutM p.n p.d k + 1) * p.d := by
    have := Nat.lt_div_mul_add (a := p.n * 10 ^ k) hp
    unfold cutM
    rw [Nat.add_mul, Nat.one_mul]; exact this
  generalize cutM p.n p.d k = c at *
  have q1 : ((c : Int) : Rat) * ((p.d : Int) : Rat) ≤ ((p.n : Int) : Rat) * (((10 ^ k : Nat) : Int) : Rat) := by
    rw [← Rat.intCast_mul, ← Rat.intCast_mul, Rat.intCast_le_intCast, ← Int.natCast_mul, ← Int.natCast_mul]
    exact_mod_cast c1
  have q2 : ((p.n : Int) : Rat) * (((10 ^ k : Nat) : Int) : Rat) < (((c : Int) : Rat) + 1) * ((p.d : Int) : Rat) := by
    have e1 : ((c : Int) : Rat) + 1 = (((c + 1 : Nat) : Int) : Rat) := by simp [Rat.intCast_add]
    rw [e1, ← Rat.intCast_mul, ← Rat.intCast_mul, Rat.intCast_lt_intCast, ← Int.natCast_mul, ← Int.natCast_mul]
    exact_mod_cast c2
  have t0 : (0 : Rat) < (((10 ^ k : Nat) : Int) : Rat) := dpos (p := unitM k) ht
  have d0 := dpos hp
  generalize (((10 ^ k : Nat) : Int) : Rat) = T at *
  generalize ((p.d : Int) : Rat) = D at *
  generalize ((p.n : Int) : Rat) = X at *
  generalize ((c : Int) : Rat) = C at *
  have l1 : ¬ X / D < C / T := by rw [f_lt d0 t0]; grind
  have l2 : X / D < (C + 1) / T := by rw [f_lt d0 t0]; grind
  have l3 : (C + 1) / T = C / T + 1 / T := by grind
  refine ⟨(sgn_ge hs).mpr (by rw [hv, hx, ha]; grind), ?_⟩
  have h4 : 0 < cmpM (unitM k) (addM (absM p) (negM (absM (decV p k)))) := by
    rw [cmp_lt (p := unitM k) ht hs, hv, hx, ha, hu]
    grind
  have e : cmpM (addM (absM p) (negM (absM (decV p k)))) (unitM k) = - cmpM (unitM k) (addM (absM p) (negM (absM (decV p k)))) := by
    unfold cmpM cmpQ cmpI
    split <;> split <;> (try split) <;> (try split) <;> omega
  omega
/-- The sign: nought, or the number's own. -/
theorem sign_ok (p : Nm) (k : Nat) : sgnM (decV p k) = 0 ∨ sgnM (decV p k) = sgnM p := by
  have ht : 0 < 10 ^ k := Nat.pow_pos (by omega)
  by_cases h : cutM p.n p.d k = 0
  · left
    unfold decV lowM sgnM sgn
    simp [h]
  · right
    have hn : p.n ≠ 0 := by
      intro e
      apply h
      unfold cutM
      rw [e]; simp
    have hg : 0 < Nat.gcd (cutM p.n p.d k) (10 ^ k) := Nat.gcd_pos_of_pos_right _ ht
    have h1 : cutM p.n p.d k / Nat.gcd (cutM p.n p.d k) (10 ^ k) ≠ 0 := by
      have := Nat.div_pos (Nat.le_of_dvd (by omega) (Nat.gcd_dvd_left (cutM p.n p.d k) (10 ^ k))) hg
      omega
    unfold decV lowM sgnM sgn
    have h2 : 0 < cutM p.n p.d k := by omega
    simp only [h1, hn, h2, if_false, decide_true, Bool.and_true, ne_eq, not_false_eq_true]
end Go.Proofs.YtefckmkcbgckfaaGreat.NrN

/- RtextNear: boxes of numbers that stay when another is written; the calls of its walk. -/
namespace Go.Proofs.YtefckmkcbgckfaaGreat.NrH
open Go.RowKit Mem LimbNum Limb1 DigNum DigL StrL TxN ShelfC TextL RText RatL RatM RatN RatW RefR RefT RefU InvL DivL QNum CmpL CmqL RefX RefY RefZ FloL Mk5 AddN JoinL AddW AddV AddR FldL SubL NmL MulN MulW MulL PaL PtL PbL Law5 Aw5 TensAll DcM VqN BkL NrN RatF RatO RefI

theorem keep8 {W W' : World} {ga gb : Nat} {xb : Bool} {xA xL : Int} {xp : Option Addr} {yb : Bool} {yA yL : Int} {yp : Option Addr} (hb : Below W.heap.size W W') (H : W.cell? ⟨ga, 0, none⟩ = some (.bool xb) ∧ W.cell? ⟨ga, 1, none⟩ = some (.int .u64 xA) ∧ W.cell? ⟨ga, 2, none⟩ = some (.int .u64 xL) ∧ W.cell? ⟨ga, 3, none⟩ = some (.pointer xp) ∧ W.cell? ⟨gb, 0, none⟩ = some (.bool yb) ∧ W.cell? ⟨gb, 1, none⟩ = some (.int .u64 yA) ∧ W.cell? ⟨gb, 2, none⟩ = some (.int .u64 yL) ∧ W.cell? ⟨gb, 3, none⟩ = some (.pointer yp)) : W'.cell? ⟨ga, 0, none⟩ = some (.bool xb) ∧ W'.cell? ⟨ga, 1, none⟩ = some (.int .u64 xA) ∧ W'.cell? ⟨ga, 2, none⟩ = some (.int .u64 xL) ∧ W'.cell? ⟨ga, 3, none⟩ = some (.pointer xp) ∧ W'.cell? ⟨gb, 0, none⟩ = some (.bool yb) ∧ W'.cell? ⟨gb, 1, none⟩ = some (.int .u64 yA) ∧ W'.cell? ⟨gb, 2, none⟩ = some (.int .u64 yL) ∧ W'.cell? ⟨gb, 3, none⟩ = some (.pointer yp) := by
  have kc : ∀ {p : Addr} {v : Value}, W.cell? p = some v → W'.cell? p = some v := fun {p v} h => by rw [hb.cell (World.block_lt_of_cell? W p h)]; exact h
  exact ⟨kc H.1, kc H.2.1, kc H.2.2.1, kc H.2.2.2.1, kc H.2.2.2.2.1, kc H.2.2.2.2.2.1, kc H.2.2.2.2.2.2.1, kc H.2.2.2.2.2.2.2⟩
theorem keep16 {W W' : World} {go gu gd g0x : Nat} {ob : Bool} {oA oL : Int} {op : Option Addr} {ub : Bool} {uA uL : Int} {up : Option Addr} {db : Bool} {dA dL : Int} {dp : Option Addr} {xb : Bool} {xA xL : Int} {xp : Option Addr} (hb : Below W.heap.size W W') (H : W.cell? ⟨go, 0, none⟩ = some (.bool ob) ∧ W.cell? ⟨go, 1, none⟩ = some (.int .u64 oA) ∧ W.cell? ⟨go, 2, none⟩ = some (.int .u64 oL) ∧ W.cell? ⟨go, 3, none⟩ = some (.pointer op) ∧ W.cell? ⟨gu, 0, none⟩ = some (.bool ub) ∧ W.cell? ⟨gu, 1, none⟩ = some (.int .u64 uA) ∧ W.cell? ⟨gu, 2, none⟩ = some (.int .u64 uL) ∧ W.cell? ⟨gu, 3, none⟩ = some (.pointer up) ∧ W.cell? ⟨gd, 0, none⟩ = some (.bool db) ∧ W.cell? ⟨gd, 1, none⟩ = some (.int .u64 dA) ∧ W.cell? ⟨gd, 2, none⟩ = some (.int .u64 dL) ∧ W.cell? ⟨gd, 3, none⟩ = some (.pointer dp) ∧ W.cell? ⟨g0x, 0, none⟩ = some (.bool xb) ∧ W.cell? ⟨g0x, 1, none⟩ = some (.int .u64 xA) ∧ W.cell? ⟨g0x, 2, none⟩ = some (.int .u64 xL) ∧ W.cell? ⟨g0x, 3, none⟩ = some (.pointer xp)) : W'.cell? ⟨go, 0, none⟩ = some (.bool ob) ∧ W'.cell? ⟨go, 1, none⟩ = some (.int .u64 oA) ∧ W'.cell? ⟨go, 2, none⟩ = some (.int .u64 oL) ∧ W'.cell? ⟨go, 3, none⟩ = some (.pointer op) ∧ W'.cell? ⟨gu, 0, none⟩ = some (.bool ub) ∧ W'.cell? ⟨gu, 1, none⟩ = some (.int .u64 uA) ∧ W'.cell? ⟨gu, 2, none⟩ = some (.int .u64 uL) ∧ W'.cell? ⟨gu, 3, none⟩ = some (.pointer up) ∧ W'.cell? ⟨gd, 0, none⟩ = some (.bool db) ∧ W'.cell? ⟨gd, 1, none⟩ = some (.int .u64 dA) ∧ W'.cell? ⟨gd, 2, none⟩ = some (.int .u64 dL) ∧ W'.cell? ⟨gd, 3, none⟩ = some (.pointer dp) ∧ W'.cell? ⟨g0x, 0, none⟩ = some (.bool xb) ∧ W'.cell? ⟨g0x, 1, none⟩ = some (.int .u64 xA) ∧ W'.cell? ⟨g0x, 2, none⟩ = some (.int .u64 xL) ∧ W'.cell? ⟨g0x, 3, none⟩ = some (.pointer xp) := by
  have kc : ∀ {p : Addr} {v : Value}, W.cell? p = some v → W'.cell? p = some v := fun {p v} h => by rw [hb.cell (World.block_lt_of_cell? W p h)]; exact h
  exact ⟨kc H.1, kc H.2.1, kc H.2.2.1, kc H.2.2.2.1, kc H.2.2.2.2.1, kc H.2.2.2.2.2.1, kc H.2.2.2.2.2.2.1, kc H.2.2.2.2.2.2.2.1, kc H.2.2.2.2.2.2.2.2.1, kc H.2.2.2.2.2.2.2.2.2.1, kc H.2.2.2.2.2.2.2.2.2.2.1, kc H.2.2.2.2.2.2.2.2.2.2.2.1, kc H.2.2.2.2.2.2.2.2.2.2.2.2.1, kc H.2.2.2.2.2.2.2.2.2.2.2.2.2.1, kc H.2.2.2.2.2.2.2.2.2.2.2.2.2.2.1, kc H.2.2.2.2.2.2.2.2.2.2.2.2.2.2.2⟩
theorem new8 {W : World} {ga gb : Nat} {xb : Bool} {xA xL : Int} {xp : Option Addr} {yb : Bool} {yA yL : Int} {yp : Option Addr} (o : Obj) (H : W.cell? ⟨ga, 0, none⟩ = some (.bool xb) ∧ W.cell? ⟨ga, 1, none⟩ = some (.int .u64 xA) ∧ W.cell? ⟨ga, 2, none⟩ = some (.int .u64 xL) ∧ W.cell? ⟨ga, 3, none⟩ = some (.pointer xp) ∧ W.cell? ⟨gb, 0, none⟩ = some (.bool yb) ∧ W.cell? ⟨gb, 1, none⟩ = some (.int .u64 yA) ∧ W.cell? ⟨gb, 2, none⟩ = some (.int .u64 yL) ∧ W.cell? ⟨gb, 3, none⟩ = some (.pointer yp)) : (W.alloc o).cell? ⟨ga, 0, none⟩ = some (.bool xb) ∧ (W.alloc o).cell? ⟨ga, 1, none⟩ = some (.int .u64 xA) ∧ (W.alloc o).cell? ⟨ga, 2, none⟩ = some (.int .u64 xL) ∧ (W.alloc o).cell? ⟨ga, 3, none⟩ = some (.pointer xp) ∧ (W.alloc o).cell? ⟨gb, 0, none⟩ = some (.bool yb) ∧ (W.alloc o).cell? ⟨gb, 1, none⟩ = some (.int .u64 yA) ∧ (W.alloc o).cell? ⟨gb, 2, none⟩ = some (.int .u64 yL) ∧ (W.alloc o).cell? ⟨gb, 3, none⟩ = some (.pointer yp) := keep8 ((Below.refl _ _).alloc (Nat.le_refl _) o) H
theorem set8 {W : World} {ga gb g : Nat} {xb : Bool} {xA xL : Int} {xp : Option Addr} {yb : Bool} {yA yL : Int} {yp : Option Addr} (hn : ga ≠ g ∧ gb ≠ g) (a0 a1 a2 a3 : Value) (H : W.cell? ⟨ga, 0, none⟩ = some (.bool xb) ∧ W.cell? ⟨ga, 1, none⟩ = some (.int .u64 xA) ∧ W.cell? ⟨ga, 2, none⟩ = some (.int .u64 xL) ∧ W.cell? ⟨ga, 3, none⟩ = some (.pointer xp) ∧ W.cell? ⟨gb, 0, none⟩ = some (.bool yb) ∧ W.cell? ⟨gb, 1, none⟩ = some (.int .u64 yA) ∧ W.cell? ⟨gb, 2, none⟩ = some (.int .u64 yL) ∧ W.cell? ⟨gb, 3, none⟩ = some (.pointer yp)) : ((((W.setCell ⟨g, 0, none⟩ a0).setCell ⟨g, 1, none⟩ a1).setCell ⟨g, 2, none⟩ a2).setCell ⟨g, 3, none⟩ a3).cell? ⟨ga, 0, none⟩ = some (.bool xb) ∧ ((((W.setCell ⟨g, 0, none⟩ a0).setCell ⟨g, 1, none⟩ a1).setCell ⟨g, 2, none⟩ a2).setCell ⟨g, 3, none⟩ a3).cell? ⟨ga, 1, none⟩ = some (.int .u64 xA) ∧ ((((W.setCell ⟨g, 0, none⟩ a0).setCell ⟨g, 1, none⟩ a1).setCell ⟨g, 2, none⟩ a2).setCell ⟨g, 3, none⟩ a3).cell? ⟨ga, 2, none⟩ = some (.int .u64 xL) ∧ ((((W.setCell ⟨g, 0, none⟩ a0).setCell ⟨g, 1, none⟩ a1).setCell ⟨g, 2, none⟩ a2).setCell ⟨g, 3, none⟩ a3).cell? ⟨ga, 3, none⟩ = some (.pointer xp) ∧ ((((W.setCell ⟨g, 0, none⟩ a0).setCell ⟨g, 1, none⟩ a1).setCell ⟨g, 2, none⟩ a2).setCell ⟨g, 3, none⟩ a3).cell? ⟨gb, 0, none⟩ = some (.bool yb) ∧ ((((W.setCell ⟨g, 0, none⟩ a0).setCell ⟨g, 1, none⟩ a1).setCell ⟨g, 2, none⟩ a2).setCell ⟨g, 3, none⟩ a3).cell? ⟨gb, 1, none⟩ = some (.int .u64 yA) ∧ ((((W.setCell ⟨g, 0, none⟩ a0).setCell ⟨g, 1, none⟩ a1).setCell ⟨g, 2, none⟩ a2).setCell ⟨g, 3, none⟩ a3).cell? ⟨gb, 2, none⟩ = some (.int .u64 yL) ∧ ((((W.setCell ⟨g, 0, none⟩ a0).setCell ⟨g, 1, none⟩ a1).setCell ⟨g, 2, none⟩ a2).setCell ⟨g, 3, none⟩ a3).cell? ⟨gb, 3, none⟩ = some (.pointer yp) := by
  have e1 : ∀ i, ((((W.setCell ⟨g, 0, none⟩ a0).setCell ⟨g, 1, none⟩ a1).setCell ⟨g, 2, none⟩ a2).setCell ⟨g, 3, none⟩ a3).cell? ⟨ga, i, none⟩ = W.cell? ⟨ga, i, none⟩ := fun i => sto4_cell W g a0 a1 a2 a3 ga i hn.1
  have e2 : ∀ i, ((((W.setCell ⟨g, 0, none⟩ a0).setCell ⟨g, 1, none⟩ a1).setCell ⟨g, 2, none⟩ a2).setCell ⟨g, 3, none⟩ a3).cell? ⟨gb, i, none⟩ = W.cell? ⟨gb, i, none⟩ := fun i => sto4_cell W g a0 a1 a2 a3 gb i hn.2
  exact ⟨(e1 _).trans H.1, (e1 _).trans H.2.1, (e1 _).trans H.2.2.1, (e1 _).trans H.2.2.2.1, (e2 _).trans H.2.2.2.2.1, (e2 _).trans H.2.2.2.2.2.1, (e2 _).trans H.2.2.2.2.2.2.1, (e2 _).trans H.2.2.2.2.2.2.2⟩
/-- The number p in the block g. -/
structure Bx (w : World) (g : Nat) (p : Nm) (xb : Bool) (xA xL : Int) (xp : Option Addr) : Prop where
  box : w.heap[g]? = some (.cells #[.bool xb, .int .u64 xA, .int .u64 xL, .pointer xp] 28)
  is : IsR w (.agg #[.bool xb, .int .u64 xA, .int .u64 xL, .pointer xp]) p
theorem Bx.new {w : World} {p : Nm} {xb : Bool} {xA xL : Int} {xp : Option Addr} (h : IsR w (.agg #[.bool xb, .int .u64 xA, .int .u64 xL, .pointer xp]) p) : Bx (w.alloc (.cells #[.bool xb, .int .u64 xA, .int .u64 xL, .pointer xp] 28)) w.heap.size p xb xA xL xp :=
  ⟨heap_alloc_new _ _, h.below ((Below.refl _ _).alloc (Nat.le_refl _) _)⟩
theorem Bx.set {w : World} {g : Nat} {p : Nm} {xb : Bool} {xA xL : Int} {xp : Option Addr} {yb : Bool} {yA yL : Int} {yp : Option Addr} (h : IsR w (.agg #[.bool xb, .int .u64 xA, .int .u64 xL, .pointer xp]) p) (hk : w.heap[g]? = some (.cells #[.bool yb, .int .u64 yA, .int .u64 yL, .pointer yp] 28)) : Bx ((((w.setCell ⟨g, 0, none⟩ (.bool xb)).setCell ⟨g, 1, none⟩ (.int .u64 xA)).setCell ⟨g, 2, none⟩ (.int .u64 xL)).setCell ⟨g, 3, none⟩ (.pointer xp)) g p xb xA xL xp :=
  ⟨sto4_box hk _ _ _ _, h.offP (plain4 hk) (sto4_off w g _ _ _ _).1 (sto4_off w g _ _ _ _).2⟩
theorem Bx.off {w : World} {g g' : Nat} {p : Nm} {xb : Bool} {xA xL : Int} {xp : Option Addr} {yb : Bool} {yA yL : Int} {yp : Option Addr} (h : Bx w g p xb xA xL xp) (hk : w.heap[g']? = some (.cells #[.bool yb, .int .u64 yA, .int .u64 yL, .pointer yp] 28)) (hn : g ≠ g') (a0 a1 a2 a3 : Value) : Bx ((((w.setCell ⟨g', 0, none⟩ a0).setCell ⟨g', 1, none⟩ a1).setCell ⟨g', 2, none⟩ a2).setCell ⟨g', 3, none⟩ a3) g p xb xA xL xp :=
  ⟨((sto4_off w g' a0 a1 a2 a3).1 g hn).trans h.box, h.is.offP (plain4 hk) (sto4_off w g' a0 a1 a2 a3).1 (sto4_off w g' a0 a1 a2 a3).2⟩
theorem Bx.below {w w' : World} {g : Nat} {p : Nm} {xb : Bool} {xA xL : Int} {xp : Option Addr} (h : Bx w g p xb xA xL xp) (hb : Below w.heap.size w w') : Bx w' g p xb xA xL xp := ⟨box_kept h.box hb (in_heap h.box), h.is.below hb⟩
theorem Bx.cells {w : World} {g : Nat} {p : Nm} {xb : Bool} {xA xL : Int} {xp : Option Addr} (h : Bx w g p xb xA xL xp) : w.cell? ⟨g, 0, none⟩ = some (.bool xb) ∧ w.cell? ⟨g, 1, none⟩ = some (.int .u64 xA) ∧ w.cell? ⟨g, 2, none⟩ = some (.int .u64 xL) ∧ w.cell? ⟨g, 3, none⟩ = some (.pointer xp) := by
  have dd := cell_at h.box
  exact ⟨dd 0 _ rfl, dd 1 _ rfl, dd 2 _ rfl, dd 3 _ rfl⟩
theorem half_any (W : World) : Calls Tryz.prog 8 #[.int .i64 1, .int .i64 10] W fun e w' => ∃ v, e = .returned (.tuple #[v, .bool true]) ∧ IsR w' v tenthM ∧ Below W.heap.size W w' := by
  refine (frac_any 1 10 W (by decide) (by decide) (by decide) (by decide) (by decide)).mono ?_
  rintro e w' ⟨v, rfl, h, hb⟩
  exact ⟨v, rfl, h, hb⟩
theorem unit_any (W : World) : Calls Tryz.prog 7 #[.int .i64 1] W fun e w' => ∃ v, e = .returned v ∧ IsR w' v (unitM 0) ∧ Below W.heap.size W w' := a_int 1 W (by decide) (by decide)
theorem a_abs {v : Value} {p : Nm} {w : World} (h : IsR w v p) : Calls Tryz.prog 11 #[v] w fun e w' => ∃ v', e = .returned v' ∧ IsR w' v' (absM p) ∧ Below w.heap.size w w' := abs_any v _ _ _ w h
theorem a_sign {v : Value} {p : Nm} {w : World} (h : IsR w v p) : Calls Tryz.prog 13 #[v] w fun e w' => e = .returned (.int .i64 (sgnM p)) ∧ Below w.heap.size w w' := sign_any v _ _ _ w h
theorem unit_fits (j : Nat) (h : j ≤ 40) : Fits (unitM j) 161 := by
  refine ⟨Nat.pow_pos (by omega), by show (nb 1).length ≤ 161; exact nb_lt _ _ (by decide), ?_⟩
  show (nb (10 ^ j)).length ≤ 161
  apply nb_lt
  have h2 : 10 ^ j ≤ (2 ^ 4) ^ j := Nat.pow_le_pow_left (by omega) j
  rw [← Nat.pow_mul] at h2
  have h3 : (2 : Nat) ^ (4 * j) < 2 ^ 161 := Nat.pow_lt_pow_right (by omega) (by omega)
  omega
theorem dec_len (p : Nm) (k : Nat) (f : Fits p 256) (hk : k < 40) : (decM p.b p.n p.d k).length ≤ 20000 ∧ Fits (decV p k) 600 := by
  have t1 : (nb (10 ^ k)).length ≤ 161 := (unit_fits k (by omega)).2.2
  have hx := fromL_lt (nb p.n)
  have hy := fromL_lt (nb (10 ^ k))
  rw [fromL_nb] at hx hy
  obtain ⟨K, hK⟩ : ∃ K, 256 = K := ⟨_, rfl⟩
  obtain ⟨M, hM⟩ : ∃ M, 161 = M := ⟨_, rfl⟩
  have hp : p.n * 10 ^ k < 2 ^ (K + M) := by
    rw [Nat.pow_add]
    exact Nat.mul_lt_mul'' (Nat.lt_of_lt_of_le hx (Nat.pow_le_pow_right (by omega) (by have := f.2.1; omega))) (Nat.lt_of_lt_of_le hy (Nat.pow_le_pow_right (by omega) (by omega)))
  have hc : cutM p.n p.d k < 2 ^ (K + M) := Nat.lt_of_le_of_lt (Nat.div_le_self _ _) hp
  have b1 : (nb (cutM p.n p.d k)).length ≤ 417 := Nat.le_trans (nb_lt _ _ hc) (by omega)
  constructor
  · have h1 := tx_nb (cutM p.n p.d k) 417 b1 (by omega)
    have h2 := body_len p.n p.d k
    have h3 : (padM p.n p.d k).length ≤ 500 := by unfold padM; rw [List.length_append, List.length_replicate]; omega
    rw [dec_is, List.length_append]
    split <;> simp <;> omega
  · have ht : 0 < 10 ^ k := Nat.pow_pos (by omega)
    refine ⟨low_d _ _ _ ht, ?_, ?_⟩
    · exact Nat.le_trans (nb_lt _ _ (Nat.lt_of_le_of_lt (Nat.div_le_self _ _) hc)) (by omega)
    · exact Nat.le_trans (nb_lt _ _ (Nat.lt_of_le_of_lt (Nat.div_le_self _ _) hy)) (by omega)
theorem dec_back (p : Nm) (k : Nat) (f : Fits p 256) (hk : k < 40) (w : World) (hm : ML w) :
    Calls Tryz.prog 6 #[.string (bs (decM p.b p.n p.d k))] w fun e w' => ∃ v, e = .returned (.tuple #[v, .int .i64 0]) ∧ IsR w' v (decV p k) ∧ Below w.heap.size w w' := by
  have h := parse_some (decM p.b p.n p.d k) (cutM p.n p.d k) (10 ^ k) w hm (b8_dec _ _ _ _) (dec_len p k f hk).1 (by rw [dec_sign]; exact body_read _ _ _) (Nat.ne_of_gt (Nat.pow_pos (by omega)))
  rw [dec_sign] at h
  exact h
end Go.Proofs.YtefckmkcbgckfaaGreat.NrH

/- RtextNear: the walk, a count below nought. -/
namespace Go.Proofs.YtefckmkcbgckfaaGreat.NrW
open Go.RowKit Mem LimbNum Limb1 DigNum DigL StrL TxN ShelfC TextL RText RatL RatM RatN RatW RefR RefT RefU InvL DivL QNum CmpL CmqL RefX RefY RefZ FloL Mk5 AddN JoinL AddW AddV AddR FldL SubL NmL MulN MulW MulL PaL PtL PbL Law5 Aw5 TensAll DcM VqN BkL NrN RatF RatO RefI NrH

set_option maxRecDepth 20000 in
set_option maxHeartbeats 8000000 in
theorem law_neg (xx0 : Bool) (SA0 SB0 : Value) (i : Int) (w : World) (hm : ML w) (hr : Int.tmod i 40 < 0)
    (cB0 : ∀ W, Below w.heap.size w W → Calls Tryz.prog 4 #[.agg #[.bool xx0, SA0, SB0]] W fun e w' => ∃ v q p, e = .returned (.tuple #[v, q]) ∧ IsR w' v p ∧ IsQ w' q p ∧ Fits p 256 ∧ Below W.heap.size W w') :
    Calls Tryz.prog 3 #[.agg #[.bool xx0, SA0, SB0], .int .i64 i] w fun e w' => e = .returned (.bool true) ∧ Below w.heap.size w w' := by
  obtain ⟨W0, eW0, hb0, k0⟩ := one_new w (.cells #[.bool xx0, SA0, SB0] 24)
  have e0 := cell_at k0
  have ha0 : W0.cell? ⟨w.heap.size, 0, none⟩ = some (.bool xx0) := e0 0 _ rfl
  have ha1 : W0.cell? ⟨w.heap.size, 1, none⟩ = some (SA0) := e0 1 _ rfl
  have ha2 : W0.cell? ⟨w.heap.size, 2, none⟩ = some (SB0) := e0 2 _ rfl
  have EW : Hid (_ = W0) := eW0
  have C0 : Hid (Below w.heap.size w W0) := hb0
  have cc := cB0 W0 hb0
  clear eW0 e0 k0 cB0 hb0
  go_enter Tryz.func3, Tryz.ntmps3
  go_upto_region 1 with fail
  rw [EW.out]
  clear EW
  go_upto_region 2 with (go_at_call 4; refine cc.mono ?_; rintro e w1 ⟨v, y, q1, rfl, RR, QQ, F1, hb⟩; obtain ⟨xb, xA, xL, xp, rfl⟩ := RR.shape4; obtain ⟨bq1, o1, l1, c1, r1, m1, z1, rfl⟩ := QQ.shape3)
  obtain ⟨W1, eW, B, kx, kp⟩ := two_new w1 (.cells #[.bool xb, .int .u64 xA, .int .u64 xL, .pointer xp] 28) (.cells #[.bool bq1, .slice o1 l1 c1, .slice r1 m1 z1] 31)
  rw [eW]
  have BB := bt hb B
  have C1 : Hid (Below w.heap.size w W1) := bt C0.out BB
  have D0a : Hid (IsR W1 (.agg #[.bool xb, .int .u64 xA, .int .u64 xL, .pointer xp]) q1) := RR.below B
  have D0b : Hid (IsQ W1 (.agg #[.bool bq1, .slice o1 l1 c1, .slice r1 m1 z1]) q1) := QQ.below B
  obtain ⟨g0x, eg⟩ : ∃ g, w1.heap.size = g := ⟨_, rfl⟩
  obtain ⟨g0p, eg2⟩ : ∃ g, w1.heap.size + 1 = g := ⟨_, rfl⟩
  rw [eg2] at kp
  rw [eg] at kx
  simp only [eg2]
  simp only [eg]
  have K0x : Hid (W1.heap[g0x]? = some (.cells #[.bool xb, .int .u64 xA, .int .u64 xL, .pointer xp] 28)) := kx
  have K0p : Hid (W1.heap[g0p]? = some (.cells #[.bool bq1, .slice o1 l1 c1, .slice r1 m1 z1] 31)) := kp
  have G1 : Hid (Fits q1 256) := F1
  clear cc
  clear eW B kx kp BB hb RR QQ C0 eg eg2 F1 ha0 ha1 ha2
  have HM : Hid (ML W1) := hm.below C1.out
  have hm0 : Hid (ML w) := hm
  have Bx1 : Hid (Bx W1 g0x (q1) xb xA xL xp) := ⟨K0x.out, D0a.out⟩
  clear K0p D0b hm K0x D0a
  obtain ⟨r, er⟩ : ∃ r, Int.tmod i 40 = r := ⟨_, rfl⟩
  have r1 : -40 < r := by rw [← er]; exact Int.lt_tmod_of_pos i (by decide)
  have r2 : r < 40 := by rw [← er]; exact Int.tmod_lt_of_pos i (by decide)
  rw [er] at hr
  obtain ⟨k, hk, ek⟩ : ∃ k : Nat, k < 40 ∧ -r = (k : Int) := ⟨(-r).toNat, by omega, by omega⟩
  go_upto_region 5 with fail
  clear er r1 r2 hr ek
  have e0 := Bx1.out.cells
  obtain ⟨u0, u1, u2, u3⟩ := e0
  go_upto_region 6 with (go_at_call 5; refine (dec_any _ q1 k _ Bx1.out.is G1.out (by omega)).mono ?_; rintro e w2 ⟨rfl, hb2⟩)
  clear u0 u1 u2 u3
  go_upto_region 7 with (go_at_call 6; refine (dec_back q1 k G1.out hk _ (HM.out.below hb2)).mono ?_; rintro e w3 ⟨v3, rfl, Rd, hb3⟩; obtain ⟨db, dA, dL, dp, rfl⟩ := Rd.shape4)
  generalize bs (decM q1.b q1.n q1.d k) = SS at *
  obtain ⟨W2, eW2, B2', k2x⟩ := one_new w3 (.cells #[.bool db, .int .u64 dA, .int .u64 dL, .pointer dp] 28)
  rw [eW2]
  have BB2 := bt (bt hb2 hb3) B2'
  have C2 : Hid (Below w.heap.size w W2) := bt C1.out BB2
  have lwd : w.heap.size ≤ w3.heap.size := Nat.le_trans C1.out.size ((bt hb2 hb3)).size
  have ltd : ∀ g, g < W1.heap.size → g < w3.heap.size := fun g hg => Nat.lt_of_lt_of_le hg ((bt hb2 hb3)).size
  obtain ⟨gd, egd⟩ : ∃ g, w3.heap.size = g := ⟨_, rfl⟩
  rw [egd] at k2x ltd lwd ⊢
  have Bd2 : Hid (Bx W2 gd (decV q1 k) db dA dL dp) := ⟨k2x, Rd.below B2'⟩
  have Bx2 : Hid (Bx W2 g0x (q1) xb xA xL xp) := Bx1.out.below BB2
  have lxd : g0x < gd := ltd _ (in_heap Bx1.out.box)
  clear eW2 B2' k2x BB2 C1 ltd egd Rd Bx1
  have HM2 : Hid (ML W2) := hm0.out.below C2.out
  clear hb2 hb3 HM
  go_upto_region 8 with (go_at_call 7; refine (unit_any _).mono ?_; rintro e w4 ⟨v4, rfl, Ru, hb4⟩; obtain ⟨ub, uA, uL, up, rfl⟩ := Ru.shape4)
  obtain ⟨W3, eW3, B3', k3x⟩ := one_new w4 (.cells #[.bool ub, .int .u64 uA, .int .u64 uL, .pointer up] 28)
  rw [eW3]
  have BB3 := bt hb4 B3'
  have C3 : Hid (Below w.heap.size w W3) := bt C2.out BB3
  have lwu : w.heap.size ≤ w4.heap.size := Nat.le_trans C2.out.size (hb4).size
  have ltu : ∀ g, g < W2.heap.size → g < w4.heap.size := fun g hg => Nat.lt_of_lt_of_le hg (hb4).size
  obtain ⟨gu, egu⟩ : ∃ g, w4.heap.size = g := ⟨_, rfl⟩
  rw [egu] at k3x ltu lwu ⊢
  have Bu3 : Hid (Bx W3 gu (unitM 0) ub uA uL up) := ⟨k3x, Ru.below B3'⟩
  have Bx3 : Hid (Bx W3 g0x (q1) xb xA xL xp) := Bx2.out.below BB3
  have Bd3 : Hid (Bx W3 gd (decV q1 k) db dA dL dp) := Bd2.out.below BB3
  have lxu : g0x < gu := ltu _ (in_heap Bx2.out.box)
  have ldu : gd < gu := ltu _ (in_heap Bd2.out.box)
  clear eW3 B3' k3x BB3 C2 ltu egu Ru Bx2 Bd2
  clear hb4 HM2
  go_upto_region 9 with (go_at_call 8; refine (half_any _).mono ?_; rintro e w5 ⟨v5, rfl, Rt, hb5⟩; obtain ⟨tb, tA, tL, tp, rfl⟩ := Rt.shape4)
  obtain ⟨W4, eW4, B4', k4x⟩ := one_new w5 (.cells #[.bool tb, .int .u64 tA, .int .u64 tL, .pointer tp] 28)
  rw [eW4]
  have BB4 := bt hb5 B4'
  have C4 : Hid (Below w.heap.size w W4) := bt C3.out BB4
  have lwt : w.heap.size ≤ w5.heap.size := Nat.le_trans C3.out.size (hb5).size
  have ltt : ∀ g, g < W3.heap.size → g < w5.heap.size := fun g hg => Nat.lt_of_lt_of_le hg (hb5).size
  obtain ⟨gt, egt⟩ : ∃ g, w5.heap.size = g := ⟨_, rfl⟩
  rw [egt] at k4x ltt lwt ⊢
  have Bt4 : Hid (Bx W4 gt (tenthM) tb tA tL tp) := ⟨k4x, Rt.below B4'⟩
  have Bx4 : Hid (Bx W4 g0x (q1) xb xA xL xp) := Bx3.out.below BB4
  have Bd4 : Hid (Bx W4 gd (decV q1 k) db dA dL dp) := Bd3.out.below BB4
  have Bu4 : Hid (Bx W4 gu (unitM 0) ub uA uL up) := Bu3.out.below BB4
  have lxt : g0x < gt := ltt _ (in_heap Bx3.out.box)
  have ldt : gd < gt := ltt _ (in_heap Bd3.out.box)
  have lut : gu < gt := ltt _ (in_heap Bu3.out.box)
  clear eW4 B4' k4x BB4 C3 ltt egt Rt Bx3 Bd3 Bu3
  clear hb5
  have fd : Hid (Fits (decV q1 k) 600) := (dec_len q1 k G1.out hk).2
  have hoff : Hid (0 ≤ sgnM (addM (absM q1) (negM (absM (decV q1 k)))) ∧ cmpM (addM (absM q1) (negM (absM (decV q1 k)))) (unitM k) < 0) := off_ok q1 k G1.out.1
  have hsg : Hid (sgnM (decV q1 k) = 0 ∨ sgnM (decV q1 k) = sgnM q1) := sign_ok q1 k
  generalize decV q1 k = dm at *
  go_wp2
  go_loopw [15] (fun iv wr => ∃ (j : Nat) (yb : Bool) (yA yL : Int) (yp : Option Addr), j ≤ k ∧ iv = .int .i64 (j : Int) ∧ Hid (Bx wr gu (unitM j) yb yA yL yp) ∧ Hid (Bx wr g0x q1 xb xA xL xp) ∧ Hid (Bx wr gd dm db dA dL dp) ∧ Hid (Bx wr gt tenthM tb tA tL tp) ∧ Hid (Below w.heap.size w wr)) (fun iv _ => k - (intOf iv).toNat)
  case atStart => exact ⟨0, ub, uA, uL, up, Nat.zero_le _, rfl, Bu4, Bx4, Bd4, Bt4, C4⟩
  case round =>
    clear Bu4 Bx4 Bd4 Bt4 C4
    obtain ⟨j, yb, yA, yL, yp, hj, rfl, Bu, Bxx, Bd, Bt, C⟩ := hrel
    by_cases hlt : j < k
    · have q1' : (j : Int) < (k : Int) := by omega
      obtain ⟨u0, u1, u2, u3⟩ := Bu.out.cells
      obtain ⟨t0, t1, t2, t3⟩ := Bt.out.cells
      have cM := a_mul (k := 161) (by omega) Bu.out.is Bt.out.is (unit_fits j (by omega)) ((unit_fits 1 (by omega)).more (by omega))
      rw [unit_step] at cM
      go_wp2_with (go_at_call 9; refine cM.mono ?_; rintro e w6 ⟨v6, rfl, R6, hb6⟩; obtain ⟨nb', nA, nL, np, rfl⟩ := R6.shape4; have kk := (Bu.out.below hb6).box; have dd := cell_at kk; have d0 : w6.cell? ⟨gu, 0, none⟩ = some (.bool yb) := dd 0 _ rfl; have d1 : w6.cell? ⟨gu, 1, none⟩ = some (.int .u64 yA) := dd 1 _ rfl; have d2 : w6.cell? ⟨gu, 2, none⟩ = some (.int .u64 yL) := dd 2 _ rfl; have d3 : w6.cell? ⟨gu, 3, none⟩ = some (.pointer yp) := dd 3 _ rfl; have ff := nofreeze kk; clear dd; have HK : Hid (w6.heap[gu]? = some (.cells #[.bool yb, .int .u64 yA, .int .u64 yL, .pointer yp] 28)) := kk; clear kk; have HR6 : Hid (IsR w6 (.agg #[.bool nb', .int .u64 nA, .int .u64 nL, .pointer np]) (unitM (j + 1))) := R6; clear R6; have X6 : Hid (Bx w6 g0x q1 xb xA xL xp) := Bxx.out.below hb6; have D6 : Hid (Bx w6 gd dm db dA dL dp) := Bd.out.below hb6; have T6 : Hid (Bx w6 gt tenthM tb tA tL tp) := Bt.out.below hb6; have C6 : Hid (Below w.heap.size w w6) := bt C.out hb6)
      go_roundw
      case rel => exact ⟨j + 1, nb', nA, nL, np, hlt, by go_num, Bx.set HR6.out HK.out, X6.out.off HK.out (by omega) _ _ _ _, D6.out.off HK.out (by omega) _ _ _ _, T6.out.off HK.out (by omega) _ _ _ _, sto4_below C6.out lwu _ _ _ _⟩
      case measure => simp only [intOf]; omega
    · obtain rfl : j = k := by omega
      have q2 : ¬ (j : Int) < (j : Int) := by omega
      clear Bt
      go_upto_region 13 with fail
      have s0 : wr.drew.cell? ⟨g0x, 0, none⟩ = some (.bool xb) ∧ wr.drew.cell? ⟨g0x, 1, none⟩ = some (.int .u64 xA) ∧ wr.drew.cell? ⟨g0x, 2, none⟩ = some (.int .u64 xL) ∧ wr.drew.cell? ⟨g0x, 3, none⟩ = some (.pointer xp) ∧ wr.drew.cell? ⟨gd, 0, none⟩ = some (.bool db) ∧ wr.drew.cell? ⟨gd, 1, none⟩ = some (.int .u64 dA) ∧ wr.drew.cell? ⟨gd, 2, none⟩ = some (.int .u64 dL) ∧ wr.drew.cell? ⟨gd, 3, none⟩ = some (.pointer dp) := ⟨Bxx.out.cells.1, Bxx.out.cells.2.1, Bxx.out.cells.2.2.1, Bxx.out.cells.2.2.2, Bd.out.cells.1, Bd.out.cells.2.1, Bd.out.cells.2.2.1, Bd.out.cells.2.2.2⟩
      have s0v : ((wr.alloc (.cells #[.bool false, .int .u64 0, .int .u64 0, .pointer none] 28)).drew).cell? ⟨g0x, 0, none⟩ = some (.bool xb) ∧ ((wr.alloc (.cells #[.bool false, .int .u64 0, .int .u64 0, .pointer none] 28)).drew).cell? ⟨g0x, 1, none⟩ = some (.int .u64 xA) ∧ ((wr.alloc (.cells #[.bool false, .int .u64 0, .int .u64 0, .pointer none] 28)).drew).cell? ⟨g0x, 2, none⟩ = some (.int .u64 xL) ∧ ((wr.alloc (.cells #[.bool false, .int .u64 0, .int .u64 0, .pointer none] 28)).drew).cell? ⟨g0x, 3, none⟩ = some (.pointer xp) ∧ ((wr.alloc (.cells #[.bool false, .int .u64 0, .int .u64 0, .pointer none] 28)).drew).cell? ⟨gd, 0, none⟩ = some (.bool db) ∧ ((wr.alloc (.cells #[.bool false, .int .u64 0, .int .u64 0, .pointer none] 28)).drew).cell? ⟨gd, 1, none⟩ = some (.int .u64 dA) ∧ ((wr.alloc (.cells #[.bool false, .int .u64 0, .int .u64 0, .pointer none] 28)).drew).cell? ⟨gd, 2, none⟩ = some (.int .u64 dL) ∧ ((wr.alloc (.cells #[.bool false, .int .u64 0, .int .u64 0, .pointer none] 28)).drew).cell? ⟨gd, 3, none⟩ = some (.pointer dp) := new8 _ s0
      have hwD : Below wr.heap.size wr wr.drew := (Below.refl _ _).drew
      have hwV : Below wr.heap.size wr ((wr.alloc (.cells #[.bool false, .int .u64 0, .int .u64 0, .pointer none] 28)).drew) := ((Below.refl _ _).alloc (Nat.le_refl _) _).drew
      have kv : ((wr.alloc (.cells #[.bool false, .int .u64 0, .int .u64 0, .pointer none] 28)).drew).heap[wr.heap.size]? = some (.cells #[.bool false, .int .u64 0, .int .u64 0, .pointer none] 28) := heap_alloc_new wr _
      have ltv := in_heap kv
      have nR2 : ∀ W : World, Below wr.heap.size wr W → g0x ≠ W.heap.size ∧ gd ≠ W.heap.size := fun W h => ⟨Nat.ne_of_lt (Nat.lt_of_lt_of_le (in_heap Bxx.out.box) h.size), Nat.ne_of_lt (Nat.lt_of_lt_of_le (in_heap Bd.out.box) h.size)⟩
      have nR := nR2 _ (Below.refl _ _)
      have cA1 := fun (W : World) (h : Below wr.heap.size wr W) => a_abs (Bxx.out.is.below h)
      have cA2 := fun (W : World) (h : Below wr.heap.size wr W) => a_abs (Bd.out.is.below h)
      have fa : Hid (Fits (absM q1) 600 ∧ Fits (absM dm) 600) := ⟨show Fits q1 600 from G1.out.more (by omega), fd.out⟩
      have cS := fun (W : World) (v v' : Value) (h1 : IsR W v (absM q1)) (h2 : IsR W v' (absM dm)) => a_sub (k := 600) (by omega) h1 h2 fa.out.1 fa.out.2
      have TA : True := trivial
      have fo : Hid (Fits (addM (absM q1) (negM (absM dm))) 1201) := fits_add fa.out.1 (fits_neg fa.out.2)
      generalize addM (absM q1) (negM (absM dm)) = om at *
      go_cut [16] from 52 to 56 (fun v16 wx => ∃ (go : Nat) (ob : Bool) (oA oL : Int) (op : Option Addr), v16 = .pointer (some ⟨go, 0, none⟩) ∧ Hid (Bx wx go om ob oA oL op) ∧ Hid (Below wr.heap.size wr wx))
      case first =>
        clear hoff hsg C Bu Bxx Bd fa fo fd
        go_region_held3 (fun w' => w'.cell? ⟨g0x, 0, none⟩ = some (.bool xb) ∧ w'.cell? ⟨g0x, 1, none⟩ = some (.int .u64 xA) ∧ w'.cell? ⟨g0x, 2, none⟩ = some (.int .u64 xL) ∧ w'.cell? ⟨g0x, 3, none⟩ = some (.pointer xp) ∧ w'.cell? ⟨gd, 0, none⟩ = some (.bool db) ∧ w'.cell? ⟨gd, 1, none⟩ = some (.int .u64 dA) ∧ w'.cell? ⟨gd, 2, none⟩ = some (.int .u64 dL) ∧ w'.cell? ⟨gd, 3, none⟩ = some (.pointer dp)) (first | with_reducible exact s0 | with_reducible exact s0v | with_reducible exact s1 | with_reducible exact s1z | with_reducible exact s2 | with_reducible exact s2z | with_reducible exact s3 | with_reducible exact new8 _ s3 | with_reducible exact set8 nx _ _ _ _ s3) (first
          | (go_at_call 11; have _t := TA; clear _t TA; refine (cA1 _ ?_).mono ?_; (first | with_reducible exact hwD | with_reducible exact hwV); rintro e wa ⟨y1, rfl, R5, hba⟩; (first | with_reducible have Ha := bt hwD hba | with_reducible have Ha := bt hwV hba); (first | with_reducible have s1 := keep8 hba s0 | with_reducible have s1 := keep8 hba s0v); have R5z := R5.below ((Below.refl _ _).alloc (Nat.le_refl _) (.cells #[.bool false, .int .u64 0, .int .u64 0, .pointer none] 28)); have s1z := new8 (.cells #[.bool false, .int .u64 0, .int .u64 0, .pointer none] 28) s1; have Hy1 : Below wr.heap.size wr (wa.alloc (.cells #[.bool false, .int .u64 0, .int .u64 0, .pointer none] 28)) := Ha.alloc Ha.size _; have ky1 : (wa.alloc (.cells #[.bool false, .int .u64 0, .int .u64 0, .pointer none] 28)).heap[wa.heap.size]? = some (.cells #[.bool false, .int .u64 0, .int .u64 0, .pointer none] 28) := heap_alloc_new wa _; have ly1 := in_heap ky1; have ny1 := nR2 _ Ha; (first | with_reducible have kr1 := box_kept kv hba ltv | skip))
          | (go_at_call 11; refine (cA2 _ ?_).mono ?_; (first | with_reducible exact Ha | with_reducible exact Hy1); rintro e wb ⟨y2, rfl, R6, hbb⟩; (first | with_reducible have Hb := bt Ha hbb | with_reducible have Hb := bt Hy1 hbb); (first | with_reducible have s2 := keep8 hbb s1 | with_reducible have s2 := keep8 hbb s1z); (first | with_reducible have R5b := R5.below hbb | with_reducible have R5b := R5z.below hbb); have R5bz := R5b.below ((Below.refl _ _).alloc (Nat.le_refl _) (.cells #[.bool false, .int .u64 0, .int .u64 0, .pointer none] 28)); have R6z := R6.below ((Below.refl _ _).alloc (Nat.le_refl _) (.cells #[.bool false, .int .u64 0, .int .u64 0, .pointer none] 28)); have s2z := new8 (.cells #[.bool false, .int .u64 0, .int .u64 0, .pointer none] 28) s2; have Hy2 : Below wr.heap.size wr (wb.alloc (.cells #[.bool false, .int .u64 0, .int .u64 0, .pointer none] 28)) := Hb.alloc Hb.size _; have ky2 : (wb.alloc (.cells #[.bool false, .int .u64 0, .int .u64 0, .pointer none] 28)).heap[wb.heap.size]? = some (.cells #[.bool false, .int .u64 0, .int .u64 0, .pointer none] 28) := heap_alloc_new wb _; have ly2 := in_heap ky2; have ny2 := nR2 _ Hb; (first | (with_reducible have kr2 := box_kept kr1 hbb (in_heap kr1); have n2' := nR; have l2' : wr.heap.size ≤ wr.heap.size := Nat.le_refl _) | (with_reducible have kr2 := box_kept ky1 hbb ly1; have n2' := ny1; have l2' := Ha.size) | skip))
          | (go_at_call 10; refine (cS _ _ _ ?_ ?_).mono ?_; (first | with_reducible exact R5b | with_reducible exact R5bz); (first | with_reducible exact R6 | with_reducible exact R6z); rintro e wc' ⟨y3, rfl, R7, hbc⟩; (first | with_reducible have Hc := bt Hb hbc | with_reducible have Hc := bt Hy2 hbc); (first | with_reducible have s3 := keep8 hbc s2 | with_reducible have s3 := keep8 hbc s2z); obtain ⟨ob, oA, oL, op, rfl⟩ := R7.shape4; (first | (with_reducible have kr3 := box_kept kr2 hbc (in_heap kr2); have nx := n2'; have lx := l2'; have dd := cell_at kr3; have e0' := dd 0 _ rfl; have e1' := dd 1 _ rfl; have e2' := dd 2 _ rfl; have e3' := dd 3 _ rfl; have ff := nofreeze kr3; clear dd) | (with_reducible have kr3 := box_kept ky2 hbc ly2; have nx := ny2; have lx := Hb.size; have dd := cell_at kr3; have e0' := dd 0 _ rfl; have e1' := dd 1 _ rfl; have e2' := dd 2 _ rfl; have e3' := dd 3 _ rfl; have ff := nofreeze kr3; clear dd) | skip)))
        all_goals go_wp2
        all_goals go_meet
        all_goals first
          | exact ⟨_, ob, oA, oL, op, rfl, Bx.new R7, Hc.alloc Hc.size _⟩
          | exact ⟨_, ob, oA, oL, op, rfl, Bx.set R7 kr3, sto4_below Hc lx _ _ _ _⟩
      case rest =>
        obtain ⟨go, ob, oA, oL, op, rfl, Bo, HX⟩ := hcut
        have B5x := Bxx.out.below HX.out
        have B5u := Bu.out.below HX.out
        have B5d := Bd.out.below HX.out
        have hmw : Hid (ML w) := hm0
        have hwc : Hid (Below w.heap.size w wc) := bt C.out HX.out
        have HB : Hid (Bx wc go om ob oA oL op ∧ Bx wc gu (unitM j) yb yA yL yp ∧ Bx wc gd dm db dA dL dp ∧ Bx wc g0x q1 xb xA xL xp) := ⟨Bo.out, B5u, B5d, B5x⟩
        have s0' : wc.drew.cell? ⟨go, 0, none⟩ = some (.bool ob) ∧ wc.drew.cell? ⟨go, 1, none⟩ = some (.int .u64 oA) ∧ wc.drew.cell? ⟨go, 2, none⟩ = some (.int .u64 oL) ∧ wc.drew.cell? ⟨go, 3, none⟩ = some (.pointer op) ∧ wc.drew.cell? ⟨gu, 0, none⟩ = some (.bool yb) ∧ wc.drew.cell? ⟨gu, 1, none⟩ = some (.int .u64 yA) ∧ wc.drew.cell? ⟨gu, 2, none⟩ = some (.int .u64 yL) ∧ wc.drew.cell? ⟨gu, 3, none⟩ = some (.pointer yp) ∧ wc.drew.cell? ⟨gd, 0, none⟩ = some (.bool db) ∧ wc.drew.cell? ⟨gd, 1, none⟩ = some (.int .u64 dA) ∧ wc.drew.cell? ⟨gd, 2, none⟩ = some (.int .u64 dL) ∧ wc.drew.cell? ⟨gd, 3, none⟩ = some (.pointer dp) ∧ wc.drew.cell? ⟨g0x, 0, none⟩ = some (.bool xb) ∧ wc.drew.cell? ⟨g0x, 1, none⟩ = some (.int .u64 xA) ∧ wc.drew.cell? ⟨g0x, 2, none⟩ = some (.int .u64 xL) ∧ wc.drew.cell? ⟨g0x, 3, none⟩ = some (.pointer xp) := ⟨Bo.out.cells.1, Bo.out.cells.2.1, Bo.out.cells.2.2.1, Bo.out.cells.2.2.2, B5u.cells.1, B5u.cells.2.1, B5u.cells.2.2.1, B5u.cells.2.2.2, B5d.cells.1, B5d.cells.2.1, B5d.cells.2.2.1, B5d.cells.2.2.2, B5x.cells.1, B5x.cells.2.1, B5x.cells.2.2.1, B5x.cells.2.2.2⟩
        have H0 : Below wc.heap.size wc wc.drew := (Below.refl _ _).drew
        have v1 : sgnM om = 0 ∨ sgnM om = 1 := by
          have := hoff.out.1
          unfold sgnM sgn at this ⊢
          split
          · exact .inl rfl
          · split
            · simp_all
            · exact .inr rfl
        have v2 : cmpM om (unitM j) = -1 := by
          have h := hoff.out.2
          have hr : cmpM om (unitM j) = -1 ∨ cmpM om (unitM j) = 0 ∨ cmpM om (unitM j) = 1 := by
            unfold cmpM cmpQ cmpI
            split
            · exact .inl rfl
            · split
              · exact .inr (.inl rfl)
              · exact .inr (.inr rfl)
          rcases hr with e | e | e
          · exact e
          · omega
          · omega
        have v3 : sgnM dm = 0 ∨ (sgnM dm = 1 ∧ sgnM q1 = 1) ∨ (sgnM dm = -1 ∧ sgnM q1 = -1) := by
          have h := hsg.out
          rcases h with h | h
          · exact .inl h
          · rw [← h]
            unfold sgnM sgn
            split
            · exact .inl rfl
            · split
              · exact .inr (.inr ⟨rfl, rfl⟩)
              · exact .inr (.inl ⟨rfl, rfl⟩)
        have cSo := fun (W : World) (h : Below wc.heap.size wc W) => a_sign (HB.out.1.is.below h)
        have cC := fun (W : World) (h : Below wc.heap.size wc W) => a_cmp (k := 1201) (by omega) (HB.out.1.is.below h) (HB.out.2.1.is.below h) fo.out ((unit_fits j (by omega)).more (by omega))
        have cSd := fun (W : World) (h : Below wc.heap.size wc W) => a_sign (HB.out.2.2.1.is.below h)
        have cSx := fun (W : World) (h : Below wc.heap.size wc W) => a_sign (HB.out.2.2.2.is.below h)
        rw [v2] at cC
        have cI := fun (W : World) => rint_any 0 W (by decide) (by decide)
        have cZ := fun (W : World) (v : Value) (h : IsRef W v (decide ((0 : Int) < 0)) (0 : Int).natAbs 1) => rsign_any v _ _ _ W h (fun _ => rfl) (by decide +kernel)
        generalize sgnM om = SO at *
        generalize sgnM dm = SD at *
        generalize sgnM q1 = SX at *
        clear hoff hsg fo C Bu Bxx Bd B5x B5u B5d Bo HX v2 fd hm0
        go_upto_region 14 with fail
        have hm5 : ∀ {W : World}, Below wc.heap.size wc W → ML W := fun {W} h => (show ML wc from ML.below hmw.out hwc.out).below h
        rcases v1 with rfl | rfl <;> rcases v3 with rfl | ⟨rfl, rfl⟩ | ⟨rfl, rfl⟩
        · skip
          refine wp_region_held_drew (S := (fun w' => w'.cell? ⟨go, 0, none⟩ = some (.bool ob) ∧ w'.cell? ⟨go, 1, none⟩ = some (.int .u64 oA) ∧ w'.cell? ⟨go, 2, none⟩ = some (.int .u64 oL) ∧ w'.cell? ⟨go, 3, none⟩ = some (.pointer op) ∧ w'.cell? ⟨gu, 0, none⟩ = some (.bool yb) ∧ w'.cell? ⟨gu, 1, none⟩ = some (.int .u64 yA) ∧ w'.cell? ⟨gu, 2, none⟩ = some (.int .u64 yL) ∧ w'.cell? ⟨gu, 3, none⟩ = some (.pointer yp) ∧ w'.cell? ⟨gd, 0, none⟩ = some (.bool db) ∧ w'.cell? ⟨gd, 1, none⟩ = some (.int .u64 dA) ∧ w'.cell? ⟨gd, 2, none⟩ = some (.int .u64 dL) ∧ w'.cell? ⟨gd, 3, none⟩ = some (.pointer dp) ∧ w'.cell? ⟨g0x, 0, none⟩ = some (.bool xb) ∧ w'.cell? ⟨g0x, 1, none⟩ = some (.int .u64 xA) ∧ w'.cell? ⟨g0x, 2, none⟩ = some (.int .u64 xL) ∧ w'.cell? ⟨g0x, 3, none⟩ = some (.pointer xp))) (by kernel_rfl) ?_ (fun hHeld => ?_)
          · exact s0'
          refine wpAnyH_ready (rs := [0]) (by kernel_rfl) (by simp) ?_
          refine AllReadyH.cons (o := { dst := some 57, op := Op.call { callee := Callee.value (Operand.func 12), args := #[], argTypes := #[] }, type := 4, pos := "law.go:97", after := #[], guard := none }) rfl (fun K hK => ?_) AllReadyH.nil
          go_simp
          (go_at_call 12; refine (awake6 _ (hm5 H0)).mono ?_; rintro e aw1 ⟨rfl, ab1⟩; have aH1 := bt H0 ab1; have as1 := keep16 ab1 s0')
          first | go_wp2 | skip
          refine hK.out _ _ ?_ (fun hHeld2 => ?_)
          · exact as1
          clear hK K hHeld
          have hHeld := hHeld2
          clear hHeld2
          refine wpAnyH_take (i := 1) (oi := { dst := some 58, op := Op.move (Operand.tmp 57), type := 4, pos := "law.go:97", after := #[{ on := 0, ground := Ground.data }, { on := 0, ground := Ground.chain }], guard := none }) (v := ?va1) rfl (by kernel_rfl) (by kernel_rfl) (by kernel_rfl) (fun _ _ _ h => h) (Or.inl ⟨by rfl, ?hya1⟩) hHeld ?resta1
          case hya1 =>
            intro w hSw
            (try dsimp only at hSw)
            first | (go_simp; done) | (go_simp; with_reducible rfl) | with_reducible rfl | rfl
          simp only [Act.put, List.setIfInBounds_toArray, List.set_cons_zero, List.set_cons_succ]
          refine wpAnyH_take (i := 2) (oi := { dst := some 59, op := Op.move (Operand.tmp 9), type := 34, pos := "law.go:97", after := #[{ on := 1, ground := Ground.guard }], guard := some (1, true) }) (v := ?va2) rfl (by kernel_rfl) (by kernel_rfl) (by kernel_rfl) (fun _ _ _ h => h) (Or.inl ⟨by rfl, ?hya2⟩) hHeld ?resta2
          case hya2 =>
            intro w hSw
            (try dsimp only at hSw)
            first | (go_simp; done) | (go_simp; with_reducible rfl) | with_reducible rfl | rfl
          simp only [Act.put, List.setIfInBounds_toArray, List.set_cons_zero, List.set_cons_succ]
          refine wpAnyH_take (i := 3) (oi := { dst := some 60, op := Op.binOp BinOp.eql 34 (Operand.tmp 59) (Operand.const (Value.int IntKind.i64 0)) 34, type := 4, pos := "law.go:97", after := #[{ on := 2, ground := Ground.data }, { on := 1, ground := Ground.guard }], guard := some (1, true) }) (v := ?va3) rfl (by kernel_rfl) (by kernel_rfl) (by kernel_rfl) (fun _ _ _ h => h) (Or.inl ⟨by rfl, ?hya3⟩) hHeld ?resta3
          case hya3 =>
            intro w hSw
            (try dsimp only at hSw)
            first | (go_simp; done) | (go_simp; with_reducible rfl) | with_reducible rfl | rfl
          simp only [Act.put, List.setIfInBounds_toArray, List.set_cons_zero, List.set_cons_succ]
          refine wpAnyH_take (i := 4) (oi := { dst := some 61, op := Op.pick (Operand.tmp 58) (Operand.tmp 60) (Operand.const (Value.bool false)), type := 4, pos := "law.go:97", after := #[{ on := 1, ground := Ground.data }, { on := 3, ground := Ground.data }], guard := none }) (v := ?va4) rfl (by kernel_rfl) (by kernel_rfl) (by kernel_rfl) (fun _ _ _ h => h) (Or.inl ⟨by rfl, ?hya4⟩) hHeld ?resta4
          case hya4 =>
            intro w hSw
            (try dsimp only at hSw)
            first | (go_simp; done) | (go_simp; with_reducible rfl) | with_reducible rfl | rfl
          simp only [Act.put, List.setIfInBounds_toArray, List.set_cons_zero, List.set_cons_succ]
          refine wpAnyH_take (i := 5) (oi := { dst := some 62, op := Op.move (Operand.tmp 61), type := 4, pos := "law.go:97", after := #[{ on := 4, ground := Ground.data }, { on := 1, ground := Ground.chain }], guard := none }) (v := ?va5) rfl (by kernel_rfl) (by kernel_rfl) (by kernel_rfl) (fun _ _ _ h => h) (Or.inl ⟨by rfl, ?hya5⟩) hHeld ?resta5
          case hya5 =>
            intro w hSw
            (try dsimp only at hSw)
            first | (go_simp; done) | (go_simp; with_reducible rfl) | with_reducible rfl | rfl
          simp only [Act.put, List.setIfInBounds_toArray, List.set_cons_zero, List.set_cons_succ]
          refine wpAnyH_take (i := 6) (oi := { dst := some 63, op := Op.move (Operand.tmp 11), type := 34, pos := "law.go:97", after := #[{ on := 5, ground := Ground.guard }], guard := some (5, true) }) (v := ?va6) rfl (by kernel_rfl) (by kernel_rfl) (by kernel_rfl) (fun _ _ _ h => h) (Or.inl ⟨by rfl, ?hya6⟩) hHeld ?resta6
          case hya6 =>
            intro w hSw
            (try dsimp only at hSw)
            first | (go_simp; done) | (go_simp; with_reducible rfl) | with_reducible rfl | rfl
          simp only [Act.put, List.setIfInBounds_toArray, List.set_cons_zero, List.set_cons_succ]
          refine wpAnyH_take (i := 7) (oi := { dst := some 64, op := Op.binOp BinOp.eql 34 (Operand.tmp 63) (Operand.const (Value.int IntKind.i64 0)) 34, type := 4, pos := "law.go:97", after := #[{ on := 6, ground := Ground.data }, { on := 5, ground := Ground.guard }], guard := some (5, true) }) (v := ?va7) rfl (by kernel_rfl) (by kernel_rfl) (by kernel_rfl) (fun _ _ _ h => h) (Or.inl ⟨by rfl, ?hya7⟩) hHeld ?resta7
          case hya7 =>
            intro w hSw
            (try dsimp only at hSw)
            first | (go_simp; done) | (go_simp; with_reducible rfl) | with_reducible rfl | rfl
          simp only [Act.put, List.setIfInBounds_toArray, List.set_cons_zero, List.set_cons_succ]
          refine wpAnyH_take (i := 8) (oi := { dst := some 65, op := Op.pick (Operand.tmp 62) (Operand.tmp 64) (Operand.const (Value.bool false)), type := 4, pos := "law.go:97", after := #[{ on := 5, ground := Ground.data }, { on := 7, ground := Ground.data }], guard := none }) (v := ?va8) rfl (by kernel_rfl) (by kernel_rfl) (by kernel_rfl) (fun _ _ _ h => h) (Or.inl ⟨by rfl, ?hya8⟩) hHeld ?resta8
          case hya8 =>
            intro w hSw
            (try dsimp only at hSw)
            first | (go_simp; done) | (go_simp; with_reducible rfl) | with_reducible rfl | rfl
          simp only [Act.put, List.setIfInBounds_toArray, List.set_cons_zero, List.set_cons_succ]
          refine wpAnyH_take (i := 9) (oi := { dst := some 66, op := Op.move (Operand.tmp 65), type := 4, pos := "law.go:97", after := #[{ on := 8, ground := Ground.data }, { on := 5, ground := Ground.chain }], guard := none }) (v := ?va9) rfl (by kernel_rfl) (by kernel_rfl) (by kernel_rfl) (fun _ _ _ h => h) (Or.inl ⟨by rfl, ?hya9⟩) hHeld ?resta9
          case hya9 =>
            intro w hSw
            (try dsimp only at hSw)
            first | (go_simp; done) | (go_simp; with_reducible rfl) | with_reducible rfl | rfl
          simp only [Act.put, List.setIfInBounds_toArray, List.set_cons_zero, List.set_cons_succ]
          refine wpAnyH_take (i := 10) (oi := { dst := some 67, op := Op.load 28 (Operand.tmp 16), type := 28, pos := "law.go:97", after := #[{ on := 9, ground := Ground.guard }], guard := some (9, true) }) (v := ?va10) rfl (by kernel_rfl) (by kernel_rfl) (by kernel_rfl) (fun _ _ _ h => h) (Or.inl ⟨by rfl, ?hya10⟩) hHeld ?resta10
          case hya10 =>
            intro w hSw
            (try dsimp only at hSw)
            first | (go_simp; done) | (go_simp; with_reducible rfl) | with_reducible rfl | rfl
          simp only [Act.put, List.setIfInBounds_toArray, List.set_cons_zero, List.set_cons_succ]
          refine wpAnyH_ready (rs := [11]) (by kernel_rfl) (by simp) ?_
          refine AllReadyH.cons (o := { dst := some 68, op := Op.call { callee := Callee.value (Operand.func 13), args := #[Operand.tmp 67], argTypes := #[28] }, type := 3, pos := "law.go:97", after := #[{ on := 10, ground := Ground.data }, { on := 9, ground := Ground.chain }, { on := 9, ground := Ground.guard }], guard := some (9, true) }) rfl (fun K hK => ?_) AllReadyH.nil
          go_simp
          (go_at_call 13; refine (cSo _ aH1).mono ?_; rintro e aw2 ⟨rfl, ab2⟩; have aH2 := bt aH1 ab2; have as2 := keep16 ab2 as1)
          first | go_wp2 | skip
          refine hK.out _ _ ?_ (fun hHeld2 => ?_)
          · exact as2
          clear hK K hHeld
          have hHeld := hHeld2
          clear hHeld2
          refine wpAnyH_take (i := 12) (oi := { dst := some 69, op := Op.binOp BinOp.geq 3 (Operand.tmp 68) (Operand.const (Value.int IntKind.i64 0)) 3, type := 4, pos := "law.go:97", after := #[{ on := 11, ground := Ground.data }, { on := 9, ground := Ground.guard }], guard := some (9, true) }) (v := ?va12) rfl (by kernel_rfl) (by kernel_rfl) (by kernel_rfl) (fun _ _ _ h => h) (Or.inl ⟨by rfl, ?hya12⟩) hHeld ?resta12
          case hya12 =>
            intro w hSw
            (try dsimp only at hSw)
            first | (go_simp; done) | (go_simp; with_reducible rfl) | with_reducible rfl | rfl
          simp only [Act.put, List.setIfInBounds_toArray, List.set_cons_zero, List.set_cons_succ]
          refine wpAnyH_take (i := 13) (oi := { dst := some 70, op := Op.pick (Operand.tmp 66) (Operand.tmp 69) (Operand.const (Value.bool false)), type := 4, pos := "law.go:97", after := #[{ on := 9, ground := Ground.data }, { on := 12, ground := Ground.data }], guard := none }) (v := ?va13) rfl (by kernel_rfl) (by kernel_rfl) (by kernel_rfl) (fun _ _ _ h => h) (Or.inl ⟨by rfl, ?hya13⟩) hHeld ?resta13
          case hya13 =>
            intro w hSw
            (try dsimp only at hSw)
            first | (go_simp; done) | (go_simp; with_reducible rfl) | with_reducible rfl | rfl
          simp only [Act.put, List.setIfInBounds_toArray, List.set_cons_zero, List.set_cons_succ]
          refine wpAnyH_take (i := 14) (oi := { dst := some 71, op := Op.move (Operand.tmp 70), type := 4, pos := "law.go:97", after := #[{ on := 13, ground := Ground.data }, { on := 11, ground := Ground.chain }], guard := none }) (v := ?va14) rfl (by kernel_rfl) (by kernel_rfl) (by kernel_rfl) (fun _ _ _ h => h) (Or.inl ⟨by rfl, ?hya14⟩) hHeld ?resta14
          case hya14 =>
            intro w hSw
            (try dsimp only at hSw)
            first | (go_simp; done) | (go_simp; with_reducible rfl) | with_reducible rfl | rfl
          simp only [Act.put, List.setIfInBounds_toArray, List.set_cons_zero, List.set_cons_succ]
          refine wpAnyH_take (i := 15) (oi := { dst := some 72, op := Op.load 28 (Operand.tmp 16), type := 28, pos := "law.go:97", after := #[{ on := 14, ground := Ground.guard }], guard := some (14, true) }) (v := ?va15) rfl (by kernel_rfl) (by kernel_rfl) (by kernel_rfl) (fun _ _ _ h => h) (Or.inl ⟨by rfl, ?hya15⟩) hHeld ?resta15
          case hya15 =>
            intro w hSw
            (try dsimp only at hSw)
            first | (go_simp; done) | (go_simp; with_reducible rfl) | with_reducible rfl | rfl
          simp only [Act.put, List.setIfInBounds_toArray, List.set_cons_zero, List.set_cons_succ]
          refine wpAnyH_take (i := 16) (oi := { dst := some 73, op := Op.load 28 (Operand.tmp 12), type := 28, pos := "law.go:97", after := #[{ on := 14, ground := Ground.guard }], guard := some (14, true) }) (v := ?va16) rfl (by kernel_rfl) (by kernel_rfl) (by kernel_rfl) (fun _ _ _ h => h) (Or.inl ⟨by rfl, ?hya16⟩) hHeld ?resta16
          case hya16 =>
            intro w hSw
            (try dsimp only at hSw)
            first | (go_simp; done) | (go_simp; with_reducible rfl) | with_reducible rfl | rfl
          simp only [Act.put, List.setIfInBounds_toArray, List.set_cons_zero, List.set_cons_succ]
          refine wpAnyH_ready (rs := [17]) (by kernel_rfl) (by simp) ?_
          refine AllReadyH.cons (o := { dst := some 74, op := Op.call { callee := Callee.value (Operand.func 14), args := #[Operand.tmp 72, Operand.tmp 73], argTypes := #[28, 28] }, type := 3, pos := "law.go:97", after := #[{ on := 15, ground := Ground.data }, { on := 16, ground := Ground.data }, { on := 14, ground := Ground.chain }, { on := 14, ground := Ground.guard }], guard := some (14, true) }) rfl (fun K hK => ?_) AllReadyH.nil
          go_simp
          (go_at_call 14; refine (cC _ aH2).mono ?_; rintro e aw3 ⟨rfl, ab3⟩; have aH3 := bt aH2 ab3; have as3 := keep16 ab3 as2)
          first | go_wp2 | skip
          refine hK.out _ _ ?_ (fun hHeld2 => ?_)
          · exact as3
          clear hK K hHeld
          have hHeld := hHeld2
          clear hHeld2
          refine wpAnyH_take (i := 18) (oi := { dst := some 75, op := Op.binOp BinOp.lss 3 (Operand.tmp 74) (Operand.const (Value.int IntKind.i64 0)) 3, type := 4, pos := "law.go:97", after := #[{ on := 17, ground := Ground.data }, { on := 14, ground := Ground.guard }], guard := some (14, true) }) (v := ?va18) rfl (by kernel_rfl) (by kernel_rfl) (by kernel_rfl) (fun _ _ _ h => h) (Or.inl ⟨by rfl, ?hya18⟩) hHeld ?resta18
          case hya18 =>
            intro w hSw
            (try dsimp only at hSw)
            first | (go_simp; done) | (go_simp; with_reducible rfl) | with_reducible rfl | rfl
          simp only [Act.put, List.setIfInBounds_toArray, List.set_cons_zero, List.set_cons_succ]
          refine wpAnyH_take (i := 19) (oi := { dst := some 76, op := Op.pick (Operand.tmp 71) (Operand.tmp 75) (Operand.const (Value.bool false)), type := 4, pos := "law.go:97", after := #[{ on := 14, ground := Ground.data }, { on := 18, ground := Ground.data }], guard := none }) (v := ?va19) rfl (by kernel_rfl) (by kernel_rfl) (by kernel_rfl) (fun _ _ _ h => h) (Or.inl ⟨by rfl, ?hya19⟩) hHeld ?resta19
          case hya19 =>
            intro w hSw
            (try dsimp only at hSw)
            first | (go_simp; done) | (go_simp; with_reducible rfl) | with_reducible rfl | rfl
          simp only [Act.put, List.setIfInBounds_toArray, List.set_cons_zero, List.set_cons_succ]
          refine wpAnyH_take (i := 20) (oi := { dst := some 77, op := Op.move (Operand.tmp 76), type := 4, pos := "law.go:97", after := #[{ on := 19, ground := Ground.data }, { on := 17, ground := Ground.chain }], guard := none }) (v := ?va20) rfl (by kernel_rfl) (by kernel_rfl) (by kernel_rfl) (fun _ _ _ h => h) (Or.inl ⟨by rfl, ?hya20⟩) hHeld ?resta20
          case hya20 =>
            intro w hSw
            (try dsimp only at hSw)
            first | (go_simp; done) | (go_simp; with_reducible rfl) | with_reducible rfl | rfl
          simp only [Act.put, List.setIfInBounds_toArray, List.set_cons_zero, List.set_cons_succ]
          refine wpAnyH_take (i := 21) (oi := { dst := some 78, op := Op.load 28 (Operand.tmp 10), type := 28, pos := "law.go:97", after := #[{ on := 20, ground := Ground.guard }], guard := some (20, true) }) (v := ?va21) rfl (by kernel_rfl) (by kernel_rfl) (by kernel_rfl) (fun _ _ _ h => h) (Or.inl ⟨by rfl, ?hya21⟩) hHeld ?resta21
          case hya21 =>
            intro w hSw
            (try dsimp only at hSw)
            first | (go_simp; done) | (go_simp; with_reducible rfl) | with_reducible rfl | rfl
          simp only [Act.put, List.setIfInBounds_toArray, List.set_cons_zero, List.set_cons_succ]
          refine wpAnyH_ready (rs := [22]) (by kernel_rfl) (by simp) ?_
          refine AllReadyH.cons (o := { dst := some 79, op := Op.call { callee := Callee.value (Operand.func 13), args := #[Operand.tmp 78], argTypes := #[28] }, type := 3, pos := "law.go:97", after := #[{ on := 21, ground := Ground.data }, { on := 20, ground := Ground.chain }, { on := 20, ground := Ground.guard }], guard := some (20, true) }) rfl (fun K hK => ?_) AllReadyH.nil
          go_simp
          (go_at_call 13; refine (cSd _ aH3).mono ?_; rintro e aw4 ⟨rfl, ab4⟩; have aH4 := bt aH3 ab4; have as4 := keep16 ab4 as3)
          first | go_wp2 | skip
          refine hK.out _ _ ?_ (fun hHeld2 => ?_)
          · exact as4
          clear hK K hHeld
          have hHeld := hHeld2
          clear hHeld2
          refine wpAnyH_take (i := 23) (oi := { dst := some 80, op := Op.binOp BinOp.eql 3 (Operand.tmp 79) (Operand.const (Value.int IntKind.i64 0)) 3, type := 4, pos := "law.go:97", after := #[{ on := 22, ground := Ground.data }, { on := 20, ground := Ground.guard }], guard := some (20, true) }) (v := ?va23) rfl (by kernel_rfl) (by kernel_rfl) (by kernel_rfl) (fun _ _ _ h => h) (Or.inl ⟨by rfl, ?hya23⟩) hHeld ?resta23
          case hya23 =>
            intro w hSw
            (try dsimp only at hSw)
            first | (go_simp; done) | (go_simp; with_reducible rfl) | with_reducible rfl | rfl
          simp only [Act.put, List.setIfInBounds_toArray, List.set_cons_zero, List.set_cons_succ]
          refine wpAnyH_take (i := 24) (oi := { dst := some 81, op := Op.move (Operand.tmp 80), type := 4, pos := "law.go:97", after := #[{ on := 23, ground := Ground.data }, { on := 22, ground := Ground.chain }, { on := 20, ground := Ground.guard }], guard := some (20, true) }) (v := ?va24) rfl (by kernel_rfl) (by kernel_rfl) (by kernel_rfl) (fun _ _ _ h => h) (Or.inl ⟨by rfl, ?hya24⟩) hHeld ?resta24
          case hya24 =>
            intro w hSw
            (try dsimp only at hSw)
            first | (go_simp; done) | (go_simp; with_reducible rfl) | with_reducible rfl | rfl
          simp only [Act.put, List.setIfInBounds_toArray, List.set_cons_zero, List.set_cons_succ]
          refine wpAnyH_take (i := 25) (oi := { dst := some 82, op := Op.load 28 (Operand.tmp 10), type := 28, pos := "law.go:97", after := #[{ on := 24, ground := Ground.guard }], guard := some (24, false) }) (v := undef) rfl (by kernel_rfl) (by kernel_rfl) (by kernel_rfl) (fun _ _ _ h => h) (Or.inr ⟨by rfl, rfl⟩) hHeld ?resta25
          simp only [Act.put, List.setIfInBounds_toArray, List.set_cons_zero, List.set_cons_succ]
          refine wpAnyH_take (i := 26) (oi := { dst := some 83, op := Op.call { callee := Callee.value (Operand.func 13), args := #[Operand.tmp 82], argTypes := #[28] }, type := 3, pos := "law.go:97", after := #[{ on := 25, ground := Ground.data }, { on := 24, ground := Ground.chain }, { on := 24, ground := Ground.guard }], guard := some (24, false) }) (v := undef) rfl (by kernel_rfl) (by kernel_rfl) (by kernel_rfl) (fun _ _ _ h => h) (Or.inr ⟨by rfl, rfl⟩) hHeld ?resta26
          simp only [Act.put, List.setIfInBounds_toArray, List.set_cons_zero, List.set_cons_succ]
          refine wpAnyH_take (i := 27) (oi := { dst := some 84, op := Op.load 28 (Operand.tmp 5), type := 28, pos := "law.go:97", after := #[{ on := 24, ground := Ground.guard }], guard := some (24, false) }) (v := undef) rfl (by kernel_rfl) (by kernel_rfl) (by kernel_rfl) (fun _ _ _ h => h) (Or.inr ⟨by rfl, rfl⟩) hHeld ?resta27
          simp only [Act.put, List.setIfInBounds_toArray, List.set_cons_zero, List.set_cons_succ]
          refine wpAnyH_take (i := 28) (oi := { dst := some 85, op := Op.call { callee := Callee.value (Operand.func 13), args := #[Operand.tmp 84], argTypes := #[28] }, type := 3, pos := "law.go:97", after := #[{ on := 27, ground := Ground.data }, { on := 26, ground := Ground.chain }, { on := 24, ground := Ground.guard }], guard := some (24, false) }) (v := undef) rfl (by kernel_rfl) (by kernel_rfl) (by kernel_rfl) (fun _ _ _ h => h) (Or.inr ⟨by rfl, rfl⟩) hHeld ?resta28
          simp only [Act.put, List.setIfInBounds_toArray, List.set_cons_zero, List.set_cons_succ]
          refine wpAnyH_take (i := 29) (oi := { dst := some 86, op := Op.binOp BinOp.eql 3 (Operand.tmp 83) (Operand.tmp 85) 3, type := 4, pos := "law.go:97", after := #[{ on := 26, ground := Ground.data }, { on := 28, ground := Ground.data }, { on := 24, ground := Ground.guard }], guard := some (24, false) }) (v := undef) rfl (by kernel_rfl) (by kernel_rfl) (by kernel_rfl) (fun _ _ _ h => h) (Or.inr ⟨by rfl, rfl⟩) hHeld ?resta29
          simp only [Act.put, List.setIfInBounds_toArray, List.set_cons_zero, List.set_cons_succ]
          refine wpAnyH_take (i := 30) (oi := { dst := some 87, op := Op.pick (Operand.tmp 81) (Operand.const (Value.bool true)) (Operand.tmp 86), type := 4, pos := "law.go:97", after := #[{ on := 24, ground := Ground.data }, { on := 29, ground := Ground.data }, { on := 20, ground := Ground.guard }], guard := some (20, true) }) (v := ?va30) rfl (by kernel_rfl) (by kernel_rfl) (by kernel_rfl) (fun _ _ _ h => h) (Or.inl ⟨by rfl, ?hya30⟩) hHeld ?resta30
          case hya30 =>
            intro w hSw
            (try dsimp only at hSw)
            first | (go_simp; done) | (go_simp; with_reducible rfl) | with_reducible rfl | rfl
          simp only [Act.put, List.setIfInBounds_toArray, List.set_cons_zero, List.set_cons_succ]
          refine wpAnyH_take (i := 31) (oi := { dst := some 88, op := Op.pick (Operand.tmp 77) (Operand.tmp 87) (Operand.const (Value.bool false)), type := 4, pos := "law.go:97", after := #[{ on := 20, ground := Ground.data }, { on := 30, ground := Ground.data }], guard := none }) (v := ?va31) rfl (by kernel_rfl) (by kernel_rfl) (by kernel_rfl) (fun _ _ _ h => h) (Or.inl ⟨by rfl, ?hya31⟩) hHeld ?resta31
          case hya31 =>
            intro w hSw
            (try dsimp only at hSw)
            first | (go_simp; done) | (go_simp; with_reducible rfl) | with_reducible rfl | rfl
          simp only [Act.put, List.setIfInBounds_toArray, List.set_cons_zero, List.set_cons_succ]
          refine wpAnyH_take (i := 32) (oi := { dst := some 89, op := Op.move (Operand.tmp 88), type := 4, pos := "law.go:97", after := #[{ on := 31, ground := Ground.data }, { on := 28, ground := Ground.chain }], guard := none }) (v := ?va32) rfl (by kernel_rfl) (by kernel_rfl) (by kernel_rfl) (fun _ _ _ h => h) (Or.inl ⟨by rfl, ?hya32⟩) hHeld ?resta32
          case hya32 =>
            intro w hSw
            (try dsimp only at hSw)
            first | (go_simp; done) | (go_simp; with_reducible rfl) | with_reducible rfl | rfl
          simp only [Act.put, List.setIfInBounds_toArray, List.set_cons_zero, List.set_cons_succ]
          refine wpAnyH_ready (rs := [33]) (by kernel_rfl) (by simp) ?_
          refine AllReadyH.cons (o := { dst := some 90, op := Op.call { callee := Callee.value (Operand.func 16), args := #[Operand.const (Value.int IntKind.i64 0)], argTypes := #[3] }, type := 31, pos := "law.go:97", after := #[{ on := 32, ground := Ground.chain }, { on := 32, ground := Ground.guard }], guard := some (32, true) }) rfl (fun K hK => ?_) AllReadyH.nil
          go_simp
          (go_at_call 16; refine (cI _).mono ?_; rintro e aw5 ⟨av5, rfl, aR5, ab5⟩; have aH5 := bt aH4 ab5; have as5 := keep16 ab5 as4)
          first | go_wp2 | skip
          refine hK.out _ _ ?_ (fun hHeld2 => ?_)
          · exact as5
          clear hK K hHeld
          have hHeld := hHeld2
          clear hHeld2
          refine wpAnyH_ready (rs := [34]) (by kernel_rfl) (by simp) ?_
          refine AllReadyH.cons (o := { dst := some 91, op := Op.call { callee := Callee.value (Operand.func 15), args := #[Operand.tmp 90], argTypes := #[31] }, type := 3, pos := "law.go:97", after := #[{ on := 33, ground := Ground.data }, { on := 33, ground := Ground.chain }, { on := 32, ground := Ground.guard }], guard := some (32, true) }) rfl (fun K hK => ?_) AllReadyH.nil
          go_simp
          (go_at_call 15; refine (cZ _ _ aR5).mono ?_; rintro e aw6 ⟨rfl, ab6⟩; have aH6 := bt aH5 ab6; have as6 := keep16 ab6 as5)
          first | go_wp2 | skip
          refine hK.out _ _ ?_ (fun hHeld2 => ?_)
          · exact as6
          clear hK K hHeld
          have hHeld := hHeld2
          clear hHeld2
          refine wpAnyH_take (i := 35) (oi := { dst := some 92, op := Op.binOp BinOp.eql 3 (Operand.tmp 91) (Operand.const (Value.int IntKind.i64 0)) 3, type := 4, pos := "law.go:97", after := #[{ on := 34, ground := Ground.data }, { on := 32, ground := Ground.guard }], guard := some (32, true) }) (v := ?va35) rfl (by kernel_rfl) (by kernel_rfl) (by kernel_rfl) (fun _ _ _ h => h) (Or.inl ⟨by rfl, ?hya35⟩) hHeld ?resta35
          case hya35 =>
            intro w hSw
            (try dsimp only at hSw)
            first | (go_simp; done) | (go_simp; with_reducible rfl) | with_reducible rfl | rfl
          simp only [Act.put, List.setIfInBounds_toArray, List.set_cons_zero, List.set_cons_succ]
          refine wpAnyH_take (i := 36) (oi := { dst := some 93, op := Op.pick (Operand.tmp 89) (Operand.tmp 92) (Operand.const (Value.bool false)), type := 4, pos := "law.go:97", after := #[{ on := 32, ground := Ground.data }, { on := 35, ground := Ground.data }], guard := none }) (v := ?va36) rfl (by kernel_rfl) (by kernel_rfl) (by kernel_rfl) (fun _ _ _ h => h) (Or.inl ⟨by rfl, ?hya36⟩) hHeld ?resta36
          case hya36 =>
            intro w hSw
            (try dsimp only at hSw)
            first | (go_simp; done) | (go_simp; with_reducible rfl) | with_reducible rfl | rfl
          simp only [Act.put, List.setIfInBounds_toArray, List.set_cons_zero, List.set_cons_succ]
          refine wpAnyH_take (i := 37) (oi := { dst := some 4, op := Op.assign (Operand.tmp 93), type := 4, pos := "law.go:97", after := #[{ on := 36, ground := Ground.data }, { on := 34, ground := Ground.chain }, { on := 0, ground := Ground.phase }, { on := 1, ground := Ground.phase }, { on := 2, ground := Ground.phase }, { on := 3, ground := Ground.phase }, { on := 4, ground := Ground.phase }, { on := 5, ground := Ground.phase }, { on := 6, ground := Ground.phase }, { on := 7, ground := Ground.phase }, { on := 8, ground := Ground.phase }, { on := 9, ground := Ground.phase }, { on := 10, ground := Ground.phase }, { on := 11, ground := Ground.phase }, { on := 12, ground := Ground.phase }, { on := 13, ground := Ground.phase }, { on := 14, ground := Ground.phase }, { on := 15, ground := Ground.phase }, { on := 16, ground := Ground.phase }, { on := 17, ground := Ground.phase }, { on := 18, ground := Ground.phase }, { on := 19, ground := Ground.phase }, { on := 20, ground := Ground.phase }, { on := 21, ground := Ground.phase }, { on := 22, ground := Ground.phase }, { on := 23, ground := Ground.phase }, { on := 24, ground := Ground.phase }, { on := 25, ground := Ground.phase }, { on := 26, ground := Ground.phase }, { on := 27, ground := Ground.phase }, { on := 28, ground := Ground.phase }, { on := 29, ground := Ground.phase }, { on := 30, ground := Ground.phase }, { on := 31, ground := Ground.phase }, { on := 32, ground := Ground.phase }, { on := 33, ground := Ground.phase }, { on := 34, ground := Ground.phase }, { on := 35, ground := Ground.phase }, { on := 36, ground := Ground.phase }], guard := none }) (v := ?va37) rfl (by kernel_rfl) (by kernel_rfl) (by kernel_rfl) (fun _ _ _ h => h) (Or.inl ⟨by rfl, ?hya37⟩) hHeld ?resta37
          case hya37 =>
            intro w hSw
            (try dsimp only at hSw)
            first | (go_simp; done) | (go_simp; with_reducible rfl) | with_reducible rfl | rfl
          simp only [Act.put, List.setIfInBounds_toArray, List.set_cons_zero, List.set_cons_succ]
          refine wpAnyH_done (by kernel_rfl) ?_ _
          go_wp2
          go_ret
          exact ⟨rfl, bt hwc.out aH6⟩
        · have Tb1 : True := trivial
          have Tb3 : True := trivial
          have Tb4 : True := trivial
          go_region_held3 (fun w' => w'.cell? ⟨go, 0, none⟩ = some (.bool ob) ∧ w'.cell? ⟨go, 1, none⟩ = some (.int .u64 oA) ∧ w'.cell? ⟨go, 2, none⟩ = some (.int .u64 oL) ∧ w'.cell? ⟨go, 3, none⟩ = some (.pointer op) ∧ w'.cell? ⟨gu, 0, none⟩ = some (.bool yb) ∧ w'.cell? ⟨gu, 1, none⟩ = some (.int .u64 yA) ∧ w'.cell? ⟨gu, 2, none⟩ = some (.int .u64 yL) ∧ w'.cell? ⟨gu, 3, none⟩ = some (.pointer yp) ∧ w'.cell? ⟨gd, 0, none⟩ = some (.bool db) ∧ w'.cell? ⟨gd, 1, none⟩ = some (.int .u64 dA) ∧ w'.cell? ⟨gd, 2, none⟩ = some (.int .u64 dL) ∧ w'.cell? ⟨gd, 3, none⟩ = some (.pointer dp) ∧ w'.cell? ⟨g0x, 0, none⟩ = some (.bool xb) ∧ w'.cell? ⟨g0x, 1, none⟩ = some (.int .u64 xA) ∧ w'.cell? ⟨g0x, 2, none⟩ = some (.int .u64 xL) ∧ w'.cell? ⟨g0x, 3, none⟩ = some (.pointer xp)) (first | with_reducible exact s0' | with_reducible exact sb0 | with_reducible exact sb1 | with_reducible exact sb2 | with_reducible exact sb3 | with_reducible exact sb4 | with_reducible exact sb5 | with_reducible exact sb6 | with_reducible exact sb7) (first
            | (go_at_call 12; refine (awake6 _ (hm5 H0)).mono ?_; rintro e wb0 ⟨rfl, hbb0⟩; have Hb0 := bt H0 hbb0; have sb0 := keep16 hbb0 s0')
            | (go_at_call 13; have _t := Tb1; clear _t Tb1; refine (cSo _ Hb0).mono ?_; rintro e wb1 ⟨rfl, hbb1⟩; have Hb1 := bt Hb0 hbb1; have sb1 := keep16 hbb1 sb0)
            | (go_at_call 14; refine (cC _ Hb1).mono ?_; rintro e wb2 ⟨rfl, hbb2⟩; have Hb2 := bt Hb1 hbb2; have sb2 := keep16 hbb2 sb1)
            | (go_at_call 13; have _t := Tb3; clear _t Tb3; refine (cSd _ Hb2).mono ?_; rintro e wb3 ⟨rfl, hbb3⟩; have Hb3 := bt Hb2 hbb3; have sb3 := keep16 hbb3 sb2)
            | (go_at_call 13; have _t := Tb4; clear _t Tb4; refine (cSd _ Hb3).mono ?_; rintro e wb4 ⟨rfl, hbb4⟩; have Hb4 := bt Hb3 hbb4; have sb4 := keep16 hbb4 sb3)
            | (go_at_call 13; refine (cSx _ Hb4).mono ?_; rintro e wb5 ⟨rfl, hbb5⟩; have Hb5 := bt Hb4 hbb5; have sb5 := keep16 hbb5 sb4)
            | (go_at_call 16; refine (cI _).mono ?_; rintro e wb6 ⟨vb6, rfl, Rb6, hbb6⟩; have Hb6 := bt Hb5 hbb6; have sb6 := keep16 hbb6 sb5)
            | (go_at_call 15; refine (cZ _ _ Rb6).mono ?_; rintro e wb7 ⟨rfl, hbb7⟩; have Hb7 := bt Hb6 hbb7; have sb7 := keep16 hbb7 sb6))
          all_goals go_wp2
          all_goals go_ret
          all_goals exact ⟨rfl, bt hwc.out Hb7⟩
        · have Tc1 : True := trivial
          have Tc3 : True := trivial
          have Tc4 : True := trivial
          go_region_held3 (fun w' => w'.cell? ⟨go, 0, none⟩ = some (.bool ob) ∧ w'.cell? ⟨go, 1, none⟩ = some (.int .u64 oA) ∧ w'.cell? ⟨go, 2, none⟩ = some (.int .u64 oL) ∧ w'.cell? ⟨go, 3, none⟩ = some (.pointer op) ∧ w'.cell? ⟨gu, 0, none⟩ = some (.bool yb) ∧ w'.cell? ⟨gu, 1, none⟩ = some (.int .u64 yA) ∧ w'.cell? ⟨gu, 2, none⟩ = some (.int .u64 yL) ∧ w'.cell? ⟨gu, 3, none⟩ = some (.pointer yp) ∧ w'.cell? ⟨gd, 0, none⟩ = some (.bool db) ∧ w'.cell? ⟨gd, 1, none⟩ = some (.int .u64 dA) ∧ w'.cell? ⟨gd, 2, none⟩ = some (.int .u64 dL) ∧ w'.cell? ⟨gd, 3, none⟩ = some (.pointer dp) ∧ w'.cell? ⟨g0x, 0, none⟩ = some (.bool xb) ∧ w'.cell? ⟨g0x, 1, none⟩ = some (.int .u64 xA) ∧ w'.cell? ⟨g0x, 2, none⟩ = some (.int .u64 xL) ∧ w'.cell? ⟨g0x, 3, none⟩ = some (.pointer xp)) (first | with_reducible exact s0' | with_reducible exact sc0 | with_reducible exact sc1 | with_reducible exact sc2 | with_reducible exact sc3 | with_reducible exact sc4 | with_reducible exact sc5 | with_reducible exact sc6 | with_reducible exact sc7) (first
            | (go_at_call 12; refine (awake6 _ (hm5 H0)).mono ?_; rintro e wc0 ⟨rfl, hbc0⟩; have Hc0 := bt H0 hbc0; have sc0 := keep16 hbc0 s0')
            | (go_at_call 13; have _t := Tc1; clear _t Tc1; refine (cSo _ Hc0).mono ?_; rintro e wc1 ⟨rfl, hbc1⟩; have Hc1 := bt Hc0 hbc1; have sc1 := keep16 hbc1 sc0)
            | (go_at_call 14; refine (cC _ Hc1).mono ?_; rintro e wc2 ⟨rfl, hbc2⟩; have Hc2 := bt Hc1 hbc2; have sc2 := keep16 hbc2 sc1)
            | (go_at_call 13; have _t := Tc3; clear _t Tc3; refine (cSd _ Hc2).mono ?_; rintro e wc3 ⟨rfl, hbc3⟩; have Hc3 := bt Hc2 hbc3; have sc3 := keep16 hbc3 sc2)
            | (go_at_call 13; have _t := Tc4; clear _t Tc4; refine (cSd _ Hc3).mono ?_; rintro e wc4 ⟨rfl, hbc4⟩; have Hc4 := bt Hc3 hbc4; have sc4 := keep16 hbc4 sc3)
            | (go_at_call 13; refine (cSx _ Hc4).mono ?_; rintro e wc5 ⟨rfl, hbc5⟩; have Hc5 := bt Hc4 hbc5; have sc5 := keep16 hbc5 sc4)
            | (go_at_call 16; refine (cI _).mono ?_; rintro e wc6 ⟨vc6, rfl, Rc6, hbc6⟩; have Hc6 := bt Hc5 hbc6; have sc6 := keep16 hbc6 sc5)
            | (go_at_call 15; refine (cZ _ _ Rc6).mono ?_; rintro e wc7 ⟨rfl, hbc7⟩; have Hc7 := bt Hc6 hbc7; have sc7 := keep16 hbc7 sc6))
          all_goals go_wp2
          all_goals go_ret
          all_goals exact ⟨rfl, bt hwc.out Hc7⟩
        · skip
          refine wp_region_held_drew (S := (fun w' => w'.cell? ⟨go, 0, none⟩ = some (.bool ob) ∧ w'.cell? ⟨go, 1, none⟩ = some (.int .u64 oA) ∧ w'.cell? ⟨go, 2, none⟩ = some (.int .u64 oL) ∧ w'.cell? ⟨go, 3, none⟩ = some (.pointer op) ∧ w'.cell? ⟨gu, 0, none⟩ = some (.bool yb) ∧ w'.cell? ⟨gu, 1, none⟩ = some (.int .u64 yA) ∧ w'.cell? ⟨gu, 2, none⟩ = some (.int .u64 yL) ∧ w'.cell? ⟨gu, 3, none⟩ = some (.pointer yp) ∧ w'.cell? ⟨gd, 0, none⟩ = some (.bool db) ∧ w'.cell? ⟨gd, 1, none⟩ = some (.int .u64 dA) ∧ w'.cell? ⟨gd, 2, none⟩ = some (.int .u64 dL) ∧ w'.cell? ⟨gd, 3, none⟩ = some (.pointer dp) ∧ w'.cell? ⟨g0x, 0, none⟩ = some (.bool xb) ∧ w'.cell? ⟨g0x, 1, none⟩ = some (.int .u64 xA) ∧ w'.cell? ⟨g0x, 2, none⟩ = some (.int .u64 xL) ∧ w'.cell? ⟨g0x, 3, none⟩ = some (.pointer xp))) (by kernel_rfl) ?_ (fun hHeld => ?_)
          · exact s0'
          refine wpAnyH_ready (rs := [0]) (by kernel_rfl) (by simp) ?_
          refine AllReadyH.cons (o := { dst := some 57, op := Op.call { callee := Callee.value (Operand.func 12), args := #[], argTypes := #[] }, type := 4, pos := "law.go:97", after := #[], guard := none }) rfl (fun K hK => ?_) AllReadyH.nil
          go_simp
          (go_at_call 12; refine (awake6 _ (hm5 H0)).mono ?_; rintro e dw1 ⟨rfl, db1⟩; have dH1 := bt H0 db1; have ds1 := keep16 db1 s0')
          first | go_wp2 | skip
          refine hK.out _ _ ?_ (fun hHeld2 => ?_)
          · exact ds1
          clear hK K hHeld
          have hHeld := hHeld2
          clear hHeld2
          refine wpAnyH_take (i := 1) (oi := { dst := some 58, op := Op.move (Operand.tmp 57), type := 4, pos := "law.go:97", after := #[{ on := 0, ground := Ground.data }, { on := 0, ground := Ground.chain }], guard := none }) (v := ?vd1) rfl (by kernel_rfl) (by kernel_rfl) (by kernel_rfl) (fun _ _ _ h => h) (Or.inl ⟨by rfl, ?hyd1⟩) hHeld ?restd1
          case hyd1 =>
            intro w hSw
            (try dsimp only at hSw)
            first | (go_simp; done) | (go_simp; with_reducible rfl) | with_reducible rfl | rfl
          simp only [Act.put, List.setIfInBounds_toArray, List.set_cons_zero, List.set_cons_succ]
          refine wpAnyH_take (i := 2) (oi := { dst := some 59, op := Op.move (Operand.tmp 9), type := 34, pos := "law.go:97", after := #[{ on := 1, ground := Ground.guard }], guard := some (1, true) }) (v := ?vd2) rfl (by kernel_rfl) (by kernel_rfl) (by kernel_rfl) (fun _ _ _ h => h) (Or.inl ⟨by rfl, ?hyd2⟩) hHeld ?restd2
          case hyd2 =>
            intro w hSw
            (try dsimp only at hSw)
            first | (go_simp; done) | (go_simp; with_reducible rfl) | with_reducible rfl | rfl
          simp only [Act.put, List.setIfInBounds_toArray, List.set_cons_zero, List.set_cons_succ]
          refine wpAnyH_take (i := 3) (oi := { dst := some 60, op := Op.binOp BinOp.eql 34 (Operand.tmp 59) (Operand.const (Value.int IntKind.i64 0)) 34, type := 4, pos := "law.go:97", after := #[{ on := 2, ground := Ground.data }, { on := 1, ground := Ground.guard }], guard := some (1, true) }) (v := ?vd3) rfl (by kernel_rfl) (by kernel_rfl) (by kernel_rfl) (fun _ _ _ h => h) (Or.inl ⟨by rfl, ?hyd3⟩) hHeld ?restd3
          case hyd3 =>
            intro w hSw
            (try dsimp only at hSw)
            first | (go_simp; done) | (go_simp; with_reducible rfl) | with_reducible rfl | rfl
          simp only [Act.put, List.setIfInBounds_toArray, List.set_cons_zero, List.set_cons_succ]
          refine wpAnyH_take (i := 4) (oi := { dst := some 61, op := Op.pick (Operand.tmp 58) (Operand.tmp 60) (Operand.const (Value.bool false)), type := 4, pos := "law.go:97", after := #[{ on := 1, ground := Ground.data }, { on := 3, ground := Ground.data }], guard := none }) (v := ?vd4) rfl (by kernel_rfl) (by kernel_rfl) (by kernel_rfl) (fun _ _ _ h => h) (Or.inl ⟨by rfl, ?hyd4⟩) hHeld ?restd4
          case hyd4 =>
            intro w hSw
            (try dsimp only at hSw)
            first | (go_simp; done) | (go_simp; with_reducible rfl) | with_reducible rfl | rfl
          simp only [Act.put, List.setIfInBounds_toArray, List.set_cons_zero, List.set_cons_succ]
          refine wpAnyH_take (i := 5) (oi := { dst := some 62, op := Op.move (Operand.tmp 61), type := 4, pos := "law.go:97", after := #[{ on := 4, ground := Ground.data }, { on := 1, ground := Ground.chain }], guard := none }) (v := ?vd5) rfl (by kernel_rfl) (by kernel_rfl) (by kernel_rfl) (fun _ _ _ h => h) (Or.inl ⟨by rfl, ?hyd5⟩) hHeld ?restd5
          case hyd5 =>
            intro w hSw
            (try dsimp only at hSw)
            first | (go_simp; done) | (go_simp; with_reducible rfl) | with_reducible rfl | rfl
          simp only [Act.put, List.setIfInBounds_toArray, List.set_cons_zero, List.set_cons_succ]
          refine wpAnyH_take (i := 6) (oi := { dst := some 63, op := Op.move (Operand.tmp 11), type := 34, pos := "law.go:97", after := #[{ on := 5, ground := Ground.guard }], guard := some (5, true) }) (v := ?vd6) rfl (by kernel_rfl) (by kernel_rfl) (by kernel_rfl) (fun _ _ _ h => h) (Or.inl ⟨by rfl, ?hyd6⟩) hHeld ?restd6
          case hyd6 =>
            intro w hSw
            (try dsimp only at hSw)
            first | (go_simp; done) | (go_simp; with_reducible rfl) | with_reducible rfl | rfl
          simp only [Act.put, List.setIfInBounds_toArray, List.set_cons_zero, List.set_cons_succ]
          refine wpAnyH_take (i := 7) (oi := { dst := some 64, op := Op.binOp BinOp.eql 34 (Operand.tmp 63) (Operand.const (Value.int IntKind.i64 0)) 34, type := 4, pos := "law.go:97", after := #[{ on := 6, ground := Ground.data }, { on := 5, ground := Ground.guard }], guard := some (5, true) }) (v := ?vd7) rfl (by kernel_rfl) (by kernel_rfl) (by kernel_rfl) (fun _ _ _ h => h) (Or.inl ⟨by rfl, ?hyd7⟩) hHeld ?restd7
          case hyd7 =>
            intro w hSw
            (try dsimp only at hSw)
            first | (go_simp; done) | (go_simp; with_reducible rfl) | with_reducible rfl | rfl
          simp only [Act.put, List.setIfInBounds_toArray, List.set_cons_zero, List.set_cons_succ]
          refine wpAnyH_take (i := 8) (oi := { dst := some 65, op := Op.pick (Operand.tmp 62) (Operand.tmp 64) (Operand.const (Value.bool false)), type := 4, pos := "law.go:97", after := #[{ on := 5, ground := Ground.data }, { on := 7, ground := Ground.data }], guard := none }) (v := ?vd8) rfl (by kernel_rfl) (by kernel_rfl) (by kernel_rfl) (fun _ _ _ h => h) (Or.inl ⟨by rfl, ?hyd8⟩) hHeld ?restd8
          case hyd8 =>
            intro w hSw
            (try dsimp only at hSw)
            first | (go_simp; done) | (go_simp; with_reducible rfl) | with_reducible rfl | rfl
          simp only [Act.put, List.setIfInBounds_toArray, List.set_cons_zero, List.set_cons_succ]
          refine wpAnyH_take (i := 9) (oi := { dst := some 66, op := Op.move (Operand.tmp 65), type := 4, pos := "law.go:97", after := #[{ on := 8, ground := Ground.data }, { on := 5, ground := Ground.chain }], guard := none }) (v := ?vd9) rfl (by kernel_rfl) (by kernel_rfl) (by kernel_rfl) (fun _ _ _ h => h) (Or.inl ⟨by rfl, ?hyd9⟩) hHeld ?restd9
          case hyd9 =>
            intro w hSw
            (try dsimp only at hSw)
            first | (go_simp; done) | (go_simp; with_reducible rfl) | with_reducible rfl | rfl
          simp only [Act.put, List.setIfInBounds_toArray, List.set_cons_zero, List.set_cons_succ]
          refine wpAnyH_take (i := 10) (oi := { dst := some 67, op := Op.load 28 (Operand.tmp 16), type := 28, pos := "law.go:97", after := #[{ on := 9, ground := Ground.guard }], guard := some (9, true) }) (v := ?vd10) rfl (by kernel_rfl) (by kernel_rfl) (by kernel_rfl) (fun _ _ _ h => h) (Or.inl ⟨by rfl, ?hyd10⟩) hHeld ?restd10
          case hyd10 =>
            intro w hSw
            (try dsimp only at hSw)
            first | (go_simp; done) | (go_simp; with_reducible rfl) | with_reducible rfl | rfl
          simp only [Act.put, List.setIfInBounds_toArray, List.set_cons_zero, List.set_cons_succ]
          refine wpAnyH_ready (rs := [11]) (by kernel_rfl) (by simp) ?_
          refine AllReadyH.cons (o := { dst := some 68, op := Op.call { callee := Callee.value (Operand.func 13), args := #[Operand.tmp 67], argTypes := #[28] }, type := 3, pos := "law.go:97", after := #[{ on := 10, ground := Ground.data }, { on := 9, ground := Ground.chain }, { on := 9, ground := Ground.guard }], guard := some (9, true) }) rfl (fun K hK => ?_) AllReadyH.nil
          go_simp
          (go_at_call 13; refine (cSo _ dH1).mono ?_; rintro e dw2 ⟨rfl, db2⟩; have dH2 := bt dH1 db2; have ds2 := keep16 db2 ds1)
          first | go_wp2 | skip
          refine hK.out _ _ ?_ (fun hHeld2 => ?_)
          · exact ds2
          clear hK K hHeld
          have hHeld := hHeld2
          clear hHeld2
          refine wpAnyH_take (i := 12) (oi := { dst := some 69, op := Op.binOp BinOp.geq 3 (Operand.tmp 68) (Operand.const (Value.int IntKind.i64 0)) 3, type := 4, pos := "law.go:97", after := #[{ on := 11, ground := Ground.data }, { on := 9, ground := Ground.guard }], guard := some (9, true) }) (v := ?vd12) rfl (by kernel_rfl) (by kernel_rfl) (by kernel_rfl) (fun _ _ _ h => h) (Or.inl ⟨by rfl, ?hyd12⟩) hHeld ?restd12
          case hyd12 =>
            intro w hSw
            (try dsimp only at hSw)
            first | (go_simp; done) | (go_simp; with_reducible rfl) | with_reducible rfl | rfl
          simp only [Act.put, List.setIfInBounds_toArray, List.set_cons_zero, List.set_cons_succ]
          refine wpAnyH_take (i := 13) (oi := { dst := some 70, op := Op.pick (Operand.tmp 66) (Operand.tmp 69) (Operand.const (Value.bool false)), type := 4, pos := "law.go:97", after := #[{ on := 9, ground := Ground.data }, { on := 12, ground := Ground.data }], guard := none }) (v := ?vd13) rfl (by kernel_rfl) (by kernel_rfl) (by kernel_rfl) (fun _ _ _ h => h) (Or.inl ⟨by rfl, ?hyd13⟩) hHeld ?restd13
          case hyd13 =>
            intro w hSw
            (try dsimp only at hSw)
            first | (go_simp; done) | (go_simp; with_reducible rfl) | with_reducible rfl | rfl
          simp only [Act.put, List.setIfInBounds_toArray, List.set_cons_zero, List.set_cons_succ]
          refine wpAnyH_take (i := 14) (oi := { dst := some 71, op := Op.move (Operand.tmp 70), type := 4, pos := "law.go:97", after := #[{ on := 13, ground := Ground.data }, { on := 11, ground := Ground.chain }], guard := none }) (v := ?vd14) rfl (by kernel_rfl) (by kernel_rfl) (by kernel_rfl) (fun _ _ _ h => h) (Or.inl ⟨by rfl, ?hyd14⟩) hHeld ?restd14
          case hyd14 =>
            intro w hSw
            (try dsimp only at hSw)
            first | (go_simp; done) | (go_simp; with_reducible rfl) | with_reducible rfl | rfl
          simp only [Act.put, List.setIfInBounds_toArray, List.set_cons_zero, List.set_cons_succ]
          refine wpAnyH_take (i := 15) (oi := { dst := some 72, op := Op.load 28 (Operand.tmp 16), type := 28, pos := "law.go:97", after := #[{ on := 14, ground := Ground.guard }], guard := some (14, true) }) (v := ?vd15) rfl (by kernel_rfl) (by kernel_rfl) (by kernel_rfl) (fun _ _ _ h => h) (Or.inl ⟨by rfl, ?hyd15⟩) hHeld ?restd15
          case hyd15 =>
            intro w hSw
            (try dsimp only at hSw)
            first | (go_simp; done) | (go_simp; with_reducible rfl) | with_reducible rfl | rfl
          simp only [Act.put, List.setIfInBounds_toArray, List.set_cons_zero, List.set_cons_succ]
          refine wpAnyH_take (i := 16) (oi := { dst := some 73, op := Op.load 28 (Operand.tmp 12), type := 28, pos := "law.go:97", after := #[{ on := 14, ground := Ground.guard }], guard := some (14, true) }) (v := ?vd16) rfl (by kernel_rfl) (by kernel_rfl) (by kernel_rfl) (fun _ _ _ h => h) (Or.inl ⟨by rfl, ?hyd16⟩) hHeld ?restd16
          case hyd16 =>
            intro w hSw
            (try dsimp only at hSw)
            first | (go_simp; done) | (go_simp; with_reducible rfl) | with_reducible rfl | rfl
          simp only [Act.put, List.setIfInBounds_toArray, List.set_cons_zero, List.set_cons_succ]
          refine wpAnyH_ready (rs := [17]) (by kernel_rfl) (by simp) ?_
          refine AllReadyH.cons (o := { dst := some 74, op := Op.call { callee := Callee.value (Operand.func 14), args := #[Operand.tmp 72, Operand.tmp 73], argTypes := #[28, 28] }, type := 3, pos := "law.go:97", after := #[{ on := 15, ground := Ground.data }, { on := 16, ground := Ground.data }, { on := 14, ground := Ground.chain }, { on := 14, ground := Ground.guard }], guard := some (14, true) }) rfl (fun K hK => ?_) AllReadyH.nil
          go_simp
          (go_at_call 14; refine (cC _ dH2).mono ?_; rintro e dw3 ⟨rfl, db3⟩; have dH3 := bt dH2 db3; have ds3 := keep16 db3 ds2)
          first | go_wp2 | skip
          refine hK.out _ _ ?_ (fun hHeld2 => ?_)
          · exact ds3
          clear hK K hHeld
          have hHeld := hHeld2
          clear hHeld2
          refine wpAnyH_take (i := 18) (oi := { dst := some 75, op := Op.binOp BinOp.lss 3 (Operand.tmp 74) (Operand.const (Value.int IntKind.i64 0)) 3, type := 4, pos := "law.go:97", after := #[{ on := 17, ground := Ground.data }, { on := 14, ground := Ground.guard }], guard := some (14, true) }) (v := ?vd18) rfl (by kernel_rfl) (by kernel_rfl) (by kernel_rfl) (fun _ _ _ h => h) (Or.inl ⟨by rfl, ?hyd18⟩) hHeld ?restd18
          case hyd18 =>
            intro w hSw
            (try dsimp only at hSw)
            first | (go_simp; done) | (go_simp; with_reducible rfl) | with_reducible rfl | rfl
          simp only [Act.put, List.setIfInBounds_toArray, List.set_cons_zero, List.set_cons_succ]
          refine wpAnyH_take (i := 19) (oi := { dst := some 76, op := Op.pick (Operand.tmp 71) (Operand.tmp 75) (Operand.const (Value.bool false)), type := 4, pos := "law.go:97", after := #[{ on := 14, ground := Ground.data }, { on := 18, ground := Ground.data }], guard := none }) (v := ?vd19) rfl (by kernel_rfl) (by kernel_rfl) (by kernel_rfl) (fun _ _ _ h => h) (Or.inl ⟨by rfl, ?hyd19⟩) hHeld ?restd19
          case hyd19 =>
            intro w hSw
            (try dsimp only at hSw)
            first | (go_simp; done) | (go_simp; with_reducible rfl) | with_reducible rfl | rfl
          simp only [Act.put, List.setIfInBounds_toArray, List.set_cons_zero, List.set_cons_succ]
          refine wpAnyH_take (i := 20) (oi := { dst := some 77, op := Op.move (Operand.tmp 76), type := 4, pos := "law.go:97", after := #[{ on := 19, ground := Ground.data }, { on := 17, ground := Ground.chain }], guard := none }) (v := ?vd20) rfl (by kernel_rfl) (by kernel_rfl) (by kernel_rfl) (fun _ _ _ h => h) (Or.inl ⟨by rfl, ?hyd20⟩) hHeld ?restd20
          case hyd20 =>
            intro w hSw
            (try dsimp only at hSw)
            first | (go_simp; done) | (go_simp; with_reducible rfl) | with_reducible rfl | rfl
          simp only [Act.put, List.setIfInBounds_toArray, List.set_cons_zero, List.set_cons_succ]
          refine wpAnyH_take (i := 21) (oi := { dst := some 78, op := Op.load 28 (Operand.tmp 10), type := 28, pos := "law.go:97", after := #[{ on := 20, ground := Ground.guard }], guard := some (20, true) }) (v := ?vd21) rfl (by kernel_rfl) (by kernel_rfl) (by kernel_rfl) (fun _ _ _ h => h) (Or.inl ⟨by rfl, ?hyd21⟩) hHeld ?restd21
          case hyd21 =>
            intro w hSw
            (try dsimp only at hSw)
            first | (go_simp; done) | (go_simp; with_reducible rfl) | with_reducible rfl | rfl
          simp only [Act.put, List.setIfInBounds_toArray, List.set_cons_zero, List.set_cons_succ]
          refine wpAnyH_ready (rs := [22]) (by kernel_rfl) (by simp) ?_
          refine AllReadyH.cons (o := { dst := some 79, op := Op.call { callee := Callee.value (Operand.func 13), args := #[Operand.tmp 78], argTypes := #[28] }, type := 3, pos := "law.go:97", after := #[{ on := 21, ground := Ground.data }, { on := 20, ground := Ground.chain }, { on := 20, ground := Ground.guard }], guard := some (20, true) }) rfl (fun K hK => ?_) AllReadyH.nil
          go_simp
          (go_at_call 13; refine (cSd _ dH3).mono ?_; rintro e dw4 ⟨rfl, db4⟩; have dH4 := bt dH3 db4; have ds4 := keep16 db4 ds3)
          first | go_wp2 | skip
          refine hK.out _ _ ?_ (fun hHeld2 => ?_)
          · exact ds4
          clear hK K hHeld
          have hHeld := hHeld2
          clear hHeld2
          refine wpAnyH_take (i := 23) (oi := { dst := some 80, op := Op.binOp BinOp.eql 3 (Operand.tmp 79) (Operand.const (Value.int IntKind.i64 0)) 3, type := 4, pos := "law.go:97", after := #[{ on := 22, ground := Ground.data }, { on := 20, ground := Ground.guard }], guard := some (20, true) }) (v := ?vd23) rfl (by kernel_rfl) (by kernel_rfl) (by kernel_rfl) (fun _ _ _ h => h) (Or.inl ⟨by rfl, ?hyd23⟩) hHeld ?restd23
          case hyd23 =>
            intro w hSw
            (try dsimp only at hSw)
            first | (go_simp; done) | (go_simp; with_reducible rfl) | with_reducible rfl | rfl
          simp only [Act.put, List.setIfInBounds_toArray, List.set_cons_zero, List.set_cons_succ]
          refine wpAnyH_take (i := 24) (oi := { dst := some 81, op := Op.move (Operand.tmp 80), type := 4, pos := "law.go:97", after := #[{ on := 23, ground := Ground.data }, { on := 22, ground := Ground.chain }, { on := 20, ground := Ground.guard }], guard := some (20, true) }) (v := ?vd24) rfl (by kernel_rfl) (by kernel_rfl) (by kernel_rfl) (fun _ _ _ h => h) (Or.inl ⟨by rfl, ?hyd24⟩) hHeld ?restd24
          case hyd24 =>
            intro w hSw
            (try dsimp only at hSw)
            first | (go_simp; done) | (go_simp; with_reducible rfl) | with_reducible rfl | rfl
          simp only [Act.put, List.setIfInBounds_toArray, List.set_cons_zero, List.set_cons_succ]
          refine wpAnyH_take (i := 25) (oi := { dst := some 82, op := Op.load 28 (Operand.tmp 10), type := 28, pos := "law.go:97", after := #[{ on := 24, ground := Ground.guard }], guard := some (24, false) }) (v := undef) rfl (by kernel_rfl) (by kernel_rfl) (by kernel_rfl) (fun _ _ _ h => h) (Or.inr ⟨by rfl, rfl⟩) hHeld ?restd25
          simp only [Act.put, List.setIfInBounds_toArray, List.set_cons_zero, List.set_cons_succ]
          refine wpAnyH_take (i := 26) (oi := { dst := some 83, op := Op.call { callee := Callee.value (Operand.func 13), args := #[Operand.tmp 82], argTypes := #[28] }, type := 3, pos := "law.go:97", after := #[{ on := 25, ground := Ground.data }, { on := 24, ground := Ground.chain }, { on := 24, ground := Ground.guard }], guard := some (24, false) }) (v := undef) rfl (by kernel_rfl) (by kernel_rfl) (by kernel_rfl) (fun _ _ _ h => h) (Or.inr ⟨by rfl, rfl⟩) hHeld ?restd26
          simp only [Act.put, List.setIfInBounds_toArray, List.set_cons_zero, List.set_cons_succ]
          refine wpAnyH_take (i := 27) (oi := { dst := some 84, op := Op.load 28 (Operand.tmp 5), type := 28, pos := "law.go:97", after := #[{ on := 24, ground := Ground.guard }], guard := some (24, false) }) (v := undef) rfl (by kernel_rfl) (by kernel_rfl) (by kernel_rfl) (fun _ _ _ h => h) (Or.inr ⟨by rfl, rfl⟩) hHeld ?restd27
          simp only [Act.put, List.setIfInBounds_toArray, List.set_cons_zero, List.set_cons_succ]
          refine wpAnyH_take (i := 28) (oi := { dst := some 85, op := Op.call { callee := Callee.value (Operand.func 13), args := #[Operand.tmp 84], argTypes := #[28] }, type := 3, pos := "law.go:97", after := #[{ on := 27, ground := Ground.data }, { on := 26, ground := Ground.chain }, { on := 24, ground := Ground.guard }], guard := some (24, false) }) (v := undef) rfl (by kernel_rfl) (by kernel_rfl) (by kernel_rfl) (fun _ _ _ h => h) (Or.inr ⟨by rfl, rfl⟩) hHeld ?restd28
          simp only [Act.put, List.setIfInBounds_toArray, List.set_cons_zero, List.set_cons_succ]
          refine wpAnyH_take (i := 29) (oi := { dst := some 86, op := Op.binOp BinOp.eql 3 (Operand.tmp 83) (Operand.tmp 85) 3, type := 4, pos := "law.go:97", after := #[{ on := 26, ground := Ground.data }, { on := 28, ground := Ground.data }, { on := 24, ground := Ground.guard }], guard := some (24, false) }) (v := undef) rfl (by kernel_rfl) (by kernel_rfl) (by kernel_rfl) (fun _ _ _ h => h) (Or.inr ⟨by rfl, rfl⟩) hHeld ?restd29
          simp only [Act.put, List.setIfInBounds_toArray, List.set_cons_zero, List.set_cons_succ]
          refine wpAnyH_take (i := 30) (oi := { dst := some 87, op := Op.pick (Operand.tmp 81) (Operand.const (Value.bool true)) (Operand.tmp 86), type := 4, pos := "law.go:97", after := #[{ on := 24, ground := Ground.data }, { on := 29, ground := Ground.data }, { on := 20, ground := Ground.guard }], guard := some (20, true) }) (v := ?vd30) rfl (by kernel_rfl) (by kernel_rfl) (by kernel_rfl) (fun _ _ _ h => h) (Or.inl ⟨by rfl, ?hyd30⟩) hHeld ?restd30
          case hyd30 =>
            intro w hSw
            (try dsimp only at hSw)
            first | (go_simp; done) | (go_simp; with_reducible rfl) | with_reducible rfl | rfl
          simp only [Act.put, List.setIfInBounds_toArray, List.set_cons_zero, List.set_cons_succ]
          refine wpAnyH_take (i := 31) (oi := { dst := some 88, op := Op.pick (Operand.tmp 77) (Operand.tmp 87) (Operand.const (Value.bool false)), type := 4, pos := "law.go:97", after := #[{ on := 20, ground := Ground.data }, { on := 30, ground := Ground.data }], guard := none }) (v := ?vd31) rfl (by kernel_rfl) (by kernel_rfl) (by kernel_rfl) (fun _ _ _ h => h) (Or.inl ⟨by rfl, ?hyd31⟩) hHeld ?restd31
          case hyd31 =>
            intro w hSw
            (try dsimp only at hSw)
            first | (go_simp; done) | (go_simp; with_reducible rfl) | with_reducible rfl | rfl
          simp only [Act.put, List.setIfInBounds_toArray, List.set_cons_zero, List.set_cons_succ]
          refine wpAnyH_take (i := 32) (oi := { dst := some 89, op := Op.move (Operand.tmp 88), type := 4, pos := "law.go:97", after := #[{ on := 31, ground := Ground.data }, { on := 28, ground := Ground.chain }], guard := none }) (v := ?vd32) rfl (by kernel_rfl) (by kernel_rfl) (by kernel_rfl) (fun _ _ _ h => h) (Or.inl ⟨by rfl, ?hyd32⟩) hHeld ?restd32
          case hyd32 =>
            intro w hSw
            (try dsimp only at hSw)
            first | (go_simp; done) | (go_simp; with_reducible rfl) | with_reducible rfl | rfl
          simp only [Act.put, List.setIfInBounds_toArray, List.set_cons_zero, List.set_cons_succ]
          refine wpAnyH_ready (rs := [33]) (by kernel_rfl) (by simp) ?_
          refine AllReadyH.cons (o := { dst := some 90, op := Op.call { callee := Callee.value (Operand.func 16), args := #[Operand.const (Value.int IntKind.i64 0)], argTypes := #[3] }, type := 31, pos := "law.go:97", after := #[{ on := 32, ground := Ground.chain }, { on := 32, ground := Ground.guard }], guard := some (32, true) }) rfl (fun K hK => ?_) AllReadyH.nil
          go_simp
          (go_at_call 16; refine (cI _).mono ?_; rintro e dw5 ⟨dv5, rfl, dR5, db5⟩; have dH5 := bt dH4 db5; have ds5 := keep16 db5 ds4)
          first | go_wp2 | skip
          refine hK.out _ _ ?_ (fun hHeld2 => ?_)
          · exact ds5
          clear hK K hHeld
          have hHeld := hHeld2
          clear hHeld2
          refine wpAnyH_ready (rs := [34]) (by kernel_rfl) (by simp) ?_
          refine AllReadyH.cons (o := { dst := some 91, op := Op.call { callee := Callee.value (Operand.func 15), args := #[Operand.tmp 90], argTypes := #[31] }, type := 3, pos := "law.go:97", after := #[{ on := 33, ground := Ground.data }, { on := 33, ground := Ground.chain }, { on := 32, ground := Ground.guard }], guard := some (32, true) }) rfl (fun K hK => ?_) AllReadyH.nil
          go_simp
          (go_at_call 15; refine (cZ _ _ dR5).mono ?_; rintro e dw6 ⟨rfl, db6⟩; have dH6 := bt dH5 db6; have ds6 := keep16 db6 ds5)
          first | go_wp2 | skip
          refine hK.out _ _ ?_ (fun hHeld2 => ?_)
          · exact ds6
          clear hK K hHeld
          have hHeld := hHeld2
          clear hHeld2
          refine wpAnyH_take (i := 35) (oi := { dst := some 92, op := Op.binOp BinOp.eql 3 (Operand.tmp 91) (Operand.const (Value.int IntKind.i64 0)) 3, type := 4, pos := "law.go:97", after := #[{ on := 34, ground := Ground.data }, { on := 32, ground := Ground.guard }], guard := some (32, true) }) (v := ?vd35) rfl (by kernel_rfl) (by kernel_rfl) (by kernel_rfl) (fun _ _ _ h => h) (Or.inl ⟨by rfl, ?hyd35⟩) hHeld ?restd35
          case hyd35 =>
            intro w hSw
            (try dsimp only at hSw)
            first | (go_simp; done) | (go_simp; with_reducible rfl) | with_reducible rfl | rfl
          simp only [Act.put, List.setIfInBounds_toArray, List.set_cons_zero, List.set_cons_succ]
          refine wpAnyH_take (i := 36) (oi := { dst := some 93, op := Op.pick (Operand.tmp 89) (Operand.tmp 92) (Operand.const (Value.bool false)), type := 4, pos := "law.go:97", after := #[{ on := 32, ground := Ground.data }, { on := 35, ground := Ground.data }], guard := none }) (v := ?vd36) rfl (by kernel_rfl) (by kernel_rfl) (by kernel_rfl) (fun _ _ _ h => h) (Or.inl ⟨by rfl, ?hyd36⟩) hHeld ?restd36
          case hyd36 =>
            intro w hSw
            (try dsimp only at hSw)
            first | (go_simp; done) | (go_simp; with_reducible rfl) | with_reducible rfl | rfl
          simp only [Act.put, List.setIfInBounds_toArray, List.set_cons_zero, List.set_cons_succ]
          refine wpAnyH_take (i := 37) (oi := { dst := some 4, op := Op.assign (Operand.tmp 93), type := 4, pos := "law.go:97", after := #[{ on := 36, ground := Ground.data }, { on := 34, ground := Ground.chain }, { on := 0, ground := Ground.phase }, { on := 1, ground := Ground.phase }, { on := 2, ground := Ground.phase }, { on := 3, ground := Ground.phase }, { on := 4, ground := Ground.phase }, { on := 5, ground := Ground.phase }, { on := 6, ground := Ground.phase }, { on := 7, ground := Ground.phase }, { on := 8, ground := Ground.phase }, { on := 9, ground := Ground.phase }, { on := 10, ground := Ground.phase }, { on := 11, ground := Ground.phase }, { on := 12, ground := Ground.phase }, { on := 13, ground := Ground.phase }, { on := 14, ground := Ground.phase }, { on := 15, ground := Ground.phase }, { on := 16, ground := Ground.phase }, { on := 17, ground := Ground.phase }, { on := 18, ground := Ground.phase }, { on := 19, ground := Ground.phase }, { on := 20, ground := Ground.phase }, { on := 21, ground := Ground.phase }, { on := 22, ground := Ground.phase }, { on := 23, ground := Ground.phase }, { on := 24, ground := Ground.phase }, { on := 25, ground := Ground.phase }, { on := 26, ground := Ground.phase }, { on := 27, ground := Ground.phase }, { on := 28, ground := Ground.phase }, { on := 29, ground := Ground.phase }, { on := 30, ground := Ground.phase }, { on := 31, ground := Ground.phase }, { on := 32, ground := Ground.phase }, { on := 33, ground := Ground.phase }, { on := 34, ground := Ground.phase }, { on := 35, ground := Ground.phase }, { on := 36, ground := Ground.phase }], guard := none }) (v := ?vd37) rfl (by kernel_rfl) (by kernel_rfl) (by kernel_rfl) (fun _ _ _ h => h) (Or.inl ⟨by rfl, ?hyd37⟩) hHeld ?restd37
          case hyd37 =>
            intro w hSw
            (try dsimp only at hSw)
            first | (go_simp; done) | (go_simp; with_reducible rfl) | with_reducible rfl | rfl
          simp only [Act.put, List.setIfInBounds_toArray, List.set_cons_zero, List.set_cons_succ]
          refine wpAnyH_done (by kernel_rfl) ?_ _
          go_wp2
          go_ret
          exact ⟨rfl, bt hwc.out dH6⟩
        · have Te1 : True := trivial
          have Te3 : True := trivial
          have Te4 : True := trivial
          go_region_held3 (fun w' => w'.cell? ⟨go, 0, none⟩ = some (.bool ob) ∧ w'.cell? ⟨go, 1, none⟩ = some (.int .u64 oA) ∧ w'.cell? ⟨go, 2, none⟩ = some (.int .u64 oL) ∧ w'.cell? ⟨go, 3, none⟩ = some (.pointer op) ∧ w'.cell? ⟨gu, 0, none⟩ = some (.bool yb) ∧ w'.cell? ⟨gu, 1, none⟩ = some (.int .u64 yA) ∧ w'.cell? ⟨gu, 2, none⟩ = some (.int .u64 yL) ∧ w'.cell? ⟨gu, 3, none⟩ = some (.pointer yp) ∧ w'.cell? ⟨gd, 0, none⟩ = some (.bool db) ∧ w'.cell? ⟨gd, 1, none⟩ = some (.int .u64 dA) ∧ w'.cell? ⟨gd, 2, none⟩ = some (.int .u64 dL) ∧ w'.cell? ⟨gd, 3, none⟩ = some (.pointer dp) ∧ w'.cell? ⟨g0x, 0, none⟩ = some (.bool xb) ∧ w'.cell? ⟨g0x, 1, none⟩ = some (.int .u64 xA) ∧ w'.cell? ⟨g0x, 2, none⟩ = some (.int .u64 xL) ∧ w'.cell? ⟨g0x, 3, none⟩ = some (.pointer xp)) (first | with_reducible exact s0' | with_reducible exact se0 | with_reducible exact se1 | with_reducible exact se2 | with_reducible exact se3 | with_reducible exact se4 | with_reducible exact se5 | with_reducible exact se6 | with_reducible exact se7) (first
            | (go_at_call 12; refine (awake6 _ (hm5 H0)).mono ?_; rintro e we0 ⟨rfl, hbe0⟩; have He0 := bt H0 hbe0; have se0 := keep16 hbe0 s0')
            | (go_at_call 13; have _t := Te1; clear _t Te1; refine (cSo _ He0).mono ?_; rintro e we1 ⟨rfl, hbe1⟩; have He1 := bt He0 hbe1; have se1 := keep16 hbe1 se0)
            | (go_at_call 14; refine (cC _ He1).mono ?_; rintro e we2 ⟨rfl, hbe2⟩; have He2 := bt He1 hbe2; have se2 := keep16 hbe2 se1)
            | (go_at_call 13; have _t := Te3; clear _t Te3; refine (cSd _ He2).mono ?_; rintro e we3 ⟨rfl, hbe3⟩; have He3 := bt He2 hbe3; have se3 := keep16 hbe3 se2)
            | (go_at_call 13; have _t := Te4; clear _t Te4; refine (cSd _ He3).mono ?_; rintro e we4 ⟨rfl, hbe4⟩; have He4 := bt He3 hbe4; have se4 := keep16 hbe4 se3)
            | (go_at_call 13; refine (cSx _ He4).mono ?_; rintro e we5 ⟨rfl, hbe5⟩; have He5 := bt He4 hbe5; have se5 := keep16 hbe5 se4)
            | (go_at_call 16; refine (cI _).mono ?_; rintro e we6 ⟨ve6, rfl, Re6, hbe6⟩; have He6 := bt He5 hbe6; have se6 := keep16 hbe6 se5)
            | (go_at_call 15; refine (cZ _ _ Re6).mono ?_; rintro e we7 ⟨rfl, hbe7⟩; have He7 := bt He6 hbe7; have se7 := keep16 hbe7 se6))
          all_goals go_wp2
          all_goals go_ret
          all_goals exact ⟨rfl, bt hwc.out He7⟩
        · have Tf1 : True := trivial
          have Tf3 : True := trivial
          have Tf4 : True := trivial
          go_region_held3 (fun w' => w'.cell? ⟨go, 0, none⟩ = some (.bool ob) ∧ w'.cell? ⟨go, 1, none⟩ = some (.int .u64 oA) ∧ w'.cell? ⟨go, 2, none⟩ = some (.int .u64 oL) ∧ w'.cell? ⟨go, 3, none⟩ = some (.pointer op) ∧ w'.cell? ⟨gu, 0, none⟩ = some (.bool yb) ∧ w'.cell? ⟨gu, 1, none⟩ = some (.int .u64 yA) ∧ w'.cell? ⟨gu, 2, none⟩ = some (.int .u64 yL) ∧ w'.cell? ⟨gu, 3, none⟩ = some (.pointer yp) ∧ w'.cell? ⟨gd, 0, none⟩ = some (.bool db) ∧ w'.cell? ⟨gd, 1, none⟩ = some (.int .u64 dA) ∧ w'.cell? ⟨gd, 2, none⟩ = some (.int .u64 dL) ∧ w'.cell? ⟨gd, 3, none⟩ = some (.pointer dp) ∧ w'.cell? ⟨g0x, 0, none⟩ = some (.bool xb) ∧ w'.cell? ⟨g0x, 1, none⟩ = some (.int .u64 xA) ∧ w'.cell? ⟨g0x, 2, none⟩ = some (.int .u64 xL) ∧ w'.cell? ⟨g0x, 3, none⟩ = some (.pointer xp)) (first | with_reducible exact s0' | with_reducible exact sf0 | with_reducible exact sf1 | with_reducible exact sf2 | with_reducible exact sf3 | with_reducible exact sf4 | with_reducible exact sf5 | with_reducible exact sf6 | with_reducible exact sf7) (first
            | (go_at_call 12; refine (awake6 _ (hm5 H0)).mono ?_; rintro e wf0 ⟨rfl, hbf0⟩; have Hf0 := bt H0 hbf0; have sf0 := keep16 hbf0 s0')
            | (go_at_call 13; have _t := Tf1; clear _t Tf1; refine (cSo _ Hf0).mono ?_; rintro e wf1 ⟨rfl, hbf1⟩; have Hf1 := bt Hf0 hbf1; have sf1 := keep16 hbf1 sf0)
            | (go_at_call 14; refine (cC _ Hf1).mono ?_; rintro e wf2 ⟨rfl, hbf2⟩; have Hf2 := bt Hf1 hbf2; have sf2 := keep16 hbf2 sf1)
            | (go_at_call 13; have _t := Tf3; clear _t Tf3; refine (cSd _ Hf2).mono ?_; rintro e wf3 ⟨rfl, hbf3⟩; have Hf3 := bt Hf2 hbf3; have sf3 := keep16 hbf3 sf2)
            | (go_at_call 13; have _t := Tf4; clear _t Tf4; refine (cSd _ Hf3).mono ?_; rintro e wf4 ⟨rfl, hbf4⟩; have Hf4 := bt Hf3 hbf4; have sf4 := keep16 hbf4 sf3)
            | (go_at_call 13; refine (cSx _ Hf4).mono ?_; rintro e wf5 ⟨rfl, hbf5⟩; have Hf5 := bt Hf4 hbf5; have sf5 := keep16 hbf5 sf4)
            | (go_at_call 16; refine (cI _).mono ?_; rintro e wf6 ⟨vf6, rfl, Rf6, hbf6⟩; have Hf6 := bt Hf5 hbf6; have sf6 := keep16 hbf6 sf5)
            | (go_at_call 15; refine (cZ _ _ Rf6).mono ?_; rintro e wf7 ⟨rfl, hbf7⟩; have Hf7 := bt Hf6 hbf7; have sf7 := keep16 hbf7 sf6))
          all_goals go_wp2
          all_goals go_ret
          all_goals exact ⟨rfl, bt hwc.out Hf7⟩
end Go.Proofs.YtefckmkcbgckfaaGreat.NrW

/- RtextNear: the walk. -/
namespace Go.Proofs.YtefckmkcbgckfaaGreat.NrX
open Go.RowKit Mem LimbNum Limb1 DigNum DigL StrL TxN ShelfC TextL RText RatL RatM RatN RatW RefR RefT RefU InvL DivL QNum CmpL CmqL RefX RefY RefZ FloL Mk5 AddN JoinL AddW AddV AddR FldL SubL NmL MulN MulW MulL PaL PtL PbL Law5 Aw5 TensAll DcM VqN BkL NrN RatF RatO RefI NrH

set_option maxRecDepth 20000 in
set_option maxHeartbeats 8000000 in
theorem law_pos (xx0 : Bool) (SA0 SB0 : Value) (i : Int) (w : World) (hm : ML w) (hr : ¬ Int.tmod i 40 < 0)
    (cB0 : ∀ W, Below w.heap.size w W → Calls Tryz.prog 4 #[.agg #[.bool xx0, SA0, SB0]] W fun e w' => ∃ v q p, e = .returned (.tuple #[v, q]) ∧ IsR w' v p ∧ IsQ w' q p ∧ Fits p 256 ∧ Below W.heap.size W w') :
    Calls Tryz.prog 3 #[.agg #[.bool xx0, SA0, SB0], .int .i64 i] w fun e w' => e = .returned (.bool true) ∧ Below w.heap.size w w' := by
  obtain ⟨W0, eW0, hb0, k0⟩ := one_new w (.cells #[.bool xx0, SA0, SB0] 24)
  have e0 := cell_at k0
  have ha0 : W0.cell? ⟨w.heap.size, 0, none⟩ = some (.bool xx0) := e0 0 _ rfl
  have ha1 : W0.cell? ⟨w.heap.size, 1, none⟩ = some (SA0) := e0 1 _ rfl
  have ha2 : W0.cell? ⟨w.heap.size, 2, none⟩ = some (SB0) := e0 2 _ rfl
  have EW : Hid (_ = W0) := eW0
  have C0 : Hid (Below w.heap.size w W0) := hb0
  have cc := cB0 W0 hb0
  clear eW0 e0 k0 cB0 hb0
  go_enter Tryz.func3, Tryz.ntmps3
  go_upto_region 1 with fail
  rw [EW.out]
  clear EW
  go_upto_region 2 with (go_at_call 4; refine cc.mono ?_; rintro e w1 ⟨v, y, q1, rfl, RR, QQ, F1, hb⟩; obtain ⟨xb, xA, xL, xp, rfl⟩ := RR.shape4; obtain ⟨bq1, o1, l1, c1, r1, m1, z1, rfl⟩ := QQ.shape3)
  obtain ⟨W1, eW, B, kx, kp⟩ := two_new w1 (.cells #[.bool xb, .int .u64 xA, .int .u64 xL, .pointer xp] 28) (.cells #[.bool bq1, .slice o1 l1 c1, .slice r1 m1 z1] 31)
  rw [eW]
  have BB := bt hb B
  have C1 : Hid (Below w.heap.size w W1) := bt C0.out BB
  have D0a : Hid (IsR W1 (.agg #[.bool xb, .int .u64 xA, .int .u64 xL, .pointer xp]) q1) := RR.below B
  have D0b : Hid (IsQ W1 (.agg #[.bool bq1, .slice o1 l1 c1, .slice r1 m1 z1]) q1) := QQ.below B
  obtain ⟨g0x, eg⟩ : ∃ g, w1.heap.size = g := ⟨_, rfl⟩
  obtain ⟨g0p, eg2⟩ : ∃ g, w1.heap.size + 1 = g := ⟨_, rfl⟩
  rw [eg2] at kp
  rw [eg] at kx
  simp only [eg2]
  simp only [eg]
  have K0x : Hid (W1.heap[g0x]? = some (.cells #[.bool xb, .int .u64 xA, .int .u64 xL, .pointer xp] 28)) := kx
  have K0p : Hid (W1.heap[g0p]? = some (.cells #[.bool bq1, .slice o1 l1 c1, .slice r1 m1 z1] 31)) := kp
  have G1 : Hid (Fits q1 256) := F1
  clear cc
  clear eW B kx kp BB hb RR QQ C0 eg eg2 F1 ha0 ha1 ha2
  have HM : Hid (ML W1) := hm.below C1.out
  have hm0 : Hid (ML w) := hm
  have Bx1 : Hid (Bx W1 g0x (q1) xb xA xL xp) := ⟨K0x.out, D0a.out⟩
  clear K0p D0b hm K0x D0a
  obtain ⟨r, er⟩ : ∃ r, Int.tmod i 40 = r := ⟨_, rfl⟩
  have r1 : -40 < r := by rw [← er]; exact Int.lt_tmod_of_pos i (by decide)
  have r2 : r < 40 := by rw [← er]; exact Int.tmod_lt_of_pos i (by decide)
  rw [er] at hr
  obtain ⟨k, hk, ek⟩ : ∃ k : Nat, k < 40 ∧ r = (k : Int) := ⟨r.toNat, by omega, by omega⟩
  subst ek
  go_upto_region 5 with fail
  clear er r1 r2 hr
  have e0 := Bx1.out.cells
  obtain ⟨u0, u1, u2, u3⟩ := e0
  go_upto_region 6 with (go_at_call 5; refine (dec_any _ q1 k _ Bx1.out.is G1.out (by omega)).mono ?_; rintro e w2 ⟨rfl, hb2⟩)
  clear u0 u1 u2 u3
  go_upto_region 7 with (go_at_call 6; refine (dec_back q1 k G1.out hk _ (HM.out.below hb2)).mono ?_; rintro e w3 ⟨v3, rfl, Rd, hb3⟩; obtain ⟨db, dA, dL, dp, rfl⟩ := Rd.shape4)
  generalize bs (decM q1.b q1.n q1.d k) = SS at *
  obtain ⟨W2, eW2, B2', k2x⟩ := one_new w3 (.cells #[.bool db, .int .u64 dA, .int .u64 dL, .pointer dp] 28)
  rw [eW2]
  have BB2 := bt (bt hb2 hb3) B2'
  have C2 : Hid (Below w.heap.size w W2) := bt C1.out BB2
  have lwd : w.heap.size ≤ w3.heap.size := Nat.le_trans C1.out.size ((bt hb2 hb3)).size
  have ltd : ∀ g, g < W1.heap.size → g < w3.heap.size := fun g hg => Nat.lt_of_lt_of_le hg ((bt hb2 hb3)).size
  obtain ⟨gd, egd⟩ : ∃ g, w3.heap.size = g := ⟨_, rfl⟩
  rw [egd] at k2x ltd lwd ⊢
  have Bd2 : Hid (Bx W2 gd (decV q1 k) db dA dL dp) := ⟨k2x, Rd.below B2'⟩
  have Bx2 : Hid (Bx W2 g0x (q1) xb xA xL xp) := Bx1.out.below BB2
  have lxd : g0x < gd := ltd _ (in_heap Bx1.out.box)
  clear eW2 B2' k2x BB2 C1 ltd egd Rd Bx1
  have HM2 : Hid (ML W2) := hm0.out.below C2.out
  clear hb2 hb3 HM
  go_upto_region 8 with (go_at_call 7; refine (unit_any _).mono ?_; rintro e w4 ⟨v4, rfl, Ru, hb4⟩; obtain ⟨ub, uA, uL, up, rfl⟩ := Ru.shape4)
  obtain ⟨W3, eW3, B3', k3x⟩ := one_new w4 (.cells #[.bool ub, .int .u64 uA, .int .u64 uL, .pointer up] 28)
  rw [eW3]
  have BB3 := bt hb4 B3'
  have C3 : Hid (Below w.heap.size w W3) := bt C2.out BB3
  have lwu : w.heap.size ≤ w4.heap.size := Nat.le_trans C2.out.size (hb4).size
  have ltu : ∀ g, g < W2.heap.size → g < w4.heap.size := fun g hg => Nat.lt_of_lt_of_le hg (hb4).size
  obtain ⟨gu, egu⟩ : ∃ g, w4.heap.size = g := ⟨_, rfl⟩
  rw [egu] at k3x ltu lwu ⊢
  have Bu3 : Hid (Bx W3 gu (unitM 0) ub uA uL up) := ⟨k3x, Ru.below B3'⟩
  have Bx3 : Hid (Bx W3 g0x (q1) xb xA xL xp) := Bx2.out.below BB3
  have Bd3 : Hid (Bx W3 gd (decV q1 k) db dA dL dp) := Bd2.out.below BB3
  have lxu : g0x < gu := ltu _ (in_heap Bx2.out.box)
  have ldu : gd < gu := ltu _ (in_heap Bd2.out.box)
  clear eW3 B3' k3x BB3 C2 ltu egu Ru Bx2 Bd2
  clear hb4 HM2
  go_upto_region 9 with (go_at_call 8; refine (half_any _).mono ?_; rintro e w5 ⟨v5, rfl, Rt, hb5⟩; obtain ⟨tb, tA, tL, tp, rfl⟩ := Rt.shape4)
  obtain ⟨W4, eW4, B4', k4x⟩ := one_new w5 (.cells #[.bool tb, .int .u64 tA, .int .u64 tL, .pointer tp] 28)
  rw [eW4]
  have BB4 := bt hb5 B4'
  have C4 : Hid (Below w.heap.size w W4) := bt C3.out BB4
  have lwt : w.heap.size ≤ w5.heap.size := Nat.le_trans C3.out.size (hb5).size
  have ltt : ∀ g, g < W3.heap.size → g < w5.heap.size := fun g hg => Nat.lt_of_lt_of_le hg (hb5).size
  obtain ⟨gt, egt⟩ : ∃ g, w5.heap.size = g := ⟨_, rfl⟩
  rw [egt] at k4x ltt lwt ⊢
  have Bt4 : Hid (Bx W4 gt (tenthM) tb tA tL tp) := ⟨k4x, Rt.below B4'⟩
  have Bx4 : Hid (Bx W4 g0x (q1) xb xA xL xp) := Bx3.out.below BB4
  have Bd4 : Hid (Bx W4 gd (decV q1 k) db dA dL dp) := Bd3.out.below BB4
  have Bu4 : Hid (Bx W4 gu (unitM 0) ub uA uL up) := Bu3.out.below BB4
  have lxt : g0x < gt := ltt _ (in_heap Bx3.out.box)
  have ldt : gd < gt := ltt _ (in_heap Bd3.out.box)
  have lut : gu < gt := ltt _ (in_heap Bu3.out.box)
  clear eW4 B4' k4x BB4 C3 ltt egt Rt Bx3 Bd3 Bu3
  clear hb5
  have fd : Hid (Fits (decV q1 k) 600) := (dec_len q1 k G1.out hk).2
  have hoff : Hid (0 ≤ sgnM (addM (absM q1) (negM (absM (decV q1 k)))) ∧ cmpM (addM (absM q1) (negM (absM (decV q1 k)))) (unitM k) < 0) := off_ok q1 k G1.out.1
  have hsg : Hid (sgnM (decV q1 k) = 0 ∨ sgnM (decV q1 k) = sgnM q1) := sign_ok q1 k
  generalize decV q1 k = dm at *
  go_wp2
  go_loopw [15] (fun iv wr => ∃ (j : Nat) (yb : Bool) (yA yL : Int) (yp : Option Addr), j ≤ k ∧ iv = .int .i64 (j : Int) ∧ Hid (Bx wr gu (unitM j) yb yA yL yp) ∧ Hid (Bx wr g0x q1 xb xA xL xp) ∧ Hid (Bx wr gd dm db dA dL dp) ∧ Hid (Bx wr gt tenthM tb tA tL tp) ∧ Hid (Below w.heap.size w wr)) (fun iv _ => k - (intOf iv).toNat)
  case atStart => exact ⟨0, ub, uA, uL, up, Nat.zero_le _, rfl, Bu4, Bx4, Bd4, Bt4, C4⟩
  case round =>
    clear Bu4 Bx4 Bd4 Bt4 C4
    obtain ⟨j, yb, yA, yL, yp, hj, rfl, Bu, Bxx, Bd, Bt, C⟩ := hrel
    by_cases hlt : j < k
    · have q1' : (j : Int) < (k : Int) := by omega
      obtain ⟨u0, u1, u2, u3⟩ := Bu.out.cells
      obtain ⟨t0, t1, t2, t3⟩ := Bt.out.cells
      have cM := a_mul (k := 161) (by omega) Bu.out.is Bt.out.is (unit_fits j (by omega)) ((unit_fits 1 (by omega)).more (by omega))
      rw [unit_step] at cM
      go_wp2_with (go_at_call 9; refine cM.mono ?_; rintro e w6 ⟨v6, rfl, R6, hb6⟩; obtain ⟨nb', nA, nL, np, rfl⟩ := R6.shape4; have kk := (Bu.out.below hb6).box; have dd := cell_at kk; have d0 : w6.cell? ⟨gu, 0, none⟩ = some (.bool yb) := dd 0 _ rfl; have d1 : w6.cell? ⟨gu, 1, none⟩ = some (.int .u64 yA) := dd 1 _ rfl; have d2 : w6.cell? ⟨gu, 2, none⟩ = some (.int .u64 yL) := dd 2 _ rfl; have d3 : w6.cell? ⟨gu, 3, none⟩ = some (.pointer yp) := dd 3 _ rfl; have ff := nofreeze kk; clear dd; have HK : Hid (w6.heap[gu]? = some (.cells #[.bool yb, .int .u64 yA, .int .u64 yL, .pointer yp] 28)) := kk; clear kk; have HR6 : Hid (IsR w6 (.agg #[.bool nb', .int .u64 nA, .int .u64 nL, .pointer np]) (unitM (j + 1))) := R6; clear R6; have X6 : Hid (Bx w6 g0x q1 xb xA xL xp) := Bxx.out.below hb6; have D6 : Hid (Bx w6 gd dm db dA dL dp) := Bd.out.below hb6; have T6 : Hid (Bx w6 gt tenthM tb tA tL tp) := Bt.out.below hb6; have C6 : Hid (Below w.heap.size w w6) := bt C.out hb6)
      go_roundw
      case rel => exact ⟨j + 1, nb', nA, nL, np, hlt, by go_num, Bx.set HR6.out HK.out, X6.out.off HK.out (by omega) _ _ _ _, D6.out.off HK.out (by omega) _ _ _ _, T6.out.off HK.out (by omega) _ _ _ _, sto4_below C6.out lwu _ _ _ _⟩
      case measure => simp only [intOf]; omega
    · obtain rfl : j = k := by omega
      have q2 : ¬ (j : Int) < (j : Int) := by omega
      clear Bt
      go_upto_region 13 with fail
      have s0 : wr.drew.cell? ⟨g0x, 0, none⟩ = some (.bool xb) ∧ wr.drew.cell? ⟨g0x, 1, none⟩ = some (.int .u64 xA) ∧ wr.drew.cell? ⟨g0x, 2, none⟩ = some (.int .u64 xL) ∧ wr.drew.cell? ⟨g0x, 3, none⟩ = some (.pointer xp) ∧ wr.drew.cell? ⟨gd, 0, none⟩ = some (.bool db) ∧ wr.drew.cell? ⟨gd, 1, none⟩ = some (.int .u64 dA) ∧ wr.drew.cell? ⟨gd, 2, none⟩ = some (.int .u64 dL) ∧ wr.drew.cell? ⟨gd, 3, none⟩ = some (.pointer dp) := ⟨Bxx.out.cells.1, Bxx.out.cells.2.1, Bxx.out.cells.2.2.1, Bxx.out.cells.2.2.2, Bd.out.cells.1, Bd.out.cells.2.1, Bd.out.cells.2.2.1, Bd.out.cells.2.2.2⟩
      have s0v : ((wr.alloc (.cells #[.bool false, .int .u64 0, .int .u64 0, .pointer none] 28)).drew).cell? ⟨g0x, 0, none⟩ = some (.bool xb) ∧ ((wr.alloc (.cells #[.bool false, .int .u64 0, .int .u64 0, .pointer none] 28)).drew).cell? ⟨g0x, 1, none⟩ = some (.int .u64 xA) ∧ ((wr.alloc (.cells #[.bool false, .int .u64 0, .int .u64 0, .pointer none] 28)).drew).cell? ⟨g0x, 2, none⟩ = some (.int .u64 xL) ∧ ((wr.alloc (.cells #[.bool false, .int .u64 0, .int .u64 0, .pointer none] 28)).drew).cell? ⟨g0x, 3, none⟩ = some (.pointer xp) ∧ ((wr.alloc (.cells #[.bool false, .int .u64 0, .int .u64 0, .pointer none] 28)).drew).cell? ⟨gd, 0, none⟩ = some (.bool db) ∧ ((wr.alloc (.cells #[.bool false, .int .u64 0, .int .u64 0, .pointer none] 28)).drew).cell? ⟨gd, 1, none⟩ = some (.int .u64 dA) ∧ ((wr.alloc (.cells #[.bool false, .int .u64 0, .int .u64 0, .pointer none] 28)).drew).cell? ⟨gd, 2, none⟩ = some (.int .u64 dL) ∧ ((wr.alloc (.cells #[.bool false, .int .u64 0, .int .u64 0, .pointer none] 28)).drew).cell? ⟨gd, 3, none⟩ = some (.pointer dp) := new8 _ s0
      have hwD : Below wr.heap.size wr wr.drew := (Below.refl _ _).drew
      have hwV : Below wr.heap.size wr ((wr.alloc (.cells #[.bool false, .int .u64 0, .int .u64 0, .pointer none] 28)).drew) := ((Below.refl _ _).alloc (Nat.le_refl _) _).drew
      have kv : ((wr.alloc (.cells #[.bool false, .int .u64 0, .int .u64 0, .pointer none] 28)).drew).heap[wr.heap.size]? = some (.cells #[.bool false, .int .u64 0, .int .u64 0, .pointer none] 28) := heap_alloc_new wr _
      have ltv := in_heap kv
      have nR2 : ∀ W : World, Below wr.heap.size wr W → g0x ≠ W.heap.size ∧ gd ≠ W.heap.size := fun W h => ⟨Nat.ne_of_lt (Nat.lt_of_lt_of_le (in_heap Bxx.out.box) h.size), Nat.ne_of_lt (Nat.lt_of_lt_of_le (in_heap Bd.out.box) h.size)⟩
      have nR := nR2 _ (Below.refl _ _)
      have cA1 := fun (W : World) (h : Below wr.heap.size wr W) => a_abs (Bxx.out.is.below h)
      have cA2 := fun (W : World) (h : Below wr.heap.size wr W) => a_abs (Bd.out.is.below h)
      have fa : Hid (Fits (absM q1) 600 ∧ Fits (absM dm) 600) := ⟨show Fits q1 600 from G1.out.more (by omega), fd.out⟩
      have cS := fun (W : World) (v v' : Value) (h1 : IsR W v (absM q1)) (h2 : IsR W v' (absM dm)) => a_sub (k := 600) (by omega) h1 h2 fa.out.1 fa.out.2
      have TA : True := trivial
      have fo : Hid (Fits (addM (absM q1) (negM (absM dm))) 1201) := fits_add fa.out.1 (fits_neg fa.out.2)
      generalize addM (absM q1) (negM (absM dm)) = om at *
      go_cut [16] from 52 to 56 (fun v16 wx => ∃ (go : Nat) (ob : Bool) (oA oL : Int) (op : Option Addr), v16 = .pointer (some ⟨go, 0, none⟩) ∧ Hid (Bx wx go om ob oA oL op) ∧ Hid (Below wr.heap.size wr wx))
      case first =>
        clear hoff hsg C Bu Bxx Bd fa fo fd
        go_region_held3 (fun w' => w'.cell? ⟨g0x, 0, none⟩ = some (.bool xb) ∧ w'.cell? ⟨g0x, 1, none⟩ = some (.int .u64 xA) ∧ w'.cell? ⟨g0x, 2, none⟩ = some (.int .u64 xL) ∧ w'.cell? ⟨g0x, 3, none⟩ = some (.pointer xp) ∧ w'.cell? ⟨gd, 0, none⟩ = some (.bool db) ∧ w'.cell? ⟨gd, 1, none⟩ = some (.int .u64 dA) ∧ w'.cell? ⟨gd, 2, none⟩ = some (.int .u64 dL) ∧ w'.cell? ⟨gd, 3, none⟩ = some (.pointer dp)) (first | with_reducible exact s0 | with_reducible exact s0v | with_reducible exact s1 | with_reducible exact s1z | with_reducible exact s2 | with_reducible exact s2z | with_reducible exact s3 | with_reducible exact new8 _ s3 | with_reducible exact set8 nx _ _ _ _ s3) (first
          | (go_at_call 11; have _t := TA; clear _t TA; refine (cA1 _ ?_).mono ?_; (first | with_reducible exact hwD | with_reducible exact hwV); rintro e wa ⟨y1, rfl, R5, hba⟩; (first | with_reducible have Ha := bt hwD hba | with_reducible have Ha := bt hwV hba); (first | with_reducible have s1 := keep8 hba s0 | with_reducible have s1 := keep8 hba s0v); have R5z := R5.below ((Below.refl _ _).alloc (Nat.le_refl _) (.cells #[.bool false, .int .u64 0, .int .u64 0, .pointer none] 28)); have s1z := new8 (.cells #[.bool false, .int .u64 0, .int .u64 0, .pointer none] 28) s1; have Hy1 : Below wr.heap.size wr (wa.alloc (.cells #[.bool false, .int .u64 0, .int .u64 0, .pointer none] 28)) := Ha.alloc Ha.size _; have ky1 : (wa.alloc (.cells #[.bool false, .int .u64 0, .int .u64 0, .pointer none] 28)).heap[wa.heap.size]? = some (.cells #[.bool false, .int .u64 0, .int .u64 0, .pointer none] 28) := heap_alloc_new wa _; have ly1 := in_heap ky1; have ny1 := nR2 _ Ha; (first | with_reducible have kr1 := box_kept kv hba ltv | skip))
          | (go_at_call 11; refine (cA2 _ ?_).mono ?_; (first | with_reducible exact Ha | with_reducible exact Hy1); rintro e wb ⟨y2, rfl, R6, hbb⟩; (first | with_reducible have Hb := bt Ha hbb | with_reducible have Hb := bt Hy1 hbb); (first | with_reducible have s2 := keep8 hbb s1 | with_reducible have s2 := keep8 hbb s1z); (first | with_reducible have R5b := R5.below hbb | with_reducible have R5b := R5z.below hbb); have R5bz := R5b.below ((Below.refl _ _).alloc (Nat.le_refl _) (.cells #[.bool false, .int .u64 0, .int .u64 0, .pointer none] 28)); have R6z := R6.below ((Below.refl _ _).alloc (Nat.le_refl _) (.cells #[.bool false, .int .u64 0, .int .u64 0, .pointer none] 28)); have s2z := new8 (.cells #[.bool false, .int .u64 0, .int .u64 0, .pointer none] 28) s2; have Hy2 : Below wr.heap.size wr (wb.alloc (.cells #[.bool false, .int .u64 0, .int .u64 0, .pointer none] 28)) := Hb.alloc Hb.size _; have ky2 : (wb.alloc (.cells #[.bool false, .int .u64 0, .int .u64 0, .pointer none] 28)).heap[wb.heap.size]? = some (.cells #[.bool false, .int .u64 0, .int .u64 0, .pointer none] 28) := heap_alloc_new wb _; have ly2 := in_heap ky2; have ny2 := nR2 _ Hb; (first | (with_reducible have kr2 := box_kept kr1 hbb (in_heap kr1); have n2' := nR; have l2' : wr.heap.size ≤ wr.heap.size := Nat.le_refl _) | (with_reducible have kr2 := box_kept ky1 hbb ly1; have n2' := ny1; have l2' := Ha.size) | skip))
          | (go_at_call 10; refine (cS _ _ _ ?_ ?_).mono ?_; (first | with_reducible exact R5b | with_reducible exact R5bz); (first | with_reducible exact R6 | with_reducible exact R6z); rintro e wc' ⟨y3, rfl, R7, hbc⟩; (first | with_reducible have Hc := bt Hb hbc | with_reducible have Hc := bt Hy2 hbc); (first | with_reducible have s3 := keep8 hbc s2 | with_reducible have s3 := keep8 hbc s2z); obtain ⟨ob, oA, oL, op, rfl⟩ := R7.shape4; (first | (with_reducible have kr3 := box_kept kr2 hbc (in_heap kr2); have nx := n2'; have lx := l2'; have dd := cell_at kr3; have e0' := dd 0 _ rfl; have e1' := dd 1 _ rfl; have e2' := dd 2 _ rfl; have e3' := dd 3 _ rfl; have ff := nofreeze kr3; clear dd) | (with_reducible have kr3 := box_kept ky2 hbc ly2; have nx := ny2; have lx := Hb.size; have dd := cell_at kr3; have e0' := dd 0 _ rfl; have e1' := dd 1 _ rfl; have e2' := dd 2 _ rfl; have e3' := dd 3 _ rfl; have ff := nofreeze kr3; clear dd) | skip)))
        all_goals go_wp2
        all_goals go_meet
        all_goals first
          | exact ⟨_, ob, oA, oL, op, rfl, Bx.new R7, Hc.alloc Hc.size _⟩
          | exact ⟨_, ob, oA, oL, op, rfl, Bx.set R7 kr3, sto4_below Hc lx _ _ _ _⟩
      case rest =>
        obtain ⟨go, ob, oA, oL, op, rfl, Bo, HX⟩ := hcut
        have B5x := Bxx.out.below HX.out
        have B5u := Bu.out.below HX.out
        have B5d := Bd.out.below HX.out
        have hmw : Hid (ML w) := hm0
        have hwc : Hid (Below w.heap.size w wc) := bt C.out HX.out
        have HB : Hid (Bx wc go om ob oA oL op ∧ Bx wc gu (unitM j) yb yA yL yp ∧ Bx wc gd dm db dA dL dp ∧ Bx wc g0x q1 xb xA xL xp) := ⟨Bo.out, B5u, B5d, B5x⟩
        have s0' : wc.drew.cell? ⟨go, 0, none⟩ = some (.bool ob) ∧ wc.drew.cell? ⟨go, 1, none⟩ = some (.int .u64 oA) ∧ wc.drew.cell? ⟨go, 2, none⟩ = some (.int .u64 oL) ∧ wc.drew.cell? ⟨go, 3, none⟩ = some (.pointer op) ∧ wc.drew.cell? ⟨gu, 0, none⟩ = some (.bool yb) ∧ wc.drew.cell? ⟨gu, 1, none⟩ = some (.int .u64 yA) ∧ wc.drew.cell? ⟨gu, 2, none⟩ = some (.int .u64 yL) ∧ wc.drew.cell? ⟨gu, 3, none⟩ = some (.pointer yp) ∧ wc.drew.cell? ⟨gd, 0, none⟩ = some (.bool db) ∧ wc.drew.cell? ⟨gd, 1, none⟩ = some (.int .u64 dA) ∧ wc.drew.cell? ⟨gd, 2, none⟩ = some (.int .u64 dL) ∧ wc.drew.cell? ⟨gd, 3, none⟩ = some (.pointer dp) ∧ wc.drew.cell? ⟨g0x, 0, none⟩ = some (.bool xb) ∧ wc.drew.cell? ⟨g0x, 1, none⟩ = some (.int .u64 xA) ∧ wc.drew.cell? ⟨g0x, 2, none⟩ = some (.int .u64 xL) ∧ wc.drew.cell? ⟨g0x, 3, none⟩ = some (.pointer xp) := ⟨Bo.out.cells.1, Bo.out.cells.2.1, Bo.out.cells.2.2.1, Bo.out.cells.2.2.2, B5u.cells.1, B5u.cells.2.1, B5u.cells.2.2.1, B5u.cells.2.2.2, B5d.cells.1, B5d.cells.2.1, B5d.cells.2.2.1, B5d.cells.2.2.2, B5x.cells.1, B5x.cells.2.1, B5x.cells.2.2.1, B5x.cells.2.2.2⟩
        have H0 : Below wc.heap.size wc wc.drew := (Below.refl _ _).drew
        have v1 : sgnM om = 0 ∨ sgnM om = 1 := by
          have := hoff.out.1
          unfold sgnM sgn at this ⊢
          split
          · exact .inl rfl
          · split
            · simp_all
            · exact .inr rfl
        have v2 : cmpM om (unitM j) = -1 := by
          have h := hoff.out.2
          have hr : cmpM om (unitM j) = -1 ∨ cmpM om (unitM j) = 0 ∨ cmpM om (unitM j) = 1 := by
            unfold cmpM cmpQ cmpI
            split
            · exact .inl rfl
            · split
              · exact .inr (.inl rfl)
              · exact .inr (.inr rfl)
          rcases hr with e | e | e
          · exact e
          · omega
          · omega
        have v3 : sgnM dm = 0 ∨ (sgnM dm = 1 ∧ sgnM q1 = 1) ∨ (sgnM dm = -1 ∧ sgnM q1 = -1) := by
          have h := hsg.out
          rcases h with h | h
          · exact .inl h
          · rw [← h]
            unfold sgnM sgn
            split
            · exact .inl rfl
            · split
              · exact .inr (.inr ⟨rfl, rfl⟩)
              · exact .inr (.inl ⟨rfl, rfl⟩)
        have cSo := fun (W : World) (h : Below wc.heap.size wc W) => a_sign (HB.out.1.is.below h)
        have cC := fun (W : World) (h : Below wc.heap.size wc W) => a_cmp (k := 1201) (by omega) (HB.out.1.is.below h) (HB.out.2.1.is.below h) fo.out ((unit_fits j (by omega)).more (by omega))
        have cSd := fun (W : World) (h : Below wc.heap.size wc W) => a_sign (HB.out.2.2.1.is.below h)
        have cSx := fun (W : World) (h : Below wc.heap.size wc W) => a_sign (HB.out.2.2.2.is.below h)
        rw [v2] at cC
        have cI := fun (W : World) => rint_any 0 W (by decide) (by decide)
        have cZ := fun (W : World) (v : Value) (h : IsRef W v (decide ((0 : Int) < 0)) (0 : Int).natAbs 1) => rsign_any v _ _ _ W h (fun _ => rfl) (by decide +kernel)
        generalize sgnM om = SO at *
        generalize sgnM dm = SD at *
        generalize sgnM q1 = SX at *
        clear hoff hsg fo C Bu Bxx Bd B5x B5u B5d Bo HX v2 fd hm0
        go_upto_region 14 with fail
        have hm5 : ∀ {W : World}, Below wc.heap.size wc W → ML W := fun {W} h => (show ML wc from ML.below hmw.out hwc.out).below h
        rcases v1 with rfl | rfl <;> rcases v3 with rfl | ⟨rfl, rfl⟩ | ⟨rfl, rfl⟩
        · skip
          refine wp_region_held_drew (S := (fun w' => w'.cell? ⟨go, 0, none⟩ = some (.bool ob) ∧ w'.cell? ⟨go, 1, none⟩ = some (.int .u64 oA) ∧ w'.cell? ⟨go, 2, none⟩ = some (.int .u64 oL) ∧ w'.cell? ⟨go, 3, none⟩ = some (.pointer op) ∧ w'.cell? ⟨gu, 0, none⟩ = some (.bool yb) ∧ w'.cell? ⟨gu, 1, none⟩ = some (.int .u64 yA) ∧ w'.cell? ⟨gu, 2, none⟩ = some (.int .u64 yL) ∧ w'.cell? ⟨gu, 3, none⟩ = some (.pointer yp) ∧ w'.cell? ⟨gd, 0, none⟩ = some (.bool db) ∧ w'.cell? ⟨gd, 1, none⟩ = some (.int .u64 dA) ∧ w'.cell? ⟨gd, 2, none⟩ = some (.int .u64 dL) ∧ w'.cell? ⟨gd, 3, none⟩ = some (.pointer dp) ∧ w'.cell? ⟨g0x, 0, none⟩ = some (.bool xb) ∧ w'.cell? ⟨g0x, 1, none⟩ = some (.int .u64 xA) ∧ w'.cell? ⟨g0x, 2, none⟩ = some (.int .u64 xL) ∧ w'.cell? ⟨g0x, 3, none⟩ = some (.pointer xp))) (by kernel_rfl) ?_ (fun hHeld => ?_)
          · exact s0'
          refine wpAnyH_ready (rs := [0]) (by kernel_rfl) (by simp) ?_
          refine AllReadyH.cons (o := { dst := some 57, op := Op.call { callee := Callee.value (Operand.func 12), args := #[], argTypes := #[] }, type := 4, pos := "law.go:97", after := #[], guard := none }) rfl (fun K hK => ?_) AllReadyH.nil
          go_simp
          (go_at_call 12; refine (awake6 _ (hm5 H0)).mono ?_; rintro e aw1 ⟨rfl, ab1⟩; have aH1 := bt H0 ab1; have as1 := keep16 ab1 s0')
          first | go_wp2 | skip
          refine hK.out _ _ ?_ (fun hHeld2 => ?_)
          · exact as1
          clear hK K hHeld
          have hHeld := hHeld2
          clear hHeld2
          refine wpAnyH_take (i := 1) (oi := { dst := some 58, op := Op.move (Operand.tmp 57), type := 4, pos := "law.go:97", after := #[{ on := 0, ground := Ground.data }, { on := 0, ground := Ground.chain }], guard := none }) (v := ?va1) rfl (by kernel_rfl) (by kernel_rfl) (by kernel_rfl) (fun _ _ _ h => h) (Or.inl ⟨by rfl, ?hya1⟩) hHeld ?resta1
          case hya1 =>
            intro w hSw
            (try dsimp only at hSw)
            first | (go_simp; done) | (go_simp; with_reducible rfl) | with_reducible rfl | rfl
          simp only [Act.put, List.setIfInBounds_toArray, List.set_cons_zero, List.set_cons_succ]
          refine wpAnyH_take (i := 2) (oi := { dst := some 59, op := Op.move (Operand.tmp 9), type := 34, pos := "law.go:97", after := #[{ on := 1, ground := Ground.guard }], guard := some (1, true) }) (v := ?va2) rfl (by kernel_rfl) (by kernel_rfl) (by kernel_rfl) (fun _ _ _ h => h) (Or.inl ⟨by rfl, ?hya2⟩) hHeld ?resta2
          case hya2 =>
            intro w hSw
            (try dsimp only at hSw)
            first | (go_simp; done) | (go_simp; with_reducible rfl) | with_reducible rfl | rfl
          simp only [Act.put, List.setIfInBounds_toArray, List.set_cons_zero, List.set_cons_succ]
          refine wpAnyH_take (i := 3) (oi := { dst := some 60, op := Op.binOp BinOp.eql 34 (Operand.tmp 59) (Operand.const (Value.int IntKind.i64 0)) 34, type := 4, pos := "law.go:97", after := #[{ on := 2, ground := Ground.data }, { on := 1, ground := Ground.guard }], guard := some (1, true) }) (v := ?va3) rfl (by kernel_rfl) (by kernel_rfl) (by kernel_rfl) (fun _ _ _ h => h) (Or.inl ⟨by rfl, ?hya3⟩) hHeld ?resta3
          case hya3 =>
            intro w hSw
            (try dsimp only at hSw)
            first | (go_simp; done) | (go_simp; with_reducible rfl) | with_reducible rfl | rfl
          simp only [Act.put, List.setIfInBounds_toArray, List.set_cons_zero, List.set_cons_succ]
          refine wpAnyH_take (i := 4) (oi := { dst := some 61, op := Op.pick (Operand.tmp 58) (Operand.tmp 60) (Operand.const (Value.bool false)), type := 4, pos := "law.go:97", after := #[{ on := 1, ground := Ground.data }, { on := 3, ground := Ground.data }], guard := none }) (v := ?va4) rfl (by kernel_rfl) (by kernel_rfl) (by kernel_rfl) (fun _ _ _ h => h) (Or.inl ⟨by rfl, ?hya4⟩) hHeld ?resta4
          case hya4 =>
            intro w hSw
            (try dsimp only at hSw)
            first | (go_simp; done) | (go_simp; with_reducible rfl) | with_reducible rfl | rfl
          simp only [Act.put, List.setIfInBounds_toArray, List.set_cons_zero, List.set_cons_succ]
          refine wpAnyH_take (i := 5) (oi := { dst := some 62, op := Op.move (Operand.tmp 61), type := 4, pos := "law.go:97", after := #[{ on := 4, ground := Ground.data }, { on := 1, ground := Ground.chain }], guard := none }) (v := ?va5) rfl (by kernel_rfl) (by kernel_rfl) (by kernel_rfl) (fun _ _ _ h => h) (Or.inl ⟨by rfl, ?hya5⟩) hHeld ?resta5
          case hya5 =>
            intro w hSw
            (try dsimp only at hSw)
            first | (go_simp; done) | (go_simp; with_reducible rfl) | with_reducible rfl | rfl
          simp only [Act.put, List.setIfInBounds_toArray, List.set_cons_zero, List.set_cons_succ]
          refine wpAnyH_take (i := 6) (oi := { dst := some 63, op := Op.move (Operand.tmp 11), type := 34, pos := "law.go:97", after := #[{ on := 5, ground := Ground.guard }], guard := some (5, true) }) (v := ?va6) rfl (by kernel_rfl) (by kernel_rfl) (by kernel_rfl) (fun _ _ _ h => h) (Or.inl ⟨by rfl, ?hya6⟩) hHeld ?resta6
          case hya6 =>
            intro w hSw
            (try dsimp only at hSw)
            first | (go_simp; done) | (go_simp; with_reducible rfl) | with_reducible rfl | rfl
          simp only [Act.put, List.setIfInBounds_toArray, List.set_cons_zero, List.set_cons_succ]
          refine wpAnyH_take (i := 7) (oi := { dst := some 64, op := Op.binOp BinOp.eql 34 (Operand.tmp 63) (Operand.const (Value.int IntKind.i64 0)) 34, type := 4, pos := "law.go:97", after := #[{ on := 6, ground := Ground.data }, { on := 5, ground := Ground.guard }], guard := some (5, true) }) (v := ?va7) rfl (by kernel_rfl) (by kernel_rfl) (by kernel_rfl) (fun _ _ _ h => h) (Or.inl ⟨by rfl, ?hya7⟩) hHeld ?resta7
          case hya7 =>
            intro w hSw
            (try dsimp only at hSw)
            first | (go_simp; done) | (go_simp; with_reducible rfl) | with_reducible rfl | rfl
          simp only [Act.put, List.setIfInBounds_toArray, List.set_cons_zero, List.set_cons_succ]
          refine wpAnyH_take (i := 8) (oi := { dst := some 65, op := Op.pick (Operand.tmp 62) (Operand.tmp 64) (Operand.const (Value.bool false)), type := 4, pos := "law.go:97", after := #[{ on := 5, ground := Ground.data }, { on := 7, ground := Ground.data }], guard := none }) (v := ?va8) rfl (by kernel_rfl) (by kernel_rfl) (by kernel_rfl) (fun _ _ _ h => h) (Or.inl ⟨by rfl, ?hya8⟩) hHeld ?resta8
          case hya8 =>
            intro w hSw
            (try dsimp only at hSw)
            first | (go_simp; done) | (go_simp; with_reducible rfl) | with_reducible rfl | rfl
          simp only [Act.put, List.setIfInBounds_toArray, List.set_cons_zero, List.set_cons_succ]
          refine wpAnyH_take (i := 9) (oi := { dst := some 66, op := Op.move (Operand.tmp 65), type := 4, pos := "law.go:97", after := #[{ on := 8, ground := Ground.data }, { on := 5, ground := Ground.chain }], guard := none }) (v := ?va9) rfl (by kernel_rfl) (by kernel_rfl) (by kernel_rfl) (fun _ _ _ h => h) (Or.inl ⟨by rfl, ?hya9⟩) hHeld ?resta9
          case hya9 =>
            intro w hSw
            (try dsimp only at hSw)
            first | (go_simp; done) | (go_simp; with_reducible rfl) | with_reducible rfl | rfl
          simp only [Act.put, List.setIfInBounds_toArray, List.set_cons_zero, List.set_cons_succ]
          refine wpAnyH_take (i := 10) (oi := { dst := some 67, op := Op.load 28 (Operand.tmp 16), type := 28, pos := "law.go:97", after := #[{ on := 9, ground := Ground.guard }], guard := some (9, true) }) (v := ?va10) rfl (by kernel_rfl) (by kernel_rfl) (by kernel_rfl) (fun _ _ _ h => h) (Or.inl ⟨by rfl, ?hya10⟩) hHeld ?resta10
          case hya10 =>
            intro w hSw
            (try dsimp only at hSw)
            first | (go_simp; done) | (go_simp; with_reducible rfl) | with_reducible rfl | rfl
          simp only [Act.put, List.setIfInBounds_toArray, List.set_cons_zero, List.set_cons_succ]
          refine wpAnyH_ready (rs := [11]) (by kernel_rfl) (by simp) ?_
          refine AllReadyH.cons (o := { dst := some 68, op := Op.call { callee := Callee.value (Operand.func 13), args := #[Operand.tmp 67], argTypes := #[28] }, type := 3, pos := "law.go:97", after := #[{ on := 10, ground := Ground.data }, { on := 9, ground := Ground.chain }, { on := 9, ground := Ground.guard }], guard := some (9, true) }) rfl (fun K hK => ?_) AllReadyH.nil
          go_simp
          (go_at_call 13; refine (cSo _ aH1).mono ?_; rintro e aw2 ⟨rfl, ab2⟩; have aH2 := bt aH1 ab2; have as2 := keep16 ab2 as1)
          first | go_wp2 | skip
          refine hK.out _ _ ?_ (fun hHeld2 => ?_)
          · exact as2
          clear hK K hHeld
          have hHeld := hHeld2
          clear hHeld2
          refine wpAnyH_take (i := 12) (oi := { dst := some 69, op := Op.binOp BinOp.geq 3 (Operand.tmp 68) (Operand.const (Value.int IntKind.i64 0)) 3, type := 4, pos := "law.go:97", after := #[{ on := 11, ground := Ground.data }, { on := 9, ground := Ground.guard }], guard := some (9, true) }) (v := ?va12) rfl (by kernel_rfl) (by kernel_rfl) (by kernel_rfl) (fun _ _ _ h => h) (Or.inl ⟨by rfl, ?hya12⟩) hHeld ?resta12
          case hya12 =>
            intro w hSw
            (try dsimp only at hSw)
            first | (go_simp; done) | (go_simp; with_reducible rfl) | with_reducible rfl | rfl
          simp only [Act.put, List.setIfInBounds_toArray, List.set_cons_zero, List.set_cons_succ]
          refine wpAnyH_take (i := 13) (oi := { dst := some 70, op := Op.pick (Operand.tmp 66) (Operand.tmp 69) (Operand.const (Value.bool false)), type := 4, pos := "law.go:97", after := #[{ on := 9, ground := Ground.data }, { on := 12, ground := Ground.data }], guard := none }) (v := ?va13) rfl (by kernel_rfl) (by kernel_rfl) (by kernel_rfl) (fun _ _ _ h => h) (Or.inl ⟨by rfl, ?hya13⟩) hHeld ?resta13
          case hya13 =>
            intro w hSw
            (try dsimp only at hSw)
            first | (go_simp; done) | (go_simp; with_reducible rfl) | with_reducible rfl | rfl
          simp only [Act.put, List.setIfInBounds_toArray, List.set_cons_zero, List.set_cons_succ]
          refine wpAnyH_take (i := 14) (oi := { dst := some 71, op := Op.move (Operand.tmp 70), type := 4, pos := "law.go:97", after := #[{ on := 13, ground := Ground.data }, { on := 11, ground := Ground.chain }], guard := none }) (v := ?va14) rfl (by kernel_rfl) (by kernel_rfl) (by kernel_rfl) (fun _ _ _ h => h) (Or.inl ⟨by rfl, ?hya14⟩) hHeld ?resta14
          case hya14 =>
            intro w hSw
            (try dsimp only at hSw)
            first | (go_simp; done) | (go_simp; with_reducible rfl) | with_reducible rfl | rfl
          simp only [Act.put, List.setIfInBounds_toArray, List.set_cons_zero, List.set_cons_succ]
          refine wpAnyH_take (i := 15) (oi := { dst := some 72, op := Op.load 28 (Operand.tmp 16), type := 28, pos := "law.go:97", after := #[{ on := 14, ground := Ground.guard }], guard := some (14, true) }) (v := ?va15) rfl (by kernel_rfl) (by kernel_rfl) (by kernel_rfl) (fun _ _ _ h => h) (Or.inl ⟨by rfl, ?hya15⟩) hHeld ?resta15
          case hya15 =>
            intro w hSw
            (try dsimp only at hSw)
            first | (go_simp; done) | (go_simp; with_reducible rfl) | with_reducible rfl | rfl
          simp only [Act.put, List.setIfInBounds_toArray, List.set_cons_zero, List.set_cons_succ]
          refine wpAnyH_take (i := 16) (oi := { dst := some 73, op := Op.load 28 (Operand.tmp 12), type := 28, pos := "law.go:97", after := #[{ on := 14, ground := Ground.guard }], guard := some (14, true) }) (v := ?va16) rfl (by kernel_rfl) (by kernel_rfl) (by kernel_rfl) (fun _ _ _ h => h) (Or.inl ⟨by rfl, ?hya16⟩) hHeld ?resta16
          case hya16 =>
            intro w hSw
            (try dsimp only at hSw)
            first | (go_simp; done) | (go_simp; with_reducible rfl) | with_reducible rfl | rfl
          simp only [Act.put, List.setIfInBounds_toArray, List.set_cons_zero, List.set_cons_succ]
          refine wpAnyH_ready (rs := [17]) (by kernel_rfl) (by simp) ?_
          refine AllReadyH.cons (o := { dst := some 74, op := Op.call { callee := Callee.value (Operand.func 14), args := #[Operand.tmp 72, Operand.tmp 73], argTypes := #[28, 28] }, type := 3, pos := "law.go:97", after := #[{ on := 15, ground := Ground.data }, { on := 16, ground := Ground.data }, { on := 14, ground := Ground.chain }, { on := 14, ground := Ground.guard }], guard := some (14, true) }) rfl (fun K hK => ?_) AllReadyH.nil
          go_simp
          (go_at_call 14; refine (cC _ aH2).mono ?_; rintro e aw3 ⟨rfl, ab3⟩; have aH3 := bt aH2 ab3; have as3 := keep16 ab3 as2)
          first | go_wp2 | skip
          refine hK.out _ _ ?_ (fun hHeld2 => ?_)
          · exact as3
          clear hK K hHeld
          have hHeld := hHeld2
          clear hHeld2
          refine wpAnyH_take (i := 18) (oi := { dst := some 75, op := Op.binOp BinOp.lss 3 (Operand.tmp 74) (Operand.const (Value.int IntKind.i64 0)) 3, type := 4, pos := "law.go:97", after := #[{ on := 17, ground := Ground.data }, { on := 14, ground := Ground.guard }], guard := some (14, true) }) (v := ?va18) rfl (by kernel_rfl) (by kernel_rfl) (by kernel_rfl) (fun _ _ _ h => h) (Or.inl ⟨by rfl, ?hya18⟩) hHeld ?resta18
          case hya18 =>
            intro w hSw
            (try dsimp only at hSw)
            first | (go_simp; done) | (go_simp; with_reducible rfl) | with_reducible rfl | rfl
          simp only [Act.put, List.setIfInBounds_toArray, List.set_cons_zero, List.set_cons_succ]
          refine wpAnyH_take (i := 19) (oi := { dst := some 76, op := Op.pick (Operand.tmp 71) (Operand.tmp 75) (Operand.const (Value.bool false)), type := 4, pos := "law.go:97", after := #[{ on := 14, ground := Ground.data }, { on := 18, ground := Ground.data }], guard := none }) (v := ?va19) rfl (by kernel_rfl) (by kernel_rfl) (by kernel_rfl) (fun _ _ _ h => h) (Or.inl ⟨by rfl, ?hya19⟩) hHeld ?resta19
          case hya19 =>
            intro w hSw
            (try dsimp only at hSw)
            first | (go_simp; done) | (go_simp; with_reducible rfl) | with_reducible rfl | rfl
          simp only [Act.put, List.setIfInBounds_toArray, List.set_cons_zero, List.set_cons_succ]
          refine wpAnyH_take (i := 20) (oi := { dst := some 77, op := Op.move (Operand.tmp 76), type := 4, pos := "law.go:97", after := #[{ on := 19, ground := Ground.data }, { on := 17, ground := Ground.chain }], guard := none }) (v := ?va20) rfl (by kernel_rfl) (by kernel_rfl) (by kernel_rfl) (fun _ _ _ h => h) (Or.inl ⟨by rfl, ?hya20⟩) hHeld ?resta20
          case hya20 =>
            intro w hSw
            (try dsimp only at hSw)
            first | (go_simp; done) | (go_simp; with_reducible rfl) | with_reducible rfl | rfl
          simp only [Act.put, List.setIfInBounds_toArray, List.set_cons_zero, List.set_cons_succ]
          refine wpAnyH_take (i := 21) (oi := { dst := some 78, op := Op.load 28 (Operand.tmp 10), type := 28, pos := "law.go:97", after := #[{ on := 20, ground := Ground.guard }], guard := some (20, true) }) (v := ?va21) rfl (by kernel_rfl) (by kernel_rfl) (by kernel_rfl) (fun _ _ _ h => h) (Or.inl ⟨by rfl, ?hya21⟩) hHeld ?resta21
          case hya21 =>
            intro w hSw
            (try dsimp only at hSw)
            first | (go_simp; done) | (go_simp; with_reducible rfl) | with_reducible rfl | rfl
          simp only [Act.put, List.setIfInBounds_toArray, List.set_cons_zero, List.set_cons_succ]
          refine wpAnyH_ready (rs := [22]) (by kernel_rfl) (by simp) ?_
          refine AllReadyH.cons (o := { dst := some 79, op := Op.call { callee := Callee.value (Operand.func 13), args := #[Operand.tmp 78], argTypes := #[28] }, type := 3, pos := "law.go:97", after := #[{ on := 21, ground := Ground.data }, { on := 20, ground := Ground.chain }, { on := 20, ground := Ground.guard }], guard := some (20, true) }) rfl (fun K hK => ?_) AllReadyH.nil
          go_simp
          (go_at_call 13; refine (cSd _ aH3).mono ?_; rintro e aw4 ⟨rfl, ab4⟩; have aH4 := bt aH3 ab4; have as4 := keep16 ab4 as3)
          first | go_wp2 | skip
          refine hK.out _ _ ?_ (fun hHeld2 => ?_)
          · exact as4
          clear hK K hHeld
          have hHeld := hHeld2
          clear hHeld2
          refine wpAnyH_take (i := 23) (oi := { dst := some 80, op := Op.binOp BinOp.eql 3 (Operand.tmp 79) (Operand.const (Value.int IntKind.i64 0)) 3, type := 4, pos := "law.go:97", after := #[{ on := 22, ground := Ground.data }, { on := 20, ground := Ground.guard }], guard := some (20, true) }) (v := ?va23) rfl (by kernel_rfl) (by kernel_rfl) (by kernel_rfl) (fun _ _ _ h => h) (Or.inl ⟨by rfl, ?hya23⟩) hHeld ?resta23
          case hya23 =>
            intro w hSw
            (try dsimp only at hSw)
            first | (go_simp; done) | (go_simp; with_reducible rfl) | with_reducible rfl | rfl
          simp only [Act.put, List.setIfInBounds_toArray, List.set_cons_zero, List.set_cons_succ]
          refine wpAnyH_take (i := 24) (oi := { dst := some 81, op := Op.move (Operand.tmp 80), type := 4, pos := "law.go:97", after := #[{ on := 23, ground := Ground.data }, { on := 22, ground := Ground.chain }, { on := 20, ground := Ground.guard }], guard := some (20, true) }) (v := ?va24) rfl (by kernel_rfl) (by kernel_rfl) (by kernel_rfl) (fun _ _ _ h => h) (Or.inl ⟨by rfl, ?hya24⟩) hHeld ?resta24
          case hya24 =>
            intro w hSw
            (try dsimp only at hSw)
            first | (go_simp; done) | (go_simp; with_reducible rfl) | with_reducible rfl | rfl
          simp only [Act.put, List.setIfInBounds_toArray, List.set_cons_zero, List.set_cons_succ]
          refine wpAnyH_take (i := 25) (oi := { dst := some 82, op := Op.load 28 (Operand.tmp 10), type := 28, pos := "law.go:97", after := #[{ on := 24, ground := Ground.guard }], guard := some (24, false) }) (v := undef) rfl (by kernel_rfl) (by kernel_rfl) (by kernel_rfl) (fun _ _ _ h => h) (Or.inr ⟨by rfl, rfl⟩) hHeld ?resta25
          simp only [Act.put, List.setIfInBounds_toArray, List.set_cons_zero, List.set_cons_succ]
          refine wpAnyH_take (i := 26) (oi := { dst := some 83, op := Op.call { callee := Callee.value (Operand.func 13), args := #[Operand.tmp 82], argTypes := #[28] }, type := 3, pos := "law.go:97", after := #[{ on := 25, ground := Ground.data }, { on := 24, ground := Ground.chain }, { on := 24, ground := Ground.guard }], guard := some (24, false) }) (v := undef) rfl (by kernel_rfl) (by kernel_rfl) (by kernel_rfl) (fun _ _ _ h => h) (Or.inr ⟨by rfl, rfl⟩) hHeld ?resta26
          simp only [Act.put, List.setIfInBounds_toArray, List.set_cons_zero, List.set_cons_succ]
          refine wpAnyH_take (i := 27) (oi := { dst := some 84, op := Op.load 28 (Operand.tmp 5), type := 28, pos := "law.go:97", after := #[{ on := 24, ground := Ground.guard }], guard := some (24, false) }) (v := undef) rfl (by kernel_rfl) (by kernel_rfl) (by kernel_rfl) (fun _ _ _ h => h) (Or.inr ⟨by rfl, rfl⟩) hHeld ?resta27
          simp only [Act.put, List.setIfInBounds_toArray, List.set_cons_zero, List.set_cons_succ]
          refine wpAnyH_take (i := 28) (oi := { dst := some 85, op := Op.call { callee := Callee.value (Operand.func 13), args := #[Operand.tmp 84], argTypes := #[28] }, type := 3, pos := "law.go:97", after := #[{ on := 27, ground := Ground.data }, { on := 26, ground := Ground.chain }, { on := 24, ground := Ground.guard }], guard := some (24, false) }) (v := undef) rfl (by kernel_rfl) (by kernel_rfl) (by kernel_rfl) (fun _ _ _ h => h) (Or.inr ⟨by rfl, rfl⟩) hHeld ?resta28
          simp only [Act.put, List.setIfInBounds_toArray, List.set_cons_zero, List.set_cons_succ]
          refine wpAnyH_take (i := 29) (oi := { dst := some 86, op := Op.binOp BinOp.eql 3 (Operand.tmp 83) (Operand.tmp 85) 3, type := 4, pos := "law.go:97", after := #[{ on := 26, ground := Ground.data }, { on := 28, ground := Ground.data }, { on := 24, ground := Ground.guard }], guard := some (24, false) }) (v := undef) rfl (by kernel_rfl) (by kernel_rfl) (by kernel_rfl) (fun _ _ _ h => h) (Or.inr ⟨by rfl, rfl⟩) hHeld ?resta29
          simp only [Act.put, List.setIfInBounds_toArray, List.set_cons_zero, List.set_cons_succ]
          refine wpAnyH_take (i := 30) (oi := { dst := some 87, op := Op.pick (Operand.tmp 81) (Operand.const (Value.bool true)) (Operand.tmp 86), type := 4, pos := "law.go:97", after := #[{ on := 24, ground := Ground.data }, { on := 29, ground := Ground.data }, { on := 20, ground := Ground.guard }], guard := some (20, true) }) (v := ?va30) rfl (by kernel_rfl) (by kernel_rfl) (by kernel_rfl) (fun _ _ _ h => h) (Or.inl ⟨by rfl, ?hya30⟩) hHeld ?resta30
          case hya30 =>
            intro w hSw
            (try dsimp only at hSw)
            first | (go_simp; done) | (go_simp; with_reducible rfl) | with_reducible rfl | rfl
          simp only [Act.put, List.setIfInBounds_toArray, List.set_cons_zero, List.set_cons_succ]
          refine wpAnyH_take (i := 31) (oi := { dst := some 88, op := Op.pick (Operand.tmp 77) (Operand.tmp 87) (Operand.const (Value.bool false)), type := 4, pos := "law.go:97", after := #[{ on := 20, ground := Ground.data }, { on := 30, ground := Ground.data }], guard := none }) (v := ?va31) rfl (by kernel_rfl) (by kernel_rfl) (by kernel_rfl) (fun _ _ _ h => h) (Or.inl ⟨by rfl, ?hya31⟩) hHeld ?resta31
          case hya31 =>
            intro w hSw
            (try dsimp only at hSw)
            first | (go_simp; done) | (go_simp; with_reducible rfl) | with_reducible rfl | rfl
          simp only [Act.put, List.setIfInBounds_toArray, List.set_cons_zero, List.set_cons_succ]
          refine wpAnyH_take (i := 32) (oi := { dst := some 89, op := Op.move (Operand.tmp 88), type := 4, pos := "law.go:97", after := #[{ on := 31, ground := Ground.data }, { on := 28, ground := Ground.chain }], guard := none }) (v := ?va32) rfl (by kernel_rfl) (by kernel_rfl) (by kernel_rfl) (fun _ _ _ h => h) (Or.inl ⟨by rfl, ?hya32⟩) hHeld ?resta32
          case hya32 =>
            intro w hSw
            (try dsimp only at hSw)
            first | (go_simp; done) | (go_simp; with_reducible rfl) | with_reducible rfl | rfl
          simp only [Act.put, List.setIfInBounds_toArray, List.set_cons_zero, List.set_cons_succ]
          refine wpAnyH_ready (rs := [33]) (by kernel_rfl) (by simp) ?_
          refine AllReadyH.cons (o := { dst := some 90, op := Op.call { callee := Callee.value (Operand.func 16), args := #[Operand.const (Value.int IntKind.i64 0)], argTypes := #[3] }, type := 31, pos := "law.go:97", after := #[{ on := 32, ground := Ground.chain }, { on := 32, ground := Ground.guard }], guard := some (32, true) }) rfl (fun K hK => ?_) AllReadyH.nil
          go_simp
          (go_at_call 16; refine (cI _).mono ?_; rintro e aw5 ⟨av5, rfl, aR5, ab5⟩; have aH5 := bt aH4 ab5; have as5 := keep16 ab5 as4)
          first | go_wp2 | skip
          refine hK.out _ _ ?_ (fun hHeld2 => ?_)
          · exact as5
          clear hK K hHeld
          have hHeld := hHeld2
          clear hHeld2
          refine wpAnyH_ready (rs := [34]) (by kernel_rfl) (by simp) ?_
          refine AllReadyH.cons (o := { dst := some 91, op := Op.call { callee := Callee.value (Operand.func 15), args := #[Operand.tmp 90], argTypes := #[31] }, type := 3, pos := "law.go:97", after := #[{ on := 33, ground := Ground.data }, { on := 33, ground := Ground.chain }, { on := 32, ground := Ground.guard }], guard := some (32, true) }) rfl (fun K hK => ?_) AllReadyH.nil
          go_simp
          (go_at_call 15; refine (cZ _ _ aR5).mono ?_; rintro e aw6 ⟨rfl, ab6⟩; have aH6 := bt aH5 ab6; have as6 := keep16 ab6 as5)
          first | go_wp2 | skip
          refine hK.out _ _ ?_ (fun hHeld2 => ?_)
          · exact as6
          clear hK K hHeld
          have hHeld := hHeld2
          clear hHeld2
          refine wpAnyH_take (i := 35) (oi := { dst := some 92, op := Op.binOp BinOp.eql 3 (Operand.tmp 91) (Operand.const (Value.int IntKind.i64 0)) 3, type := 4, pos := "law.go:97", after := #[{ on := 34, ground := Ground.data }, { on := 32, ground := Ground.guard }], guard := some (32, true) }) (v := ?va35) rfl (by kernel_rfl) (by kernel_rfl) (by kernel_rfl) (fun _ _ _ h => h) (Or.inl ⟨by rfl, ?hya35⟩) hHeld ?resta35
          case hya35 =>
            intro w hSw
            (try dsimp only at hSw)
            first | (go_simp; done) | (go_simp; with_reducible rfl) | with_reducible rfl | rfl
          simp only [Act.put, List.setIfInBounds_toArray, List.set_cons_zero, List.set_cons_succ]
          refine wpAnyH_take (i := 36) (oi := { dst := some 93, op := Op.pick (Operand.tmp 89) (Operand.tmp 92) (Operand.const (Value.bool false)), type := 4, pos := "law.go:97", after := #[{ on := 32, ground := Ground.data }, { on := 35, ground := Ground.data }], guard := none }) (v := ?va36) rfl (by kernel_rfl) (by kernel_rfl) (by kernel_rfl) (fun _ _ _ h => h) (Or.inl ⟨by rfl, ?hya36⟩) hHeld ?resta36
          case hya36 =>
            intro w hSw
            (try dsimp only at hSw)
            first | (go_simp; done) | (go_simp; with_reducible rfl) | with_reducible rfl | rfl
          simp only [Act.put, List.setIfInBounds_toArray, List.set_cons_zero, List.set_cons_succ]
          refine wpAnyH_take (i := 37) (oi := { dst := some 4, op := Op.assign (Operand.tmp 93), type := 4, pos := "law.go:97", after := #[{ on := 36, ground := Ground.data }, { on := 34, ground := Ground.chain }, { on := 0, ground := Ground.phase }, { on := 1, ground := Ground.phase }, { on := 2, ground := Ground.phase }, { on := 3, ground := Ground.phase }, { on := 4, ground := Ground.phase }, { on := 5, ground := Ground.phase }, { on := 6, ground := Ground.phase }, { on := 7, ground := Ground.phase }, { on := 8, ground := Ground.phase }, { on := 9, ground := Ground.phase }, { on := 10, ground := Ground.phase }, { on := 11, ground := Ground.phase }, { on := 12, ground := Ground.phase }, { on := 13, ground := Ground.phase }, { on := 14, ground := Ground.phase }, { on := 15, ground := Ground.phase }, { on := 16, ground := Ground.phase }, { on := 17, ground := Ground.phase }, { on := 18, ground := Ground.phase }, { on := 19, ground := Ground.phase }, { on := 20, ground := Ground.phase }, { on := 21, ground := Ground.phase }, { on := 22, ground := Ground.phase }, { on := 23, ground := Ground.phase }, { on := 24, ground := Ground.phase }, { on := 25, ground := Ground.phase }, { on := 26, ground := Ground.phase }, { on := 27, ground := Ground.phase }, { on := 28, ground := Ground.phase }, { on := 29, ground := Ground.phase }, { on := 30, ground := Ground.phase }, { on := 31, ground := Ground.phase }, { on := 32, ground := Ground.phase }, { on := 33, ground := Ground.phase }, { on := 34, ground := Ground.phase }, { on := 35, ground := Ground.phase }, { on := 36, ground := Ground.phase }], guard := none }) (v := ?va37) rfl (by kernel_rfl) (by kernel_rfl) (by kernel_rfl) (fun _ _ _ h => h) (Or.inl ⟨by rfl, ?hya37⟩) hHeld ?resta37
          case hya37 =>
            intro w hSw
            (try dsimp only at hSw)
            first | (go_simp; done) | (go_simp; with_reducible rfl) | with_reducible rfl | rfl
          simp only [Act.put, List.setIfInBounds_toArray, List.set_cons_zero, List.set_cons_succ]
          refine wpAnyH_done (by kernel_rfl) ?_ _
          go_wp2
          go_ret
          exact ⟨rfl, bt hwc.out aH6⟩
        · have Tb1 : True := trivial
          have Tb3 : True := trivial
          have Tb4 : True := trivial
          go_region_held3 (fun w' => w'.cell? ⟨go, 0, none⟩ = some (.bool ob) ∧ w'.cell? ⟨go, 1, none⟩ = some (.int .u64 oA) ∧ w'.cell? ⟨go, 2, none⟩ = some (.int .u64 oL) ∧ w'.cell? ⟨go, 3, none⟩ = some (.pointer op) ∧ w'.cell? ⟨gu, 0, none⟩ = some (.bool yb) ∧ w'.cell? ⟨gu, 1, none⟩ = some (.int .u64 yA) ∧ w'.cell? ⟨gu, 2, none⟩ = some (.int .u64 yL) ∧ w'.cell? ⟨gu, 3, none⟩ = some (.pointer yp) ∧ w'.cell? ⟨gd, 0, none⟩ = some (.bool db) ∧ w'.cell? ⟨gd, 1, none⟩ = some (.int .u64 dA) ∧ w'.cell? ⟨gd, 2, none⟩ = some (.int .u64 dL) ∧ w'.cell? ⟨gd, 3, none⟩ = some (.pointer dp) ∧ w'.cell? ⟨g0x, 0, none⟩ = some (.bool xb) ∧ w'.cell? ⟨g0x, 1, none⟩ = some (.int .u64 xA) ∧ w'.cell? ⟨g0x, 2, none⟩ = some (.int .u64 xL) ∧ w'.cell? ⟨g0x, 3, none⟩ = some (.pointer xp)) (first | with_reducible exact s0' | with_reducible exact sb0 | with_reducible exact sb1 | with_reducible exact sb2 | with_reducible exact sb3 | with_reducible exact sb4 | with_reducible exact sb5 | with_reducible exact sb6 | with_reducible exact sb7) (first
            | (go_at_call 12; refine (awake6 _ (hm5 H0)).mono ?_; rintro e wb0 ⟨rfl, hbb0⟩; have Hb0 := bt H0 hbb0; have sb0 := keep16 hbb0 s0')
            | (go_at_call 13; have _t := Tb1; clear _t Tb1; refine (cSo _ Hb0).mono ?_; rintro e wb1 ⟨rfl, hbb1⟩; have Hb1 := bt Hb0 hbb1; have sb1 := keep16 hbb1 sb0)
            | (go_at_call 14; refine (cC _ Hb1).mono ?_; rintro e wb2 ⟨rfl, hbb2⟩; have Hb2 := bt Hb1 hbb2; have sb2 := keep16 hbb2 sb1)
            | (go_at_call 13; have _t := Tb3; clear _t Tb3; refine (cSd _ Hb2).mono ?_; rintro e wb3 ⟨rfl, hbb3⟩; have Hb3 := bt Hb2 hbb3; have sb3 := keep16 hbb3 sb2)
            | (go_at_call 13; have _t := Tb4; clear _t Tb4; refine (cSd _ Hb3).mono ?_; rintro e wb4 ⟨rfl, hbb4⟩; have Hb4 := bt Hb3 hbb4; have sb4 := keep16 hbb4 sb3)
            | (go_at_call 13; refine (cSx _ Hb4).mono ?_; rintro e wb5 ⟨rfl, hbb5⟩; have Hb5 := bt Hb4 hbb5; have sb5 := keep16 hbb5 sb4)
            | (go_at_call 16; refine (cI _).mono ?_; rintro e wb6 ⟨vb6, rfl, Rb6, hbb6⟩; have Hb6 := bt Hb5 hbb6; have sb6 := keep16 hbb6 sb5)
            | (go_at_call 15; refine (cZ _ _ Rb6).mono ?_; rintro e wb7 ⟨rfl, hbb7⟩; have Hb7 := bt Hb6 hbb7; have sb7 := keep16 hbb7 sb6))
          all_goals go_wp2
          all_goals go_ret
          all_goals exact ⟨rfl, bt hwc.out Hb7⟩
        · have Tc1 : True := trivial
          have Tc3 : True := trivial
          have Tc4 : True := trivial
          go_region_held3 (fun w' => w'.cell? ⟨go, 0, none⟩ = some (.bool ob) ∧ w'.cell? ⟨go, 1, none⟩ = some (.int .u64 oA) ∧ w'.cell? ⟨go, 2, none⟩ = some (.int .u64 oL) ∧ w'.cell? ⟨go, 3, none⟩ = some (.pointer op) ∧ w'.cell? ⟨gu, 0, none⟩ = some (.bool yb) ∧ w'.cell? ⟨gu, 1, none⟩ = some (.int .u64 yA) ∧ w'.cell? ⟨gu, 2, none⟩ = some (.int .u64 yL) ∧ w'.cell? ⟨gu, 3, none⟩ = some (.pointer yp) ∧ w'.cell? ⟨gd, 0, none⟩ = some (.bool db) ∧ w'.cell? ⟨gd, 1, none⟩ = some (.int .u64 dA) ∧ w'.cell? ⟨gd, 2, none⟩ = some (.int .u64 dL) ∧ w'.cell? ⟨gd, 3, none⟩ = some (.pointer dp) ∧ w'.cell? ⟨g0x, 0, none⟩ = some (.bool xb) ∧ w'.cell? ⟨g0x, 1, none⟩ = some (.int .u64 xA) ∧ w'.cell? ⟨g0x, 2, none⟩ = some (.int .u64 xL) ∧ w'.cell? ⟨g0x, 3, none⟩ = some (.pointer xp)) (first | with_reducible exact s0' | with_reducible exact sc0 | with_reducible exact sc1 | with_reducible exact sc2 | with_reducible exact sc3 | with_reducible exact sc4 | with_reducible exact sc5 | with_reducible exact sc6 | with_reducible exact sc7) (first
            | (go_at_call 12; refine (awake6 _ (hm5 H0)).mono ?_; rintro e wc0 ⟨rfl, hbc0⟩; have Hc0 := bt H0 hbc0; have sc0 := keep16 hbc0 s0')
            | (go_at_call 13; have _t := Tc1; clear _t Tc1; refine (cSo _ Hc0).mono ?_; rintro e wc1 ⟨rfl, hbc1⟩; have Hc1 := bt Hc0 hbc1; have sc1 := keep16 hbc1 sc0)
            | (go_at_call 14; refine (cC _ Hc1).mono ?_; rintro e wc2 ⟨rfl, hbc2⟩; have Hc2 := bt Hc1 hbc2; have sc2 := keep16 hbc2 sc1)
            | (go_at_call 13; have _t := Tc3; clear _t Tc3; refine (cSd _ Hc2).mono ?_; rintro e wc3 ⟨rfl, hbc3⟩; have Hc3 := bt Hc2 hbc3; have sc3 := keep16 hbc3 sc2)
            | (go_at_call 13; have _t := Tc4; clear _t Tc4; refine (cSd _ Hc3).mono ?_; rintro e wc4 ⟨rfl, hbc4⟩; have Hc4 := bt Hc3 hbc4; have sc4 := keep16 hbc4 sc3)
            | (go_at_call 13; refine (cSx _ Hc4).mono ?_; rintro e wc5 ⟨rfl, hbc5⟩; have Hc5 := bt Hc4 hbc5; have sc5 := keep16 hbc5 sc4)
            | (go_at_call 16; refine (cI _).mono ?_; rintro e wc6 ⟨vc6, rfl, Rc6, hbc6⟩; have Hc6 := bt Hc5 hbc6; have sc6 := keep16 hbc6 sc5)
            | (go_at_call 15; refine (cZ _ _ Rc6).mono ?_; rintro e wc7 ⟨rfl, hbc7⟩; have Hc7 := bt Hc6 hbc7; have sc7 := keep16 hbc7 sc6))
          all_goals go_wp2
          all_goals go_ret
          all_goals exact ⟨rfl, bt hwc.out Hc7⟩
        · skip
          refine wp_region_held_drew (S := (fun w' => w'.cell? ⟨go, 0, none⟩ = some (.bool ob) ∧ w'.cell? ⟨go, 1, none⟩ = some (.int .u64 oA) ∧ w'.cell? ⟨go, 2, none⟩ = some (.int .u64 oL) ∧ w'.cell? ⟨go, 3, none⟩ = some (.pointer op) ∧ w'.cell? ⟨gu, 0, none⟩ = some (.bool yb) ∧ w'.cell? ⟨gu, 1, none⟩ = some (.int .u64 yA) ∧ w'.cell? ⟨gu, 2, none⟩ = some (.int .u64 yL) ∧ w'.cell? ⟨gu, 3, none⟩ = some (.pointer yp) ∧ w'.cell? ⟨gd, 0, none⟩ = some (.bool db) ∧ w'.cell? ⟨gd, 1, none⟩ = some (.int .u64 dA) ∧ w'.cell? ⟨gd, 2, none⟩ = some (.int .u64 dL) ∧ w'.cell? ⟨gd, 3, none⟩ = some (.pointer dp) ∧ w'.cell? ⟨g0x, 0, none⟩ = some (.bool xb) ∧ w'.cell? ⟨g0x, 1, none⟩ = some (.int .u64 xA) ∧ w'.cell? ⟨g0x, 2, none⟩ = some (.int .u64 xL) ∧ w'.cell? ⟨g0x, 3, none⟩ = some (.pointer xp))) (by kernel_rfl) ?_ (fun hHeld => ?_)
          · exact s0'
          refine wpAnyH_ready (rs := [0]) (by kernel_rfl) (by simp) ?_
          refine AllReadyH.cons (o := { dst := some 57, op := Op.call { callee := Callee.value (Operand.func 12), args := #[], argTypes := #[] }, type := 4, pos := "law.go:97", after := #[], guard := none }) rfl (fun K hK => ?_) AllReadyH.nil
          go_simp
          (go_at_call 12; refine (awake6 _ (hm5 H0)).mono ?_; rintro e dw1 ⟨rfl, db1⟩; have dH1 := bt H0 db1; have ds1 := keep16 db1 s0')
          first | go_wp2 | skip
          refine hK.out _ _ ?_ (fun hHeld2 => ?_)
          · exact ds1
          clear hK K hHeld
          have hHeld := hHeld2
          clear hHeld2
          refine wpAnyH_take (i := 1) (oi := { dst := some 58, op := Op.move (Operand.tmp 57), type := 4, pos := "law.go:97", after := #[{ on := 0, ground := Ground.data }, { on := 0, ground := Ground.chain }], guard := none }) (v := ?vd1) rfl (by kernel_rfl) (by kernel_rfl) (by kernel_rfl) (fun _ _ _ h => h) (Or.inl ⟨by rfl, ?hyd1⟩) hHeld ?restd1
          case hyd1 =>
            intro w hSw
            (try dsimp only at hSw)
            first | (go_simp; done) | (go_simp; with_reducible rfl) | with_reducible rfl | rfl
          simp only [Act.put, List.setIfInBounds_toArray, List.set_cons_zero, List.set_cons_succ]
          refine wpAnyH_take (i := 2) (oi := { dst := some 59, op := Op.move (Operand.tmp 9), type := 34, pos := "law.go:97", after := #[{ on := 1, ground := Ground.guard }], guard := some (1, true) }) (v := ?vd2) rfl (by kernel_rfl) (by kernel_rfl) (by kernel_rfl) (fun _ _ _ h => h) (Or.inl ⟨by rfl, ?hyd2⟩) hHeld ?restd2
          case hyd2 =>
            intro w hSw
            (try dsimp only at hSw)
            first | (go_simp; done) | (go_simp; with_reducible rfl) | with_reducible rfl | rfl
          simp only [Act.put, List.setIfInBounds_toArray, List.set_cons_zero, List.set_cons_succ]
          refine wpAnyH_take (i := 3) (oi := { dst := some 60, op := Op.binOp BinOp.eql 34 (Operand.tmp 59) (Operand.const (Value.int IntKind.i64 0)) 34, type := 4, pos := "law.go:97", after := #[{ on := 2, ground := Ground.data }, { on := 1, ground := Ground.guard }], guard := some (1, true) }) (v := ?vd3) rfl (by kernel_rfl) (by kernel_rfl) (by kernel_rfl) (fun _ _ _ h => h) (Or.inl ⟨by rfl, ?hyd3⟩) hHeld ?restd3
          case hyd3 =>
            intro w hSw
            (try dsimp only at hSw)
            first | (go_simp; done) | (go_simp; with_reducible rfl) | with_reducible rfl | rfl
          simp only [Act.put, List.setIfInBounds_toArray, List.set_cons_zero, List.set_cons_succ]
          refine wpAnyH_take (i := 4) (oi := { dst := some 61, op := Op.pick (Operand.tmp 58) (Operand.tmp 60) (Operand.const (Value.bool false)), type := 4, pos := "law.go:97", after := #[{ on := 1, ground := Ground.data }, { on := 3, ground := Ground.data }], guard := none }) (v := ?vd4) rfl (by kernel_rfl) (by kernel_rfl) (by kernel_rfl) (fun _ _ _ h => h) (Or.inl ⟨by rfl, ?hyd4⟩) hHeld ?restd4
          case hyd4 =>
            intro w hSw
            (try dsimp only at hSw)
            first | (go_simp; done) | (go_simp; with_reducible rfl) | with_reducible rfl | rfl
          simp only [Act.put, List.setIfInBounds_toArray, List.set_cons_zero, List.set_cons_succ]
          refine wpAnyH_take (i := 5) (oi := { dst := some 62, op := Op.move (Operand.tmp 61), type := 4, pos := "law.go:97", after := #[{ on := 4, ground := Ground.data }, { on := 1, ground := Ground.chain }], guard := none }) (v := ?vd5) rfl (by kernel_rfl) (by kernel_rfl) (by kernel_rfl) (fun _ _ _ h => h) (Or.inl ⟨by rfl, ?hyd5⟩) hHeld ?restd5
          case hyd5 =>
            intro w hSw
            (try dsimp only at hSw)
            first | (go_simp; done) | (go_simp; with_reducible rfl) | with_reducible rfl | rfl
          simp only [Act.put, List.setIfInBounds_toArray, List.set_cons_zero, List.set_cons_succ]
          refine wpAnyH_take (i := 6) (oi := { dst := some 63, op := Op.move (Operand.tmp 11), type := 34, pos := "law.go:97", after := #[{ on := 5, ground := Ground.guard }], guard := some (5, true) }) (v := ?vd6) rfl (by kernel_rfl) (by kernel_rfl) (by kernel_rfl) (fun _ _ _ h => h) (Or.inl ⟨by rfl, ?hyd6⟩) hHeld ?restd6
          case hyd6 =>
            intro w hSw
            (try dsimp only at hSw)
            first | (go_simp; done) | (go_simp; with_reducible rfl) | with_reducible rfl | rfl
          simp only [Act.put, List.setIfInBounds_toArray, List.set_cons_zero, List.set_cons_succ]
          refine wpAnyH_take (i := 7) (oi := { dst := some 64, op := Op.binOp BinOp.eql 34 (Operand.tmp 63) (Operand.const (Value.int IntKind.i64 0)) 34, type := 4, pos := "law.go:97", after := #[{ on := 6, ground := Ground.data }, { on := 5, ground := Ground.guard }], guard := some (5, true) }) (v := ?vd7) rfl (by kernel_rfl) (by kernel_rfl) (by kernel_rfl) (fun _ _ _ h => h) (Or.inl ⟨by rfl, ?hyd7⟩) hHeld ?restd7
          case hyd7 =>
            intro w hSw
            (try dsimp only at hSw)
            first | (go_simp; done) | (go_simp; with_reducible rfl) | with_reducible rfl | rfl
          simp only [Act.put, List.setIfInBounds_toArray, List.set_cons_zero, List.set_cons_succ]
          refine wpAnyH_take (i := 8) (oi := { dst := some 65, op := Op.pick (Operand.tmp 62) (Operand.tmp 64) (Operand.const (Value.bool false)), type := 4, pos := "law.go:97", after := #[{ on := 5, ground := Ground.data }, { on := 7, ground := Ground.data }], guard := none }) (v := ?vd8) rfl (by kernel_rfl) (by kernel_rfl) (by kernel_rfl) (fun _ _ _ h => h) (Or.inl ⟨by rfl, ?hyd8⟩) hHeld ?restd8
          case hyd8 =>
            intro w hSw
            (try dsimp only at hSw)
            first | (go_simp; done) | (go_simp; with_reducible rfl) | with_reducible rfl | rfl
          simp only [Act.put, List.setIfInBounds_toArray, List.set_cons_zero, List.set_cons_succ]
          refine wpAnyH_take (i := 9) (oi := { dst := some 66, op := Op.move (Operand.tmp 65), type := 4, pos := "law.go:97", after := #[{ on := 8, ground := Ground.data }, { on := 5, ground := Ground.chain }], guard := none }) (v := ?vd9) rfl (by kernel_rfl) (by kernel_rfl) (by kernel_rfl) (fun _ _ _ h => h) (Or.inl ⟨by rfl, ?hyd9⟩) hHeld ?restd9
          case hyd9 =>
            intro w hSw
            (try dsimp only at hSw)
            first | (go_simp; done) | (go_simp; with_reducible rfl) | with_reducible rfl | rfl
          simp only [Act.put, List.setIfInBounds_toArray, List.set_cons_zero, List.set_cons_succ]
          refine wpAnyH_take (i := 10) (oi := { dst := some 67, op := Op.load 28 (Operand.tmp 16), type := 28, pos := "law.go:97", after := #[{ on := 9, ground := Ground.guard }], guard := some (9, true) }) (v := ?vd10) rfl (by kernel_rfl) (by kernel_rfl) (by kernel_rfl) (fun _ _ _ h => h) (Or.inl ⟨by rfl, ?hyd10⟩) hHeld ?restd10
          case hyd10 =>
            intro w hSw
            (try dsimp only at hSw)
            first | (go_simp; done) | (go_simp; with_reducible rfl) | with_reducible rfl | rfl
          simp only [Act.put, List.setIfInBounds_toArray, List.set_cons_zero, List.set_cons_succ]
          refine wpAnyH_ready (rs := [11]) (by kernel_rfl) (by simp) ?_
          refine AllReadyH.cons (o := { dst := some 68, op := Op.call { callee := Callee.value (Operand.func 13), args := #[Operand.tmp 67], argTypes := #[28] }, type := 3, pos := "law.go:97", after := #[{ on := 10, ground := Ground.data }, { on := 9, ground := Ground.chain }, { on := 9, ground := Ground.guard }], guard := some (9, true) }) rfl (fun K hK => ?_) AllReadyH.nil
          go_simp
          (go_at_call 13; refine (cSo _ dH1).mono ?_; rintro e dw2 ⟨rfl, db2⟩; have dH2 := bt dH1 db2; have ds2 := keep16 db2 ds1)
          first | go_wp2 | skip
          refine hK.out _ _ ?_ (fun hHeld2 => ?_)
          · exact ds2
          clear hK K hHeld
          have hHeld := hHeld2
          clear hHeld2
          refine wpAnyH_take (i := 12) (oi := { dst := some 69, op := Op.binOp BinOp.geq 3 (Operand.tmp 68) (Operand.const (Value.int IntKind.i64 0)) 3, type := 4, pos := "law.go:97", after := #[{ on := 11, ground := Ground.data }, { on := 9, ground := Ground.guard }], guard := some (9, true) }) (v := ?vd12) rfl (by kernel_rfl) (by kernel_rfl) (by kernel_rfl) (fun _ _ _ h => h) (Or.inl ⟨by rfl, ?hyd12⟩) hHeld ?restd12
          case hyd12 =>
            intro w hSw
            (try dsimp only at hSw)
            first | (go_simp; done) | (go_simp; with_reducible rfl) | with_reducible rfl | rfl
          simp only [Act.put, List.setIfInBounds_toArray, List.set_cons_zero, List.set_cons_succ]
          refine wpAnyH_take (i := 13) (oi := { dst := some 70, op := Op.pick (Operand.tmp 66) (Operand.tmp 69) (Operand.const (Value.bool false)), type := 4, pos := "law.go:97", after := #[{ on := 9, ground := Ground.data }, { on := 12, ground := Ground.data }], guard := none }) (v := ?vd13) rfl (by kernel_rfl) (by kernel_rfl) (by kernel_rfl) (fun _ _ _ h => h) (Or.inl ⟨by rfl, ?hyd13⟩) hHeld ?restd13
          case hyd13 =>
            intro w hSw
            (try dsimp only at hSw)
            first | (go_simp; done) | (go_simp; with_reducible rfl) | with_reducible rfl | rfl
          simp only [Act.put, List.setIfInBounds_toArray, List.set_cons_zero, List.set_cons_succ]
          refine wpAnyH_take (i := 14) (oi := { dst := some 71, op := Op.move (Operand.tmp 70), type := 4, pos := "law.go:97", after := #[{ on := 13, ground := Ground.data }, { on := 11, ground := Ground.chain }], guard := none }) (v := ?vd14) rfl (by kernel_rfl) (by kernel_rfl) (by kernel_rfl) (fun _ _ _ h => h) (Or.inl ⟨by rfl, ?hyd14⟩) hHeld ?restd14
          case hyd14 =>
            intro w hSw
            (try dsimp only at hSw)
            first | (go_simp; done) | (go_simp; with_reducible rfl) | with_reducible rfl | rfl
          simp only [Act.put, List.setIfInBounds_toArray, List.set_cons_zero, List.set_cons_succ]
          refine wpAnyH_take (i := 15) (oi := { dst := some 72, op := Op.load 28 (Operand.tmp 16), type := 28, pos := "law.go:97", after := #[{ on := 14, ground := Ground.guard }], guard := some (14, true) }) (v := ?vd15) rfl (by kernel_rfl) (by kernel_rfl) (by kernel_rfl) (fun _ _ _ h => h) (Or.inl ⟨by rfl, ?hyd15⟩) hHeld ?restd15
          case hyd15 =>
            intro w hSw
            (try dsimp only at hSw)
            first | (go_simp; done) | (go_simp; with_reducible rfl) | with_reducible rfl | rfl
          simp only [Act.put, List.setIfInBounds_toArray, List.set_cons_zero, List.set_cons_succ]
          refine wpAnyH_take (i := 16) (oi := { dst := some 73, op := Op.load 28 (Operand.tmp 12), type := 28, pos := "law.go:97", after := #[{ on := 14, ground := Ground.guard }], guard := some (14, true) }) (v := ?vd16) rfl (by kernel_rfl) (by kernel_rfl) (by kernel_rfl) (fun _ _ _ h => h) (Or.inl ⟨by rfl, ?hyd16⟩) hHeld ?restd16
          case hyd16 =>
            intro w hSw
            (try dsimp only at hSw)
            first | (go_simp; done) | (go_simp; with_reducible rfl) | with_reducible rfl | rfl
          simp only [Act.put, List.setIfInBounds_toArray, List.set_cons_zero, List.set_cons_succ]
          refine wpAnyH_ready (rs := [17]) (by kernel_rfl) (by simp) ?_
          refine AllReadyH.cons (o := { dst := some 74, op := Op.call { callee := Callee.value (Operand.func 14), args := #[Operand.tmp 72, Operand.tmp 73], argTypes := #[28, 28] }, type := 3, pos := "law.go:97", after := #[{ on := 15, ground := Ground.data }, { on := 16, ground := Ground.data }, { on := 14, ground := Ground.chain }, { on := 14, ground := Ground.guard }], guard := some (14, true) }) rfl (fun K hK => ?_) AllReadyH.nil
          go_simp
          (go_at_call 14; refine (cC _ dH2).mono ?_; rintro e dw3 ⟨rfl, db3⟩; have dH3 := bt dH2 db3; have ds3 := keep16 db3 ds2)
          first | go_wp2 | skip
          refine hK.out _ _ ?_ (fun hHeld2 => ?_)
          · exact ds3
          clear hK K hHeld
          have hHeld := hHeld2
          clear hHeld2
          refine wpAnyH_take (i := 18) (oi := { dst := some 75, op := Op.binOp BinOp.lss 3 (Operand.tmp 74) (Operand.const (Value.int IntKind.i64 0)) 3, type := 4, pos := "law.go:97", after := #[{ on := 17, ground := Ground.data }, { on := 14, ground := Ground.guard }], guard := some (14, true) }) (v := ?vd18) rfl (by kernel_rfl) (by kernel_rfl) (by kernel_rfl) (fun _ _ _ h => h) (Or.inl ⟨by rfl, ?hyd18⟩) hHeld ?restd18
          case hyd18 =>
            intro w hSw
            (try dsimp only at hSw)
            first | (go_simp; done) | (go_simp; with_reducible rfl) | with_reducible rfl | rfl
          simp only [Act.put, List.setIfInBounds_toArray, List.set_cons_zero, List.set_cons_succ]
          refine wpAnyH_take (i := 19) (oi := { dst := some 76, op := Op.pick (Operand.tmp 71) (Operand.tmp 75) (Operand.const (Value.bool false)), type := 4, pos := "law.go:97", after := #[{ on := 14, ground := Ground.data }, { on := 18, ground := Ground.data }], guard := none }) (v := ?vd19) rfl (by kernel_rfl) (by kernel_rfl) (by kernel_rfl) (fun _ _ _ h => h) (Or.inl ⟨by rfl, ?hyd19⟩) hHeld ?restd19
          case hyd19 =>
            intro w hSw
            (try dsimp only at hSw)
            first | (go_simp; done) | (go_simp; with_reducible rfl) | with_reducible rfl | rfl
          simp only [Act.put, List.setIfInBounds_toArray, List.set_cons_zero, List.set_cons_succ]
          refine wpAnyH_take (i := 20) (oi := { dst := some 77, op := Op.move (Operand.tmp 76), type := 4, pos := "law.go:97", after := #[{ on := 19, ground := Ground.data }, { on := 17, ground := Ground.chain }], guard := none }) (v := ?vd20) rfl (by kernel_rfl) (by kernel_rfl) (by kernel_rfl) (fun _ _ _ h => h) (Or.inl ⟨by rfl, ?hyd20⟩) hHeld ?restd20
          case hyd20 =>
            intro w hSw
            (try dsimp only at hSw)
            first | (go_simp; done) | (go_simp; with_reducible rfl) | with_reducible rfl | rfl
          simp only [Act.put, List.setIfInBounds_toArray, List.set_cons_zero, List.set_cons_succ]
          refine wpAnyH_take (i := 21) (oi := { dst := some 78, op := Op.load 28 (Operand.tmp 10), type := 28, pos := "law.go:97", after := #[{ on := 20, ground := Ground.guard }], guard := some (20, true) }) (v := ?vd21) rfl (by kernel_rfl) (by kernel_rfl) (by kernel_rfl) (fun _ _ _ h => h) (Or.inl ⟨by rfl, ?hyd21⟩) hHeld ?restd21
          case hyd21 =>
            intro w hSw
            (try dsimp only at hSw)
            first | (go_simp; done) | (go_simp; with_reducible rfl) | with_reducible rfl | rfl
          simp only [Act.put, List.setIfInBounds_toArray, List.set_cons_zero, List.set_cons_succ]
          refine wpAnyH_ready (rs := [22]) (by kernel_rfl) (by simp) ?_
          refine AllReadyH.cons (o := { dst := some 79, op := Op.call { callee := Callee.value (Operand.func 13), args := #[Operand.tmp 78], argTypes := #[28] }, type := 3, pos := "law.go:97", after := #[{ on := 21, ground := Ground.data }, { on := 20, ground := Ground.chain }, { on := 20, ground := Ground.guard }], guard := some (20, true) }) rfl (fun K hK => ?_) AllReadyH.nil
          go_simp
          (go_at_call 13; refine (cSd _ dH3).mono ?_; rintro e dw4 ⟨rfl, db4⟩; have dH4 := bt dH3 db4; have ds4 := keep16 db4 ds3)
          first | go_wp2 | skip
          refine hK.out _ _ ?_ (fun hHeld2 => ?_)
          · exact ds4
          clear hK K hHeld
          have hHeld := hHeld2
          clear hHeld2
          refine wpAnyH_take (i := 23) (oi := { dst := some 80, op := Op.binOp BinOp.eql 3 (Operand.tmp 79) (Operand.const (Value.int IntKind.i64 0)) 3, type := 4, pos := "law.go:97", after := #[{ on := 22, ground := Ground.data }, { on := 20, ground := Ground.guard }], guard := some (20, true) }) (v := ?vd23) rfl (by kernel_rfl) (by kernel_rfl) (by kernel_rfl) (fun _ _ _ h => h) (Or.inl ⟨by rfl, ?hyd23⟩) hHeld ?restd23
          case hyd23 =>
            intro w hSw
            (try dsimp only at hSw)
            first | (go_simp; done) | (go_simp; with_reducible rfl) | with_reducible rfl | rfl
          simp only [Act.put, List.setIfInBounds_toArray, List.set_cons_zero, List.set_cons_succ]
          refine wpAnyH_take (i := 24) (oi := { dst := some 81, op := Op.move (Operand.tmp 80), type := 4, pos := "law.go:97", after := #[{ on := 23, ground := Ground.data }, { on := 22, ground := Ground.chain }, { on := 20, ground := Ground.guard }], guard := some (20, true) }) (v := ?vd24) rfl (by kernel_rfl) (by kernel_rfl) (by kernel_rfl) (fun _ _ _ h => h) (Or.inl ⟨by rfl, ?hyd24⟩) hHeld ?restd24
          case hyd24 =>
            intro w hSw
            (try dsimp only at hSw)
            first | (go_simp; done) | (go_simp; with_reducible rfl) | with_reducible rfl | rfl
          simp only [Act.put, List.setIfInBounds_toArray, List.set_cons_zero, List.set_cons_succ]
          refine wpAnyH_take (i := 25) (oi := { dst := some 82, op := Op.load 28 (Operand.tmp 10), type := 28, pos := "law.go:97", after := #[{ on := 24, ground := Ground.guard }], guard := some (24, false) }) (v := undef) rfl (by kernel_rfl) (by kernel_rfl) (by kernel_rfl) (fun _ _ _ h => h) (Or.inr ⟨by rfl, rfl⟩) hHeld ?restd25
          simp only [Act.put, List.setIfInBounds_toArray, List.set_cons_zero, List.set_cons_succ]
          refine wpAnyH_take (i := 26) (oi := { dst := some 83, op := Op.call { callee := Callee.value (Operand.func 13), args := #[Operand.tmp 82], argTypes := #[28] }, type := 3, pos := "law.go:97", after := #[{ on := 25, ground := Ground.data }, { on := 24, ground := Ground.chain }, { on := 24, ground := Ground.guard }], guard := some (24, false) }) (v := undef) rfl (by kernel_rfl) (by kernel_rfl) (by kernel_rfl) (fun _ _ _ h => h) (Or.inr ⟨by rfl, rfl⟩) hHeld ?restd26
          simp only [Act.put, List.setIfInBounds_toArray, List.set_cons_zero, List.set_cons_succ]
          refine wpAnyH_take (i := 27) (oi := { dst := some 84, op := Op.load 28 (Operand.tmp 5), type := 28, pos := "law.go:97", after := #[{ on := 24, ground := Ground.guard }], guard := some (24, false) }) (v := undef) rfl (by kernel_rfl) (by kernel_rfl) (by kernel_rfl) (fun _ _ _ h => h) (Or.inr ⟨by rfl, rfl⟩) hHeld ?restd27
          simp only [Act.put, List.setIfInBounds_toArray, List.set_cons_zero, List.set_cons_succ]
          refine wpAnyH_take (i := 28) (oi := { dst := some 85, op := Op.call { callee := Callee.value (Operand.func 13), args := #[Operand.tmp 84], argTypes := #[28] }, type := 3, pos := "law.go:97", after := #[{ on := 27, ground := Ground.data }, { on := 26, ground := Ground.chain }, { on := 24, ground := Ground.guard }], guard := some (24, false) }) (v := undef) rfl (by kernel_rfl) (by kernel_rfl) (by kernel_rfl) (fun _ _ _ h => h) (Or.inr ⟨by rfl, rfl⟩) hHeld ?restd28
          simp only [Act.put, List.setIfInBounds_toArray, List.set_cons_zero, List.set_cons_succ]
          refine wpAnyH_take (i := 29) (oi := { dst := some 86, op := Op.binOp BinOp.eql 3 (Operand.tmp 83) (Operand.tmp 85) 3, type := 4, pos := "law.go:97", after := #[{ on := 26, ground := Ground.data }, { on := 28, ground := Ground.data }, { on := 24, ground := Ground.guard }], guard := some (24, false) }) (v := undef) rfl (by kernel_rfl) (by kernel_rfl) (by kernel_rfl) (fun _ _ _ h => h) (Or.inr ⟨by rfl, rfl⟩) hHeld ?restd29
          simp only [Act.put, List.setIfInBounds_toArray, List.set_cons_zero, List.set_cons_succ]
          refine wpAnyH_take (i := 30) (oi := { dst := some 87, op := Op.pick (Operand.tmp 81) (Operand.const (Value.bool true)) (Operand.tmp 86), type := 4, pos := "law.go:97", after := #[{ on := 24, ground := Ground.data }, { on := 29, ground := Ground.data }, { on := 20, ground := Ground.guard }], guard := some (20, true) }) (v := ?vd30) rfl (by kernel_rfl) (by kernel_rfl) (by kernel_rfl) (fun _ _ _ h => h) (Or.inl ⟨by rfl, ?hyd30⟩) hHeld ?restd30
          case hyd30 =>
            intro w hSw
            (try dsimp only at hSw)
            first | (go_simp; done) | (go_simp; with_reducible rfl) | with_reducible rfl | rfl
          simp only [Act.put, List.setIfInBounds_toArray, List.set_cons_zero, List.set_cons_succ]
          refine wpAnyH_take (i := 31) (oi := { dst := some 88, op := Op.pick (Operand.tmp 77) (Operand.tmp 87) (Operand.const (Value.bool false)), type := 4, pos := "law.go:97", after := #[{ on := 20, ground := Ground.data }, { on := 30, ground := Ground.data }], guard := none }) (v := ?vd31) rfl (by kernel_rfl) (by kernel_rfl) (by kernel_rfl) (fun _ _ _ h => h) (Or.inl ⟨by rfl, ?hyd31⟩) hHeld ?restd31
          case hyd31 =>
            intro w hSw
            (try dsimp only at hSw)
            first | (go_simp; done) | (go_simp; with_reducible rfl) | with_reducible rfl | rfl
          simp only [Act.put, List.setIfInBounds_toArray, List.set_cons_zero, List.set_cons_succ]
          refine wpAnyH_take (i := 32) (oi := { dst := some 89, op := Op.move (Operand.tmp 88), type := 4, pos := "law.go:97", after := #[{ on := 31, ground := Ground.data }, { on := 28, ground := Ground.chain }], guard := none }) (v := ?vd32) rfl (by kernel_rfl) (by kernel_rfl) (by kernel_rfl) (fun _ _ _ h => h) (Or.inl ⟨by rfl, ?hyd32⟩) hHeld ?restd32
          case hyd32 =>
            intro w hSw
            (try dsimp only at hSw)
            first | (go_simp; done) | (go_simp; with_reducible rfl) | with_reducible rfl | rfl
          simp only [Act.put, List.setIfInBounds_toArray, List.set_cons_zero, List.set_cons_succ]
          refine wpAnyH_ready (rs := [33]) (by kernel_rfl) (by simp) ?_
          refine AllReadyH.cons (o := { dst := some 90, op := Op.call { callee := Callee.value (Operand.func 16), args := #[Operand.const (Value.int IntKind.i64 0)], argTypes := #[3] }, type := 31, pos := "law.go:97", after := #[{ on := 32, ground := Ground.chain }, { on := 32, ground := Ground.guard }], guard := some (32, true) }) rfl (fun K hK => ?_) AllReadyH.nil
          go_simp
          (go_at_call 16; refine (cI _).mono ?_; rintro e dw5 ⟨dv5, rfl, dR5, db5⟩; have dH5 := bt dH4 db5; have ds5 := keep16 db5 ds4)
          first | go_wp2 | skip
          refine hK.out _ _ ?_ (fun hHeld2 => ?_)
          · exact ds5
          clear hK K hHeld
          have hHeld := hHeld2
          clear hHeld2
          refine wpAnyH_ready (rs := [34]) (by kernel_rfl) (by simp) ?_
          refine AllReadyH.cons (o := { dst := some 91, op := Op.call { callee := Callee.value (Operand.func 15), args := #[Operand.tmp 90], argTypes := #[31] }, type := 3, pos := "law.go:97", after := #[{ on := 33, ground := Ground.data }, { on := 33, ground := Ground.chain }, { on := 32, ground := Ground.guard }], guard := some (32, true) }) rfl (fun K hK => ?_) AllReadyH.nil
          go_simp
          (go_at_call 15; refine (cZ _ _ dR5).mono ?_; rintro e dw6 ⟨rfl, db6⟩; have dH6 := bt dH5 db6; have ds6 := keep16 db6 ds5)
          first | go_wp2 | skip
          refine hK.out _ _ ?_ (fun hHeld2 => ?_)
          · exact ds6
          clear hK K hHeld
          have hHeld := hHeld2
          clear hHeld2
          refine wpAnyH_take (i := 35) (oi := { dst := some 92, op := Op.binOp BinOp.eql 3 (Operand.tmp 91) (Operand.const (Value.int IntKind.i64 0)) 3, type := 4, pos := "law.go:97", after := #[{ on := 34, ground := Ground.data }, { on := 32, ground := Ground.guard }], guard := some (32, true) }) (v := ?vd35) rfl (by kernel_rfl) (by kernel_rfl) (by kernel_rfl) (fun _ _ _ h => h) (Or.inl ⟨by rfl, ?hyd35⟩) hHeld ?restd35
          case hyd35 =>
            intro w hSw
            (try dsimp only at hSw)
            first | (go_simp; done) | (go_simp; with_reducible rfl) | with_reducible rfl | rfl
          simp only [Act.put, List.setIfInBounds_toArray, List.set_cons_zero, List.set_cons_succ]
          refine wpAnyH_take (i := 36) (oi := { dst := some 93, op := Op.pick (Operand.tmp 89) (Operand.tmp 92) (Operand.const (Value.bool false)), type := 4, pos := "law.go:97", after := #[{ on := 32, ground := Ground.data }, { on := 35, ground := Ground.data }], guard := none }) (v := ?vd36) rfl (by kernel_rfl) (by kernel_rfl) (by kernel_rfl) (fun _ _ _ h => h) (Or.inl ⟨by rfl, ?hyd36⟩) hHeld ?restd36
          case hyd36 =>
            intro w hSw
            (try dsimp only at hSw)
            first | (go_simp; done) | (go_simp; with_reducible rfl) | with_reducible rfl | rfl
          simp only [Act.put, List.setIfInBounds_toArray, List.set_cons_zero, List.set_cons_succ]
          refine wpAnyH_take (i := 37) (oi := { dst := some 4, op := Op.assign (Operand.tmp 93), type := 4, pos := "law.go:97", after := #[{ on := 36, ground := Ground.data }, { on := 34, ground := Ground.chain }, { on := 0, ground := Ground.phase }, { on := 1, ground := Ground.phase }, { on := 2, ground := Ground.phase }, { on := 3, ground := Ground.phase }, { on := 4, ground := Ground.phase }, { on := 5, ground := Ground.phase }, { on := 6, ground := Ground.phase }, { on := 7, ground := Ground.phase }, { on := 8, ground := Ground.phase }, { on := 9, ground := Ground.phase }, { on := 10, ground := Ground.phase }, { on := 11, ground := Ground.phase }, { on := 12, ground := Ground.phase }, { on := 13, ground := Ground.phase }, { on := 14, ground := Ground.phase }, { on := 15, ground := Ground.phase }, { on := 16, ground := Ground.phase }, { on := 17, ground := Ground.phase }, { on := 18, ground := Ground.phase }, { on := 19, ground := Ground.phase }, { on := 20, ground := Ground.phase }, { on := 21, ground := Ground.phase }, { on := 22, ground := Ground.phase }, { on := 23, ground := Ground.phase }, { on := 24, ground := Ground.phase }, { on := 25, ground := Ground.phase }, { on := 26, ground := Ground.phase }, { on := 27, ground := Ground.phase }, { on := 28, ground := Ground.phase }, { on := 29, ground := Ground.phase }, { on := 30, ground := Ground.phase }, { on := 31, ground := Ground.phase }, { on := 32, ground := Ground.phase }, { on := 33, ground := Ground.phase }, { on := 34, ground := Ground.phase }, { on := 35, ground := Ground.phase }, { on := 36, ground := Ground.phase }], guard := none }) (v := ?vd37) rfl (by kernel_rfl) (by kernel_rfl) (by kernel_rfl) (fun _ _ _ h => h) (Or.inl ⟨by rfl, ?hyd37⟩) hHeld ?restd37
          case hyd37 =>
            intro w hSw
            (try dsimp only at hSw)
            first | (go_simp; done) | (go_simp; with_reducible rfl) | with_reducible rfl | rfl
          simp only [Act.put, List.setIfInBounds_toArray, List.set_cons_zero, List.set_cons_succ]
          refine wpAnyH_done (by kernel_rfl) ?_ _
          go_wp2
          go_ret
          exact ⟨rfl, bt hwc.out dH6⟩
        · have Te1 : True := trivial
          have Te3 : True := trivial
          have Te4 : True := trivial
          go_region_held3 (fun w' => w'.cell? ⟨go, 0, none⟩ = some (.bool ob) ∧ w'.cell? ⟨go, 1, none⟩ = some (.int .u64 oA) ∧ w'.cell? ⟨go, 2, none⟩ = some (.int .u64 oL) ∧ w'.cell? ⟨go, 3, none⟩ = some (.pointer op) ∧ w'.cell? ⟨gu, 0, none⟩ = some (.bool yb) ∧ w'.cell? ⟨gu, 1, none⟩ = some (.int .u64 yA) ∧ w'.cell? ⟨gu, 2, none⟩ = some (.int .u64 yL) ∧ w'.cell? ⟨gu, 3, none⟩ = some (.pointer yp) ∧ w'.cell? ⟨gd, 0, none⟩ = some (.bool db) ∧ w'.cell? ⟨gd, 1, none⟩ = some (.int .u64 dA) ∧ w'.cell? ⟨gd, 2, none⟩ = some (.int .u64 dL) ∧ w'.cell? ⟨gd, 3, none⟩ = some (.pointer dp) ∧ w'.cell? ⟨g0x, 0, none⟩ = some (.bool xb) ∧ w'.cell? ⟨g0x, 1, none⟩ = some (.int .u64 xA) ∧ w'.cell? ⟨g0x, 2, none⟩ = some (.int .u64 xL) ∧ w'.cell? ⟨g0x, 3, none⟩ = some (.pointer xp)) (first | with_reducible exact s0' | with_reducible exact se0 | with_reducible exact se1 | with_reducible exact se2 | with_reducible exact se3 | with_reducible exact se4 | with_reducible exact se5 | with_reducible exact se6 | with_reducible exact se7) (first
            | (go_at_call 12; refine (awake6 _ (hm5 H0)).mono ?_; rintro e we0 ⟨rfl, hbe0⟩; have He0 := bt H0 hbe0; have se0 := keep16 hbe0 s0')
            | (go_at_call 13; have _t := Te1; clear _t Te1; refine (cSo _ He0).mono ?_; rintro e we1 ⟨rfl, hbe1⟩; have He1 := bt He0 hbe1; have se1 := keep16 hbe1 se0)
            | (go_at_call 14; refine (cC _ He1).mono ?_; rintro e we2 ⟨rfl, hbe2⟩; have He2 := bt He1 hbe2; have se2 := keep16 hbe2 se1)
            | (go_at_call 13; have _t := Te3; clear _t Te3; refine (cSd _ He2).mono ?_; rintro e we3 ⟨rfl, hbe3⟩; have He3 := bt He2 hbe3; have se3 := keep16 hbe3 se2)
            | (go_at_call 13; have _t := Te4; clear _t Te4; refine (cSd _ He3).mono ?_; rintro e we4 ⟨rfl, hbe4⟩; have He4 := bt He3 hbe4; have se4 := keep16 hbe4 se3)
            | (go_at_call 13; refine (cSx _ He4).mono ?_; rintro e we5 ⟨rfl, hbe5⟩; have He5 := bt He4 hbe5; have se5 := keep16 hbe5 se4)
            | (go_at_call 16; refine (cI _).mono ?_; rintro e we6 ⟨ve6, rfl, Re6, hbe6⟩; have He6 := bt He5 hbe6; have se6 := keep16 hbe6 se5)
            | (go_at_call 15; refine (cZ _ _ Re6).mono ?_; rintro e we7 ⟨rfl, hbe7⟩; have He7 := bt He6 hbe7; have se7 := keep16 hbe7 se6))
          all_goals go_wp2
          all_goals go_ret
          all_goals exact ⟨rfl, bt hwc.out He7⟩
        · have Tf1 : True := trivial
          have Tf3 : True := trivial
          have Tf4 : True := trivial
          go_region_held3 (fun w' => w'.cell? ⟨go, 0, none⟩ = some (.bool ob) ∧ w'.cell? ⟨go, 1, none⟩ = some (.int .u64 oA) ∧ w'.cell? ⟨go, 2, none⟩ = some (.int .u64 oL) ∧ w'.cell? ⟨go, 3, none⟩ = some (.pointer op) ∧ w'.cell? ⟨gu, 0, none⟩ = some (.bool yb) ∧ w'.cell? ⟨gu, 1, none⟩ = some (.int .u64 yA) ∧ w'.cell? ⟨gu, 2, none⟩ = some (.int .u64 yL) ∧ w'.cell? ⟨gu, 3, none⟩ = some (.pointer yp) ∧ w'.cell? ⟨gd, 0, none⟩ = some (.bool db) ∧ w'.cell? ⟨gd, 1, none⟩ = some (.int .u64 dA) ∧ w'.cell? ⟨gd, 2, none⟩ = some (.int .u64 dL) ∧ w'.cell? ⟨gd, 3, none⟩ = some (.pointer dp) ∧ w'.cell? ⟨g0x, 0, none⟩ = some (.bool xb) ∧ w'.cell? ⟨g0x, 1, none⟩ = some (.int .u64 xA) ∧ w'.cell? ⟨g0x, 2, none⟩ = some (.int .u64 xL) ∧ w'.cell? ⟨g0x, 3, none⟩ = some (.pointer xp)) (first | with_reducible exact s0' | with_reducible exact sf0 | with_reducible exact sf1 | with_reducible exact sf2 | with_reducible exact sf3 | with_reducible exact sf4 | with_reducible exact sf5 | with_reducible exact sf6 | with_reducible exact sf7) (first
            | (go_at_call 12; refine (awake6 _ (hm5 H0)).mono ?_; rintro e wf0 ⟨rfl, hbf0⟩; have Hf0 := bt H0 hbf0; have sf0 := keep16 hbf0 s0')
            | (go_at_call 13; have _t := Tf1; clear _t Tf1; refine (cSo _ Hf0).mono ?_; rintro e wf1 ⟨rfl, hbf1⟩; have Hf1 := bt Hf0 hbf1; have sf1 := keep16 hbf1 sf0)
            | (go_at_call 14; refine (cC _ Hf1).mono ?_; rintro e wf2 ⟨rfl, hbf2⟩; have Hf2 := bt Hf1 hbf2; have sf2 := keep16 hbf2 sf1)
            | (go_at_call 13; have _t := Tf3; clear _t Tf3; refine (cSd _ Hf2).mono ?_; rintro e wf3 ⟨rfl, hbf3⟩; have Hf3 := bt Hf2 hbf3; have sf3 := keep16 hbf3 sf2)
            | (go_at_call 13; have _t := Tf4; clear _t Tf4; refine (cSd _ Hf3).mono ?_; rintro e wf4 ⟨rfl, hbf4⟩; have Hf4 := bt Hf3 hbf4; have sf4 := keep16 hbf4 sf3)
            | (go_at_call 13; refine (cSx _ Hf4).mono ?_; rintro e wf5 ⟨rfl, hbf5⟩; have Hf5 := bt Hf4 hbf5; have sf5 := keep16 hbf5 sf4)
            | (go_at_call 16; refine (cI _).mono ?_; rintro e wf6 ⟨vf6, rfl, Rf6, hbf6⟩; have Hf6 := bt Hf5 hbf6; have sf6 := keep16 hbf6 sf5)
            | (go_at_call 15; refine (cZ _ _ Rf6).mono ?_; rintro e wf7 ⟨rfl, hbf7⟩; have Hf7 := bt Hf6 hbf7; have sf7 := keep16 hbf7 sf6))
          all_goals go_wp2
          all_goals go_ret
          all_goals exact ⟨rfl, bt hwc.out Hf7⟩
end Go.Proofs.YtefckmkcbgckfaaGreat.NrX
