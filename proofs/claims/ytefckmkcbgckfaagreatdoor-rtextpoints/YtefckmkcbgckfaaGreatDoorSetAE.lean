/- Texts of numbers as lists of bytes: cut at a byte; what is printed; what is read. -/
import Derived.Test.YtefckmkcbgckfaaGreatDoorSetAD
import Derived.Lib.IndexMore
namespace Go.Proofs.YtefckmkcbgckfaaGreatDoor.TxN
open Go.RowKit Mem LimbNum DigNum DigL StrL

/-- What stands ahead of the first c, what behind it, and whether there is one. -/
def cutN (c : Nat) : List Nat → List Nat × List Nat × Bool
  | [] => ([], [], false)
  | x :: l => if x = c then ([], l, true) else (x :: (cutN c l).1, (cutN c l).2.1, (cutN c l).2.2)
theorem cutN_cons (c x : Nat) (l : List Nat) : cutN c (x :: l) = if x = c then ([], l, true) else (x :: (cutN c l).1, (cutN c l).2.1, (cutN c l).2.2) := rfl
theorem cut_no {c : Nat} : ∀ {l : List Nat}, (cutN c l).2.2 = false → (cutN c l).1 = l ∧ (cutN c l).2.1 = [] ∧ c ∉ l
  | [], _ => ⟨rfl, rfl, by simp⟩
  | x :: l, h => by
    rw [cutN_cons] at h ⊢
    by_cases e : x = c
    · rw [if_pos e] at h; cases h
    · rw [if_neg e] at h ⊢
      obtain ⟨h1, h2, h3⟩ := cut_no (l := l) h
      refine ⟨by rw [h1], h2, fun hm => ?_⟩
      rcases List.mem_cons.1 hm with rfl | hm
      · exact e rfl
      · exact h3 hm
theorem cut_yes {c : Nat} : ∀ {l : List Nat}, (cutN c l).2.2 = true → l = (cutN c l).1 ++ c :: (cutN c l).2.1 ∧ c ∉ (cutN c l).1
  | [], h => by cases h
  | x :: l, h => by
    rw [cutN_cons] at h ⊢
    by_cases e : x = c
    · rw [if_pos e]; exact ⟨by rw [e]; rfl, by simp⟩
    · rw [if_neg e] at h ⊢
      obtain ⟨h1, h2⟩ := cut_yes (l := l) h
      refine ⟨by show x :: l = x :: (_ ++ _); rw [← h1], fun hm => ?_⟩
      rcases List.mem_cons.1 hm with rfl | hm
      · exact e rfl
      · exact h2 hm
theorem cut_at {c : Nat} : ∀ {a : List Nat} (b : List Nat), c ∉ a → cutN c (a ++ c :: b) = (a, b, true)
  | [], b, _ => by show cutN c (c :: b) = _; rw [cutN_cons, if_pos rfl]
  | x :: a, b, h => by
    have hx : x ≠ c := fun e => h (by rw [e]; exact List.mem_cons_self ..)
    have ih := cut_at (a := a) b (fun hm => h (List.mem_cons_of_mem _ hm))
    show cutN c (x :: (a ++ c :: b)) = _
    rw [cutN_cons, if_neg hx, ih]
theorem cut_none {c : Nat} : ∀ {l : List Nat}, c ∉ l → cutN c l = (l, [], false)
  | [], _ => rfl
  | x :: l, h => by
    have hx : x ≠ c := fun e => h (by rw [e]; exact List.mem_cons_self ..)
    rw [cutN_cons, if_neg hx, cut_none (l := l) (fun hm => h (List.mem_cons_of_mem _ hm))]
theorem of_inj {x c : Nat} (hx : x < 256) (hc : c < 256) : (UInt8.ofNat x == UInt8.ofNat c) = decide (x = c) := by
  by_cases e : x = c
  · subst e; simp
  · rw [decide_eq_false e, beq_eq_false_iff_ne]
    intro h
    have := congrArg UInt8.toNat h
    simp only [UInt8.toNat_ofNat'] at this
    omega
theorem idx_bs {c : Nat} (hc : c < 256) : ∀ (l : List Nat), B8 l → Lib.index (l.map UInt8.ofNat) [UInt8.ofNat c] = if (cutN c l).2.2 then ((cutN c l).1.length : Int) else -1
  | [], _ => rfl
  | x :: l, h => by
    have hx : x < 256 := h x (List.mem_cons_self ..)
    have ih := idx_bs hc l (fun y hy => h y (List.mem_cons_of_mem _ hy))
    show Lib.index (UInt8.ofNat x :: l.map UInt8.ofNat) [UInt8.ofNat c] = _
    unfold Lib.index
    rw [ih]
    have e1 : [UInt8.ofNat c].isPrefixOf (UInt8.ofNat x :: l.map UInt8.ofNat) = decide (c = x) := by
      simp only [List.isPrefixOf, Bool.and_true]; exact of_inj hc hx
    rw [e1, cutN_cons]
    by_cases e : x = c
    · subst e; simp
    · have e' : ¬ c = x := fun h => e h.symm
      rw [if_neg e, decide_eq_false e']
      simp only [Bool.false_eq_true, if_false]
      cases h2 : (cutN c l).2.2
      · rfl
      · have : (((cutN c l).1.length : Int) == -1) = false := by rw [beq_eq_false_iff_ne]; omega
        simp [this]
theorem bs_data (l : List Nat) : (bs l).data.toList = l.map UInt8.ofNat := by simp [bs]
theorem cut_bs {c : Nat} (hc : c < 256) (l : List Nat) (h : B8 l) : Lib.cut (bs l).data.toList [UInt8.ofNat c] = ((cutN c l).1.map UInt8.ofNat, (cutN c l).2.1.map UInt8.ofNat, (cutN c l).2.2) := by
  unfold Lib.cut
  rw [bs_data, idx_bs hc l h]
  cases e : (cutN c l).2.2
  · obtain ⟨h1, h2, _⟩ := cut_no e
    simp [h1, h2]
  · obtain ⟨h1, _⟩ := cut_yes e
    generalize (cutN c l).1 = a at *
    generalize (cutN c l).2.1 = b at *
    subst h1
    simp only [if_true]
    rw [if_pos (by omega)]
    simp
    have := List.drop_left (l₁ := a.map UInt8.ofNat ++ [UInt8.ofNat c]) (l₂ := b.map UInt8.ofNat)
    simp only [List.length_append, List.length_map, List.length_cons, List.length_nil, List.append_assoc, List.cons_append, List.nil_append, Nat.zero_add] at this
    exact this
/-- A text of digits, one at least. -/
def okN (l : List Nat) : Bool := !l.isEmpty && l.all (fun d => decide (48 ≤ d) && decide (d ≤ 57))
theorem ok_iff {l : List Nat} : okN l = true ↔ l ≠ [] ∧ DG l := by
  unfold okN DG
  simp [List.all_eq_true]
/-- What a text without its sign says: what is above the bar, what below it. -/
def readM (l : List Nat) : Option (Nat × Nat) :=
  if (cutN 47 l).2.2 then (if okN (cutN 47 l).1 && okN (cutN 47 l).2.1 then some (dv (cutN 47 l).1, dv (cutN 47 l).2.1) else none)
  else if (cutN 46 l).2.2 && ((cutN 46 l).1.isEmpty || (cutN 46 l).2.1.isEmpty) then none
  else if okN ((cutN 46 l).1 ++ (cutN 46 l).2.1) then some (dv ((cutN 46 l).1 ++ (cutN 46 l).2.1), 10 ^ (cutN 46 l).2.1.length) else none
/-- The sign, and what follows it. -/
def signM (l : List Nat) : Bool × List Nat := match l with
  | 45 :: t => (true, t)
  | _ => (false, l)
theorem dg_not {l : List Nat} (h : DG l) {c : Nat} (hc : c < 48 ∨ 57 < c) : c ∉ l := fun hm => by have := h c hm; omega
theorem tx_ne (n : Nat) : tx n ≠ [] := fun h => by have := tx_pos n; rw [h] at this; simp at this
theorem ok_tx (n : Nat) : okN (tx n) = true := ok_iff.2 ⟨tx_ne n, dg_tx n⟩
/-- The text of a number. -/
def prn (b : Bool) (n d : Nat) : List Nat := (if b then [45] else []) ++ (tx n ++ (if d = 1 then [] else 47 :: tx d))
/-- Its term. -/
def smtN (b : Bool) (n d : Nat) : List Nat :=
  if b then [40, 45, 32] ++ (if d = 1 then tx n else [40, 47, 32] ++ tx n ++ [32] ++ tx d ++ [41]) ++ [41] else (if d = 1 then tx n else [40, 47, 32] ++ tx n ++ [32] ++ tx d ++ [41])
theorem tx_head (n : Nat) : ∀ t, tx n ≠ 45 :: t := fun t h => by
  have := dg_tx n 45 (by rw [h]; exact List.mem_cons_self ..)
  omega
theorem sign_prn (b : Bool) (n d : Nat) : signM (prn b n d) = (b, tx n ++ (if d = 1 then [] else 47 :: tx d)) := by
  unfold prn
  cases b
  · simp only [Bool.false_eq_true, if_false, List.nil_append]
    unfold signM
    split
    · rename_i t h
      exfalso
      cases hn : tx n with
      | nil => exact tx_ne n hn
      | cons x l =>
        rw [hn] at h
        simp only [List.cons_append, List.cons.injEq] at h
        have := dg_tx n x (by rw [hn]; exact List.mem_cons_self ..)
        omega
    · rfl
  · rfl
theorem read_prn (n d : Nat) : readM (tx n ++ (if d = 1 then [] else 47 :: tx d)) = some (n, d) := by
  unfold readM
  by_cases h : d = 1
  · rw [if_pos h, List.append_nil, cut_none (dg_not (dg_tx n) (by omega)), cut_none (dg_not (dg_tx n) (by omega))]
    simp [ok_tx, dv_tx, h]
  · rw [if_neg h, cut_at _ (dg_not (dg_tx n) (by omega))]
    simp [ok_tx, dv_tx]
theorem prn_inj {b1 b2 : Bool} {n1 d1 n2 d2 : Nat} (h : prn b1 n1 d1 = prn b2 n2 d2) : b1 = b2 ∧ n1 = n2 ∧ d1 = d2 := by
  have h1 := sign_prn b1 n1 d1
  have h2 := sign_prn b2 n2 d2
  rw [h] at h1
  have h3 := h1.symm.trans h2
  have e1 : b1 = b2 := congrArg Prod.fst h3
  have e2 := congrArg Prod.snd h3
  have r1 := read_prn n1 d1
  have r2 := read_prn n2 d2
  dsimp only at e2
  rw [e2] at r1
  have := r1.symm.trans r2
  simp only [Option.some.injEq, Prod.mk.injEq] at this
  exact ⟨e1, this.1, this.2⟩
theorem b8_tx (n : Nat) : B8 (tx n) := b8_dg (dg_tx n)
theorem b8_app {a b : List Nat} (ha : B8 a) (hb : B8 b) : B8 (a ++ b) := fun x hx => by
  rcases List.mem_append.1 hx with h | h
  · exact ha x h
  · exact hb x h
theorem b8_prn (b : Bool) (n d : Nat) : B8 (prn b n d) := by
  unfold prn
  refine b8_app ?_ (b8_app (b8_tx n) ?_)
  · cases b <;> intro x hx <;> simp at hx; omega
  · split
    · intro x hx; simp at hx
    · intro x hx
      rcases List.mem_cons.1 hx with rfl | h
      · omega
      · exact b8_tx d x h
end Go.Proofs.YtefckmkcbgckfaaGreatDoor.TxN
