/- What a node stands on, as plain data: truths set from the highest number down. -/
import Derived.Test.YtmeomfnnachkoaaMeanN
namespace Go.Proofs.Ytmeomfnnachkoaa.RchN
open NdNum MeanN

/-- The numbers of the nodes that a node stands on. -/
def partsN (n : Nd) : List Int := if n.1 = 4 then [n.2.1] else if n.1 = 5 ∨ n.1 = 6 then [n.2.1, n.2.2] else []
def setAll (S : List Bool) (ps : List Int) : List Bool := ps.foldl (fun S p => S.set p.toNat true) S
def stepN (N : List Nd) (m : Nat) (S : List Bool) : List Bool := if at0 S (m : Int) = true then setAll S (partsN (nd N m)) else S
/-- From number m - 1 down: what is reached at last, and the reached ones, falling. -/
def rrun (N : List Nd) : Nat → List Bool → List Bool × List Nat
  | 0, S => (S, [])
  | m + 1, S => ((rrun N m (stepN N m S)).1, if at0 S (m : Int) = true then m :: (rrun N m (stepN N m S)).2 else (rrun N m (stepN N m S)).2)
def startN (i : Nat) : List Bool := (List.replicate (i + 1) false).set i true
theorem setAll_len (S : List Bool) (ps : List Int) : (setAll S ps).length = S.length := by
  unfold setAll
  induction ps generalizing S with
  | nil => rfl
  | cons p ps ih => simp only [List.foldl_cons, ih, List.length_set]
theorem stepN_len (N : List Nd) (m : Nat) (S : List Bool) : (stepN N m S).length = S.length := by
  unfold stepN; split
  · exact setAll_len _ _
  · rfl
theorem rrun_len (N : List Nd) (m : Nat) (S : List Bool) : (rrun N m S).1.length = S.length := by
  induction m generalizing S with
  | zero => rfl
  | succ m ih => simp only [rrun, ih, stepN_len]
theorem startN_len (i : Nat) : (startN i).length = i + 1 := by simp [startN]
theorem setAll_at {S : List Bool} {ps : List Int} {j : Nat} (h : ∀ p ∈ ps, p.toNat < j) : at0 (setAll S ps) (j : Int) = at0 S (j : Int) := by
  unfold setAll
  induction ps generalizing S with
  | nil => rfl
  | cons p ps ih =>
    rw [List.foldl_cons, ih (fun q hq => h q (List.mem_cons_of_mem _ hq))]
    have := h p List.mem_cons_self
    unfold at0
    rw [List.getElem?_set_ne (by omega)]
theorem parts_lt {N : List Nd} (hi : InForm N) {k : Nat} (h : k < N.length + 2) : ∀ p ∈ partsN (nd N k), 0 ≤ p ∧ p < (k : Int) := by
  intro p hp
  rcases Nat.lt_or_ge k 2 with h2 | h2
  · rcases (show k = 0 ∨ k = 1 by omega) with rfl | rfl
    · rw [nd_zero] at hp; simp [partsN] at hp
    · rw [nd_one] at hp; simp [partsN] at hp
  · have hf := hi.fine k h2 h
    unfold Fine at hf
    unfold partsN at hp
    split at hp
    · rename_i h4
      simp at hp; subst hp; omega
    · split at hp
      · rename_i h5
        simp at hp
        rcases hp with rfl | rfl <;> omega
      · simp at hp
theorem stepN_at {N : List Nd} (hi : InForm N) {m j : Nat} (h : m < N.length + 2) (hj : m ≤ j) (S : List Bool) : at0 (stepN N m S) (j : Int) = at0 S (j : Int) := by
  unfold stepN
  split
  · exact setAll_at (fun p hp => by have := parts_lt hi h p hp; omega)
  · rfl
theorem rrun_at {N : List Nd} (hi : InForm N) {m j : Nat} (h : m ≤ N.length + 2) (hj : m ≤ j) (S : List Bool) : at0 (rrun N m S).1 (j : Int) = at0 S (j : Int) := by
  induction m generalizing S with
  | zero => rfl
  | succ m ih => simp only [rrun]; rw [ih (by omega) (by omega), stepN_at hi (by omega) (by omega)]
theorem rrun_out {N : List Nd} (hi : InForm N) {m : Nat} (h : m ≤ N.length + 2) (S : List Bool) : (rrun N m S).2 = ((List.range m).filter (fun k : Nat => at0 (rrun N m S).1 (k : Int))).reverse := by
  induction m generalizing S with
  | zero => rfl
  | succ m ih =>
    have e := rrun_at hi (m := m) (j := m) (by omega) (Nat.le_refl _) (stepN N m S)
    rw [stepN_at hi (by omega) (Nat.le_refl _)] at e
    have ih' := ih (by omega) (stepN N m S)
    simp only [rrun]
    rw [List.range_succ, List.filter_append, List.reverse_append, ← ih']
    generalize (rrun N m (stepN N m S)).1 = F at *
    rw [← e]
    cases hF : at0 F (m : Int) <;> simp [hF]
/-- What a node of that number and all its parts are, rising. -/
def reachN (N : List Nd) (i : Int) : List Nat := if hasN N i = true then (rrun N (i.toNat + 1) (startN i.toNat)).2.reverse else []
theorem reachN_eq {N : List Nd} (hi : InForm N) {i : Nat} (h : i < N.length + 2) : reachN N (i : Int) = (List.range (i + 1)).filter (fun k : Nat => at0 (rrun N (i + 1) (startN i)).1 (k : Int)) := by
  unfold reachN
  rw [if_pos (hasN_iff.2 (by omega)), Int.toNat_natCast, rrun_out hi (by omega), List.reverse_reverse]
theorem rrun_out_len (N : List Nd) (m : Nat) (S : List Bool) : (rrun N m S).2.length ≤ m := by
  induction m generalizing S with
  | zero => simp [rrun]
  | succ m ih =>
    simp only [rrun]
    have := ih (stepN N m S)
    split
    · simp only [List.length_cons]; omega
    · omega
theorem set_self {S : List Bool} {k : Nat} : S.set k (at0 S (k : Int)) = S := by
  unfold at0
  rw [Int.toNat_natCast]
  rcases Nat.lt_or_ge k S.length with h | h
  · rw [List.getElem?_eq_getElem h]
    simp
  · exact List.set_eq_of_length_le h
/-- The law's own step: by kind. -/
theorem step_not {N : List Nd} {S : List Bool} {k : Nat} (hs : at0 S (k : Int) = true) (h4 : (nd N k).1 = 4) : stepN N k S = S.set (nd N k).2.1.toNat true := by
  unfold stepN partsN setAll; rw [if_pos hs, if_pos h4]; rfl
theorem step_two {N : List Nd} {S : List Bool} {k : Nat} (hs : at0 S (k : Int) = true) (h4 : (nd N k).1 = 5 ∨ (nd N k).1 = 6) : stepN N k S = (S.set (nd N k).2.1.toNat true).set (nd N k).2.2.toNat true := by
  unfold stepN partsN setAll; rw [if_pos hs, if_neg (by omega), if_pos h4]; rfl
theorem step_none {N : List Nd} {S : List Bool} {k : Nat} (h4 : (nd N k).1 < 4) : stepN N k S = S := by
  unfold stepN partsN setAll; split
  · rw [if_neg (by omega), if_neg (by omega)]; rfl
  · rfl
theorem step_off {N : List Nd} {S : List Bool} {k : Nat} (hs : at0 S (k : Int) = false) : stepN N k S = S := by
  unfold stepN; rw [if_neg (by rw [hs]; decide)]
end Go.Proofs.Ytmeomfnnachkoaa.RchN
