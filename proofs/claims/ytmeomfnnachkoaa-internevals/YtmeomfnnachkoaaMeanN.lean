/- The truth of nodes, as plain data; what an operation's answer means. -/
import Derived.Test.YtmeomfnnachkoaaNdNum
namespace Go.Proofs.Ytmeomfnnachkoaa.MeanN
open NdNum

/-- The truth at a place of a list; false beyond its end. -/
def at0 (ts : List Bool) (a : Int) : Bool := ts[a.toNat]?.getD false
/-- A node's truth, by the truths ts of those ahead of it and the variables' V. -/
def truthN (V ts : List Bool) (n : Nd) : Bool :=
  if n.1 = 2 then true else if n.1 = 3 then at0 V n.2.1 else if n.1 = 4 then !(at0 ts n.2.1) else if n.1 = 5 then (at0 ts n.2.1 && at0 ts n.2.2) else if n.1 = 6 then (at0 ts n.2.1 || at0 ts n.2.2) else false
def truths (V : List Bool) (L : List Nd) : List Bool := L.foldl (fun ts n => ts ++ [truthN V ts n]) []
theorem truths_nil (V : List Bool) : truths V [] = [] := rfl
theorem truths_snoc (V : List Bool) (L : List Nd) (n : Nd) : truths V (L ++ [n]) = truths V L ++ [truthN V (truths V L) n] := by simp [truths, List.foldl_append]
theorem fold_len (V : List Bool) (L : List Nd) (ts : List Bool) : (L.foldl (fun ts n => ts ++ [truthN V ts n]) ts).length = ts.length + L.length := by
  induction L generalizing ts with
  | nil => rfl
  | cons n L ih => simp only [List.foldl_cons, ih, List.length_append, List.length_cons, List.length_nil]; omega
theorem fold_pre (V : List Bool) (L : List Nd) (ts : List Bool) : ∃ X, L.foldl (fun ts n => ts ++ [truthN V ts n]) ts = ts ++ X := by
  induction L generalizing ts with
  | nil => exact ⟨[], by simp⟩
  | cons n L ih =>
    obtain ⟨X, h⟩ := ih (ts ++ [truthN V ts n])
    exact ⟨truthN V ts n :: X, by simp only [List.foldl_cons, h]; simp⟩
theorem truths_len (V : List Bool) (L : List Nd) : (truths V L).length = L.length := by
  unfold truths; rw [fold_len]; simp
theorem truths_pre (V : List Bool) (L M : List Nd) : ∃ X, truths V (L ++ M) = truths V L ++ X := by
  unfold truths
  rw [List.foldl_append]
  exact fold_pre V M _
/-- A node's truth in a table. -/
def ev (V : List Bool) (N : List Nd) (i : Int) : Bool := at0 (truths V (full N)) i
theorem at0_pre {ts X : List Bool} {a : Int} (h : a.toNat < ts.length) : at0 (ts ++ X) a = at0 ts a := by
  unfold at0; rw [List.getElem?_append_left h]
theorem full_snoc (N : List Nd) (n : Nd) : full (N ++ [n]) = full N ++ [n] := rfl
theorem ev_old (V : List Bool) {N : List Nd} {n : Nd} {a : Int} (h : a < (N.length : Int) + 2) : ev V (N ++ [n]) a = ev V N a := by
  unfold ev
  rw [full_snoc, truths_snoc]
  exact at0_pre (by rw [truths_len, full_length]; omega)
/-- Its truth is what its parts' truths say. -/
def sem (V : List Bool) (N : List Nd) (n : Nd) : Bool :=
  if n.1 = 2 then true else if n.1 = 3 then at0 V n.2.1 else if n.1 = 4 then !(ev V N n.2.1) else if n.1 = 5 then (ev V N n.2.1 && ev V N n.2.2) else if n.1 = 6 then (ev V N n.2.1 || ev V N n.2.2) else false
/-- Parts lie ahead of place i. -/
def Ahead (n : Nd) (i : Int) : Prop := (n.1 = 4 → n.2.1 < i) ∧ (n.1 = 5 ∨ n.1 = 6 → n.2.1 < i ∧ n.2.2 < i)
theorem truthN_pre {V ts X : List Bool} {n : Nd} (h : Ahead n ts.length) (hp : 0 < ts.length) : truthN V (ts ++ X) n = truthN V ts n := by
  unfold truthN
  split
  · rfl
  split
  · rfl
  split
  · rename_i h4
    rw [at0_pre (by have := h.1 h4; omega)]
  split
  · rename_i h5
    have := h.2 (.inl h5)
    rw [at0_pre (by omega), at0_pre (by omega)]
  split
  · rename_i h6
    have := h.2 (.inr h6)
    rw [at0_pre (by omega), at0_pre (by omega)]
  · rfl
theorem full_split (N : List Nd) {i : Nat} (h : i < N.length + 2) : full N = (full N).take i ++ [nd N i] ++ (full N).drop (i + 1) := by
  have e : (full N)[i]? = some (nd N i) := by
    unfold nd
    rw [List.getElem?_eq_getElem (by rw [full_length]; exact h)]
    rfl
  conv => lhs; rw [← List.take_append_drop (i + 1) (full N), List.take_add_one, e]
  rfl
theorem ahead_of {N : List Nd} (hi : InForm N) {i : Nat} (h : i < N.length + 2) : Ahead (nd N i) i := by
  rcases Nat.lt_or_ge i 2 with h2 | h2
  · rcases (show i = 0 ∨ i = 1 by omega) with rfl | rfl
    · rw [nd_zero]; exact ⟨fun h => by simp at h, fun h => by simp at h⟩
    · rw [nd_one]; exact ⟨fun h => by simp at h, fun h => by simp at h⟩
  · have hf := hi.fine i h2 h
    unfold Fine at hf
    unfold Ahead
    omega
theorem ev_eq (V : List Bool) {N : List Nd} (hi : InForm N) {i : Nat} (h : i < N.length + 2) : ev V N i = sem V N (nd N i) := by
  have ha := ahead_of hi h
  have hl : (truths V ((full N).take i)).length = i := by rw [truths_len, List.length_take, full_length]; omega
  obtain ⟨X, hX⟩ := truths_pre V ((full N).take i ++ [nd N i]) ((full N).drop (i + 1))
  rw [← full_split N h, truths_snoc] at hX
  have e1 : ev V N i = truthN V (truths V ((full N).take i)) (nd N i) := by
    unfold ev at0
    rw [hX, List.append_assoc, List.getElem?_append_right (by rw [hl]; omega)]
    simp [hl]
  rw [e1]
  have e2 : ∀ a : Int, a < (i : Int) → 0 < i → at0 (truths V ((full N).take i)) a = ev V N a := fun a h1 h2 => by
    unfold ev
    rw [hX, List.append_assoc, at0_pre (by rw [hl]; omega)]
  rcases Nat.eq_zero_or_pos i with rfl | hp
  · rw [nd_zero]; rfl
  · unfold truthN sem
    split
    · rfl
    split
    · rfl
    split
    · rename_i h4
      rw [e2 _ (ha.1 h4) hp]
    split
    · rename_i h5
      have := ha.2 (.inl h5)
      rw [e2 _ this.1 hp, e2 _ this.2 hp]
    split
    · rename_i h6
      have := ha.2 (.inr h6)
      rw [e2 _ this.1 hp, e2 _ this.2 hp]
    · rfl
theorem ev_zero (V : List Bool) {N : List Nd} (hi : InForm N) : ev V N 0 = false := by
  have := ev_eq V hi (i := 0) (by omega)
  rw [nd_zero] at this; exact this
theorem ev_one (V : List Bool) {N : List Nd} (hi : InForm N) : ev V N 1 = true := by
  have := ev_eq V hi (i := 1) (by omega)
  rw [nd_one] at this; exact this
theorem sem_old (V : List Bool) {N : List Nd} {n m : Nd} (h : Ahead m ((N.length : Int) + 2)) : sem V (N ++ [n]) m = sem V N m := by
  unfold sem
  split
  · rfl
  split
  · rfl
  split
  · rename_i h4
    rw [ev_old V (h.1 h4)]
  split
  · rename_i h5
    rw [ev_old V (h.2 (.inl h5)).1, ev_old V (h.2 (.inl h5)).2]
  split
  · rename_i h6
    rw [ev_old V (h.2 (.inr h6)).1, ev_old V (h.2 (.inr h6)).2]
  · rfl
/-- The number that a node has, or gets, is true where the node is. -/
theorem num_means (V : List Bool) {N : List Nd} {n : Nd} (hi : InForm N) (hi2 : InForm (num N n).1) (ha : Ahead n ((N.length : Int) + 2)) {i : Int} (h : (num N n).2 = some i) : ev V (num N n).1 i = sem V N n ∧ 0 ≤ i ∧ i < ((num N n).1.length : Int) + 2 := by
  unfold num at h hi2 ⊢
  split
  · rename_i hm
    rw [if_pos hm] at h
    simp only [Option.some.injEq] at h
    subst h
    have hl : N.idxOf n < N.length := List.idxOf_lt_length_iff.2 hm
    have e := ev_eq V hi (i := N.idxOf n + 2) (by omega)
    rw [nd_behind, List.getElem?_eq_getElem hl, List.getElem_idxOf hl] at e
    exact ⟨e, by omega, by show ((N.idxOf n : Nat) : Int) + 2 < (N.length : Int) + 2; omega⟩
  · rename_i hm
    rw [if_neg hm] at h hi2
    split
    · rename_i hf
      rw [if_pos hf] at h
      simp at h
    · rename_i hf
      rw [if_neg hf] at h hi2
      simp only [Option.some.injEq] at h
      subst h
      have e := ev_eq V hi2 (i := N.length + 2) (by simp)
      rw [nd_new] at e
      refine ⟨?_, by omega, by simp; omega⟩
      show ev V (N ++ [n]) ((N.length : Int) + 2) = sem V N n
      rw [← sem_old V ha]
      exact e
/-- What an operation means. -/
def meant (V : List Bool) (N : List Nd) (op : Nd) : Bool := sem V N op
/-- May it be done? -/
def may (N : List Nd) (op : Nd) : Bool :=
  if op.1 = 1 then true else if op.1 = 2 then true else if op.1 = 3 then decide (0 ≤ op.2.1) else if op.1 = 4 then hasN N op.2.1 else if op.1 = 5 then (hasN N op.2.1 && hasN N op.2.2) else if op.1 = 6 then (hasN N op.2.1 && hasN N op.2.2) else false
theorem num_some {N : List Nd} {n : Nd} (h : N.length < 19998) : (num N n).2.isSome = true := by
  unfold num
  split
  · rfl
  split
  · omega
  · rfl
theorem num_len (N : List Nd) (n : Nd) : (num N n).1.length ≤ N.length + 1 := by
  unfold num
  split
  · simp
  split
  · simp
  · simp
theorem do_len (N : List Nd) (op : Nd) : (doN N op).1.length ≤ N.length + 1 := by
  unfold doN notN pairN
  repeat' split
  all_goals first | exact num_len _ _ | simp
theorem play_len_le (N L : List Nd) : (playN N L).1.length ≤ N.length + L.length := by
  induction L generalizing N with
  | nil => simp [playN]
  | cons n L ih =>
    have h1 := ih (doN N n).1
    have h2 := do_len N n
    simp only [playN, List.length_cons]
    omega
/-- It is done where it may be, and what it answers is true just where it means to be. -/
structure Meant (V : List Bool) (N : List Nd) (op : Nd) (q : List Nd × Option Int) : Prop where
  some_may : q.2.isSome = may N op
  none_same : q.2 = none → q.1 = N
  there : ∀ i, q.2 = some i → hasN q.1 i = true
  means : ∀ i, q.2 = some i → ev V q.1 i = sem V N op
theorem meant_old {V : List Bool} {N : List Nd} {op : Nd} {i : Int} (hm : may N op = true) (h : hasN N i = true) (he : ev V N i = sem V N op) : Meant V N op (N, some i) :=
  ⟨by rw [hm]; rfl, fun h => by simp at h, fun j hj => by simp at hj; subst hj; exact h, fun j hj => by simp at hj; subst hj; exact he⟩
theorem meant_none {V : List Bool} {N : List Nd} {op : Nd} (hm : may N op = false) : Meant V N op (N, none) :=
  ⟨by rw [hm]; rfl, fun _ => rfl, fun j hj => by simp at hj, fun j hj => by simp at hj⟩
theorem meant_num {V : List Bool} {N : List Nd} {op n : Nd} (hi : InForm N) (hl : N.length < 19998) (hi2 : InForm (num N n).1) (hm : may N op = true) (ha : Ahead n ((N.length : Int) + 2)) (he : sem V N n = sem V N op) : Meant V N op (num N n) := by
  have hs := num_some (n := n) hl
  refine ⟨by rw [hm, hs], fun h => by rw [h] at hs; simp at hs, fun j hj => ?_, fun j hj => ?_⟩
  · obtain ⟨_, h1, h2⟩ := num_means V hi hi2 ha hj
    exact hasN_iff.2 ⟨h1, h2⟩
  · rw [(num_means V hi hi2 ha hj).1, he]
theorem has_lit {N : List Nd} : hasN N 0 = true ∧ hasN N 1 = true := ⟨hasN_iff.2 (by omega), hasN_iff.2 (by omega)⟩
theorem ev_at (V : List Bool) {N : List Nd} (hi : InForm N) {a : Int} (h : hasN N a = true) : ev V N a = sem V N (nd N a.toNat) := by
  have h1 := hasN_iff.1 h
  have := ev_eq V hi (i := a.toNat) (by omega)
  rwa [show ((a.toNat : Nat) : Int) = a by omega] at this
theorem low_of {N : List Nd} (hi : InForm N) {a : Int} (h : hasN N a = true) (hk : (nd N a.toNat).1 = 1 ∨ (nd N a.toNat).1 = 2) : ((nd N a.toNat).1 = 1 ∧ a = 0) ∨ ((nd N a.toNat).1 = 2 ∧ a = 1) := by
  have h1 := hasN_iff.1 h
  rcases Nat.lt_or_ge a.toNat 2 with h2 | h2
  · rcases (show a.toNat = 0 ∨ a.toNat = 1 by omega) with h3 | h3
    · left; rw [h3, nd_zero]; exact ⟨rfl, by omega⟩
    · right; rw [h3, nd_one]; exact ⟨rfl, by omega⟩
  · have hf := hi.fine a.toNat h2 (by omega)
    unfold Fine at hf
    omega
theorem not_part {N : List Nd} (hi : InForm N) {a : Int} (h : hasN N a = true) (h4 : (nd N a.toNat).1 = 4) : hasN N (nd N a.toNat).2.1 = true := by
  have h1 := hasN_iff.1 h
  rcases Nat.lt_or_ge a.toNat 2 with h2 | h2
  · rcases (show a.toNat = 0 ∨ a.toNat = 1 by omega) with h3 | h3
    · rw [h3, nd_zero] at h4; simp at h4
    · rw [h3, nd_one] at h4; simp at h4
  · have hf := hi.fine a.toNat h2 (by omega)
    unfold Fine at hf
    exact hasN_iff.2 (by omega)
theorem isNot_means (V : List Bool) {N : List Nd} (hi : InForm N) {a b : Int} (h : hasN N a = true) (hn : isNotN N a b = true) : ev V N a = !(ev V N b) := by
  rw [ev_at V hi h]
  unfold isNotN at hn
  rw [eq_of_beq hn]
  rfl
theorem pair_means (V : List Bool) {N : List Nd} (hi : InForm N) (hl : N.length < 19998) {k a b s l : Int} (hk : (k = 5 ∧ s = 0 ∧ l = 1) ∨ (k = 6 ∧ s = 1 ∧ l = 0)) (hi2 : InForm (pairN N k a b s l).1) : Meant V N (k, a, b) (pairN N k a b s l) := by
  have hmay : may N (k, a, b) = (hasN N a && hasN N b) := by rcases hk with ⟨rfl, _⟩ | ⟨rfl, _⟩ <;> rfl
  have e0 := ev_zero V hi
  have e1 := ev_one V hi
  have hsem : sem V N (k, a, b) = if k = 5 then (ev V N a && ev V N b) else (ev V N a || ev V N b) := by rcases hk with ⟨rfl, _⟩ | ⟨rfl, _⟩ <;> rfl
  have es : ev V N s = if k = 5 then false else true := by rcases hk with ⟨rfl, rfl, _⟩ | ⟨rfl, rfl, _⟩ <;> simp [e0, e1]
  have el : ev V N l = if k = 5 then true else false := by rcases hk with ⟨rfl, _, rfl⟩ | ⟨rfl, _, rfl⟩ <;> simp [e0, e1]
  have hs : hasN N s = true := by rcases hk with ⟨_, rfl, _⟩ | ⟨_, rfl, _⟩ <;> simp [has_lit]
  unfold pairN at hi2 ⊢
  split
  · rename_i h
    exact meant_none (by rw [hmay]; rcases h with h | h <;> simp [h])
  rename_i h
  rw [if_neg h] at hi2
  simp only [not_or, Bool.not_eq_false] at h
  obtain ⟨ha, hb⟩ := h
  have hm : may N (k, a, b) = true := by rw [hmay, ha, hb]; rfl
  split
  · rename_i h1
    refine meant_old hm hs ?_
    rw [es, hsem]
    have hk5 : k = 5 ∨ k = 6 := by omega
    rcases h1 with rfl | rfl | h1 | h1
    · rw [es]; rcases hk5 with rfl | rfl <;> simp
    · rw [es]; rcases hk5 with rfl | rfl <;> simp
    · rw [isNot_means V hi ha h1]; rcases hk5 with rfl | rfl <;> cases ev V N b <;> rfl
    · rw [isNot_means V hi hb h1]; rcases hk5 with rfl | rfl <;> cases ev V N a <;> rfl
  rename_i h1
  rw [if_neg h1] at hi2
  split
  · rename_i h2
    refine meant_old hm hb ?_
    rw [hsem]
    have hk5 : k = 5 ∨ k = 6 := by omega
    rcases h2 with rfl | rfl
    · rw [el]; rcases hk5 with rfl | rfl <;> simp
    · rcases hk5 with rfl | rfl <;> cases ev V N a <;> rfl
  rename_i h2
  rw [if_neg h2] at hi2
  split
  · rename_i h3
    subst h3
    refine meant_old hm ha ?_
    rw [hsem, el]
    have hk5 : k = 5 ∨ k = 6 := by omega
    rcases hk5 with rfl | rfl <;> cases ev V N a <;> rfl
  rename_i h3
  rw [if_neg h3] at hi2
  have ja := hasN_iff.1 ha
  have jb := hasN_iff.1 hb
  refine meant_num hi hl hi2 hm ⟨fun h => ?_, fun _ => ?_⟩ ?_
  · exfalso; simp only at h; omega
  · exact ⟨by show min a b < _; omega, by show max a b < _; omega⟩
  · rcases (show (min a b = a ∧ max a b = b) ∨ (min a b = b ∧ max a b = a) by omega) with ⟨p, q⟩ | ⟨p, q⟩ <;> rw [p, q]
    rcases hk with ⟨rfl, _⟩ | ⟨rfl, _⟩
    · show (ev V N b && ev V N a) = (ev V N a && ev V N b); cases ev V N a <;> cases ev V N b <;> rfl
    · show (ev V N b || ev V N a) = (ev V N a || ev V N b); cases ev V N a <;> cases ev V N b <;> rfl
theorem do_means (V : List Bool) {N : List Nd} {op : Nd} (hi : InForm N) (hw : Wf op) (hl : N.length < 19998) : Meant V N op (doN N op) := by
  have hi2 := inForm_do hi hw
  obtain ⟨k, a, b⟩ := op
  unfold doN at hi2 ⊢
  simp only at hi2 ⊢
  by_cases k1 : k = 1
  · subst k1; exact meant_old rfl has_lit.1 (ev_zero V hi)
  rw [if_neg k1] at hi2 ⊢
  by_cases k2 : k = 2
  · subst k2; exact meant_old rfl has_lit.2 (ev_one V hi)
  rw [if_neg k2] at hi2 ⊢
  by_cases k3 : k = 3
  · subst k3
    rw [if_pos rfl] at hi2 ⊢
    by_cases ha : a < 0
    · rw [if_pos ha]
      exact meant_none (by show decide (0 ≤ a) = false; simpa using ha)
    · rw [if_neg ha] at hi2 ⊢
      exact meant_num hi hl hi2 (by show decide (0 ≤ a) = true; simp; omega) ⟨fun h => by simp at h, fun h => by simp at h⟩ rfl
  rw [if_neg k3] at hi2 ⊢
  by_cases k4 : k = 4
  · subst k4
    rw [if_pos rfl] at hi2 ⊢
    unfold notN at hi2 ⊢
    by_cases ha : hasN N a = false
    · rw [if_pos ha]
      exact meant_none ha
    rw [if_neg ha] at hi2 ⊢
    simp only [Bool.not_eq_false] at ha
    have hm : may N (4, a, b) = true := ha
    have hs : sem V N (4, a, b) = !(ev V N a) := rfl
    by_cases n1 : (nd N a.toNat).1 = 1
    · rw [if_pos n1]
      obtain rfl : a = 0 := by rcases low_of hi ha (.inl n1) with ⟨_, h⟩ | ⟨h, _⟩ <;> omega
      exact meant_old hm has_lit.2 (by rw [hs, ev_one V hi, ev_zero V hi]; rfl)
    rw [if_neg n1] at hi2 ⊢
    by_cases n2 : (nd N a.toNat).1 = 2
    · rw [if_pos n2]
      obtain rfl : a = 1 := by rcases low_of hi ha (.inr n2) with ⟨h, _⟩ | ⟨_, h⟩ <;> omega
      exact meant_old hm has_lit.1 (by rw [hs, ev_one V hi, ev_zero V hi]; rfl)
    rw [if_neg n2] at hi2 ⊢
    by_cases n4 : (nd N a.toNat).1 = 4
    · rw [if_pos n4]
      refine meant_old hm (not_part hi ha n4) ?_
      rw [hs, ev_at V hi ha]
      unfold sem
      simp [n4]
    rw [if_neg n4] at hi2 ⊢
    exact meant_num hi hl hi2 hm ⟨fun _ => (hasN_iff.1 ha).2, fun h => by simp at h⟩ rfl
  rw [if_neg k4] at hi2 ⊢
  by_cases k5 : k = 5
  · subst k5
    rw [if_pos rfl] at hi2 ⊢
    exact pair_means V hi hl (.inl ⟨rfl, rfl, rfl⟩) hi2
  rw [if_neg k5] at hi2 ⊢
  by_cases k6 : k = 6
  · subst k6
    rw [if_pos rfl] at hi2 ⊢
    exact pair_means V hi hl (.inr ⟨rfl, rfl, rfl⟩) hi2
  rw [if_neg k6]
  exact meant_none (by simp [may, k1, k2, k3, k4, k5, k6])
end Go.Proofs.Ytmeomfnnachkoaa.MeanN
