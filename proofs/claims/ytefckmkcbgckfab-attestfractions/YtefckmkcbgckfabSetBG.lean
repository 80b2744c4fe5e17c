/- A region that draws its order, walked by an invariant: one step an operation, whatever has come up before it. -/
import Derived.Orders
import Derived.WalkKit
namespace Go.Proofs.Ytefckmkcbgckfab.StabL
open Go

theorem upon_then {P : Program} {o : Oper} {a : Act} {K : Act → World → Prop} {Q : Exit → Act → World → Prop} {r : Result Next} (h : o.upon P a K (Exit.then K Q) r) : o.upon P a K Q r := by
  cases r with
  | ok n w' => cases n <;> exact h
  | halt x w' => cases x <;> exact h
/-- One operation of the region, as a region of itself. -/
theorem wpOp_of_list {P : Program} {ops : Array Oper} {Q : Exit → Act → World → Prop} {i : Nat} {o : Oper} {K : Act → World → Prop} {a : Act} {w : World} (ho : ops[i]? = some o) (h : wpList P ops (Exit.then K Q) [o] a w) : wpOp P ops Q i K a w := by
  unfold wpList at h
  unfold wpOp
  simp only [ho]
  have e : wpList P ops (Exit.then K Q) [] = K := by funext a w; rfl
  rw [e] at h
  split
  · rename_i hw
    rw [if_pos hw] at h
    exact h.imp (fun h => upon_then h) (fun h => ⟨h.1, h.2⟩)
  · rename_i hw
    rw [if_neg hw] at h
    exact h
theorem getD_in {L : Array Bool} {j : Nat} (h : j < L.size) : L.getD j true = L.getD j false := by simp [h]
/-- What has come up, as a function. -/
def up (L : Array Bool) (j : Nat) : Bool := L.getD j false
theorem up_set {L : Array Bool} {i : Nat} (hi : i < L.size) : up (L.setIfInBounds i true) = fun j => if j = i then true else up L j := by
  funext j
  unfold up
  by_cases h : j = i
  · subst h
    simp [hi]
  · rw [if_neg h, getD_set_ne false (Ne.symm h)]
/-- Each operation waits for earlier ones alone. -/
def ahead (ops : Array Oper) : Bool := (List.range ops.size).all fun i => ((ops[i]?).map fun o => o.after.all fun e => decide (e.on < i)).getD true
theorem ahead_spec {ops : Array Oper} (h : ahead ops = true) {i : Nat} {o : Oper} (ho : ops[i]? = some o) : ∀ e ∈ o.after, e.on < i := by
  intro e he
  unfold ahead at h
  rw [List.all_eq_true] at h
  have h1 := h i (List.mem_range.2 (Array.getElem?_eq_some_iff.1 ho).1)
  rw [ho] at h1
  simp only [Option.map_some, Option.getD_some] at h1
  rw [Array.all_eq_true'] at h1
  simpa using h1 e he
/-- Where nothing may come up, all has come up. -/
theorem all_up {ops : Array Oper} {md : Region.Mode} (hd : ahead ops = true) {L : Array Bool} (hL : L.size = ops.size) (hr : Region.ready md ops L = []) : ∀ i, i < ops.size → up L i = true := by
  intro i
  induction i using Nat.strongRecOn with
  | ind i ih =>
    intro hi
    by_cases h : up L i = true
    · exact h
    · exfalso
      have hm : i ∈ Region.ready md ops L := by
        rw [mem_ready]
        refine ⟨?_, ops[i], Array.getElem?_eq_getElem hi, fun e he _ => ?_⟩
        · unfold up at h
          have hlt : i < L.size := by omega
          simp [hlt] at h ⊢
          exact h
        · have := ahead_spec hd (Array.getElem?_eq_getElem hi) e he
          exact ih e.on this (by omega)
      rw [hr] at hm
      cases hm
/-- THE LAW: I holds at the start; each operation that may come up keeps it; it gives what follows. -/
theorem wp_region_inv {P : Program} {id : Nat} {ops : Array Oper} {Q : Exit → Act → World → Prop} {a : Act} {w : World} (I : Act → (Nat → Bool) → Act → World → Prop) (hm : P.follows .mixedOrders = true) (hd : ahead ops = true)
    (h0 : I a (fun _ => false) a w.drew)
    (hs : ∀ (i : Nat) (o : Oper), ops[i]? = some o → ∀ (f : Nat → Bool) (b : Act) (v : World), I a f b v → f i = false → (∀ e ∈ o.after, Region.binds .any e = true → f e.on = true) →
      ∀ (Q' : Exit → Act → World → Prop) (K : Act → World → Prop), (∀ b v, I a (fun j => if j = i then true else f j) b v → K b v) → wpList P ops (Exit.then K Q') [o] b v)
    (he : ∀ (f : Nat → Bool) (b : Act) (v : World), (∀ i, i < ops.size → f i = true) → I a f b v → Q .normal b v) : (Code.region id ops true).wp P Q a w := by
  refine wp_region_any hm ?_
  have key : ∀ (fuel : Nat) (L : Array Bool) (b : Act) (v : World), L.size = ops.size → (fuel = 0 → Region.ready .any ops L = []) → (∀ n, (Region.ready .any ops L).length ≤ n → True) → I a (up L) b v → (∀ k, ((List.range ops.size).filter fun i => !up L i).length = k → k ≤ fuel) → wpAny P .any ops Q fuel L b v := by
    intro fuel
    induction fuel with
    | zero =>
      intro L b v hL h1 _ hI _
      have hr := h1 rfl
      exact ⟨hr, he _ b v (all_up hd hL hr) hI⟩
    | succ fuel ih =>
      intro L b v hL _ _ hI hk
      refine ⟨fun hr => he _ b v (all_up hd hL hr) hI, fun i hi => ?_⟩
      obtain ⟨hun, o, ho, hall⟩ := mem_ready.1 hi
      have hlt : i < ops.size := (Array.getElem?_eq_some_iff.1 ho).1
      have hu : up L i = false := by
        unfold up
        rw [← getD_in (by omega)]
        exact hun
      refine wpOp_of_list ho (hs i o ho (up L) b v hI hu hall Q _ fun b' v' hI' => ?_)
      have hsz : (L.setIfInBounds i true).size = ops.size := by simp [hL]
      have hup := up_set (L := L) (i := i) (by omega)
      have hcount : ((List.range ops.size).filter fun j => !up (L.setIfInBounds i true) j).length < ((List.range ops.size).filter fun j => !up L j).length := by
        rw [hup]
        have hsub : ((List.range ops.size).filter fun j => !(if j = i then true else up L j)) = ((List.range ops.size).filter fun j => !up L j).filter fun j => !decide (j = i) := by
          rw [List.filter_filter]
          congr 1
          funext j
          by_cases h : j = i <;> simp [h]
        rw [hsub]
        have hmem : i ∈ (List.range ops.size).filter fun j => !up L j := by
          rw [List.mem_filter]
          exact ⟨List.mem_range.2 hlt, by simp [hu]⟩
        exact List.length_filter_lt_length_iff_exists.2 ⟨i, hmem, by simp⟩
      have hle := hk _ rfl
      refine ih _ b' v' hsz (fun h0 => ?_) (fun _ _ => trivial) (by rw [hup]; exact hI') (fun k hk' => by omega)
      have hz : ((List.range ops.size).filter fun j => !up (L.setIfInBounds i true) j).length = 0 := by omega
      have hnil := List.length_eq_zero_iff.1 hz
      apply List.eq_nil_iff_forall_not_mem.2
      intro j hj
      obtain ⟨hj1, oj, hoj, _⟩ := mem_ready.1 hj
      have hjl : j < ops.size := (Array.getElem?_eq_some_iff.1 hoj).1
      have : j ∈ (List.range ops.size).filter fun j => !up (L.setIfInBounds i true) j := by
        rw [List.mem_filter]
        refine ⟨List.mem_range.2 hjl, ?_⟩
        unfold up
        rw [← getD_in (by omega), hj1]
        rfl
      rw [hnil] at this
      cases this
  refine key ops.size _ a _ (by simp) (fun h => ?_) (fun _ _ => trivial) ?_ (fun k hk => ?_)
  · apply List.eq_nil_iff_forall_not_mem.2
    intro j hj
    obtain ⟨_, oj, hoj, _⟩ := mem_ready.1 hj
    have := (Array.getElem?_eq_some_iff.1 hoj).1
    omega
  · have : up (Array.replicate ops.size false) = fun _ => false := by
      funext j
      unfold up
      simp [Array.getElem?_replicate]
      split <;> rfl
    rw [this]
    exact h0
  · rw [← hk]
    refine Nat.le_trans (List.length_filter_le _ _) (by simp)
end Go.Proofs.Ytefckmkcbgckfab.StabL
