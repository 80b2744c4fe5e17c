/- Texts as lists of bytes. -/
import Derived.Test.YtefckmkcbgckfaaGreatDoorSetAA
import Derived.Test.YtefckmkcbgckfaaGreatDoorSetAC
import Derived.Laws.BytesArg
import Derived.Laws.Concat
namespace Go.Proofs.YtefckmkcbgckfaaGreatDoor.StrL
open Go.RowKit Mem LimbNum DigNum DigL

/-- The text of these bytes. -/
def bs (l : List Nat) : ByteArray := ⟨(l.map UInt8.ofNat).toArray⟩
def B8 (l : List Nat) : Prop := ∀ x ∈ l, x < 256
theorem bs_size (l : List Nat) : (bs l).size = l.length := by simp [bs, ByteArray.size]
theorem bs_append (a b : List Nat) : bs (a ++ b) = bs a ++ bs b := by
  rw [bs, bs, bs, ByteArray.mk_append_mk, List.map_append]
theorem b8_dg {l : List Nat} (h : DG l) : B8 l := fun x hx => by have := h x hx; omega
theorem byte_bs (l : List Nat) (h : B8 l) (i : Nat) : byteAt (bs l) i = l.getD i 0 := by
  unfold byteAt
  split
  · rename_i hi
    rw [bs_size] at hi
    have h1 : (bs l)[i]'(by rw [bs_size]; exact hi) = UInt8.ofNat l[i] := by
      show ((l.map UInt8.ofNat).toArray)[i]'(by simpa using hi) = _
      simp
    rw [h1, List.getD_eq_getElem?_getD, List.getElem?_eq_getElem hi]
    have := h l[i] (List.getElem_mem hi)
    simp [UInt8.toNat_ofNat']
    omega
  · rename_i hi
    rw [bs_size] at hi
    rw [List.getD_eq_getElem?_getD, List.getElem?_eq_none (by omega)]; rfl
theorem getD_in (l : List Nat) (i : Nat) (h : i < l.length) : l.getD i 0 ∈ l := by
  rw [List.getD_eq_getElem?_getD, List.getElem?_eq_getElem h]; exact List.getElem_mem h
theorem digits_bs (l : List Nat) (h : DG l) : Digits (bs l) (bs l).size := by
  intro i hi
  rw [byte_bs l (b8_dg h)]
  rw [bs_size] at hi
  exact h _ (getD_in l i hi)
theorem num_bs (l : List Nat) (h : DG l) (n : Nat) (hn : n ≤ l.length) : num (bs l) 0 n = dv (l.take n) := by
  induction n with
  | zero => rfl
  | succ n ih =>
    have e : l.take (n + 1) = l.take n ++ [l.getD n 0] := by
      rw [List.take_add_one, List.getElem?_eq_getElem (by omega), List.getD_eq_getElem?_getD, List.getElem?_eq_getElem (by omega)]; rfl
    rw [num, ih (by omega), e, dv_push, Nat.zero_add, byte_bs l (b8_dg h)]
theorem num_all (l : List Nat) (h : DG l) : num (bs l) 0 (bs l).size = dv l := by
  rw [bs_size, num_bs l h _ (Nat.le_refl _), List.take_of_length_le (Nat.le_refl _)]
theorem bs_inj {a b : List Nat} (ha : B8 a) (hb : B8 b) (h : bs a = bs b) : a = b := by
  have hs : a.length = b.length := by rw [← bs_size a, ← bs_size b, h]
  apply List.ext_getElem hs
  intro i h1 h2
  have e1 := byte_bs a ha i
  have e2 := byte_bs b hb i
  rw [h, e2] at e1
  rw [List.getD_eq_getElem?_getD, List.getElem?_eq_getElem h2, List.getD_eq_getElem?_getD, List.getElem?_eq_getElem h1] at e1
  exact e1.symm
theorem nums_bs (l : List Nat) : strOfNums (l.map fun (n : Nat) => (n : Int)) = bs l := by
  simp [strOfNums, bs]
/-- A text is the text of its bytes. -/
theorem bs_of (s : ByteArray) : ∃ l, B8 l ∧ s = bs l := by
  refine ⟨s.data.toList.map UInt8.toNat, fun x hx => ?_, ?_⟩
  · simp only [List.mem_map] at hx
    obtain ⟨y, _, rfl⟩ := hx
    exact UInt8.toNat_lt y
  · cases s with
    | mk d =>
      have e : (UInt8.ofNat ∘ UInt8.toNat) = id := by funext x; simp
      simp [bs, e]
theorem extract_bs (l : List Nat) (a b : Nat) : (bs l).extract a b = bs ((l.take b).drop a) := by
  apply ByteArray.ext
  simp [bs, ByteArray.data_extract, List.extract_toArray, List.extract, List.map_drop, List.map_take, List.drop_take]
end Go.Proofs.YtefckmkcbgckfaaGreatDoor.StrL
