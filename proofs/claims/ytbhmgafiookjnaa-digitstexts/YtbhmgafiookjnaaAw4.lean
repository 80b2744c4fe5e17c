/- The check of answers that the document fixes for digits says yes. -/
import Derived.Test.YtbhmgafiookjnaaParseL
import Derived.Test.YtbhmgafiookjnaaTextL
namespace Go.Proofs.Ytbhmgafiookjnaa.Aw4
open Go.RowKit Mem LimbNum Limb1 Limb2 Limb4 NatNum NatL AddL Words DigNum DigL StrL ParseL TextL

theorem tx_is (l : List Nat) (N : Nat) (hd : DG l) (h0 : l.getD 0 0 ≠ 48) (hl : l ≠ []) (hN : dv l = N) : tx N = l := by
  have h := dl_is _ l rfl hd (.inr h0)
  rw [hN] at h
  unfold tx
  rw [if_neg]
  · exact h.symm
  · intro e; rw [e, dl_zero] at h; exact hl h
theorem tx_4 : bs (tx 4294967296) = ByteArray.mk #[52, 50, 57, 52, 57, 54, 55, 50, 57, 54] := by
  rw [tx_is [52, 50, 57, 52, 57, 54, 55, 50, 57, 54] 4294967296 (by intro d hd; simp at hd; omega) (by decide) (by decide) (by decide)]
  rfl
set_option maxRecDepth 20000 in
theorem awake4 (w : World) :
    Calls Try.prog 29 #[] w fun e w' => e = .returned (.bool true) ∧ Below w.heap.size w w' := by
  have ll := fun (W : World) => lit_lies W [12] 1 rfl (by decide)
  have dg : DG [48, 48, 49, 50] := by intro d hd; simp at hd; omega
  have cP := parse_yes (bs [48, 48, 49, 50]) w (digits_bs _ dg) (by rw [bs_size]; decide) (by rw [bs_size]; decide)
  rw [num_all _ dg, show dv [48, 48, 49, 50] = 12 by decide, show nl 12 = [12] by rw [nl_pos (by decide), show 12 / 4294967296 = 0 by decide, nl_zero]] at cP
  have eS : bs [48, 48, 49, 50] = ByteArray.mk #[48, 48, 49, 50] := rfl
  rw [eS] at cP
  have cE := fun (W : World) (ao : Option Addr) (cp : Nat) (h : Lies W ao cp (ints .u32 [12])) => same_any [12] [12] ao (some ⟨W.heap.size, 0, none⟩) cp 1 (W.alloc (.cells #[.int .u32 (12 : Int)] 23)) (h.alloc _) (ll W)
  have cT := fun (W : World) => text_any [0, 1] (some ⟨W.heap.size, 0, none⟩) 2 (W.alloc (.cells #[.int .u32 0, .int .u32 1] 23)) (lit_lies W [0, 1] 2 rfl (by decide)) (by intro x hx; simp at hx; omega) (by decide)
  rw [show val [0, 1] = 4294967296 by decide, tx_4] at cT
  simp only [List.length_cons, List.length_nil, decide_true] at cP cE cT
  clear ll dg eS
  go_enter Try.func29, Try.ntmps29
  go_wp2_with (first
    | (go_at_call 32; refine cP.mono ?_; rintro e w1 ⟨o1, p1, rfl, hown1, hb1⟩)
    | (go_at_call 14; refine (cE _ _ _ (lies_of_owns hown1)).mono ?_; rintro e w2 ⟨rfl, hb2⟩)
    | (go_at_call 30; refine (cT _).mono ?_; rintro e w3 ⟨rfl, hb3⟩))
  all_goals go_ret
  have B1 := bt hb1 (bt ((Below.refl w1.heap.size w1).alloc (Nat.le_refl _) (.cells #[.int .u32 12] 23)) hb2)
  have B2 := bt B1 (bt ((Below.refl w2.heap.size w2).alloc (Nat.le_refl _) (.cells #[.int .u32 0, .int .u32 1] 23)) hb3)
  exact ⟨rfl, B2⟩
end Go.Proofs.Ytbhmgafiookjnaa.Aw4
