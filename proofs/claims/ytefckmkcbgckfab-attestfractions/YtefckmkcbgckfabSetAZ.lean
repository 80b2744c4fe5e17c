/- What the reference's decimal text is. -/
import Derived.Test.YtefckmkcbgckfabSetAG
import Derived.Test.YtefckmkcbgckfabSetAD
namespace Go.Proofs.Ytefckmkcbgckfab.RText
open Go.RowKit Mem LimbNum Limb1 RefL BitDiv Words DigNum StrL

theorem dl_nb (N : Nat) : (dl N).length ≤ (nb N).length := by
  apply dl_len_le
  have h1 := fromL_lt (nb N)
  rw [fromL_nb] at h1
  have h2 : (2 : Nat) ^ (nb N).length ≤ 10 ^ (nb N).length := Nat.pow_le_pow_left (by omega) _
  omega
theorem one_byte (x : Nat) (X : Int) (hX : X = (x : Int)) (W : World) : ∀ dst, Try.prog.underlying dst = some .string → (convert 77 dst (.slice (some ⟨W.heap.size, 0, none⟩) 1 1)).run Try.prog (W.alloc (.cells #[.int .u8 X] 5)) = .ok (.string (bs [x])) (W.alloc (.cells #[.int .u8 X] 5)) := by
  intro dst hd
  have := run_convert_bytes_arg (P := Try.prog) (W.alloc (.cells #[.int .u8 X] 5)) 77 5 Try.underlying77 Try.underlying5 W.heap.size 0 1 1 ([x].map fun (n : Nat) => (n : Int)) rfl (fun i hi => by
    obtain rfl : i = 0 := by omega
    simp [hX]) dst hd
  rw [nums_bs] at this
  exact this
end Go.Proofs.Ytefckmkcbgckfab.RText
