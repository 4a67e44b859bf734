/- Eight bytes as one number. -/
import Derived.Test.YtapnkbamilkpoaaKey3
namespace Go.Proofs.Ytapnkbamilkpoaa
open Go.RowKit
/-- Bytes as one number, the first weighs most. -/
def num8 (l : List UInt8) : Nat := l.foldl (fun a c => a * 256 + c.toNat) 0
theorem num8_snoc (l : List UInt8) (c : UInt8) : num8 (l ++ [c]) = num8 l * 256 + c.toNat := by simp [num8]
theorem num8_lt : ∀ n : Nat, ∀ l : List UInt8, l.length = n → num8 l < 256 ^ n
  | 0, l, h => by rw [List.length_eq_zero_iff.1 h]; simp [num8]
  | n + 1, l, h => by
    have hne : l ≠ [] := by intro e; simp [e] at h
    have e := List.dropLast_concat_getLast hne
    have hl : l.dropLast.length = n := by simp [h]
    have ih := num8_lt n l.dropLast hl
    rw [← e, num8_snoc, Nat.pow_succ]
    have := (l.getLast hne).toNat_lt
    omega
theorem num8_be8 (u : Nat) (h : u < 18446744073709551616) : num8 (be8 u) = u := by
  simp [num8, be8]
  omega
theorem conv_one (w : World) (z : Int) (h0 : 0 ≤ z) (h1 : z < 256) : (convert 91 9 (Value.slice (some ⟨w.heap.size, 0, none⟩) 1 1)).run Try.prog (w.alloc (.cells #[Value.int .u8 z] 5)) = .ok (.string ⟨#[UInt8.ofNat z.toNat]⟩) (w.alloc (.cells #[Value.int .u8 z] 5)) := by
  have h := run_convert_bytes_back (P := Try.prog) (w.alloc (.cells #[Value.int .u8 z] 5)) 91 9 5 ⟨w.heap.size, 0, none⟩ 1 [UInt8.ofNat z.toNat] Try.underlying91 Try.underlying5 Try.underlying9 (by
    intro j hj
    obtain rfl : j = 0 := by simpa using hj
    have e : ((UInt8.ofNat z.toNat).toNat : Int) = z := by simp [UInt8.toNat_ofNat']; omega
    show _ = some (Value.int .u8 ((UInt8.ofNat z.toNat).toNat : Int))
    rw [e]
    go_simp)
  exact h
end Go.Proofs.Ytapnkbamilkpoaa
