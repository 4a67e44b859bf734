/- Eight bytes as one number. -/
import Derived.Test.YtapnkbamilkpoaaKey3
namespace Go.Proofs.Ytapnkbamilkpoaa
open Go.RowKit
/-- Bytes as one number, the first weighs most. -/
def num8 (l : List UInt8) : Nat := l.foldl (fun a c => a * 256 + c.toNat) 0
theorem num8_snoc (l : List UInt8) (c : UInt8) : num8 (l ++ [c]) = num8 l * 256 + c.toNat := by simp [num8]
theorem num8_lt : ∀ n : Nat, ∀ l : List UInt8, l.length = n → num8 l < 256 ^ n
  | 0, l, h => by rw [List.length_eq_zero_iff.1 h]; simp [num8]
  | n + 1, l, h => by
    have hne : l ≠ [] := by intro e; simp [e] at h
    have e := List.dropLast_concat_getLast hne
    have hl : l.dropLast.length = n := by simp [h]
    have ih := num8_lt n l.dropLast hl
    rw [← e, num8_snoc, Nat.pow_succ]
    have := (l.getLast hne).toNat_lt
    omega
theorem num8_be8 (u : Nat) (h : u < 18446744073709551616) : num8 (be8 u) = u := by
  simp [num8, be8]
  omega
end Go.Proofs.Ytapnkbamilkpoaa
