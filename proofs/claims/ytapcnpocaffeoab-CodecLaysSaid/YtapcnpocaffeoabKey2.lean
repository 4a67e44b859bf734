/- Contracts of keys: appendKey, Key. -/
import Derived.Test.YtapcnpocaffeoabKey
namespace Go.Proofs.Ytapcnpocaffeoab
open Go.RowKit
/-- A right value's key. -/
def vkey (v : Val) : List UInt8 :=
  if v.1 = 1 then 1 :: be8 (v.2.1 + 9223372036854775808).toNat else if v.1 = 2 then 2 :: (esc v.2.2.data.toList ++ [0, 1]) else [3, UInt8.ofNat v.2.1.toNat]
theorem vkey_len (v : Val) : (vkey v).length ≤ 9 + 2 * v.2.2.size := by
  have := esc_len v.2.2.data.toList
  rw [← Lib.size_eq] at this
  unfold vkey
  split
  · simp [be8]
  · split
    · simp; omega
    · simp only [List.length_cons, List.length_nil]; omega
theorem right_kinds {v : Val} (h : vright v = true) : (v.1 = 1 ∧ v.2.2 = ⟨#[]⟩) ∨ (v.1 = 2 ∧ v.2.1 = 0 ∧ v.2.2.size ≤ 200) ∨ (v.1 = 3 ∧ (v.2.1 = 0 ∨ v.2.1 = 1) ∧ v.2.2 = ⟨#[]⟩) := by
  unfold vright at h
  split at h
  · exact .inl ⟨by assumption, eq_empty (by simpa using h)⟩
  · split at h
    · rw [Bool.and_eq_true] at h
      exact .inr (.inl ⟨by assumption, of_decide_eq_true h.1, of_decide_eq_true h.2⟩)
    · split at h
      · rw [Bool.and_eq_true, Bool.or_eq_true] at h
        exact .inr (.inr ⟨by assumption, h.1.imp of_decide_eq_true of_decide_eq_true, eq_empty (of_decide_eq_true h.2)⟩)
      · cases h
end Go.Proofs.Ytapcnpocaffeoab
