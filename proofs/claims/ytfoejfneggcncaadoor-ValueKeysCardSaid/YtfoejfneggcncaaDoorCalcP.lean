/- Contracts of calc's texts: Print, numeral, Parse. -/
import Derived.Test.YtfoejfneggcncaaDoorCalcA
import Derived.Test.YtfoejfneggcncaaDoorShelf
import Derived.Test.YtfoejfneggcncaaDoorItoa
import Derived.Lib.ConvBytes
import Derived.Lib.AppendIntMem
import Derived.Lib.AtoiErrMem
namespace Go.Proofs.YtfoejfneggcncaaDoor
open Go.RowKit
theorem bytes_list (s : ByteArray) : s.toList = s.data.toList := ByteArray.toList_eq s
theorem print_any (n : Int) (h0 : -9223372036854775808 ≤ n) (h1 : n ≤ 9223372036854775807) (w : World) (htab : Lib.TabIs Tryd.prog w "internal/strconv.uint64pow10" .u64 Lib.pow10Tab) :
    Calls Tryd.prog 46 #[.int .i64 n] w fun e w' => e = .returned (.string ⟨(Lib.itoa n).toArray⟩) ∧ Below w.heap.size w w' := by
  go_enter Tryd.func46, Tryd.ntmps46
  go_wp2_with fail
  refine (Tryd.strconv_FormatInt_10 n h0 h1 _ htab).mono ?_
  rintro e w1 ⟨rfl, k, os, rfl⟩
  go_wp2
  go_ret
  exact ⟨rfl, Lib.below_grow _ _ (Nat.le_refl _) _ _⟩
theorem data_head (s : ByteArray) (h : 0 < s.size) : s.data.toList.head? = some s[0] := by
  rw [List.head?_eq_getElem?, Array.getElem?_toList, Array.getElem?_eq_getElem (by simpa using h)]
  rfl
theorem numB_none (s : ByteArray) (h : s.toList = []) : numB s.data.toList = false := by
  rw [← bytes_list, h]; rfl
theorem numB_nought (s : ByteArray) (hp : 0 < s.size) (h0 : (s[0].toNat : Int) = 48) (h1 : s.toList.isEmpty = true ∨ (!s.toList == [48]) = true) (hn : ¬ s.toList = []) : numB s.data.toList = false := by
  have h2 : s[0] = 48 := by
    apply UInt8.toNat_inj.mp
    have : (48 : UInt8).toNat = 48 := rfl
    omega
  have h3 : (s.toList == [48]) = false := by
    rcases h1 with h1 | h1
    · simp at h1; exact absurd h1 hn
    · simpa using h1
  unfold numB
  rw [data_head s hp, h2, ← bytes_list, h3]
  simp
theorem numB_all (s : ByteArray) (hp : 0 < s.size) (hn : ¬ s.toList = []) (h : ¬ (s[0].toNat : Int) = 48 ∨ (!s.toList == [48]) = false) : numB s.data.toList = s.data.toList.all isDig := by
  have he : s.data.toList.isEmpty = false := by
    rw [← bytes_list]; simpa using hn
  unfold numB
  rw [data_head s hp, he]
  rcases h with h | h
  · have : ((some s[0] : Option UInt8) == some 48) = false := by
      apply beq_false_of_ne
      intro e
      injection e with e
      rw [e] at h
      exact h rfl
    rw [this]; rfl
  · have h4 : (s.data.toList == [48]) = true := by rw [← bytes_list]; simpa using h
    rw [h4]; simp
theorem below_or {w w1 : World} {e : TypeId} {s : ByteArray} (h : w1 = w ∨ w1 = Lib.bytesWorld w e s) : Below w.heap.size w w1 := by
  rcases h with rfl | rfl
  · exact Below.refl _ _
  · exact Lib.bytesWorld_below _ _ _
theorem itoa_trim (n : Int) : Lib.trimPrefix (Lib.itoa n) [45] = Lib.decDigits n.natAbs ∧ Lib.hasPrefix (Lib.itoa n) [45] = decide (n < 0) := by
  by_cases h : n < 0
  · have : Lib.itoa n = 45 :: Lib.decDigits n.natAbs := by unfold Lib.itoa; rw [if_pos h]
    rw [this]
    simp [Lib.trimPrefix, Lib.hasPrefix, List.isPrefixOf, h]
  · have : Lib.itoa n = Lib.decDigits n.natAbs := by unfold Lib.itoa; rw [if_neg h]; congr 1; omega
    rw [this]
    have hp := dec_not_minus n.natAbs []
    simp [Lib.trimPrefix, hp, h]
end Go.Proofs.YtfoejfneggcncaaDoor
