/- CalcTexts: any text's number, or why it has none; any number's text. -/
import Derived.Test.YtfoejfneggcncaaDoorCalcP
import Derived.Test.YtfoejfneggcncaaDoorCalcD
import Derived.Test.YtfoejfneggcncaaDoorTextP
import Derived.Test.YtfoejfneggcncaaDoorDoor
namespace Go.Proofs.YtfoejfneggcncaaDoor
open Go.RowKit
theorem parV_num {l : List UInt8} (h : numB (Lib.trimPrefix l [45]) = false) : parV l = none := by
  unfold parV; rw [h]; rfl
theorem parV_nay {l : List UInt8} (h : (Lib.hasPrefix l [45] && (Lib.trimPrefix l [45] == [48])) = true) : parV l = none := by
  unfold parV; rw [h]; simp
theorem parV_yea {l : List UInt8} (h : numB (Lib.trimPrefix l [45]) = true) (h' : (Lib.hasPrefix l [45] && (Lib.trimPrefix l [45] == [48])) = false) :
    parV l = some (if Lib.hasPrefix l [45] then -(dreadV 0 (Lib.trimPrefix l [45]) : Int) else dreadV 0 (Lib.trimPrefix l [45])) := by
  unfold parV; rw [h, h']; rfl
theorem trim_len (l : List UInt8) : (Lib.trimPrefix l [45]).length ≤ l.length := by
  unfold Lib.trimPrefix
  split
  · simp
  · exact Nat.le_refl _
theorem beyond {V : Int} (h : 18446744073709551615 < V ∨ V < -18446744073709551615) : pN (some V) = 0 ∧ pE (some V) = 2 := by
  unfold pN pE okN erN
  simp only []
  rw [if_neg (by omega), if_neg (by omega)]; exact ⟨rfl, rfl⟩
theorem ret_bey {l : List UInt8} {V : Int} (hl : parV l = some V) (h : 18446744073709551615 < V ∨ V < -18446744073709551615) : Ending.returned (.tuple #[.int .i64 0, .int .i64 2]) = .returned (.tuple #[.int .i64 (pN (parV l)), .int .i64 (pE (parV l))]) := by
  rw [hl, (beyond h).1, (beyond h).2]
end Go.Proofs.YtfoejfneggcncaaDoor
