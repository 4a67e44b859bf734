/- Contracts of the document's numbers: Small, and what is told of a number; sums. -/
import Derived.Test.YtapnkbamilkpoaaNumC
import Derived.Test.YtapnkbamilkpoaaCalcA
namespace Go.Proofs.Ytapnkbamilkpoaa
open Go.RowKit
theorem drop_getD (l : List Int) (k : Nat) (h : k < l.length) : dval (l.drop k) = l.getD k 0 + 10 * dval (l.drop (k + 1)) := by
  rw [List.drop_eq_getElem_cons h, dval, List.getD_eq_getElem?_getD, List.getElem?_eq_getElem h]; rfl
theorem drop_le {l : List Int} (hd : Digs l) (k : Nat) : 0 ≤ dval (l.drop k) ∧ dval (l.drop k) ≤ dval l := by
  have h1 : Digs (l.drop k) := fun x hx => hd x (List.mem_of_mem_drop hx)
  have h2 := dval_nonneg h1
  have h3 := dval_append (l.take k) (l.drop k)
  rw [List.take_append_drop] at h3
  have h4 := dval_nonneg (hd.take k)
  have h5 : 1 * dval (l.drop k) ≤ pw (l.take k).length * dval (l.drop k) := Int.mul_le_mul_of_nonneg_right (pw_pos _) h2
  omega
/-- Whether a number is an int64. -/
def inB (V : Int) : Bool := decide (-9223372036854775808 ≤ V ∧ V ≤ 9223372036854775807)
theorem canon_n20 {ds : List Int} (h : Canon ds) (hv : dval ds ≤ 9223372036854775808) : ds.length ≤ 19 := canon_len h (by rw [pw19]; omega)
theorem er_in (V : Int) : erN V = if inB V then 0 else 2 := by
  unfold erN inB
  by_cases h : -9223372036854775808 ≤ V ∧ V ≤ 9223372036854775807 <;> simp [h]
end Go.Proofs.Ytapnkbamilkpoaa
