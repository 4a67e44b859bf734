/- Contracts of calc's sums. -/
import Derived.Test.YtapnkbamilkpoaaCalcT
namespace Go.Proofs.Ytapnkbamilkpoaa
open Go.RowKit
theorem ints_one {w : World} {b : Nat} {x : Int} (h : w.cell? ⟨b, 0, none⟩ = some (.int .i64 x)) : Ints .i64 w (some ⟨b, 0, none⟩) [x] :=
  .inr ⟨by simp, b, 0, rfl, lt_of_cell h, fun i hi => by simp at hi; subst hi; exact h⟩
theorem ints_two {w : World} {b : Nat} {x y : Int} (h : w.cell? ⟨b, 0, none⟩ = some (.int .i64 x)) (k : w.cell? ⟨b, 1, none⟩ = some (.int .i64 y)) : Ints .i64 w (some ⟨b, 0, none⟩) [x, y] :=
  .inr ⟨by simp, b, 0, rfl, lt_of_cell h, fun i hi => by
    have : i = 0 ∨ i = 1 := by simp at hi; omega
    rcases this with rfl | rfl <;> assumption⟩
theorem ints_three {w : World} {b : Nat} {x y z : Int} (h : w.cell? ⟨b, 0, none⟩ = some (.int .i64 x)) (k : w.cell? ⟨b, 1, none⟩ = some (.int .i64 y)) (l : w.cell? ⟨b, 2, none⟩ = some (.int .i64 z)) : Ints .i64 w (some ⟨b, 0, none⟩) [x, y, z] :=
  .inr ⟨by simp, b, 0, rfl, lt_of_cell h, fun i hi => by
    have : i = 0 ∨ i = 1 ∨ i = 2 := by simp at hi; omega
    rcases this with rfl | rfl | rfl <;> assumption⟩
theorem i64s_one {x : Int} (h : -9223372036854775808 ≤ x) (h' : x ≤ 9223372036854775807) : I64s [x] := fun z hz => by simp at hz; omega
def sgn (size : Int) (below : Bool) : Int := if below then -size else size
end Go.Proofs.Ytapnkbamilkpoaa
