/- Contracts of the document's numbers: add, sub, less. -/
import Derived.Test.YtapcnpocaffeoabNumA
namespace Go.Proofs.Ytapcnpocaffeoab
open Go.RowKit
theorem _root_.Go.Proofs.Ytapcnpocaffeoab.Digs.at {l : List Int} (h : Digs l) (k : Nat) : 0 ≤ l.getD k 0 ∧ l.getD k 0 ≤ 9 := by
  rw [List.getD_eq_getElem?_getD]
  by_cases hk : k < l.length
  · rw [List.getElem?_eq_getElem hk]; exact h _ (List.getElem_mem hk)
  · rw [List.getElem?_eq_none (by omega)]; exact ⟨Int.le_refl _, by decide⟩
theorem dval_take_succ (l : List Int) (k : Nat) : dval (l.take (k + 1)) = dval (l.take k) + pw k * l.getD k 0 := by
  by_cases hk : k < l.length
  · rw [take_getD l k hk, dval_snoc, List.length_take, Nat.min_eq_left (by omega)]
  · rw [List.take_of_length_le (by omega), List.take_of_length_le (by omega), List.getD_eq_getElem?_getD, List.getElem?_eq_none (by omega)]; simp
/-- A sum of digits, or a difference. -/
def DigRet (V : Int) (L : Nat) (w : World) (e : Ending) (w' : World) : Prop := ∃ a n c ds, e = .returned (.slice a n c) ∧ ds.length = n ∧ n ≤ c ∧ n ≤ L ∧ Ints .i64 w' a ds ∧ Digs ds ∧ dval ds = V ∧ Below w.heap.size w w' ∧ Fresh w.heap.size a
theorem all_alike {a b : List Int} (hl : a.length = b.length) (he : ∀ i, i < a.length → a.getD i 0 = b.getD i 0) : dval a = dval b := by
  have h := top_alike 0 hl (Nat.zero_le _) (fun i _ => he i)
  simpa using h
end Go.Proofs.Ytapcnpocaffeoab
