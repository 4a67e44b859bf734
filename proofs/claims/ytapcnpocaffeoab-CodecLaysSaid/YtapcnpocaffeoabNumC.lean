/- Contracts of the document's numbers: Minus, Plus. -/
import Derived.Test.YtapcnpocaffeoabNumB
namespace Go.Proofs.Ytapcnpocaffeoab
open Go.RowKit
theorem sgn_not {x : Bool} {V : Int} (h : x = decide (V < 0)) : sgnV (!x) (V.natAbs : Int) = -V := by
  subst h; unfold sgnV; by_cases h : V < 0 <;> simp [h] <;> omega
theorem sgn_id {x : Bool} {V : Int} (h : x = decide (V < 0)) : sgnV x (V.natAbs : Int) = V := by
  subst h; unfold sgnV; by_cases h : V < 0 <;> simp [h] <;> omega
theorem Ints.drew {k : IntKind} {w : World} {a : Option Addr} {zs : List Int} (h : Ints k w a zs) : Ints k w.drew a zs := h
end Go.Proofs.Ytapcnpocaffeoab
