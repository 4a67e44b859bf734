/- Contracts of Parse of values. -/
import Derived.Test.YtfoejfneggcncaaDoorPrint
import Derived.Test.YtfoejfneggcncaaDoorTextC
import Derived.Test.YtfoejfneggcncaaDoorRV
namespace Go.Proofs.YtfoejfneggcncaaDoor
open Go.RowKit
/-- The text between quotes, as the program takes it out. -/
def inner (l : List UInt8) : List UInt8 := Lib.replaceAll (Lib.trimSuffix (Lib.trimPrefix l [39]) [39]) [39, 39] [39]
def innerV (l : List UInt8) : Val := (2, 0, ⟨(inner l).toArray⟩)
def zeroV : Val := (0, 0, ⟨#[]⟩)
/-- The value that a text is the print of, as the program finds it. -/
def vparse (l : List UInt8) : Option Val :=
  if l = [116, 114, 117, 101] then some (3, 1, ⟨#[]⟩) else if l = [102, 97, 108, 115, 101] then some (3, 0, ⟨#[]⟩)
  else if Lib.hasPrefix l [39] then (if printOf (innerV l) = l then some (innerV l) else none)
  else match parV l with
    | some V => if inB V then some (1, V, ⟨#[]⟩) else none
    | none => none
def pret (o : Option Val) : Ending := match o with
  | some v => .returned (.tuple #[vagg v, .int .i64 0])
  | none => .returned (.tuple #[vagg zeroV, .int .i64 12])
theorem ba_eq (s : ByteArray) (l : List UInt8) (h : s.data.toList = l) : s = ⟨l.toArray⟩ := by
  subst h
  cases s
  simp
def numV (o : Option Int) : Option Val := match o with
  | some V => if inB V then some (1, V, ⟨#[]⟩) else none
  | none => none
end Go.Proofs.YtfoejfneggcncaaDoor
