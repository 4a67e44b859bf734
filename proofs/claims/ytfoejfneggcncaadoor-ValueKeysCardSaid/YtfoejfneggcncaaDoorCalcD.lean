/- Contracts of calc's quotients; the law's examples; the least and the greatest. -/
import Derived.Test.YtfoejfneggcncaaDoorCalcA
namespace Go.Proofs.YtfoejfneggcncaaDoor
open Go.RowKit
def divN (a b : Int) : Int := if b = 0 then 0 else okN (a.fdiv b)
def divE (a b : Int) : Int := if b = 0 then 3 else erN (a.fdiv b)
def modN (a b : Int) : Int := if b = 0 then 0 else a.fmod b
def modE (b : Int) : Int := if b = 0 then 3 else 0
theorem fdiv_m1 (a : Int) : a.fdiv (-1) = -a := by
  have := fdiv_of a (-1) (by decide)
  simpa using this

end Go.Proofs.YtfoejfneggcncaaDoor
