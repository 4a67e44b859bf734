/- The length that bytes may have, in a settled world. -/
import Derived.Test.YtfoejfneggcncaaDoorDoor
namespace Go.Proofs.YtfoejfneggcncaaDoor
open Go.RowKit
theorem max_of_shaped {W : World} (h : W.ShapedOpen Tryd.prog) : IntCell W 1 := by
  obtain ⟨m, hm⟩ := Tryd.laysM155.s1_3 W h
  exact ⟨lt_of_cell hm, m, hm⟩
end Go.Proofs.YtfoejfneggcncaaDoor
