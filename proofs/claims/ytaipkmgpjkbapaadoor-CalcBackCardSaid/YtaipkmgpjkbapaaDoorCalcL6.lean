/- CalcBack: what is printed is parsed as it was. -/
import Derived.Test.YtaipkmgpjkbapaaDoorCalcP
import Derived.Test.YtaipkmgpjkbapaaDoorCalcD
namespace Go.Proofs.YtaipkmgpjkbapaaDoor
open Go.RowKit
theorem back_walk (n : Int) (h0 : -9223372036854775808 ≤ n) (h1 : n ≤ 9223372036854775807) (w : World) (htab : Lib.TabIs Tryd.prog w "internal/strconv.uint64pow10" .u64 Lib.pow10Tab) :
    Calls Tryd.prog 4 #[.int .i64 n] w fun e w' => e = .returned (.bool true) ∧ Below w.heap.size w w' := by
  go_enter Tryd.func4, Tryd.ntmps4
  go_wp2_with fail
  refine (print_any n h0 h1 _ htab).mono ?_
  rintro e w1 ⟨rfl, hb1⟩
  go_wp2_with fail
  refine (parse_itoa n h0 h1 _).mono ?_
  rintro e w2 ⟨rfl, hb2⟩
  go_wp2_with fail
  refine (awake_any _).mono ?_
  rintro e w3 ⟨rfl, hb3⟩
  go_wp2
  go_ret
  exact ⟨rfl, Below.thenB (Below.thenB hb1 hb1.size hb2) (Nat.le_trans hb1.size hb2.size) hb3⟩
#print axioms back_walk
end Go.Proofs.YtaipkmgpjkbapaaDoor
