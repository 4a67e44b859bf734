/- Contracts of calc's wide numbers: widen, plus, less, narrow, signed, magnitude. -/
import Derived.Test.YtapnkbamilkpoaaRows
import Derived.Test.YtapnkbamilkpoaaMath
import Derived.Test.YtapnkbamilkpoaaWorld
import Derived.Shelf.Spec.BitsCarry
import Derived.Deep.QuietTactic
import Derived.BigQuiet
import Derived.Deep.RegionHeld3
import Derived.Deep.RegionWith
namespace Go.Proofs.Ytapnkbamilkpoaa
open Go.RowKit
open Go.Proofs (sub64Entry run_sub64)

/-- A number as a wide one: its upper and its lower word. -/
def wdHi (V : Int) : Int := V / 18446744073709551616
def wdLo (V : Int) : Int := V % 18446744073709551616
theorem wdLo_bd (V : Int) : 0 ≤ wdLo V ∧ wdLo V ≤ 18446744073709551615 := by unfold wdLo; omega
theorem wdHi_bd (V : Int) (h : -170141183460469231731687303715884105728 ≤ V) (h' : V ≤ 170141183460469231731687303715884105727) : -9223372036854775808 ≤ wdHi V ∧ wdHi V ≤ 9223372036854775807 := by unfold wdHi; omega

def bor (x y : Int) : Int := if x < y then 1 else 0
theorem bor_bd (x y : Int) : 0 ≤ bor x y ∧ bor x y ≤ 1 := by unfold bor; split <;> omega
theorem ret_w {a b c d : Int} (h : a = c) (k : b = d) : Ending.returned (.agg #[.int .i64 a, .int .u64 b]) = .returned (.agg #[.int .i64 c, .int .u64 d]) := by rw [h, k]

theorem plus_hi (V U : Int) (h5 : -170141183460469231731687303715884105728 ≤ V + U) (h6 : V + U ≤ 170141183460469231731687303715884105727) :
    wrap64 ((IntKind.u64.wrap (wdHi V) + IntKind.u64.wrap (wdHi U) + (wdLo V + wdLo U) / 18446744073709551616) % 18446744073709551616) = wdHi (V + U) := by
  simp only [wrap64, IntKind.wrap, IntKind.bits, IntKind.signed, wdHi, wdLo]
  simp
  omega
theorem less_hi (V U : Int) (h5 : -170141183460469231731687303715884105728 ≤ V - U) (h6 : V - U ≤ 170141183460469231731687303715884105727) :
    wrap64 ((IntKind.u64.wrap (wdHi V) - IntKind.u64.wrap (wdHi U) - bor (wdLo V) (wdLo U)) % 18446744073709551616) = wdHi (V - U) := by
  simp only [wrap64, IntKind.wrap, IntKind.bits, IntKind.signed, wdHi, wdLo, bor]
  simp
  have hb := bor_bd (V % 18446744073709551616) (U % 18446744073709551616)
  by_cases h : V % 18446744073709551616 < U % 18446744073709551616 <;> simp only [h, if_true, if_false] <;> omega
theorem low_in (V : Int) (h1 : -9223372036854775808 ≤ V) (h2 : V ≤ 9223372036854775807) : wrap64 (wdLo V) = V := by unfold wrap64 wdLo; omega
theorem wrap64_bd (V : Int) : -9223372036854775808 ≤ wrap64 V ∧ wrap64 V ≤ 9223372036854775807 := by unfold wrap64; omega
theorem low_out (V : Int) (h : V < -9223372036854775808 ∨ 9223372036854775807 < V) : (wdHi V == wdHi (wrap64 (wdLo V))) = false := by
  rw [beq_eq_false_iff_ne]; unfold wrap64 wdLo wdHi; omega
end Go.Proofs.Ytapnkbamilkpoaa
