/- Contracts of calc's wide numbers: widen, plus, less, narrow, signed, magnitude. -/
import Derived.Test.YtbodldlenoehfaaDoorRows
import Derived.Test.YtbodldlenoehfaaDoorMath
import Derived.Test.YtbodldlenoehfaaDoorWorld
import Derived.Shelf.Spec.BitsCarry
import Derived.Deep.QuietTactic
import Derived.BigQuiet
import Derived.Deep.RegionHeld3
import Derived.Deep.RegionWith
namespace Go.Proofs.YtbodldlenoehfaaDoor
open Go.RowKit
open Go.Proofs (sub64Entry run_sub64)

/-- A number as a wide one: its upper and its lower word. -/
def wdHi (V : Int) : Int := V / 18446744073709551616
def wdLo (V : Int) : Int := V % 18446744073709551616
theorem wdLo_bd (V : Int) : 0 ≤ wdLo V ∧ wdLo V ≤ 18446744073709551615 := by unfold wdLo; omega
theorem wdHi_bd (V : Int) (h : -170141183460469231731687303715884105728 ≤ V) (h' : V ≤ 170141183460469231731687303715884105727) : -9223372036854775808 ≤ wdHi V ∧ wdHi V ≤ 9223372036854775807 := by unfold wdHi; omega

theorem add64 (x y c : Int) (hx : 0 ≤ x) (hy : 0 ≤ y) (hc0 : 0 ≤ c) (hc : c ≤ 1) (w : World) : (callFunc 118 #[.int .u64 x, .int .u64 y, .int .u64 c]).run Tryd.prog w =
    .ok (.value (.tuple #[.int .u64 ((x + y + c) % 18446744073709551616), .int .u64 ((x + y + c) / 18446744073709551616)])) w := by
  rw [run_callFunc_extern Tryd.func118 (by kernel_rfl) (by kernel_rfl) (by kernel_rfl) (e := add64Entry) (by kernel_rfl), run_add64 x y c hx hy hc0 hc]
  rfl
theorem add64_0 (x y : Int) (hx : 0 ≤ x) (hy : 0 ≤ y) (w : World) : (callFunc 118 #[.int .u64 x, .int .u64 y, .int .u64 0]).run Tryd.prog w =
    .ok (.value (.tuple #[.int .u64 ((x + y) % 18446744073709551616), .int .u64 ((x + y) / 18446744073709551616)])) w := by
  simpa using add64 x y 0 hx hy (Int.le_refl 0) (by decide) w
def bor (x y : Int) : Int := if x < y then 1 else 0
theorem bor_bd (x y : Int) : 0 ≤ bor x y ∧ bor x y ≤ 1 := by unfold bor; split <;> omega
theorem sub64 (x y b : Int) (hx : 0 ≤ x) (hy : 0 ≤ y) (hy' : y ≤ 18446744073709551615) (hb0 : 0 ≤ b) (hb : b ≤ 1) (w : World) : (callFunc 102 #[.int .u64 x, .int .u64 y, .int .u64 b]).run Tryd.prog w =
    .ok (.value (.tuple #[.int .u64 ((x - y - b) % 18446744073709551616), .int .u64 (bor x (y + b))])) w := by
  obtain ⟨x, rfl⟩ := Int.eq_ofNat_of_zero_le hx
  obtain ⟨y, rfl⟩ := Int.eq_ofNat_of_zero_le hy
  obtain ⟨b, rfl⟩ := Int.eq_ofNat_of_zero_le hb0
  have e1 : (((x + 18446744073709551616 - y - b) % 18446744073709551616 : Nat) : Int) = ((x : Int) - y - b) % 18446744073709551616 := by omega
  have e2 : ((if x < y + b then 1 else 0 : Nat) : Int) = bor (x : Int) (y + b) := by unfold bor; split <;> split <;> omega
  rw [run_callFunc_extern Tryd.func102 (by kernel_rfl) (by kernel_rfl) (by kernel_rfl) (e := sub64Entry) (by kernel_rfl), run_sub64 x y b (by omega), ← e1, ← e2]
  rfl
theorem sub64_0 (x y : Int) (hx : 0 ≤ x) (hy : 0 ≤ y) (hy' : y ≤ 18446744073709551615) (w : World) : (callFunc 102 #[.int .u64 x, .int .u64 y, .int .u64 0]).run Tryd.prog w =
    .ok (.value (.tuple #[.int .u64 ((x - y) % 18446744073709551616), .int .u64 (bor x y)])) w := by
  simpa using sub64 x y 0 hx hy hy' (Int.le_refl 0) (by decide) w

theorem ret_w {a b c d : Int} (h : a = c) (k : b = d) : Ending.returned (.agg #[.int .i64 a, .int .u64 b]) = .returned (.agg #[.int .i64 c, .int .u64 d]) := by rw [h, k]

theorem plus_hi (V U : Int) (h5 : -170141183460469231731687303715884105728 ≤ V + U) (h6 : V + U ≤ 170141183460469231731687303715884105727) :
    wrap64 ((IntKind.u64.wrap (wdHi V) + IntKind.u64.wrap (wdHi U) + (wdLo V + wdLo U) / 18446744073709551616) % 18446744073709551616) = wdHi (V + U) := by
  simp only [wrap64, IntKind.wrap, IntKind.bits, IntKind.signed, wdHi, wdLo]
  simp
  omega
theorem less_hi (V U : Int) (h5 : -170141183460469231731687303715884105728 ≤ V - U) (h6 : V - U ≤ 170141183460469231731687303715884105727) :
    wrap64 ((IntKind.u64.wrap (wdHi V) - IntKind.u64.wrap (wdHi U) - bor (wdLo V) (wdLo U)) % 18446744073709551616) = wdHi (V - U) := by
  simp only [wrap64, IntKind.wrap, IntKind.bits, IntKind.signed, wdHi, wdLo, bor]
  simp
  have hb := bor_bd (V % 18446744073709551616) (U % 18446744073709551616)
  by_cases h : V % 18446744073709551616 < U % 18446744073709551616 <;> simp only [h, if_true, if_false] <;> omega
set_option maxHeartbeats 400000 in
theorem widen_any (n : Int) (hn : -9223372036854775808 ≤ n) (hn' : n ≤ 9223372036854775807) (w : World) :
    Calls Tryd.prog 95 #[.int .i64 n] w fun e w' => e = .returned (.agg #[.int .i64 (wdHi n), .int .u64 (wdLo n)]) ∧ Below w.heap.size w w' := by
  go_enter Tryd.func95, Tryd.ntmps95
  go_wp2
  refine bodyPost_ret (v := .agg #[.int .i64 (n / 9223372036854775808), .int .u64 (IntKind.u64.wrap n)]) (by simp [results, Tryd.results95, go_sem]) rfl ⟨ret_w ?_ ?_, (Below.refl _ _).alloc (Nat.le_refl _) _⟩
  · unfold wdHi; omega
  · unfold wdLo; simp [IntKind.wrap, IntKind.bits, IntKind.signed]
set_option maxHeartbeats 400000 in
theorem plus_any (V U : Int) (h1 : -170141183460469231731687303715884105728 ≤ V) (h2 : V ≤ 170141183460469231731687303715884105727) (h3 : -170141183460469231731687303715884105728 ≤ U) (h4 : U ≤ 170141183460469231731687303715884105727) (h5 : -170141183460469231731687303715884105728 ≤ V + U) (h6 : V + U ≤ 170141183460469231731687303715884105727) (w : World) :
    Calls Tryd.prog 94 #[.agg #[.int .i64 (wdHi V), .int .u64 (wdLo V)], .agg #[.int .i64 (wdHi U), .int .u64 (wdLo U)]] w fun e w' => e = .returned (.agg #[.int .i64 (wdHi (V + U)), .int .u64 (wdLo (V + U))]) ∧ Below w.heap.size w w' := by
  obtain ⟨a1, a2⟩ := wdHi_bd V h1 h2
  obtain ⟨a3, a4⟩ := wdLo_bd V
  obtain ⟨b1, b2⟩ := wdHi_bd U h3 h4
  obtain ⟨b3, b4⟩ := wdLo_bd U
  have k0 : 0 ≤ (wdLo V + wdLo U) / 18446744073709551616 := by omega
  have k1 : (wdLo V + wdLo U) / 18446744073709551616 ≤ 1 := by omega
  have q1 : 0 ≤ IntKind.u64.wrap (wdHi V) := by simp [IntKind.wrap, IntKind.bits, IntKind.signed]; omega
  have q2 : 0 ≤ IntKind.u64.wrap (wdHi U) := by simp [IntKind.wrap, IntKind.bits, IntKind.signed]; omega
  go_enter Tryd.func94, Tryd.ntmps94
  go_wp2_with (first | simp only [add64_0 _ _ a3 b3] | simp only [add64 _ _ _ q1 q2 k0 k1])
  simp [bodyPost, results, Tryd.results94, go_sem]
  refine ⟨⟨?_, ?_⟩, (((Below.refl _ _).alloc (Nat.le_refl _) _).alloc (by simp) _).alloc (by simp; omega) _⟩
  · exact plus_hi V U h5 h6
  · unfold wdLo; omega
set_option maxHeartbeats 400000 in
theorem less_any (V U : Int) (h1 : -170141183460469231731687303715884105728 ≤ V) (h2 : V ≤ 170141183460469231731687303715884105727) (h3 : -170141183460469231731687303715884105728 ≤ U) (h4 : U ≤ 170141183460469231731687303715884105727) (h5 : -170141183460469231731687303715884105728 ≤ V - U) (h6 : V - U ≤ 170141183460469231731687303715884105727) (w : World) :
    Calls Tryd.prog 72 #[.agg #[.int .i64 (wdHi V), .int .u64 (wdLo V)], .agg #[.int .i64 (wdHi U), .int .u64 (wdLo U)]] w fun e w' => e = .returned (.agg #[.int .i64 (wdHi (V - U)), .int .u64 (wdLo (V - U))]) ∧ Below w.heap.size w w' := by
  obtain ⟨a1, a2⟩ := wdHi_bd V h1 h2
  obtain ⟨a3, a4⟩ := wdLo_bd V
  obtain ⟨b1, b2⟩ := wdHi_bd U h3 h4
  obtain ⟨b3, b4⟩ := wdLo_bd U
  obtain ⟨k0, k1⟩ := bor_bd (wdLo V) (wdLo U)
  have q1 : 0 ≤ IntKind.u64.wrap (wdHi V) := by simp [IntKind.wrap, IntKind.bits, IntKind.signed]; omega
  have q2 : 0 ≤ IntKind.u64.wrap (wdHi U) := by simp [IntKind.wrap, IntKind.bits, IntKind.signed]; omega
  have q3 : IntKind.u64.wrap (wdHi U) ≤ 18446744073709551615 := by simp [IntKind.wrap, IntKind.bits, IntKind.signed]; omega
  go_enter Tryd.func72, Tryd.ntmps72
  go_wp2_with (first | simp only [sub64_0 _ _ a3 b3 b4] | simp only [sub64 _ _ _ q1 q2 q3 k0 k1])
  simp [bodyPost, results, Tryd.results72, go_sem]
  refine ⟨⟨?_, ?_⟩, (((Below.refl _ _).alloc (Nat.le_refl _) _).alloc (by simp) _).alloc (by simp; omega) _⟩
  · exact less_hi V U h5 h6
  · unfold wdLo; omega
theorem low_in (V : Int) (h1 : -9223372036854775808 ≤ V) (h2 : V ≤ 9223372036854775807) : wrap64 (wdLo V) = V := by unfold wrap64 wdLo; omega
theorem wrap64_bd (V : Int) : -9223372036854775808 ≤ wrap64 V ∧ wrap64 V ≤ 9223372036854775807 := by unfold wrap64; omega
theorem low_out (V : Int) (h : V < -9223372036854775808 ∨ 9223372036854775807 < V) : (wdHi V == wdHi (wrap64 (wdLo V))) = false := by
  rw [beq_eq_false_iff_ne]; unfold wrap64 wdLo wdHi; omega
set_option maxHeartbeats 400000 in
theorem narrow_yes (V : Int) (h1 : -9223372036854775808 ≤ V) (h2 : V ≤ 9223372036854775807) (w : World) :
    Calls Tryd.prog 73 #[.agg #[.int .i64 (wdHi V), .int .u64 (wdLo V)]] w fun e w' => e = .returned (.tuple #[.int .i64 V, .int .i64 0]) ∧ Below w.heap.size w w' := by
  have hl := low_in V h1 h2
  go_enter Tryd.func73, Tryd.ntmps73
  go_wp2
  go_region_held3 (fun w' => w'.cell? ⟨w.heap.size, 0, none⟩ = some (.int .i64 (wdHi V)) ∧ w'.cell? ⟨w.heap.size, 1, none⟩ = some (.int .u64 (wdLo V))) (first | go_keep)
    (first | (go_at_call 95; refine (widen_any _ ?_ ?_ _).mono ?_; omega; omega; rintro e w1 ⟨rfl, hb1⟩; obtain ⟨hc1, hf1⟩ := bcell hb1))
  go_wp2
  go_ret2
  exact ⟨rfl, ((Below.refl _ _).alloc (Nat.le_refl _) _).drew.trans (hb1.mono (by simp))⟩
set_option maxHeartbeats 400000 in
theorem narrow_no (V : Int) (h : V < -9223372036854775808 ∨ 9223372036854775807 < V) (w : World) :
    Calls Tryd.prog 73 #[.agg #[.int .i64 (wdHi V), .int .u64 (wdLo V)]] w fun e w' => e = .returned (.tuple #[.int .i64 0, .int .i64 2]) ∧ Below w.heap.size w w' := by
  have hl := low_out V h
  obtain ⟨c1, c2⟩ := wrap64_bd (wdLo V)
  clear h
  go_enter Tryd.func73, Tryd.ntmps73
  go_wp2
  go_region_held3 (fun w' => w'.cell? ⟨w.heap.size, 0, none⟩ = some (.int .i64 (wdHi V)) ∧ w'.cell? ⟨w.heap.size, 1, none⟩ = some (.int .u64 (wdLo V))) (first | go_keep)
    (first | (go_at_call 95; refine (widen_any _ c1 c2 _).mono ?_; rintro e w1 ⟨rfl, hb1⟩; obtain ⟨hc1, hf1⟩ := bcell hb1))
  go_wp2
  go_ret2
  exact ⟨rfl, ((Below.refl _ _).alloc (Nat.le_refl _) _).drew.trans (hb1.mono (by simp))⟩
end Go.Proofs.YtbodldlenoehfaaDoor
