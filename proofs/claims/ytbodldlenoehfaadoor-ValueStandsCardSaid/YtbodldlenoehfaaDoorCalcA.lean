/- Contracts of calc's sums. -/
import Derived.Test.YtbodldlenoehfaaDoorCalcT
namespace Go.Proofs.YtbodldlenoehfaaDoor
open Go.RowKit
theorem total_new (w : World) : TotalAt (w.alloc (.cells #[.int .i64 0, .int .u64 0, .int .i64 0] 95)) w.heap.size 0 0 :=
  ⟨by go_simp; rfl, by go_simp; rfl, by go_simp, by go_simp, by go_simp, by go_simp⟩
set_option maxHeartbeats 400000 in
theorem add_any (a : Option Addr) (m c : Nat) (zs : List Int) (w : World) (hm : zs.length = m) (hz : Ints .i64 w a zs) (hi : I64s zs) (hl : zs.length ≤ 1048576) :
    Calls Tryd.prog 41 #[.slice a m c] w fun e w' => e = .returned (.tuple #[.int .i64 (okN (sumL zs)), .int .i64 (erN (sumL zs))]) ∧ Below w.heap.size w w' := by
  have hb0 : Below w.heap.size w (w.alloc (.cells #[.int .i64 0, .int .u64 0, .int .i64 0] 95)) := (Below.refl _ _).alloc (Nat.le_refl _) _
  have hz1 := hz.below hb0
  go_enter Tryd.func41, Tryd.ntmps41
  go_wp2_with fail
  refine (put_any w.heap.size 0 0 a m c zs _ hm (total_new w) hz1 (hz.old (Nat.le_refl _)) hi hl (by decide) (by decide) (by decide) (by decide)).mono ?_
  rintro e w1 ⟨rfl, ht1, hc1⟩
  go_wp2_with fail
  refine (sum_any _ _ _ _ ht1).mono ?_
  rintro e w2 ⟨rfl, hb2⟩
  go_wp2
  go_ret2
  exact ⟨rfl, Below.thenB (hb0.trans (hc1.below (by simp) (fun k _ e => by omega))) (Nat.le_trans (by simp) hc1.size) hb2⟩
theorem ints_one {w : World} {b : Nat} {x : Int} (h : w.cell? ⟨b, 0, none⟩ = some (.int .i64 x)) : Ints .i64 w (some ⟨b, 0, none⟩) [x] :=
  .inr ⟨by simp, b, 0, rfl, lt_of_cell h, fun i hi => by simp at hi; subst hi; exact h⟩
theorem ints_two {w : World} {b : Nat} {x y : Int} (h : w.cell? ⟨b, 0, none⟩ = some (.int .i64 x)) (k : w.cell? ⟨b, 1, none⟩ = some (.int .i64 y)) : Ints .i64 w (some ⟨b, 0, none⟩) [x, y] :=
  .inr ⟨by simp, b, 0, rfl, lt_of_cell h, fun i hi => by
    have : i = 0 ∨ i = 1 := by simp at hi; omega
    rcases this with rfl | rfl <;> assumption⟩
theorem ints_three {w : World} {b : Nat} {x y z : Int} (h : w.cell? ⟨b, 0, none⟩ = some (.int .i64 x)) (k : w.cell? ⟨b, 1, none⟩ = some (.int .i64 y)) (l : w.cell? ⟨b, 2, none⟩ = some (.int .i64 z)) : Ints .i64 w (some ⟨b, 0, none⟩) [x, y, z] :=
  .inr ⟨by simp, b, 0, rfl, lt_of_cell h, fun i hi => by
    have : i = 0 ∨ i = 1 ∨ i = 2 := by simp at hi; omega
    rcases this with rfl | rfl | rfl <;> assumption⟩
theorem i64s_one {x : Int} (h : -9223372036854775808 ≤ x) (h' : x ≤ 9223372036854775807) : I64s [x] := fun z hz => by simp at hz; omega
set_option maxHeartbeats 400000 in
theorem sub_any (x : Int) (a : Option Addr) (m c : Nat) (zs : List Int) (w : World) (hm : zs.length = m) (hx : -9223372036854775808 ≤ x) (hx' : x ≤ 9223372036854775807) (hz : Ints .i64 w a zs) (hi : I64s zs) (hl : zs.length ≤ 1048576) :
    Calls Tryd.prog 93 #[.int .i64 x, .slice a m c] w fun e w' => e = .returned (.tuple #[.int .i64 (okN (x - sumL zs)), .int .i64 (erN (x - sumL zs))]) ∧ Below w.heap.size w w' := by
  have hb0 : Below w.heap.size w (w.alloc (.cells #[.int .i64 0, .int .u64 0, .int .i64 0] 95)) := (Below.refl _ _).alloc (Nat.le_refl _) _
  have hb1 : ∀ o, Below w.heap.size w ((w.alloc (.cells #[.int .i64 0, .int .u64 0, .int .i64 0] 95)).alloc o) := fun o => hb0.alloc (by simp) o
  have hz1 := fun o => hz.below (hb1 o)
  have ht0 : ∀ o, TotalAt ((w.alloc (.cells #[.int .i64 0, .int .u64 0, .int .i64 0] 95)).alloc o) w.heap.size 0 0 := fun o => total_chg (S := fun _ => False) (total_new w) ((Chg.refl _ _).alloc o) (by simp) (fun f => f)
  go_enter Tryd.func93, Tryd.ntmps93
  go_wp2_with fail
  refine (put_any w.heap.size 0 0 _ _ _ [x] _ rfl (ht0 _) (ints_one (by go_simp)) (by simp) (i64s_one hx hx') (by simp) (by decide) (by decide) (by decide) (by decide)).mono ?_
  rintro e w1 ⟨rfl, ht1, hc1⟩
  go_wp2_with fail
  refine (take_any w.heap.size (0 + sumL [x]) _ a m c zs _ hm ht1 ((hz1 _).chg hc1 (hz.old (Nat.le_refl _))) (hz.old (Nat.le_refl _)) hi hl (by simp [sumL]; omega) (by simp [sumL]; omega) (by simp) (by simp)).mono ?_
  rintro e w2 ⟨rfl, ht2, hc2⟩
  go_wp2_with fail
  refine (sum_any _ _ _ _ ht2).mono ?_
  rintro e w3 ⟨rfl, hb3⟩
  go_wp2
  go_ret2
  exact ⟨ret_ii (by simp [sumL]) (by simp [sumL]), Below.thenB (((hb1 _).trans (hc1.below (by simp; omega) (fun k _ e => by omega))).trans (hc2.below (Nat.le_trans (by simp; omega) hc1.size) (fun k _ e => by omega))) (Nat.le_trans (Nat.le_trans (by simp; omega) hc1.size) hc2.size) hb3⟩
set_option maxHeartbeats 400000 in
theorem neg_any (x : Int) (w : World) (hx : -9223372036854775808 ≤ x) (hx' : x ≤ 9223372036854775807) :
    Calls Tryd.prog 66 #[.int .i64 x] w fun e w' => e = .returned (.tuple #[.int .i64 (okN (-x)), .int .i64 (erN (-x))]) ∧ Below w.heap.size w w' := by
  have e1 : (0 : Int) - sumL [x] = -x := by simp [sumL]
  have HE := Lib.hid e1
  clear e1
  go_enter Tryd.func66, Tryd.ntmps66
  go_wp2_with fail
  refine (sub_any 0 _ _ _ [x] _ rfl (by decide) (by decide) (ints_one (by go_simp)) (i64s_one hx hx') (by simp)).mono ?_
  rintro e w1 ⟨rfl, hb1⟩
  go_wp2
  go_ret2
  exact ⟨ret_ii (by rw [← HE.out]; simp) (by rw [← HE.out]; simp), Below.thenB ((Below.refl _ _).alloc (Nat.le_refl _) _) (by simp) hb1⟩
theorem narrow_any (hi lo V : Int) (h : wdHi V = hi) (h' : wdLo V = lo) (w : World) :
    Calls Tryd.prog 73 #[.agg #[.int .i64 hi, .int .u64 lo]] w fun e w' => e = .returned (.tuple #[.int .i64 (okN V), .int .i64 (erN V)]) ∧ Below w.heap.size w w' := by
  subst h h'
  unfold okN erN
  by_cases h : -9223372036854775808 ≤ V ∧ V ≤ 9223372036854775807
  · simpa [h] using narrow_yes V h.1 h.2 w
  · simpa [h] using narrow_no V (by omega) w
theorem less_of (a b c d V U : Int) (k1 : wdHi V = a) (k2 : wdLo V = b) (k3 : wdHi U = c) (k4 : wdLo U = d) (h1 : -170141183460469231731687303715884105728 ≤ V) (h2 : V ≤ 170141183460469231731687303715884105727) (h3 : -170141183460469231731687303715884105728 ≤ U) (h4 : U ≤ 170141183460469231731687303715884105727) (h5 : -170141183460469231731687303715884105728 ≤ V - U) (h6 : V - U ≤ 170141183460469231731687303715884105727) (w : World) :
    Calls Tryd.prog 72 #[.agg #[.int .i64 a, .int .u64 b], .agg #[.int .i64 c, .int .u64 d]] w fun e w' => e = .returned (.agg #[.int .i64 (wdHi (V - U)), .int .u64 (wdLo (V - U))]) ∧ Below w.heap.size w w' := by
  subst k1 k2 k3 k4
  exact less_any V U h1 h2 h3 h4 h5 h6 w
def sgn (size : Int) (below : Bool) : Int := if below then -size else size
set_option maxHeartbeats 400000 in
theorem signed_pos (n : Int) (h : 0 ≤ n) (h' : n ≤ 18446744073709551615) (w : World) :
    Calls Tryd.prog 45 #[.int .u64 n, .bool false] w fun e w' => e = .returned (.tuple #[.int .i64 (okN n), .int .i64 (erN n)]) ∧ Below w.heap.size w w' := by
  go_enter Tryd.func45, Tryd.ntmps45
  go_wp2_with fail
  refine (narrow_any _ _ n (by unfold wdHi; omega) (by unfold wdLo; omega) _).mono ?_
  rintro e w1 ⟨rfl, hb1⟩
  go_wp2
  go_ret2
  exact ⟨rfl, Below.thenB ((Below.refl _ _).alloc (Nat.le_refl _) _) (by simp) hb1⟩
set_option maxHeartbeats 400000 in
theorem signed_neg (n : Int) (h : 0 ≤ n) (h' : n ≤ 18446744073709551615) (w : World) :
    Calls Tryd.prog 45 #[.int .u64 n, .bool true] w fun e w' => e = .returned (.tuple #[.int .i64 (okN (-n)), .int .i64 (erN (-n))]) ∧ Below w.heap.size w w' := by
  go_enter Tryd.func45, Tryd.ntmps45
  go_wp2_with fail
  refine (less_of _ _ _ _ 0 n (by decide) (by decide) (by unfold wdHi; omega) (by unfold wdLo; omega) (by decide) (by decide) (by omega) (by omega) (by omega) (by omega) _).mono ?_
  rintro e w1 ⟨rfl, hb1⟩
  obtain ⟨hc1, hf1⟩ := bcell hb1
  have k0 := hc1 w.heap.size 0 (by simp)
  have k1 := hc1 w.heap.size 1 (by simp)
  have g0 := hf1 w.heap.size 0 (by simp)
  have g1 := hf1 w.heap.size 1 (by simp)
  have hz1 := hb1.size
  clear hc1 hf1
  go_wp2_with fail
  refine (narrow_any _ _ (-n) (by simp) (by simp) _).mono ?_
  rintro e w2 ⟨rfl, hb2⟩
  go_wp2
  go_ret2
  exact ⟨rfl, Below.thenB (((Below.thenB ((Below.refl _ _).alloc (Nat.le_refl _) _) (by simp) hb1).setCell (by simp) _).setCell (by simp) _) (by simp at hz1 ⊢; omega) hb2⟩
end Go.Proofs.YtbodldlenoehfaaDoor
