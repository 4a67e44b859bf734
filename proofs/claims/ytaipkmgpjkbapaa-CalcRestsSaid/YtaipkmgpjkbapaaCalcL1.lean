/- Walk of the law CalcRests. -/
import Derived.Test.YtaipkmgpjkbapaaCalcD
import Derived.Test.YtaipkmgpjkbapaaOpen
namespace Go.Proofs.Ytaipkmgpjkbapaa
open Go.RowKit
theorem rests_plain (a b : Int) (hb : -9223372036854775808 ≤ b) (hb' : b ≤ 9223372036854775807) (h0 : b ≠ 0) (hE : divE a b = 0) :
    divN a b = a.fdiv b ∧ modN a b = a.fmod b ∧ modE b = 0 ∧ -9223372036854775808 ≤ a.fdiv b ∧ a.fdiv b ≤ 9223372036854775807 ∧ -9223372036854775808 ≤ a.fmod b ∧ a.fmod b ≤ 9223372036854775807 ∧ a.fdiv b * b + a.fmod b = a ∧
    (0 < b → 0 ≤ a.fmod b ∧ a.fmod b < b) ∧ (b < 0 → b < a.fmod b ∧ a.fmod b ≤ 0) := by
  have hr : -9223372036854775808 ≤ a.fdiv b ∧ a.fdiv b ≤ 9223372036854775807 := by
    unfold divE erN at hE
    rw [if_neg h0] at hE
    by_cases h : -9223372036854775808 ≤ a.fdiv b ∧ a.fdiv b ≤ 9223372036854775807
    · exact h
    · rw [if_neg h] at hE; exact absurd hE (by decide)
  obtain ⟨k1, k2, k3, k4⟩ := fmod_bd a b hb hb' h0
  refine ⟨by unfold divN; rw [if_neg h0, (ok_in hr).1], by unfold modN; rw [if_neg h0], by unfold modE; rw [if_neg h0], hr.1, hr.2, k1, k2, ?_, k3, k4⟩
  have := Int.fmod_add_mul_fdiv a b
  rw [Int.mul_comm]; omega
theorem sumL_two (x y : Int) : sumL [x, y] = x + y := by simp [sumL]
theorem prodL_two (x y : Int) : prodL [x, y] = x * y := by simp [prodL]
theorem i64s_two {x y : Int} (h : -9223372036854775808 ≤ x) (h' : x ≤ 9223372036854775807) (k : -9223372036854775808 ≤ y) (k' : y ≤ 9223372036854775807) : I64s [x, y] := fun z hz => by simp at hz; omega
set_option maxHeartbeats 1000000 in
theorem rests_walk (v0 : Value) (a : Int) (v1 : Value) (b : Int) (w : World) (y0 : v0 = .int .i64 a ∧ (Lit.int .i64 a).wf = true) (y1 : v1 = .int .i64 b ∧ (Lit.int .i64 b).wf = true) :
    Calls Try.prog 7 #[v0, v1] w fun e w' => e = .returned (.bool true) ∧ Below w.heap.size w w' := by
  obtain ⟨rfl, w0⟩ := y0
  obtain ⟨rfl, w1⟩ := y1
  obtain ⟨ha, ha'⟩ := wf_i64 w0
  obtain ⟨hb, hb'⟩ := wf_i64 w1
  clear w0 w1
  by_cases hE : divE a b = 0
  · have h0 : b ≠ 0 := by rintro rfl; simp [divE] at hE
    obtain ⟨e1, e2, e3, k1, k2, k3, k4, hs, k5, k6⟩ := rests_plain a b hb hb' h0 hE
    have HS := Lib.hid hs
    have K5 := Lib.hid k5
    have K6 := Lib.hid k6
    clear hs k5 k6
    go_enter Try.func7, Try.ntmps7
    go_wp2_with fail
    refine (div_any a b ha ha' _).mono ?_
    rintro e w1 ⟨rfl, hb1⟩
    go_wp2_with fail
    refine (mod_any a b hb hb' _).mono ?_
    rintro e w2 ⟨rfl, rfl⟩
    generalize a.fdiv b = q at *
    generalize a.fmod b = r at *
    go_wp2_with fail
    refine (mul_any _ _ _ [q, b] _ rfl (ints_two (by go_simp) (by go_simp)) (i64s_two k1 k2 hb hb') (by simp)).mono ?_
    rintro e w3 ⟨rfl, hb3⟩
    by_cases hM : -9223372036854775808 ≤ q * b ∧ q * b ≤ 9223372036854775807
    · have e4 : okN (prodL [q, b]) = q * b := by rw [prodL_two, (ok_in hM).1]
      have e5 : erN (prodL [q, b]) = 0 := by rw [prodL_two, (ok_in hM).2]
      obtain ⟨m1, m2⟩ := hM
      generalize q * b = m at *
      go_wp2_with fail
      refine (add_any _ _ _ [m, r] _ rfl (ints_two (by go_simp) (by go_simp)) (i64s_two m1 m2 k3 k4) (by simp)).mono ?_
      rintro e w4 ⟨rfl, hb4⟩
      have e6 : okN (sumL [m, r]) = a := by rw [sumL_two, HS.out, (ok_in ⟨ha, ha'⟩).1]
      have e7 : erN (sumL [m, r]) = 0 := by rw [sumL_two, HS.out, (ok_in ⟨ha, ha'⟩).2]
      have hB : Below w.heap.size w w4 := Below.thenB (Below.alloc (Below.thenB (hb1.alloc hb1.size _) (by simp; have := hb1.size; omega) hb3) (by have := hb1.size; have := hb3.size; simp at this; omega) _) (by have := hb1.size; have := hb3.size; simp at this; simp; omega) hb4
      have hZ : w.heap.size ≤ w4.heap.size := hB.size
      rcases Int.lt_or_gt_of_ne h0 with hbn | hbp
      · obtain ⟨r1, r2⟩ := K6.out hbn
        have f1 : decide (b < 0) = true := by simpa using hbn
        have f2 : decide (0 < b) = false := by simp; omega
        have f3 : decide (b < r) = true := by simpa using r1
        by_cases hr : r = 0
        · have f4 : (r == 0) = true := by simpa using hr
          have HR := Lib.hid hr
          clear hr
          go_wp2_with (go_at_call 8; refine (awake_any _).mono ?_; rintro e w5 ⟨rfl, hb5⟩)
          go_ret
          exact ⟨rfl, Below.thenB hB hZ hb5⟩
        · have f4 : (r == 0) = false := by simpa using hr
          have f5 : decide (r < 0) = true := by simp; omega
          go_wp2_with (go_at_call 8; refine (awake_any _).mono ?_; rintro e w5 ⟨rfl, hb5⟩)
          go_ret
          exact ⟨rfl, Below.thenB hB hZ hb5⟩
      · obtain ⟨r1, r2⟩ := K5.out hbp
        have f1 : decide (b < 0) = false := by simp; omega
        have f2 : decide (0 < b) = true := by simpa using hbp
        have f3 : decide (r < b) = true := by simpa using r2
        by_cases hr : r = 0
        · have f4 : (r == 0) = true := by simpa using hr
          have HR := Lib.hid hr
          clear hr
          go_wp2_with (go_at_call 8; refine (awake_any _).mono ?_; rintro e w5 ⟨rfl, hb5⟩)
          go_ret
          exact ⟨rfl, Below.thenB hB hZ hb5⟩
        · have f4 : (r == 0) = false := by simpa using hr
          have f5 : decide (r < 0) = false := by simp; omega
          go_wp2_with (go_at_call 8; refine (awake_any _).mono ?_; rintro e w5 ⟨rfl, hb5⟩)
          go_ret
          exact ⟨rfl, Below.thenB hB hZ hb5⟩
    · have e5 : erN (prodL [q, b]) = 2 := by rw [prodL_two, (ok_out (by omega)).2]
      have hB : Below w.heap.size w w3 := Below.thenB (hb1.alloc hb1.size _) (by simp; have := hb1.size; omega) hb3
      have hZ : w.heap.size ≤ w3.heap.size := hB.size
      rcases Int.lt_or_gt_of_ne h0 with hbn | hbp
      · obtain ⟨r1, r2⟩ := K6.out hbn
        have f1 : decide (b < 0) = true := by simpa using hbn
        have f2 : decide (0 < b) = false := by simp; omega
        have f3 : decide (b < r) = true := by simpa using r1
        by_cases hr : r = 0
        · have f4 : (r == 0) = true := by simpa using hr
          have HR := Lib.hid hr
          clear hr
          go_wp2_with (go_at_call 8; refine (awake_any _).mono ?_; rintro e w5 ⟨rfl, hb5⟩)
          go_ret
          exact ⟨rfl, Below.thenB hB hZ hb5⟩
        · have f4 : (r == 0) = false := by simpa using hr
          have f5 : decide (r < 0) = true := by simp; omega
          go_wp2_with (go_at_call 8; refine (awake_any _).mono ?_; rintro e w5 ⟨rfl, hb5⟩)
          go_ret
          exact ⟨rfl, Below.thenB hB hZ hb5⟩
      · obtain ⟨r1, r2⟩ := K5.out hbp
        have f1 : decide (b < 0) = false := by simp; omega
        have f2 : decide (0 < b) = true := by simpa using hbp
        have f3 : decide (r < b) = true := by simpa using r2
        by_cases hr : r = 0
        · have f4 : (r == 0) = true := by simpa using hr
          have HR := Lib.hid hr
          clear hr
          go_wp2_with (go_at_call 8; refine (awake_any _).mono ?_; rintro e w5 ⟨rfl, hb5⟩)
          go_ret
          exact ⟨rfl, Below.thenB hB hZ hb5⟩
        · have f4 : (r == 0) = false := by simpa using hr
          have f5 : decide (r < 0) = false := by simp; omega
          go_wp2_with (go_at_call 8; refine (awake_any _).mono ?_; rintro e w5 ⟨rfl, hb5⟩)
          go_ret
          exact ⟨rfl, Below.thenB hB hZ hb5⟩
  · have e0 : (divE a b == 0) = false := by simpa using hE
    have e0' : (divE a b != 0) = true := by simpa using hE
    go_enter Try.func7, Try.ntmps7
    go_wp2_with fail
    refine (div_any a b ha ha' _).mono ?_
    rintro e w1 ⟨rfl, hb1⟩
    go_wp2_with fail
    refine (mod_any a b hb hb' _).mono ?_
    rintro e w2 ⟨rfl, rfl⟩
    go_wp2_with (go_at_call 8; refine (awake_any _).mono ?_; rintro e w5 ⟨rfl, hb5⟩)
    go_ret
    exact ⟨rfl, Below.thenB hb1 hb1.size hb5⟩
end Go.Proofs.Ytaipkmgpjkbapaa
