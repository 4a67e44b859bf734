/- Walk of the law CalcDivides. -/
import Derived.Test.YtaipkmgpjkbapaaCalcD
import Derived.Test.YtaipkmgpjkbapaaNumH
import Derived.Test.YtaipkmgpjkbapaaRead
namespace Go.Proofs.Ytaipkmgpjkbapaa
open Go.RowKit
theorem fmod_m1 (a : Int) : a.fmod (-1) = 0 := by
  have h := Int.fmod_add_mul_fdiv a (-1)
  rw [fdiv_m1] at h
  omega
theorem floor_is (a b : Int) (h0 : b ≠ 0) (hb : -9223372036854775808 ≤ b) (hb' : b ≤ 9223372036854775807) : isFloor a b (a.fdiv b) = true := by
  obtain ⟨k1, k2, k3, k4⟩ := fmod_bd a b hb hb' h0
  have h := Int.fmod_add_mul_fdiv a b
  unfold isFloor
  by_cases hn : b < 0
  · obtain ⟨q1, q2⟩ := k4 hn
    rw [if_pos hn]; exact decide_eq_true ⟨by omega, by omega⟩
  · obtain ⟨q1, q2⟩ := k3 (by omega)
    rw [if_neg hn]; exact decide_eq_true ⟨by omega, by omega⟩
set_option maxRecDepth 100000 in
set_option maxHeartbeats 4000000 in
theorem divides_walk (v0 : Value) (a : Int) (v1 : Value) (b : Int) (w : World) (y0 : v0 = .int .i64 a ∧ (Lit.int .i64 a).wf = true) (y1 : v1 = .int .i64 b ∧ (Lit.int .i64 b).wf = true) :
    Calls Try.prog 4 #[v0, v1] w fun e w' => e = .returned (.bool true) ∧ Below w.heap.size w w' := by
  obtain ⟨rfl, w0⟩ := y0
  obtain ⟨rfl, w1⟩ := y1
  obtain ⟨ha, ha'⟩ := wf_i64 w0
  obtain ⟨hb, hb'⟩ := wf_i64 w1
  clear w0 w1
  by_cases h0 : b = 0
  · subst h0
    have e1 : divN a 0 = 0 := rfl
    have e2 : divE a 0 = 3 := rfl
    have e3 : modN a 0 = 0 := rfl
    have e4 : modE 0 = 3 := rfl
    go_enter Try.func4, Try.ntmps4
    go_wp2_with fail
    refine (div_any a 0 ha ha' _).mono ?_
    rintro e w1 ⟨rfl, hb1⟩
    go_wp2_with fail
    refine (mod_any a 0 hb hb' _).mono ?_
    rintro e w2 ⟨rfl, rfl⟩
    go_wp2_with fail
    refine (awake_any _).mono ?_
    rintro e w5 ⟨rfl, hb5⟩
    go_wp2
    go_ret
    exact ⟨rfl, Below.thenB hb1 hb1.size hb5⟩
  have k0 : (b == 0) = false := by simpa using h0
  by_cases h1 : b = -1
  · subst h1
    have e1 : divN a (-1) = okN (-a) := by unfold divN; rw [fdiv_m1]; simp
    have e2 : divE a (-1) = erN (-a) := by unfold divE; rw [fdiv_m1]; simp
    have e3 : modN a (-1) = 0 := by unfold modN; rw [fmod_m1]; simp
    have e4 : modE (-1) = 0 := rfl
    clear h0
    go_enter Try.func4, Try.ntmps4
    go_wp2_with fail
    refine (div_any a (-1) ha ha' _).mono ?_
    rintro e w1 ⟨rfl, hb1⟩
    go_wp2_with fail
    refine (mod_any a (-1) hb hb' _).mono ?_
    rintro e w2 ⟨rfl, rfl⟩
    go_wp2_with fail
    refine (of_any a _ ha ha').mono ?_
    rintro e wd ⟨xd, ad, nd, cd, rfl, hnd, hbd, _⟩
    have hBd := Below.thenB hb1 hb1.size hbd
    have ld := num_small60 hnd (by omega) (by omega)
    go_wp2_with fail
    refine (minus_any xd ad nd cd _ _ hnd (by omega)).mono ?_
    rintro e we ⟨xe, ae, ne, ce, rfl, hne, hbe, hqe⟩
    clear hqe
    have hBe := Below.thenB hBd hBd.size hbe
    have le := num_small60 hne (by omega) (by omega)
    go_wp2_with fail
    refine (told_any xe ae ne ce _ _ hne (by omega)).mono ?_
    rintro e wf ⟨rfl, hbf⟩
    have hBf := Below.thenB hBe hBe.size hbf
    go_wp2_with fail
    refine (awake_any _).mono ?_
    rintro e wg ⟨rfl, hbg⟩
    go_wp2
    go_ret
    exact ⟨rfl, Below.thenB hBf hBf.size hbg⟩
  have k1 : (b == -1) = false := by simpa using h1
  have hqb := fdiv_bd a b ha ha' h0 h1
  obtain ⟨o1, o2⟩ := ok_in hqb
  have e1 : divN a b = a.fdiv b := by unfold divN; rw [if_neg h0, o1]
  have e2 : divE a b = 0 := by unfold divE; rw [if_neg h0, o2]
  have e3 : modN a b = a.fmod b := by unfold modN; rw [if_neg h0]
  have e4 : modE b = 0 := by unfold modE; rw [if_neg h0]
  have hfl := floor_is a b h0 hb hb'
  obtain ⟨hq1, hq2⟩ := hqb
  obtain ⟨hr1, hr2, _, _⟩ := fmod_bd a b hb hb' h0
  obtain ⟨hm1, hm2⟩ := mul_lt60 hb hb' hq1 hq2
  have hsum : a + -(b * a.fdiv b) = a.fmod b := by have := Int.fmod_add_mul_fdiv a b; omega
  obtain ⟨p1, p2⟩ := ok_in ⟨hr1, hr2⟩
  clear o1 o2
  generalize a.fdiv b = q at *
  generalize a.fmod b = r at *
  have HS := Lib.hid hsum
  have HF := Lib.hid hfl
  clear hsum hfl
  go_enter Try.func4, Try.ntmps4
  go_wp2_with fail
  refine (div_any a b ha ha' _).mono ?_
  rintro e w1 ⟨rfl, hb1⟩
  go_wp2_with fail
  refine (mod_any a b hb hb' _).mono ?_
  rintro e w2 ⟨rfl, rfl⟩
  go_wp2_with fail
  refine (of_any a _ ha ha').mono ?_
  rintro e w3 ⟨x3, a3, n3, c3, rfl, hn3, hb3, _⟩
  have hB3 := Below.thenB hb1 hb1.size hb3
  have l3 := num_small60 hn3 (by omega) (by omega)
  go_wp2_with fail
  refine (of_any b _ hb hb').mono ?_
  rintro e w4 ⟨x4, a4, n4, c4, rfl, hn4, hb4, _⟩
  have hB4 := Below.thenB hB3 hB3.size hb4
  have l4 := num_small60 hn4 (by omega) (by omega)
  go_wp2_with fail
  refine (of_any q _ hq1 hq2).mono ?_
  rintro e w5 ⟨x5, a5, n5, c5, rfl, hn5, hb5, _⟩
  have hB5 := Below.thenB hB4 hB4.size hb5
  have l5 := num_small60 hn5 (by omega) (by omega)
  go_wp2_with fail
  refine (times_num x4 x5 a4 a5 n4 c4 n5 c5 _ _ _ (hn4.below hb5) hn5 (by omega) (by omega)).mono ?_
  rintro e w6 ⟨x6, a6, n6, c6, rfl, hn6, hb6, _⟩
  have hB6 := Below.thenB hB5 hB5.size hb6
  have l6 := num_small60 hn6 (by omega) (by omega)
  go_wp2_with fail
  refine (minus_any x6 a6 n6 c6 _ _ hn6 (by omega)).mono ?_
  rintro e w7 ⟨x7, a7, n7, c7, rfl, hn7, hb7, hq7⟩
  clear hq7
  have hB7 := Below.thenB hB6 hB6.size hb7
  have l7 := num_small60 hn7 (by omega) (by omega)
  go_wp2_with fail
  refine (plus_num x3 x7 a3 a7 n3 c3 n7 c7 _ _ _ (((((hn3.below hb4).below hb5).below hb6).below hb7)) hn7 (by omega) (by omega)).mono ?_
  rintro e w8 ⟨x8, a8, n8, c8, rfl, hn8, hb8, _⟩
  have hB8 := Below.thenB hB7 hB7.size hb8
  rw [HS.out] at hn8
  have l8 := num_small60 hn8 (by omega) (by omega)
  have s8 : ∀ o, Below w8.heap.size w8 (w8.alloc o) := fun o => (Below.refl _ _).alloc (Nat.le_refl _) o
  have hBA : ∀ o, Below w.heap.size w (w8.alloc o) := fun o => hB8.alloc hB8.size o
  go_wp2_with fail
  refine (floor_any a b q _ ha ha' hb hb' hq1 hq2 HF.out).mono ?_
  rintro e w9 ⟨rfl, hb9⟩
  have hB9 := Below.thenB (hBA _) (by simp; have := hB8.size; omega) hb9
  have s9 := (hb9.block w8.heap.size (by simp)).trans (MapKept.heap_alloc w8 _).1
  obtain ⟨c90, c91, _, _⟩ := num_has s9
  have hn9 := (hn8.below (s8 _)).below hb9
  have p1' : okN r = r := p1
  go_wp2_with fail
  have ht := told_any x8 a8 n8 c8 _ w9 hn9 (by omega)
  rw [p1, p2] at ht
  refine ht.mono ?_
  rintro e wf ⟨rfl, hbf⟩
  have hBf := Below.thenB hB9 hB9.size hbf
  go_wp2_with fail
  refine (awake_any _).mono ?_
  rintro e wg ⟨rfl, hbg⟩
  go_wp2
  go_ret
  exact ⟨rfl, Below.thenB hBf hBf.size hbg⟩
end Go.Proofs.Ytaipkmgpjkbapaa
