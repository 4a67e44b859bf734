/- Walk of the law CalcSums. -/
import Derived.Test.YtaipkmgpjkbapaaCalcD
import Derived.Test.YtaipkmgpjkbapaaNumG
import Derived.Test.YtaipkmgpjkbapaaRead
namespace Go.Proofs.Ytaipkmgpjkbapaa
open Go.RowKit
theorem sum_abs {zs : List Int} (h : I64s zs) (hl : zs.length ≤ 40) : -368934881474191032320 ≤ sumL zs ∧ sumL zs ≤ 368934881474191032320 := by
  have := sumL_bd h zs.length (Nat.le_refl _)
  rw [List.take_length] at this
  omega
set_option maxRecDepth 100000 in
set_option maxHeartbeats 4000000 in
theorem sums_walk (v0 : Value) (a : Int) (v1 : Value) (zs : List Int) (w : World) (y0 : v0 = .int .i64 a ∧ (Lit.int .i64 a).wf = true) (y1 : RInts .i64 w v1 zs) :
    Calls Try.prog 3 #[v0, v1] w fun e w' => e = .returned (.bool true) ∧ Below w.heap.size w w' := by
  obtain ⟨rfl, w0⟩ := y0
  obtain ⟨p, n, c, rfl, hm, hnc, hcm, hz, hwf⟩ := y1
  unfold maxLen at hcm
  subst hm
  obtain ⟨ha, ha'⟩ := wf_i64 w0
  have hi : I64s zs := fun z h => wf_i64 (hwf z h)
  clear w0 hwf
  by_cases hlong : 40 < zs.length
  · have hd : decide ((40 : Int) < (zs.length : Int)) = true := by simp; omega
    go_enter Try.func3, Try.ntmps3
    go_wp2_with (go_at_call 8; refine (awake_any _).mono ?_; rintro e w5 ⟨rfl, hb5⟩)
    go_ret
    exact ⟨rfl, hb5⟩
  · have hd : decide ((40 : Int) < (zs.length : Int)) = false := by simp; omega
    have hl : zs.length ≤ 1048576 := by omega
    have hl40 : zs.length ≤ 40 := by omega
    obtain ⟨hs1, hs2⟩ := sum_abs hi hl40
    have hpb := prod_bd hi zs.length (Nat.le_refl _)
    rw [List.take_length] at hpb
    have hpm := pw_mono (a := 19 * zs.length) (b := 780) (by omega)
    have hpl : (prodL zs).natAbs < pw 781 := by rw [show pw 781 = 10 * pw 780 from pw_succ 780]; have := pw_pos 780; omega
    have HPL := Lib.hid hpl
    clear hpb hpm hpl
    go_enter Try.func3, Try.ntmps3
    go_wp2_with fail
    refine (add_any p _ c zs _ rfl hz hi hl).mono ?_
    rintro e w1 ⟨rfl, hb1⟩
    go_wp2_with fail
    refine (mul_any p _ c zs _ rfl (hz.below hb1) hi hl).mono ?_
    rintro e w2 ⟨rfl, hb2⟩
    have hB2 := Below.thenB hb1 hb1.size hb2
    go_wp2_with fail
    refine (sub_any a p _ c zs _ rfl ha ha' (hz.below hB2) hi hl).mono ?_
    rintro e w3 ⟨rfl, hb3⟩
    have hB3 := Below.thenB hB2 hB2.size hb3
    go_wp2_with fail
    refine (neg_any a _ ha ha').mono ?_
    rintro e w4 ⟨rfl, hb4⟩
    have hB4 := Below.thenB hB3 hB3.size hb4
    go_wp2_with fail
    refine (sum_pos p _ c zs _ rfl (hz.below hB4) hi hl).mono ?_
    rintro e w5 ⟨x5, a5, n5, c5, rfl, hn5, hb5, _⟩
    have hB5 := Below.thenB hB4 hB4.size hb5
    have l5 := num_len hn5 30 (by rw [pw30]; omega)
    go_wp2_with fail
    refine (told_any x5 a5 n5 c5 _ _ hn5 (by omega)).mono ?_
    rintro e w6 ⟨rfl, hb6⟩
    have hB6 := Below.thenB hB5 hB5.size hb6
    go_wp2_with fail
    refine (product_any p _ c zs _ rfl (hz.below hB6) hi hl40).mono ?_
    rintro e w7 ⟨x7, a7, n7, c7, rfl, hn7, hb7, _⟩
    have hB7 := Below.thenB hB6 hB6.size hb7
    have l7 := num_len hn7 781 HPL.out
    go_wp2_with fail
    refine (told_any x7 a7 n7 c7 _ _ hn7 (by omega)).mono ?_
    rintro e w8 ⟨rfl, hb8⟩
    have hB8 := Below.thenB hB7 hB7.size hb8
    go_wp2_with fail
    refine (of_any a _ ha ha').mono ?_
    rintro e w9 ⟨x9, a9, n9, c9, rfl, hn9, hb9, _⟩
    have hB9 := Below.thenB hB8 hB8.size hb9
    have l9 := num_len hn9 30 (by rw [pw30]; omega)
    go_wp2_with fail
    refine (sum_neg p _ c zs _ rfl (hz.below hB9) hi hl).mono ?_
    rintro e wa ⟨xa, aa, na, ca, rfl, hna, hba, _⟩
    have hBa := Below.thenB hB9 hB9.size hba
    have la := num_len hna 30 (by rw [pw30]; omega)
    go_wp2_with fail
    refine (plus_num x9 xa a9 aa n9 c9 na ca _ _ _ (hn9.below hba) hna (by omega) (by omega)).mono ?_
    rintro e wb ⟨xb, ab, nb, cb, rfl, hnb, hbb, _⟩
    have hBb := Below.thenB hBa hBa.size hbb
    rw [← Int.sub_eq_add_neg] at hnb
    have lb := num_len hnb 30 (by rw [pw30]; omega)
    go_wp2_with fail
    refine (told_any xb ab nb cb _ _ hnb (by omega)).mono ?_
    rintro e wc ⟨rfl, hbc⟩
    have hBc := Below.thenB hBb hBb.size hbc
    go_wp2_with fail
    refine (of_any a _ ha ha').mono ?_
    rintro e wd ⟨xd, ad, nd, cd, rfl, hnd, hbd, _⟩
    have hBd := Below.thenB hBc hBc.size hbd
    have ld := num_len hnd 30 (by rw [pw30]; omega)
    go_wp2_with fail
    refine (minus_any xd ad nd cd _ _ hnd (by omega)).mono ?_
    rintro e we ⟨xe, ae, ne, ce, rfl, hne, hbe, hqe⟩
    clear hqe
    have hBe := Below.thenB hBd hBd.size hbe
    have le := num_len hne 30 (by rw [pw30]; omega)
    go_wp2_with fail
    refine (told_any xe ae ne ce _ _ hne (by omega)).mono ?_
    rintro e wf ⟨rfl, hbf⟩
    have hBf := Below.thenB hBe hBe.size hbf
    go_wp2_with fail
    refine (awake_any _).mono ?_
    rintro e wg ⟨rfl, hbg⟩
    go_wp2
    go_ret
    exact ⟨rfl, Below.thenB hBf hBf.size hbg⟩
end Go.Proofs.Ytaipkmgpjkbapaa
