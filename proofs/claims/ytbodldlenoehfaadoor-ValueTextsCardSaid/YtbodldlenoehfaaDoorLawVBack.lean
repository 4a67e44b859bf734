/- ValueBack: what is printed is parsed as it was. -/
import Derived.Test.YtbodldlenoehfaaDoorVParse
import Derived.Test.YtbodldlenoehfaaDoorAwake2
import Derived.Test.YtbodldlenoehfaaDoorRdVal
namespace Go.Proofs.YtbodldlenoehfaaDoor
open Go.RowKit
theorem dec_cons (u : Nat) : ∃ c r, Lib.decDigits u = c :: r ∧ isDig c = true := by
  have h1 := dec_ne u
  have h2 := dec_dig u
  cases e : Lib.decDigits u with
  | nil => exact absurd e h1
  | cons c r =>
    rw [e] at h2
    simp only [List.all_cons, Bool.and_eq_true] at h2
    exact ⟨c, r, rfl, h2.1⟩
theorem itoa_head (n : Int) : ∃ c r, Lib.itoa n = c :: r ∧ c ≠ 116 ∧ c ≠ 102 ∧ c ≠ 39 := by
  unfold Lib.itoa
  by_cases h : n < 0
  · rw [if_pos h]; exact ⟨45, _, rfl, by decide, by decide, by decide⟩
  · rw [if_neg h]
    obtain ⟨c, r, he, hc⟩ := dec_cons n.toNat
    rw [he]
    refine ⟨c, r, rfl, ?_, ?_, ?_⟩ <;> (rintro rfl; exact absurd hc (by decide))
theorem dread_dec (u : Nat) (h : u ≤ 18446744073709551615) : dreadV 0 (Lib.decDigits u) = u := by
  obtain ⟨h1, h2⟩ := puB_all _ (dec_ne u) (dec_dig u)
  have h3 := puB_dec u h
  rcases Nat.lt_or_ge 18446744073709551615 (dreadV 0 (Lib.decDigits u)) with hl | hl
  · rw [h2 hl] at h3; cases h3
  · rw [h1 hl] at h3
    injection h3
theorem parV_itoa (n : Int) (h0 : -9223372036854775808 ≤ n) (h1 : n ≤ 9223372036854775807) : parV (Lib.itoa n) = some n := by
  obtain ⟨ht, hp⟩ := itoa_trim n
  have hz : (decide (n < 0) && (Lib.decDigits n.natAbs == [48])) = false := by
    by_cases h : n < 0
    · have : ¬ Lib.decDigits n.natAbs = [48] := fun e => by have := (dec_zero n.natAbs).mp e; omega
      simp [this]
    · simp [h]
  unfold parV
  rw [ht, hp, num_dec, hz, dread_dec _ (by omega)]
  simp only [Bool.not_false, Bool.and_self, if_true]
  by_cases h : n < 0
  · simp [h]; omega
  · simp [h]; omega
theorem back_ok (v : Val) (hv : vright v = true) (h0 : -9223372036854775808 ≤ v.2.1) (h1 : v.2.1 ≤ 9223372036854775807) : vparse (vprint v) = some v := by
  obtain ⟨k, n, s⟩ := v
  rcases right_kinds hv with ⟨h, h'⟩ | ⟨h, h', h''⟩ | ⟨h, h', h''⟩
  · simp only [] at h h' h0 h1; subst h h'
    have e : vprint (1, n, ⟨#[]⟩) = Lib.itoa n := rfl
    obtain ⟨c, r, hc, c1, c2, c3⟩ := itoa_head n
    have hpar := parV_itoa n h0 h1
    rw [e]
    rw [hc] at hpar ⊢
    unfold vparse
    have hp : Lib.hasPrefix (c :: r) [39] = false := by
      have : ((39 : UInt8) == c) = false := beq_false_of_ne (fun e => c3 e.symm)
      simp [Lib.hasPrefix, List.isPrefixOf, this]
    have hin : inB n = true := by unfold inB; exact decide_eq_true ⟨h0, h1⟩
    rw [if_neg (by intro e; injection e with e _; exact c1 e), if_neg (by intro e; injection e with e _; exact c2 e), hp, if_neg (by decide), hpar]
    simp only []
    rw [hin]; rfl
  · simp only [] at h h' h''; subst h h'
    have e : vprint (2, 0, s) = 39 :: (dbl s.data.toList ++ [39]) := rfl
    have hin : inner (39 :: (dbl s.data.toList ++ [39])) = s.data.toList := by
      unfold inner
      rw [trim_quotes, replaceAll_undbl]
    have hiv : innerV (39 :: (dbl s.data.toList ++ [39])) = (2, 0, s) := by
      unfold innerV
      rw [hin, ← ba_eq s _ rfl]
    have hpo : printOf (2, 0, s) = 39 :: (dbl s.data.toList ++ [39]) := by
      unfold printOf
      rw [hv]; rfl
    rw [e]
    unfold vparse
    have hp : Lib.hasPrefix (39 :: (dbl s.data.toList ++ [39])) [39] = true := by simp [Lib.hasPrefix, List.isPrefixOf]
    rw [if_neg (by intro e; injection e with e _; exact absurd e (by decide)), if_neg (by intro e; injection e with e _; exact absurd e (by decide)), hp, if_pos rfl, hiv, hpo, if_pos rfl]
  · simp only [] at h h' h''; subst h h''
    rcases h' with h' | h'
    · subst h'; rfl
    · subst h'; rfl
theorem vprint_len (v : Val) (hv : vright v = true) (h0 : -9223372036854775808 ≤ v.2.1) (h1 : v.2.1 ≤ 9223372036854775807) : (vprint v).length ≤ 500 := by
  obtain ⟨k, n, s⟩ := v
  rcases right_kinds hv with ⟨h, h'⟩ | ⟨h, h', h''⟩ | ⟨h, h', h''⟩
  · simp only [] at h h' h0 h1; subst h h'
    have := Lib.itoa_length_le n h0 h1
    show (Lib.itoa n).length ≤ 500
    omega
  · simp only [] at h h' h''; subst h h'
    have := dbl_len s.data.toList
    rw [← Lib.size_eq] at this
    show (39 :: (dbl s.data.toList ++ [39])).length ≤ 500
    simp; omega
  · simp only [] at h h' h''; subst h h''
    rcases h' with h' | h' <;> subst h' <;> decide
set_option maxRecDepth 100000 in
set_option maxHeartbeats 2000000 in
theorem vback_walk (v0 : Value) (v : Val) (w : World) (y0 : v0 = vagg v ∧ ((-9223372036854775808 ≤ v.1 ∧ v.1 ≤ 9223372036854775807) ∧ (-9223372036854775808 ≤ v.2.1 ∧ v.2.1 ≤ 9223372036854775807) ∧ v.2.2.size ≤ maxLen)) (htab : Lib.TabIs Tryd.prog w "internal/strconv.uint64pow10" .u64 Lib.pow10Tab) (hev : ErrCell w 1) (hmx : IntCell w 3) :
    Calls Tryd.prog 9 #[v0] w fun e w' => e = .returned (.bool true) ∧ Below w.heap.size w w' := by
  obtain ⟨rfl, ⟨hk0, hk1⟩, ⟨hm0, hm1⟩, hsz⟩ := y0
  obtain ⟨k, m, s⟩ := v
  simp only [] at hk0 hk1 hm0 hm1 hsz
  unfold vagg
  simp only []
  unfold maxLen at hsz
  have hA : Below w.heap.size w (w.alloc (.cells #[.int .i64 k, .int .i64 m, .string s] 34)) := (Below.refl _ _).alloc (Nat.le_refl _) _
  have HM := Lib.hid (hmx.below hA)
  have HT := Lib.hid (tab_below htab hA)
  have HE := Lib.hid (hev.below hA)
  clear hmx htab hev
  by_cases hs : s.size ≤ 300
  · have hd : decide ((300 : Int) < (s.size : Int)) = false := decide_eq_false (by omega)
    cases hv : vright (k, m, s) with
    | false =>
      have HV := Lib.hid hv
      clear hv
      go_enter Tryd.func9, Tryd.ntmps9
      go_wp2_with fail
      refine (rright_any (k, m, s) _).mono ?_
      rintro e w1 ⟨rfl, hb1⟩
      rw [HV.out]
      go_wp2_with fail
      refine (awake2_any _ (HM.out.below hb1)).mono ?_
      rintro e w2 ⟨rfl, hb2⟩
      go_wp2
      go_ret
      exact ⟨rfl, Below.thenB (Below.thenB hA (by simp) hb1) (by have := hb1.size; simp at this; omega) hb2⟩
    | true =>
      have hbk := back_ok (k, m, s) hv hm0 hm1
      have hpl := vprint_len (k, m, s) hv hm0 hm1
      have hpo : printOf (k, m, s) = vprint (k, m, s) := by unfold printOf; rw [hv]; rfl
      have HV := Lib.hid hv
      obtain ⟨PR, hPR⟩ : ∃ PR, PR = vprint (k, m, s) := ⟨_, rfl⟩
      rw [← hPR] at hbk hpl hpo
      have HBK := Lib.hid hbk
      have HPO := Lib.hid hpo
      clear hv hbk hpo hPR
      go_enter Tryd.func9, Tryd.ntmps9
      go_wp2_with fail
      refine (rright_any (k, m, s) _).mono ?_
      rintro e w1 ⟨rfl, hb1⟩
      rw [HV.out]
      have hz1 := hb1.size
      simp at hz1
      obtain ⟨hc1, hf1⟩ := bcell hb1
      have c0 : w1.cell? ⟨w.heap.size, 0, none⟩ = some (.int .i64 k) := (hc1 w.heap.size 0 (by simp)).trans (by go_simp)
      have c1 : w1.cell? ⟨w.heap.size, 1, none⟩ = some (.int .i64 m) := (hc1 w.heap.size 1 (by simp)).trans (by go_simp)
      have c2 : w1.cell? ⟨w.heap.size, 2, none⟩ = some (.string s) := (hc1 w.heap.size 2 (by simp)).trans (by go_simp)
      clear hc1 hf1
      have hb01 : Below w.heap.size w w1 := Below.thenB hA (by simp) hb1
      go_wp2_with fail
      refine (vprint_any (k, m, s) hm0 hm1 _ (tab_below HT.out hb1) (HM.out.below hb1)).mono ?_
      rintro e w2 ⟨rfl, hb2⟩
      rw [HPO.out]
      have hz2 := hb2.size
      obtain ⟨hc2, hf2⟩ := bcell hb2
      have d0 := (hc2 w.heap.size 0 (by omega)).trans c0
      have d1 := (hc2 w.heap.size 1 (by omega)).trans c1
      have d2 := (hc2 w.heap.size 2 (by omega)).trans c2
      clear hc2 hf2 c0 c1 c2
      have HT2 := Lib.hid (tab_below (tab_below HT.out hb1) hb2)
      have HM2 := Lib.hid ((HM.out.below hb1).below hb2)
      have HE2 := Lib.hid ((HE.out.below hb1).below hb2)
      go_wp2_with fail
      refine (vparse_any ⟨PR.toArray⟩ (by show PR.toArray.size ≤ 1000; simp; omega) _ HT2.out HE2.out HM2.out).mono ?_
      rintro e w3 ⟨he, hb3⟩
      have hbk : vparse (ByteArray.mk PR.toArray).data.toList = some (k, m, s) := HBK.out
      rw [hbk] at he
      have he' : e = .returned (.tuple #[.agg #[.int .i64 k, .int .i64 m, .string s], .int .i64 0]) := he
      subst he'
      clear he hbk
      have hz3 := hb3.size
      obtain ⟨hc3, hf3⟩ := bcell hb3
      have e0 := (hc3 w.heap.size 0 (by omega)).trans d0
      have e1 := (hc3 w.heap.size 1 (by omega)).trans d1
      have e2 := (hc3 w.heap.size 2 (by omega)).trans d2
      clear hc3 hf3 d0 d1 d2
      have hb03 : Below w.heap.size w w3 := Below.thenB (Below.thenB hb01 (by omega) hb2) (by omega) hb3
      have hlt3 : w.heap.size < w3.heap.size := by omega
      have hC : Below w3.heap.size w3 (w3.alloc (.cells #[.int .i64 k, .int .i64 m, .string s] 34)) := (Below.refl _ _).alloc (Nat.le_refl _) _
      go_wp2_with fail
      refine (awake2_any _ ((HM2.out.below hb3).below hC)).mono ?_
      rintro e w4 ⟨rfl, hb4⟩
      go_wp2
      go_ret
      exact ⟨rfl, Below.thenB (hb03.alloc (by omega) _) (by simp; omega) hb4⟩
  · have hd : decide ((300 : Int) < (s.size : Int)) = true := decide_eq_true (by omega)
    go_enter Tryd.func9, Tryd.ntmps9
    go_wp2_with fail
    refine (awake2_any _ HM.out).mono ?_
    rintro e w2 ⟨rfl, hb2⟩
    go_wp2
    go_ret
    exact ⟨rfl, Below.thenB hA (by simp) hb2⟩
end Go.Proofs.YtbodldlenoehfaaDoor
