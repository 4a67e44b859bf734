/- ValueSpreads: any right value's place, of any many. -/
import Derived.Test.YtbodldlenoehfaaDoorRSpread
import Derived.Test.YtbodldlenoehfaaDoorAwake2
namespace Go.Proofs.YtbodldlenoehfaaDoor
open Go.RowKit Go.ChangeShapes Go.WideShapes Go.ChangeAt
theorem rd_agg {P : Program} {W : World} {base : Nat} {t : TypeId} {fs : Array Field} {v : Value} {x : Val} (ht : P.underlying t = some (.struct fs)) (hv : Value.okWide P W .any base t v) (hx : RVal W v.cells.toList x) : v = vagg x := by
  obtain ⟨cs, rfl, hsz⟩ := okWide_struct ht hv
  obtain ⟨l⟩ := cs
  have : l = [.int .i64 x.1, .int .i64 x.2.1, .string x.2.2] := by simpa [Value.cells] using hx.1
  rw [this]; rfl
set_option maxRecDepth 100000 in
theorem rd_val {H : Type} {enc : TypeId × Value → H} {W : World} {base : Nat} {v : Value} {d : DataW H} {p : List MemPlace} (hv : Value.okWide Tryd.prog W .any base 34 v) (h : DataW.Trod enc Tryd.prog W 0 (fun _ => true) true 34 v d p) :
    ∃ x : Val, v = vagg x ∧ ((-9223372036854775808 ≤ x.1 ∧ x.1 ≤ 9223372036854775807) ∧ (-9223372036854775808 ≤ x.2.1 ∧ x.2.1 ≤ 9223372036854775807) ∧ x.2.2.size ≤ maxLen) := by
  obtain ⟨x, hx⟩ := rd_of (op_val H enc W) h
  exact ⟨x, rd_agg Tryd.underlying34 hv hx, wf_i64 hx.2.1, wf_i64 hx.2.2.1, hx.2.2.2⟩
set_option maxRecDepth 100000 in
set_option maxHeartbeats 2000000 in
theorem spreads_walk (v0 : Value) (v : Val) (v1 : Value) (n : Int) (w : World) (y0 : v0 = vagg v ∧ ((-9223372036854775808 ≤ v.1 ∧ v.1 ≤ 9223372036854775807) ∧ (-9223372036854775808 ≤ v.2.1 ∧ v.2.1 ≤ 9223372036854775807) ∧ v.2.2.size ≤ maxLen)) (y1 : v1 = .int .i64 n ∧ (Lit.int .i64 n).wf = true) (hmx : IntCell w 3) :
    Calls Tryd.prog 7 #[v0, v1] w fun e w' => e = .returned (.bool true) ∧ Below w.heap.size w w' := by
  obtain ⟨rfl, ⟨hk0, hk1⟩, ⟨hm0, hm1⟩, hsz⟩ := y0
  obtain ⟨rfl, y1⟩ := y1
  obtain ⟨hn0, hn1⟩ := wf_i64 y1
  clear y1
  obtain ⟨k, m, s⟩ := v
  simp only [] at hk0 hk1 hm0 hm1 hsz
  unfold vagg
  simp only []
  unfold maxLen at hsz
  have hA : Below w.heap.size w (w.alloc (.cells #[.int .i64 k, .int .i64 m, .string s] 34)) := (Below.refl _ _).alloc (Nat.le_refl _) _
  have HM := Lib.hid (hmx.below hA)
  clear hmx
  by_cases hs : s.size ≤ 300
  · have hd : decide ((300 : Int) < (s.size : Int)) = false := decide_eq_false (by omega)
    cases hv : vright (k, m, s) with
    | false =>
      have HV := Lib.hid hv
      clear hv
      go_enter Tryd.func7, Tryd.ntmps7
      go_wp2_with fail
      refine (rright_any (k, m, s) _).mono ?_
      rintro e w1 ⟨rfl, hb1⟩
      rw [HV.out]
      go_wp2_with fail
      refine (awake2_any _ (HM.out.below hb1)).mono ?_
      rintro e w2 ⟨rfl, hb2⟩
      go_wp2
      go_ret
      exact ⟨rfl, Below.thenB (Below.thenB hA (by simp) hb1) (by have := hb1.size; simp at this; omega) hb2⟩
    | true =>
      have HV := Lib.hid hv
      clear hv
      by_cases hb : n ≤ 1000000
      · have hd1 : decide ((1000000 : Int) < n) = false := decide_eq_false (by omega)
        by_cases h1 : n < 1
        · have hd2 : decide (n < 1) = true := decide_eq_true h1
          go_enter Tryd.func7, Tryd.ntmps7
          go_wp2_with fail
          refine (rright_any (k, m, s) _).mono ?_
          rintro e w1 ⟨rfl, hb1⟩
          rw [HV.out]
          have hz1 := hb1.size
          simp at hz1
          obtain ⟨hc1, hf1⟩ := bcell hb1
          have c0 : w1.cell? ⟨w.heap.size, 0, none⟩ = some (.int .i64 k) := (hc1 w.heap.size 0 (by simp)).trans (by go_simp)
          have c1 : w1.cell? ⟨w.heap.size, 1, none⟩ = some (.int .i64 m) := (hc1 w.heap.size 1 (by simp)).trans (by go_simp)
          have c2 : w1.cell? ⟨w.heap.size, 2, none⟩ = some (.string s) := (hc1 w.heap.size 2 (by simp)).trans (by go_simp)
          clear hc1 hf1
          go_wp2_with fail
          refine (spread_none (k, m, s) n h1 _).mono ?_
          rintro e w2 ⟨rfl, hb2⟩
          have hz2 := hb2.size
          go_wp2_with fail
          refine (awake2_any _ ((HM.out.below hb1).below hb2)).mono ?_
          rintro e w3 ⟨rfl, hb3⟩
          go_wp2
          go_ret
          exact ⟨rfl, Below.thenB (Below.thenB (Below.thenB hA (by simp) hb1) (by omega) hb2) (by omega) hb3⟩
        · have hd2 : decide (n < 1) = false := decide_eq_false h1
          obtain ⟨N, rfl⟩ : ∃ N : Nat, n = (N : Int) := ⟨n.toNat, by omega⟩
          go_enter Tryd.func7, Tryd.ntmps7
          go_wp2_with fail
          refine (rright_any (k, m, s) _).mono ?_
          rintro e w1 ⟨rfl, hb1⟩
          rw [HV.out]
          have hz1 := hb1.size
          simp at hz1
          obtain ⟨hc1, hf1⟩ := bcell hb1
          have c0 : w1.cell? ⟨w.heap.size, 0, none⟩ = some (.int .i64 k) := (hc1 w.heap.size 0 (by simp)).trans (by go_simp)
          have c1 : w1.cell? ⟨w.heap.size, 1, none⟩ = some (.int .i64 m) := (hc1 w.heap.size 1 (by simp)).trans (by go_simp)
          have c2 : w1.cell? ⟨w.heap.size, 2, none⟩ = some (.string s) := (hc1 w.heap.size 2 (by simp)).trans (by go_simp)
          have i1 := HM.out.below hb1
          have HI := Lib.hid i1
          clear hc1 hf1 i1
          have hAw : w.heap.size < w1.heap.size := by omega
          obtain ⟨r, hr⟩ : ∃ r, r = vsum (k, m, s) % (N : Int) := ⟨_, rfl⟩
          have HR := Lib.hid hr
          clear hr
          go_wp2
          go_region_held3 (fun W => W.cell? ⟨w.heap.size, 0, none⟩ = some (.int .i64 k) ∧ W.cell? ⟨w.heap.size, 1, none⟩ = some (.int .i64 m) ∧ W.cell? ⟨w.heap.size, 2, none⟩ = some (.string s))
            (first | (with_reducible exact ⟨k0, k1, k2⟩) | (with_reducible exact ⟨l0, l1, l2⟩) | (with_reducible exact ⟨q0, q1, q2⟩) | go_keep)
            (first
              | (go_at_call 37; refine (spread_any (k, m, s) HV.out N (by omega) (by omega) _).mono ?_; rintro e w2 ⟨rfl, hb2⟩; rw [← HR.out]; obtain ⟨hc2, hf2⟩ := bcell hb2; have k0 := (hc2 w.heap.size 0 (by exact hAw)).trans (by exact c0); have k1 := (hc2 w.heap.size 1 (by exact hAw)).trans (by exact c1); have k2 := (hc2 w.heap.size 2 (by exact hAw)).trans (by exact c2); have hA2 : w.heap.size < w2.heap.size := Nat.lt_of_lt_of_le hAw hb2.size; have hI2 := Lib.hid (IntCell.below (by exact HI.out) hb2); clear hc2 hf2)
              | (go_at_call 38; refine (rspread_any (k, m, s) HV.out ⟨hm0, hm1⟩ N (by omega) (by omega) _).mono ?_; rintro e w3 ⟨rfl, hb3⟩; rw [← HR.out]; obtain ⟨hc3, hf3⟩ := bcell hb3; have l0 := (hc3 w.heap.size 0 hA2).trans k0; have l1 := (hc3 w.heap.size 1 hA2).trans k1; have l2 := (hc3 w.heap.size 2 hA2).trans k2; have hA3 : w.heap.size < w3.heap.size := Nat.lt_of_lt_of_le hA2 hb3.size; have hI3 := Lib.hid (IntCell.below hI2.out hb3); clear hc3 hf3)
              | (go_at_call 16; refine (awake2_any _ hI3.out).mono ?_; rintro e w4 ⟨rfl, hb4⟩; obtain ⟨hc4, hf4⟩ := bcell hb4; have q0 := (hc4 w.heap.size 0 hA3).trans l0; have q1 := (hc4 w.heap.size 1 hA3).trans l1; have q2 := (hc4 w.heap.size 2 hA3).trans l2; clear hc4 hf4))
          go_wp2
          go_ret
          have hz2 : w1.heap.size ≤ w2.heap.size := hb2.size
          have hz3 := hb3.size
          exact ⟨rfl, Below.thenB (Below.thenB (Below.thenB (Below.thenB hA (by simp) hb1).drew (by show w.heap.size ≤ w1.heap.size; omega) hb2) (by omega) hb3) (by omega) hb4⟩
      · have hd1 : decide ((1000000 : Int) < n) = true := decide_eq_true (by omega)
        go_enter Tryd.func7, Tryd.ntmps7
        go_wp2_with fail
        refine (rright_any (k, m, s) _).mono ?_
        rintro e w1 ⟨rfl, hb1⟩
        rw [HV.out]
        go_wp2_with fail
        refine (awake2_any _ (HM.out.below hb1)).mono ?_
        rintro e w2 ⟨rfl, hb2⟩
        go_wp2
        go_ret
        exact ⟨rfl, Below.thenB (Below.thenB hA (by simp) hb1) (by have := hb1.size; simp at this; omega) hb2⟩
  · have hd : decide ((300 : Int) < (s.size : Int)) = true := decide_eq_true (by omega)
    go_enter Tryd.func7, Tryd.ntmps7
    go_wp2_with fail
    refine (awake2_any _ HM.out).mono ?_
    rintro e w2 ⟨rfl, hb2⟩
    go_wp2
    go_ret
    exact ⟨rfl, Below.thenB hA (by simp) hb2⟩
end Go.Proofs.YtbodldlenoehfaaDoor
