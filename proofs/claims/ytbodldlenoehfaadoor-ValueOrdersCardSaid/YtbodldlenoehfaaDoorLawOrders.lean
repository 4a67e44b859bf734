/- ValueOrders: any values: whether they are right, and which stands first; rows likewise. -/
import Derived.Test.YtbodldlenoehfaaDoorRowsC
import Derived.Test.YtbodldlenoehfaaDoorAwake2
import Derived.Test.YtbodldlenoehfaaDoorRdVal
namespace Go.Proofs.YtbodldlenoehfaaDoor
open Go.RowKit
set_option maxRecDepth 100000 in
set_option maxHeartbeats 4000000 in
theorem orders_walk (v0 : Value) (us : List Val) (v1 : Value) (vs : List Val) (v2 : Value) (n : Int) (v3 : Value) (s : ByteArray) (v4 : Value) (t : Bool) (w : World) (y0 : VArg w v0 us) (y1 : VArg w v1 vs) (y2 : v2 = .int .i64 n ∧ (Lit.int .i64 n).wf = true) (y3 : v3 = .string s ∧ s.size ≤ maxLen) (y4 : v4 = .bool t) (hmx : IntCell w 3) :
    Calls Tryd.prog 4 #[v0, v1, v2, v3, v4] w fun e w' => e = .returned (.bool true) ∧ Below w.heap.size w w' := by
  obtain ⟨a, m, c, rfl, hl, hmc, hcm, hu, hok⟩ := y0
  obtain ⟨a', m', c', rfl, hl', hmc', hcm', hv, hok'⟩ := y1
  obtain ⟨rfl, _⟩ := y2
  obtain ⟨rfl, hsz⟩ := y3
  subst y4
  have HL := Lib.hid hl
  have HL' := Lib.hid hl'
  have HM := Lib.hid hmx
  have HU := Lib.hid hu
  have HV := Lib.hid hv
  have HOK := Lib.hid hok
  have HOK' := Lib.hid hok'
  have hmx' : m ≤ maxLen := by omega
  have hmx'' : m' ≤ maxLen := by omega
  clear hl hl' hmx hok hok' hu hv
  unfold maxLen at hsz
  cases hg : greatB us with
  | true =>
    have HG := Lib.hid hg
    clear hg
    go_enter Tryd.func4, Tryd.ntmps4
    go_wp2_with fail
    refine (great_any a m c us _ HL.out hmx' HU.out HOK.out).mono ?_
    rintro e w' ⟨rfl, rfl⟩
    rw [HG.out]
    go_wp2_with fail
    refine (awake2_any _ HM.out).mono ?_
    rintro e wz ⟨rfl, hbz⟩
    go_wp2
    go_ret
    exact ⟨rfl, hbz⟩
  | false =>
    have HG := Lib.hid hg
    have hm30 := (great_not hg).1
    rw [HL.out] at hm30
    clear hg
    cases hg' : greatB vs with
    | true =>
      have HG' := Lib.hid hg'
      clear hg'
      go_enter Tryd.func4, Tryd.ntmps4
      go_wp2_with fail
      refine (great_any a m c us _ HL.out hmx' HU.out HOK.out).mono ?_
      rintro e w' ⟨rfl, rfl⟩
      rw [HG.out]
      go_wp2_with fail
      refine (great_any a' m' c' vs _ HL'.out hmx'' HV.out HOK'.out).mono ?_
      rintro e w' ⟨rfl, rfl⟩
      rw [HG'.out]
      go_wp2_with fail
      refine (awake2_any _ HM.out).mono ?_
      rintro e wz ⟨rfl, hbz⟩
      go_wp2
      go_ret
      exact ⟨rfl, hbz⟩
    | false =>
      have HG' := Lib.hid hg'
      have hm30' := (great_not hg').1
      rw [HL'.out] at hm30'
      clear hg'
      by_cases hs : s.size ≤ 300
      · have hd : decide ((300 : Int) < (s.size : Int)) = false := decide_eq_false (by omega)
        go_enter Tryd.func4, Tryd.ntmps4
        go_wp2_with fail
        refine (great_any a m c us _ HL.out hmx' HU.out HOK.out).mono ?_
        rintro e w' ⟨rfl, rfl⟩
        rw [HG.out]
        go_wp2_with fail
        refine (great_any a' m' c' vs _ HL'.out hmx'' HV.out HOK'.out).mono ?_
        rintro e w' ⟨rfl, rfl⟩
        rw [HG'.out]
        go_wp2
        go_loopw [11] (fun i wr => ∃ k : Nat, k ≤ m ∧ k ≤ m' ∧ i = .int .i64 (k : Int) ∧ Below w.heap.size w wr) (fun i _ => m - (intOf i).toNat)
        case atStart => exact ⟨0, Nat.zero_le _, Nat.zero_le _, rfl, Below.refl _ _⟩
        case round =>
        obtain ⟨k, hk, hk', rfl, hbel⟩ := hrel
        have hszr := hbel.size
        have hu := HU.out
        have hv := HV.out
        by_cases hlt : k < m ∧ k < m'
        · obtain ⟨hlt1, hlt2⟩ := hlt
          have d1 : decide ((k : Int) < (m : Int)) = true := decide_eq_true (by omega)
          have d2 : decide ((k : Int) < (m' : Int)) = true := decide_eq_true (by omega)
          obtain ⟨b, o, u, rfl, hb, huk, c0, c1, c2⟩ := Vals.at3 hu HL.out hlt1 hbel
          obtain ⟨b', o', v, rfl, hb', hvk, e0, e1, e2⟩ := Vals.at3 hv HL'.out hlt2 hbel
          obtain ⟨uk, un, us'⟩ := u
          obtain ⟨vk, vn, vs'⟩ := v
          simp only [] at c0 c1 c2 e0 e1 e2
          clear huk hvk hu hv
          have hk0 : (0 : Int) ≤ (k : Int) := by omega
          have hk1 : (k : Int) < (m : Int) := by omega
          have hk2 : (k : Int) < (m' : Int) := by omega
          have hbx : b < wr.heap.size := Nat.lt_of_lt_of_le hb hszr
          have hbx' : b' < wr.heap.size := Nat.lt_of_lt_of_le hb' hszr
          obtain ⟨C, hC⟩ : ∃ C, C = vcmp (uk, un, us') (vk, vn, vs') := ⟨_, rfl⟩
          have HC := Lib.hid hC
          clear hC
          go_wp2
          go_region_held3 (fun W => W.cell? ⟨b, o + k * 3, none⟩ = some (.int .i64 uk) ∧ W.cell? ⟨b, o + k * 3 + 1, none⟩ = some (.int .i64 un) ∧ W.cell? ⟨b, o + k * 3 + 2, none⟩ = some (.string us') ∧ W.cell? ⟨b', o' + k * 3, none⟩ = some (.int .i64 vk) ∧ W.cell? ⟨b', o' + k * 3 + 1, none⟩ = some (.int .i64 vn) ∧ W.cell? ⟨b', o' + k * 3 + 2, none⟩ = some (.string vs'))
            (first | (with_reducible exact ⟨p0, p1, p2, p3, p4, p5⟩) | (with_reducible exact ⟨q0, q1, q2, q3, q4, q5⟩) | go_keep)
            (first
              | (go_at_call 17; refine (vcmp_any (uk, un, us') (vk, vn, vs') _).mono ?_; rintro e w1 ⟨rfl, hb1⟩; rw [← HC.out]; obtain ⟨hc1, hf1⟩ := bcell hb1; have q0 := (hc1 b (o + k * 3) (by exact hbx)).trans (by exact c0); have q1 := (hc1 b (o + k * 3 + 1) (by exact hbx)).trans (by exact c1); have q2 := (hc1 b (o + k * 3 + 2) (by exact hbx)).trans (by exact c2); have q3 := (hc1 b' (o' + k * 3) (by exact hbx')).trans (by exact e0); have q4 := (hc1 b' (o' + k * 3 + 1) (by exact hbx')).trans (by exact e1); have q5 := (hc1 b' (o' + k * 3 + 2) (by exact hbx')).trans (by exact e2); clear hc1 hf1)
              | (go_at_call 18; refine (rcmp_any (uk, un, us') (vk, vn, vs') _).mono ?_; rintro e w2 ⟨rfl, hb2⟩; rw [← HC.out]; obtain ⟨hc2, hf2⟩ := bcell hb2; have p0 := (hc2 b (o + k * 3) (Nat.lt_of_lt_of_le hbx hb1.size)).trans q0; have p1 := (hc2 b (o + k * 3 + 1) (Nat.lt_of_lt_of_le hbx hb1.size)).trans q1; have p2 := (hc2 b (o + k * 3 + 2) (Nat.lt_of_lt_of_le hbx hb1.size)).trans q2; have p3 := (hc2 b' (o' + k * 3) (Nat.lt_of_lt_of_le hbx' hb1.size)).trans q3; have p4 := (hc2 b' (o' + k * 3 + 1) (Nat.lt_of_lt_of_le hbx' hb1.size)).trans q4; have p5 := (hc2 b' (o' + k * 3 + 2) (Nat.lt_of_lt_of_le hbx' hb1.size)).trans q5; clear hc2 hf2))
          have hB2 : Below w.heap.size w w2 := Below.thenB (Below.thenB hbel.drew (by show w.heap.size ≤ wr.heap.size; omega) hb1) (by have : wr.heap.size ≤ w1.heap.size := hb1.size; omega) hb2
          go_wp2
          go_roundw
          case rel => exact ⟨k + 1, by omega, by omega, by go_num, hB2⟩
          case measure => simp [intOf]; omega
        have hor : decide (k < m) = false ∨ (decide (k < m) = true ∧ decide (k < m') = false) := by
          by_cases h : k < m
          · exact .inr ⟨decide_eq_true h, decide_eq_false (by omega)⟩
          · exact .inl (decide_eq_false h)
        clear hlt
        rcases hor with d1 | ⟨d1, d2⟩
        all_goals
          have HUW := Lib.hid (hu.below hbel)
          have HVW := Lib.hid (hv.below hbel)
          have HMW := Lib.hid (HM.out.below hbel)
          cases t
          all_goals
            go_wp2_with fail
            refine (right_all a m c us _ HL.out (by omega) HUW.out).mono ?_
            rintro e w1 ⟨rfl, hb1⟩
            have U1 := Lib.hid (HUW.out.below hb1)
            have V1 := Lib.hid (HVW.out.below hb1)
            have M1 := Lib.hid (HMW.out.below hb1)
            have z1 : w.heap.size ≤ w1.heap.size := Nat.le_trans hbel.size hb1.size
            have B1 := Below.thenB hbel hbel.size hb1
            go_wp2_with fail
            refine (rall_any a m c us _ HL.out (by omega) U1.out).mono ?_
            rintro e w2 ⟨rfl, hb2⟩
            have U2 := Lib.hid (U1.out.below hb2)
            have V2 := Lib.hid (V1.out.below hb2)
            have M2 := Lib.hid (M1.out.below hb2)
            have B2 := Below.thenB B1 z1 hb2
            have z2 := B2.size
            go_wp2_with fail
            refine (vrows_any a a' m c m' c' us vs _ HL.out HL'.out (by omega) (by omega) U2.out V2.out).mono ?_
            rintro e w3 ⟨rfl, hb3⟩
            have U3 := Lib.hid (U2.out.below hb3)
            have V3 := Lib.hid (V2.out.below hb3)
            have M3 := Lib.hid (M2.out.below hb3)
            have B3 := Below.thenB B2 z2 hb3
            have z3 := B3.size
            go_wp2_with fail
            refine (rrows_any a a' m c m' c' us vs _ HL.out HL'.out (by omega) (by omega) U3.out V3.out).mono ?_
            rintro e w4 ⟨rfl, hb4⟩
            have M4 := Lib.hid (M3.out.below hb4)
            have B4 := Below.thenB B3 z3 hb4
            have z4 := B4.size
            go_wp2_with fail
            refine (int_any n _).mono ?_
            rintro e w5 ⟨rfl, hb5⟩
            have M5 := Lib.hid (M4.out.below hb5)
            have B5 := Below.thenB B4 z4 hb5
            have z5 := B5.size
            go_wp2_with fail
            refine (text_any s _).mono ?_
            rintro e w6 ⟨rfl, hb6⟩
            have M6 := Lib.hid (M5.out.below hb6)
            have B6 := Below.thenB B5 z5 hb6
            have z6 := B6.size
            go_wp2_with fail
            first
              | (with_reducible refine (bool_t _).mono ?_)
              | (with_reducible refine (bool_f _).mono ?_)
            rintro e w7 ⟨rfl, hb7⟩
            have M7 := M6.out.below hb7
            have B7 := Below.thenB B6 z6 hb7
            have z7 := B7.size
            go_wp2_with fail
            refine (awake2_any _ M7).mono ?_
            rintro e w8 ⟨rfl, hb8⟩
            go_wp2
            go_ret
            exact ⟨rfl, Below.thenB B7 z7 hb8⟩
      · have hd : decide ((300 : Int) < (s.size : Int)) = true := decide_eq_true (by omega)
        go_enter Tryd.func4, Tryd.ntmps4
        go_wp2_with fail
        refine (great_any a m c us _ HL.out hmx' HU.out HOK.out).mono ?_
        rintro e w' ⟨rfl, rfl⟩
        rw [HG.out]
        go_wp2_with fail
        refine (great_any a' m' c' vs _ HL'.out hmx'' HV.out HOK'.out).mono ?_
        rintro e w' ⟨rfl, rfl⟩
        rw [HG'.out]
        go_wp2_with fail
        refine (awake2_any _ HM.out).mono ?_
        rintro e wz ⟨rfl, hbz⟩
        go_wp2
        go_ret
        exact ⟨rfl, hbz⟩
end Go.Proofs.YtbodldlenoehfaaDoor
