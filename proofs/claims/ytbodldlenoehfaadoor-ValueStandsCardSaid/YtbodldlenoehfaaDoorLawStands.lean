/- ValueStands: keys stand in the order of their rows; the row of a key is that row; which key begins which. -/
import Derived.Test.YtbodldlenoehfaaDoorKeyOrder
import Derived.Test.YtbodldlenoehfaaDoorRowsC
import Derived.Test.YtbodldlenoehfaaDoorAwake2
import Derived.Test.YtbodldlenoehfaaDoorRdVal
namespace Go.Proofs.YtbodldlenoehfaaDoor
open Go.RowKit
theorem vkeys_app (a b : List Val) : vkeys (a ++ b) = vkeys a ++ vkeys b := by simp [vkeys]
theorem vkeys_pos (v : Val) (r : List Val) : 0 < (vkeys (v :: r)).length := by
  have e : vkeys (v :: r) = vkey v ++ vkeys r := by simp [vkeys]
  have : 0 < (vkey v).length := by
    unfold vkey; split
    · simp
    · split <;> simp
  rw [e, List.length_append]; omega
theorem vkeys_ge (vs : List Val) : vs.length ≤ (vkeys vs).length := by
  induction vs with
  | nil => simp
  | cons v t ih =>
    have e : vkeys (v :: t) = vkeys [v] ++ vkeys t := by simp [vkeys]
    have := vkeys_pos v []
    rw [e, List.length_append, List.length_cons]; omega
theorem less_nil (x : List UInt8) (h : 0 < x.length) : Op.bytesLess [] x = true := by
  cases x with
  | nil => simp at h
  | cons a t => rfl
theorem nil_more (x : List UInt8) : Op.bytesLess x [] = false := by cases x <;> rfl
theorem less_ne {x y : List UInt8} (h : Op.bytesLess x y = true) : (x == y) = false := by
  refine beq_false_of_ne (fun e => ?_)
  subst e; rw [bl_irrefl] at h; cases h
theorem stands_math (a b : List Val) (ha : a.all vright = true) (hb : b.all vright = true) (oa : ValsOk a) (ob : ValsOk b) :
    ∃ P : Bool, ((vkeys a).length ≤ (vkeys b).length → ((vkeys b).take (vkeys a).length == vkeys a) = P) ∧ (¬ (vkeys a).length ≤ (vkeys b).length → P = false) ∧
      (a.length ≤ b.length → vsame a (b.take a.length) = P) ∧ (¬ a.length ≤ b.length → P = false) ∧
      ((vrows a b = -1 ∧ Op.bytesLess (vkeys a) (vkeys b) = true ∧ (vkeys a == vkeys b) = false) ∨ (vrows a b = 0 ∧ Op.bytesLess (vkeys a) (vkeys b) = false ∧ (vkeys a == vkeys b) = true) ∨ (vrows a b = 1 ∧ Op.bytesLess (vkeys a) (vkeys b) = false ∧ (vkeys a == vkeys b) = false)) := by
  have nopre : (vkeys b).take (vkeys a).length ≠ vkeys a → a.length ≤ b.length → vsame a (b.take a.length) = false := by
    intro h _
    unfold vsame
    refine decide_eq_false (fun e => h ?_)
    have e2 : b = a ++ b.drop a.length := by
      have := (List.take_append_drop a.length b).symm
      rw [← e] at this; exact this
    rw [e2, vkeys_app, List.take_left' rfl]
  rcases keys_cmp a b ha hb oa ob with ⟨h, h' | ⟨v, r, rfl⟩⟩ | ⟨h, rfl⟩ | ⟨h, h' | ⟨v, r, rfl⟩⟩
  · exact ⟨false, fun _ => beq_false_of_ne h'.no_pre.1, fun _ => rfl, nopre h'.no_pre.1, fun _ => rfl, .inl ⟨h, h'.less, less_ne h'.less⟩⟩
  · have hl : Op.bytesLess (vkeys a) (vkeys (a ++ v :: r)) = true := by
      have := less_same (vkeys a) [] (vkeys (v :: r))
      rw [List.append_nil] at this
      rw [vkeys_app, this]; exact less_nil _ (vkeys_pos v r)
    refine ⟨true, fun _ => ?_, fun hn => absurd ?_ hn, fun _ => ?_, fun hn => absurd ?_ hn, .inl ⟨h, hl, less_ne hl⟩⟩
    · rw [vkeys_app, List.take_left' rfl]; simp
    · rw [vkeys_app, List.length_append]; omega
    · rw [List.take_left' rfl]; simp [vsame]
    · rw [List.length_append]; omega
  · exact ⟨true, fun _ => by rw [List.take_length]; simp, fun hn => absurd (Nat.le_refl _) hn, fun _ => by rw [List.take_length]; simp [vsame], fun hn => absurd (Nat.le_refl _) hn, .inr (.inl ⟨h, bl_irrefl _, by simp⟩)⟩
  · have hx : (vkeys a == vkeys b) = false := beq_false_of_ne (fun e => by have := h'.less; rw [e, bl_irrefl] at this; cases this)
    exact ⟨false, fun _ => beq_false_of_ne h'.no_pre.2, fun _ => rfl, nopre h'.no_pre.2, fun _ => rfl, .inr (.inr ⟨h, h'.more, hx⟩)⟩
  · have hp := vkeys_pos v r
    have hn : ¬ (vkeys (b ++ v :: r)).length ≤ (vkeys b).length := by rw [vkeys_app, List.length_append]; omega
    have hm : ¬ (b ++ v :: r).length ≤ b.length := by rw [List.length_append, List.length_cons]; omega
    have hl : Op.bytesLess (vkeys (b ++ v :: r)) (vkeys b) = false := by
      have := less_same (vkeys b) (vkeys (v :: r)) []
      rw [List.append_nil] at this
      rw [vkeys_app, this]; exact nil_more _
    refine ⟨false, fun h => absurd h hn, fun _ => rfl, fun h => absurd h hm, fun _ => rfl, .inr (.inr ⟨h, hl, ?_⟩)⟩
    exact beq_false_of_ne (fun e => hn (by rw [e]; exact Nat.le_refl _))
theorem Vals.take {w : World} {a : Option Addr} {vs : List Val} (h : Vals w a vs) (k : Nat) : Vals w a (vs.take k) := by
  by_cases hn : vs.take k = []
  · exact .inl hn
  · rcases h with h | ⟨_, b, o, ha, hb, hz⟩
    · subst h; simp at hn
    · refine .inr ⟨hn, b, o, ha, hb, fun i v hi => hz i v ?_⟩
      rw [List.getElem?_take] at hi
      split at hi
      · exact hi
      · cases hi
set_option maxRecDepth 100000 in
set_option maxHeartbeats 4000000 in
theorem stands_walk (v0 : Value) (us : List Val) (v1 : Value) (vs : List Val) (w : World) (y0 : VArg w v0 us) (y1 : VArg w v1 vs) (hmx : IntCell w 3) :
    Calls Tryd.prog 8 #[v0, v1] w fun e w' => e = .returned (.bool true) ∧ Below w.heap.size w w' := by
  obtain ⟨a, m, c, rfl, hl, hmc, hcm, hu, hok⟩ := y0
  obtain ⟨a', m', c', rfl, hl', hmc', hcm', hv, hok'⟩ := y1
  have HL := Lib.hid hl
  have HL' := Lib.hid hl'
  have HM := Lib.hid hmx
  have HU := Lib.hid hu
  have HV := Lib.hid hv
  have HOK := Lib.hid hok
  have HOK' := Lib.hid hok'
  have hmx' : m ≤ maxLen := by omega
  have hmx'' : m' ≤ maxLen := by omega
  clear hl hl' hmx hok hok' hu hv
  cases hg : greatB us with
  | true =>
    have HG := Lib.hid hg
    clear hg
    go_enter Tryd.func8, Tryd.ntmps8
    go_wp2_with fail
    refine (great_any a m c us _ HL.out hmx' HU.out HOK.out).mono ?_
    rintro e w' ⟨rfl, rfl⟩
    rw [HG.out]
    go_wp2_with fail
    refine (awake2_any _ HM.out).mono ?_
    rintro e wz ⟨rfl, hbz⟩
    go_wp2
    go_ret
    exact ⟨rfl, hbz⟩
  | false =>
    have HG := Lib.hid hg
    have hm30 := (great_not hg).1
    rw [HL.out] at hm30
    clear hg
    cases hg' : greatB vs with
    | true =>
      have HG' := Lib.hid hg'
      clear hg'
      go_enter Tryd.func8, Tryd.ntmps8
      go_wp2_with fail
      refine (great_any a m c us _ HL.out hmx' HU.out HOK.out).mono ?_
      rintro e w' ⟨rfl, rfl⟩
      rw [HG.out]
      go_wp2_with fail
      refine (great_any a' m' c' vs _ HL'.out hmx'' HV.out HOK'.out).mono ?_
      rintro e w' ⟨rfl, rfl⟩
      rw [HG'.out]
      go_wp2_with fail
      refine (awake2_any _ HM.out).mono ?_
      rintro e wz ⟨rfl, hbz⟩
      go_wp2
      go_ret
      exact ⟨rfl, hbz⟩
    | false =>
      have HG' := Lib.hid hg'
      have hm30' := (great_not hg').1
      rw [HL'.out] at hm30'
      clear hg'
      go_enter Tryd.func8, Tryd.ntmps8
      go_wp2_with fail
      refine (great_any a m c us _ HL.out hmx' HU.out HOK.out).mono ?_
      rintro e w' ⟨rfl, rfl⟩
      rw [HG.out]
      go_wp2_with fail
      refine (great_any a' m' c' vs _ HL'.out hmx'' HV.out HOK'.out).mono ?_
      rintro e w' ⟨rfl, rfl⟩
      rw [HG'.out]
      go_wp2_with fail
      refine (rall_any a m c us _ HL.out (by omega) HU.out).mono ?_
      rintro e wa ⟨rfl, hba⟩
      cases ha : us.all vright with
      | false =>
        clear ha
        go_wp2_with fail
        refine (awake2_any _ (HM.out.below hba)).mono ?_
        rintro e wz ⟨rfl, hbz⟩
        go_wp2
        go_ret
        exact ⟨rfl, Below.thenB hba hba.size hbz⟩
      | true =>
        have HA := Lib.hid ha
        clear ha
        go_wp2_with fail
        refine (rall_any a' m' c' vs _ HL'.out (by omega) (HV.out.below hba)).mono ?_
        rintro e wb ⟨rfl, hbb⟩
        have hB2 := Below.thenB hba hba.size hbb
        cases hb : vs.all vright with
        | false =>
          clear hb
          go_wp2_with fail
          refine (awake2_any _ (HM.out.below hB2)).mono ?_
          rintro e wz ⟨rfl, hbz⟩
          go_wp2
          go_ret
          exact ⟨rfl, Below.thenB hB2 hB2.size hbz⟩
        | true =>
          have HB := Lib.hid hb
          clear hb
          have hsm := stands_math us vs HA.out HB.out HOK.out HOK'.out
          have hkl := vkeys_len us HA.out
          have hkl' := vkeys_len vs HB.out
          rw [HL.out] at hkl
          rw [HL'.out] at hkl'
          have hrk : rowKey us = vkeys us := by unfold rowKey; rw [if_pos HA.out]
          have hrk' : rowKey vs = vkeys vs := by unfold rowKey; rw [if_pos HB.out]
          have hun := fun n h => unk_keys n us HA.out HOK.out h
          have HUN := Lib.hid hun
          have HSM := Lib.hid hsm
          have HRK := Lib.hid hrk
          have HRK' := Lib.hid hrk'
          clear hun hsm hrk hrk'
          go_wp2_with fail
          refine (key_any a m c us _ HL.out (by omega) (HU.out.below hB2) HOK.out).mono ?_
          rintro e wc ⟨rfl, hbc⟩
          have hB3 := Below.thenB hB2 hB2.size hbc
          rw [HRK.out]
          go_wp2_with fail
          refine (key_any a' m' c' vs _ HL'.out (by omega) (HV.out.below hB3) HOK'.out).mono ?_
          rintro e wd ⟨rfl, hbd⟩
          have hB4 := Below.thenB hB3 hB3.size hbd
          rw [HRK'.out]
          obtain ⟨x, hx⟩ : ∃ x : ByteArray, x = ⟨(vkeys us).toArray⟩ := ⟨_, rfl⟩
          obtain ⟨y, hy⟩ : ∃ y : ByteArray, y = ⟨(vkeys vs).toArray⟩ := ⟨_, rfl⟩
          rw [← hx, ← hy]
          obtain ⟨P, p1, p2, p3, p4, p5⟩ := HSM.out
          have hxs : x.size = (vkeys us).length := by rw [hx, ba_size]
          have hys : y.size = (vkeys vs).length := by rw [hy, ba_size]
          have hxl : x.toList = vkeys us := by rw [hx, ByteArray.toList_eq]
          have hyl : y.toList = vkeys vs := by rw [hy, ByteArray.toList_eq]
          rw [← hxl, ← hyl] at p5
          have hxd : x.data.toList = vkeys us := by rw [hx]
          have hge := vkeys_ge us
          have hUx : unk x.size x.data.toList = some us := by rw [hxd]; exact HUN.out _ (by rw [hxs]; exact hge)
          have HUX := Lib.hid hUx
          have hex : x.size ≤ y.size → ((y.extract 0 x.size).toList == x.toList) = P := by
            intro h
            rw [hxs, hys] at h
            rw [hxl, ← p1 h, ByteArray.toList_eq, hxs, hy]
            simp
          have hnx : ¬ x.size ≤ y.size → P = false := by intro h; rw [hxs, hys] at h; exact p2 h
          have hem : m ≤ m' → vsame us (vs.take m) = P := by intro h; rw [← HL.out]; exact p3 (by rw [HL.out, HL'.out]; exact h)
          have hnm : ¬ m ≤ m' → P = false := by intro h; exact p4 (by rw [HL.out, HL'.out]; exact h)
          have hxs' : x.size ≤ 100000 := by omega
          have hss : vsame us us = true := by simp [vsame]
          have HSS := Lib.hid hss
          have HEM := Lib.hid hem
          have HNM := Lib.hid hnm
          have HEX := Lib.hid hex
          have HNX := Lib.hid hnx
          clear p1 p2 p3 p4 hxl hyl hxd hge hUx hx hy hss hem hnm hex hnx HUN HSM hkl hkl'
          clear hxs hys
          rcases p5 with ⟨hr, l1, l2⟩ | ⟨hr, l1, l2⟩ | ⟨hr, l1, l2⟩
          all_goals
            have HRR := Lib.hid hr
            clear hr
            go_wp2_with fail
            refine (unkey_any x hxs' _ (HM.out.below hB4)).mono ?_
            rintro e we ⟨hret, hbe⟩
            rw [HUX.out] at hret
            obtain ⟨a3, c3, rfl, hv3⟩ := hret
            have hB5 := Below.thenB hB4 hB4.size hbe
            have HV3 := Lib.hid hv3
            clear hv3
            go_wp2_with fail
            refine (vrows_any a a' m c m' c' us vs _ HL.out HL'.out (by omega) (by omega) (HU.out.below hB5) (HV.out.below hB5)).mono ?_
            rintro e wf ⟨rfl, hbf⟩
            have hB6 := Below.thenB hB5 hB5.size hbf
            rw [HRR.out]
            go_wp2_with fail
            refine (same_any a3 a us.length c3 m c us us _ rfl HL.out (by rw [HL.out]; omega) (by omega) (HV3.out.below hbf) (HU.out.below hB6)).mono ?_
            rintro e wg ⟨rfl, hbg⟩
            have hB7 := Below.thenB hB6 hB6.size hbg
            rw [HSS.out]
            by_cases hle : x.size ≤ y.size
            · have d1 : decide ((x.size : Int) ≤ (y.size : Int)) = true := decide_eq_true (by omega)
              have d1' : decide (x.size ≤ y.size) = true := decide_eq_true hle
              have hle' : (x.size : Int) ≤ (y.size : Int) := by omega
              have e1 := HEX.out hle
              by_cases hml : m ≤ m'
              · have d2 : decide ((m : Int) ≤ (m' : Int)) = true := decide_eq_true (by omega)
                have d2' : decide (m ≤ m') = true := decide_eq_true hml
                have hmc2 : (m : Int) ≤ (c' : Int) := by omega
                go_wp2_with fail
                refine (same_any a a' m c m c' us (vs.take m) _ HL.out (by rw [List.length_take, HL'.out]; omega) (by omega) (by omega) (HU.out.below hB7) ((HV.out.below hB7).take m)).mono ?_
                rintro e wh ⟨rfl, hbh⟩
                have hB8 := Below.thenB hB7 hB7.size hbh
                rw [HEM.out hml]
                go_wp2_with fail
                refine (awake2_any _ (HM.out.below hB8)).mono ?_
                rintro e wz ⟨rfl, hbz⟩
                go_wp2
                go_ret
                exact ⟨rfl, Below.thenB hB8 hB8.size hbz⟩
              · have d2 : decide ((m : Int) ≤ (m' : Int)) = false := decide_eq_false (by omega)
                have d2' : decide (m ≤ m') = false := decide_eq_false hml
                have hP := HNM.out hml
                rw [hP] at e1
                go_wp2_with fail
                refine (awake2_any _ (HM.out.below hB7)).mono ?_
                rintro e wz ⟨rfl, hbz⟩
                go_wp2
                go_ret
                exact ⟨rfl, Below.thenB hB7 hB7.size hbz⟩
            · have d1 : decide ((x.size : Int) ≤ (y.size : Int)) = false := decide_eq_false (by omega)
              have d1' : decide (x.size ≤ y.size) = false := decide_eq_false hle
              have hP := HNX.out hle
              by_cases hml : m ≤ m'
              · have d2 : decide ((m : Int) ≤ (m' : Int)) = true := decide_eq_true (by omega)
                have d2' : decide (m ≤ m') = true := decide_eq_true hml
                have hmc2 : (m : Int) ≤ (c' : Int) := by omega
                go_wp2_with fail
                refine (same_any a a' m c m c' us (vs.take m) _ HL.out (by rw [List.length_take, HL'.out]; omega) (by omega) (by omega) (HU.out.below hB7) ((HV.out.below hB7).take m)).mono ?_
                rintro e wh ⟨rfl, hbh⟩
                have hB8 := Below.thenB hB7 hB7.size hbh
                rw [HEM.out hml, hP]
                go_wp2_with fail
                refine (awake2_any _ (HM.out.below hB8)).mono ?_
                rintro e wz ⟨rfl, hbz⟩
                go_wp2
                go_ret
                exact ⟨rfl, Below.thenB hB8 hB8.size hbz⟩
              · have d2 : decide ((m : Int) ≤ (m' : Int)) = false := decide_eq_false (by omega)
                have d2' : decide (m ≤ m') = false := decide_eq_false hml
                go_wp2_with fail
                refine (awake2_any _ (HM.out.below hB7)).mono ?_
                rintro e wz ⟨rfl, hbz⟩
                go_wp2
                go_ret
                exact ⟨rfl, Below.thenB hB7 hB7.size hbz⟩
end Go.Proofs.YtbodldlenoehfaaDoor
