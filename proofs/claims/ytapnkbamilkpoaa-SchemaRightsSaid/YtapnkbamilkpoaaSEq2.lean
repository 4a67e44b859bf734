/- Contracts of schema's Same, and of the document's. -/
import Derived.Test.YtapnkbamilkpoaaSEq1
import Derived.Deep.RegionWith
import Derived.Deep.DrawnRows
namespace Go.Proofs.Ytapnkbamilkpoaa
open Go.RowKit
attribute [local go_sem ↓] Go.wp_at_zero Go.wp_at_succ
/-- Two schemas, wherever they lie. -/
def ssameB (S T : Sch) : Bool := decide (S.name = T.name) && (decide (S.cs = T.cs) && (decide (S.xs.map keyI = T.xs.map keyI) && (decide (S.limit = T.limit) && (decide (S.parts = T.parts) && decide (S.place = T.place)))))
def SSmall (S : Sch) : Prop := S.cn ≤ 1048576 ∧ S.iN ≤ 1048576
set_option maxRecDepth 100000 in
set_option maxHeartbeats 8000000 in
theorem ssame_any (S T : Sch) (w : World) (hS : SchAt w S) (hT : SchAt w T) (sS : SSmall S) (sT : SSmall T) :
    Calls Try.prog 11 #[.agg (schCells S), .agg (schCells T)] w fun e w' => e = .returned (.bool (ssameB S T)) ∧ Below w.heap.size w w' := by
  obtain ⟨R, hR⟩ : ∃ R, R = ssameB S T := ⟨_, rfl⟩
  rw [← hR]
  unfold ssameB at hR
  obtain ⟨name, ca, cn, cc, cs, ia, iN, ic, xs, limit, parts, place⟩ := S
  obtain ⟨name', ca', cn', cc', cs', ia', iN', ic', xs', limit', parts', place'⟩ := T
  obtain ⟨⟨hc1, hc2, hc3, hc4⟩, hi1, hi2, hi3, hi4⟩ := hS
  obtain ⟨⟨kc1, kc2, kc3, kc4⟩, ki1, ki2, ki3, ki4⟩ := hT
  obtain ⟨sS1, sS2⟩ := sS
  obtain ⟨sT1, sT2⟩ := sT
  simp only [] at hc1 hc2 hc3 hc4 hi1 hi2 hi3 hi4 kc1 kc2 kc3 kc4 ki1 ki2 ki3 ki4 sS1 sS2 sT1 sT2 hR
  simp only [schCells]
  obtain ⟨W1, hW1⟩ : ∃ W1, W1 = w.alloc (.cells #[.string name, .slice ca cn cc, .slice ia iN ic, .int .i64 limit, .int .i64 parts, .int .i64 place] 25) := ⟨_, rfl⟩
  have hA1 : Below w.heap.size w W1 := by rw [hW1]; exact (Below.refl _ _).alloc (Nat.le_refl _) _
  have hk1 : W1.heap[w.heap.size]? = some (.cells #[.string name, .slice ca cn cc, .slice ia iN ic, .int .i64 limit, .int .i64 parts, .int .i64 place] 25 (0, 0)) := by rw [hW1]; exact Array.getElem?_push_size
  have hs1 : W1.heap.size = w.heap.size + 1 := by rw [hW1]; simp
  obtain ⟨W2, hW2⟩ : ∃ W2, W2 = W1.alloc (.cells #[.string name', .slice ca' cn' cc', .slice ia' iN' ic', .int .i64 limit', .int .i64 parts', .int .i64 place'] 25) := ⟨_, rfl⟩
  have hA2 : Below W1.heap.size W1 W2 := by rw [hW2]; exact (Below.refl _ _).alloc (Nat.le_refl _) _
  have hk2 : W2.heap[w.heap.size + 1]? = some (.cells #[.string name', .slice ca' cn' cc', .slice ia' iN' ic', .int .i64 limit', .int .i64 parts', .int .i64 place'] 25 (0, 0)) := by rw [hW2, ← hs1]; exact Array.getElem?_push_size
  have hk12 := (hA2.block w.heap.size (by omega)).trans hk1
  have hB2 := Below.thenB hA1 (by omega) hA2
  have hs2 : w.heap.size + 1 < W2.heap.size := by rw [hW2]; simp [hs1]
  obtain ⟨e0, e1, e2, e3, e4, e5⟩ := six_at hk12
  obtain ⟨f0, f1, f2, f3, f4, f5⟩ := six_at hk2
  have HA := Lib.hid hB2
  have HK := Lib.hid hk12
  have HK' := Lib.hid hk2
  have HW1 := Lib.hid hW1.symm
  have HW2 := Lib.hid hW2.symm
  have HC := Lib.hid hc1
  have HC' := Lib.hid kc1
  have HI := Lib.hid hi1
  have HI' := Lib.hid ki1
  have HCL := Lib.hid hc2
  have HCL' := Lib.hid kc2
  have HIL := Lib.hid hi2
  have HIL' := Lib.hid ki2
  have HR := Lib.hid hR
  clear hA1 hA2 hk1 hk2 hk12 hW1 hW2 hB2 hc1 hc2 hi1 hi2 kc1 kc2 ki1 ki2 hR
  by_cases hn : name = name'
  rotate_left
  · have hd := bstr_ne hn
    have HT := Lib.hid (show R = false by rw [HR.out, decide_eq_false hn]; rfl)
    clear hn
    go_enter Try.func11, Try.ntmps11
    go_upto_region 1 with fail
    rw [HW1.out, HW2.out]
    go_wp2
    go_ret
    exact ⟨by rw [HT.out]; rfl, HA.out⟩
  subst hn
  obtain ⟨t, ht⟩ : ∃ t, t = decide (cs = cs') := ⟨_, rfl⟩
  have hE := fun W (hb : Below w.heap.size w W) => equal_cols ca ca' cn cc cn' cc' cs cs' W HCL.out HCL'.out sS1 sT1 (HC.out.below hb) (HC'.out.below hb)
  rw [← ht] at hE
  have HE := Lib.hid hE
  have HTE := Lib.hid ht
  obtain ⟨u, hu⟩ : ∃ u, u = decide (xs.map keyI = xs'.map keyI) := ⟨_, rfl⟩
  have hF := fun W (hb : Below w.heap.size w W) => eqf_idxs ia iN ic xs ia' iN' ic' xs' W HIL.out sS2 HIL'.out sT2 (HI.out.below hb) (HI'.out.below hb)
  rw [← hu] at hF
  have HF := Lib.hid hF
  have HUE := Lib.hid hu
  clear hE hF ht hu
  cases t with
  | false =>
    have HT := Lib.hid (show R = false by rw [HR.out, ← HTE.out]; simp)
    go_enter Try.func11, Try.ntmps11
    go_upto_region 1 with fail
    rw [HW1.out, HW2.out]
    go_wp2_with fail
    refine (HE.out _ HA.out).mono ?_
    rintro e w3 ⟨rfl, hb3⟩
    have HB3 := Lib.hid (Below.thenB HA.out HA.out.size hb3)
    obtain ⟨e0, e1, e2, e3, e4, e5⟩ := six_at ((hb3.block w.heap.size (by omega)).trans HK.out)
    obtain ⟨f0, f1, f2, f3, f4, f5⟩ := six_at ((hb3.block (w.heap.size + 1) (by omega)).trans HK'.out)
    have HK3 := Lib.hid ((hb3.block w.heap.size (by omega)).trans HK.out)
    have HK3' := Lib.hid ((hb3.block (w.heap.size + 1) (by omega)).trans HK'.out)
    have hs3 : w.heap.size + 1 < w3.heap.size := Nat.lt_of_lt_of_le hs2 hb3.size
    clear hb3
    go_wp2
    go_ret
    exact ⟨by rw [HT.out]; rfl, HB3.out⟩
  | true =>
  cases u with
  | false =>
    have HT := Lib.hid (show R = false by rw [HR.out, ← HUE.out]; simp)
    go_enter Try.func11, Try.ntmps11
    go_upto_region 1 with fail
    rw [HW1.out, HW2.out]
    go_wp2_with fail
    refine (HE.out _ HA.out).mono ?_
    rintro e w3 ⟨rfl, hb3⟩
    have HB3 := Lib.hid (Below.thenB HA.out HA.out.size hb3)
    obtain ⟨e0, e1, e2, e3, e4, e5⟩ := six_at ((hb3.block w.heap.size (by omega)).trans HK.out)
    obtain ⟨f0, f1, f2, f3, f4, f5⟩ := six_at ((hb3.block (w.heap.size + 1) (by omega)).trans HK'.out)
    have HK3 := Lib.hid ((hb3.block w.heap.size (by omega)).trans HK.out)
    have HK3' := Lib.hid ((hb3.block (w.heap.size + 1) (by omega)).trans HK'.out)
    have hs3 : w.heap.size + 1 < w3.heap.size := Nat.lt_of_lt_of_le hs2 hb3.size
    clear hb3
    go_wp2_with fail
    refine (HF.out _ HB3.out).mono ?_
    rintro e w4 ⟨rfl, hb4⟩
    have hB := Below.thenB HB3.out HB3.out.size hb4
    go_wp2
    go_ret
    exact ⟨by rw [HT.out]; rfl, hB⟩
  | true =>
  have HR2 := Lib.hid (show R = (decide (limit = limit') && (decide (parts = parts') && decide (place = place'))) by rw [HR.out, ← HTE.out, ← HUE.out]; simp)
  clear HR HTE HUE
  go_enter Try.func11, Try.ntmps11
  go_upto_region 1 with fail
  rw [HW1.out, HW2.out]
  go_wp2_with fail
  refine (HE.out _ HA.out).mono ?_
  rintro e w3 ⟨rfl, hb3⟩
  have HB3 := Lib.hid (Below.thenB HA.out HA.out.size hb3)
  obtain ⟨e0, e1, e2, e3, e4, e5⟩ := six_at ((hb3.block w.heap.size (by omega)).trans HK.out)
  obtain ⟨f0, f1, f2, f3, f4, f5⟩ := six_at ((hb3.block (w.heap.size + 1) (by omega)).trans HK'.out)
  have HK3 := Lib.hid ((hb3.block w.heap.size (by omega)).trans HK.out)
  have HK3' := Lib.hid ((hb3.block (w.heap.size + 1) (by omega)).trans HK'.out)
  have hs3 : w.heap.size + 1 < w3.heap.size := Nat.lt_of_lt_of_le hs2 hb3.size
  clear hb3
  go_wp2_with fail
  refine (HF.out _ HB3.out).mono ?_
  rintro e w4 ⟨rfl, hb4⟩
  have hB := Below.thenB HB3.out HB3.out.size hb4
  clear e0 e1 e2 e3 e4 e5 f0 f1 f2 f3 f4 f5
  obtain ⟨e0, e1, e2, e3, e4, e5⟩ := six_at ((hb4.block w.heap.size (by omega)).trans HK3.out)
  obtain ⟨f0, f1, f2, f3, f4, f5⟩ := six_at ((hb4.block (w.heap.size + 1) (by omega)).trans HK3'.out)
  clear hb4 HB3 HK3 HK3' HE HF
  by_cases g1 : limit = limit'
  rotate_left
  · have d1 : (limit == limit') = false := beq_false_of_ne g1
    have HT := Lib.hid (show R = false by rw [HR2.out, decide_eq_false g1]; rfl)
    clear g1
    go_wp2
    go_ret
    exact ⟨by rw [HT.out]; rfl, hB⟩
  subst g1
  by_cases g2 : parts = parts'
  rotate_left
  · have d1 : (parts == parts') = false := beq_false_of_ne g2
    have HT := Lib.hid (show R = false by rw [HR2.out, decide_eq_false g2]; simp)
    clear g2
    go_wp2
    go_ret
    exact ⟨by rw [HT.out]; rfl, hB⟩
  subst g2
  by_cases g3 : place = place'
  rotate_left
  · have d1 : (place == place') = false := beq_false_of_ne g3
    have HT := Lib.hid (show R = false by rw [HR2.out, decide_eq_false g3]; simp)
    clear g3
    go_wp2
    go_ret
    exact ⟨by rw [HT.out]; rfl, hB⟩
  subst g3
  have HT := Lib.hid (show R = true by rw [HR2.out]; simp)
  go_wp2
  go_ret
  exact ⟨by rw [HT.out]; rfl, hB⟩
set_option maxRecDepth 100000 in
set_option maxHeartbeats 8000000 in
theorem rssame_any (S T : Sch) (w : World) (hS : SchAt w S) (hT : SchAt w T) (sS : SSmall S) (sT : SSmall T) :
    Calls Try.prog 10 #[.agg (schCells S), .agg (schCells T)] w fun e w' => e = .returned (.bool (ssameB S T)) ∧ Below w.heap.size w w' := by
  obtain ⟨R, hR⟩ : ∃ R, R = ssameB S T := ⟨_, rfl⟩
  rw [← hR]
  unfold ssameB at hR
  obtain ⟨name, ca, cn, cc, cs, ia, iN, ic, xs, limit, parts, place⟩ := S
  obtain ⟨name', ca', cn', cc', cs', ia', iN', ic', xs', limit', parts', place'⟩ := T
  obtain ⟨⟨hc1, hc2, hc3, hc4⟩, hi1, hi2, hi3, hi4⟩ := hS
  obtain ⟨⟨kc1, kc2, kc3, kc4⟩, ki1, ki2, ki3, ki4⟩ := hT
  obtain ⟨sS1, sS2⟩ := sS
  obtain ⟨sT1, sT2⟩ := sT
  simp only [] at hc1 hc2 hc3 hc4 hi1 hi2 hi3 hi4 kc1 kc2 kc3 kc4 ki1 ki2 ki3 ki4 sS1 sS2 sT1 sT2 hR
  simp only [schCells]
  obtain ⟨W1, hW1⟩ : ∃ W1, W1 = w.alloc (.cells #[.string name, .slice ca cn cc, .slice ia iN ic, .int .i64 limit, .int .i64 parts, .int .i64 place] 25) := ⟨_, rfl⟩
  have hA1 : Below w.heap.size w W1 := by rw [hW1]; exact (Below.refl _ _).alloc (Nat.le_refl _) _
  have hk1 : W1.heap[w.heap.size]? = some (.cells #[.string name, .slice ca cn cc, .slice ia iN ic, .int .i64 limit, .int .i64 parts, .int .i64 place] 25 (0, 0)) := by rw [hW1]; exact Array.getElem?_push_size
  have hs1 : W1.heap.size = w.heap.size + 1 := by rw [hW1]; simp
  obtain ⟨W2, hW2⟩ : ∃ W2, W2 = W1.alloc (.cells #[.string name', .slice ca' cn' cc', .slice ia' iN' ic', .int .i64 limit', .int .i64 parts', .int .i64 place'] 25) := ⟨_, rfl⟩
  have hA2 : Below W1.heap.size W1 W2 := by rw [hW2]; exact (Below.refl _ _).alloc (Nat.le_refl _) _
  have hk2 : W2.heap[w.heap.size + 1]? = some (.cells #[.string name', .slice ca' cn' cc', .slice ia' iN' ic', .int .i64 limit', .int .i64 parts', .int .i64 place'] 25 (0, 0)) := by rw [hW2, ← hs1]; exact Array.getElem?_push_size
  have hk12 := (hA2.block w.heap.size (by omega)).trans hk1
  have hB2 := Below.thenB hA1 (by omega) hA2
  have hs2 : w.heap.size + 1 < W2.heap.size := by rw [hW2]; simp [hs1]
  obtain ⟨e0, e1, e2, e3, e4, e5⟩ := six_at hk12
  obtain ⟨f0, f1, f2, f3, f4, f5⟩ := six_at hk2
  have HA := Lib.hid hB2
  have HK := Lib.hid hk12
  have HK' := Lib.hid hk2
  have HW1 := Lib.hid hW1.symm
  have HW2 := Lib.hid hW2.symm
  have HC := Lib.hid hc1
  have HC' := Lib.hid kc1
  have HI := Lib.hid hi1
  have HI' := Lib.hid ki1
  have HCL := Lib.hid hc2
  have HCL' := Lib.hid kc2
  have HIL := Lib.hid hi2
  have HIL' := Lib.hid ki2
  have HR := Lib.hid hR
  clear hA1 hA2 hk1 hk2 hk12 hW1 hW2 hB2 hc1 hc2 hi1 hi2 kc1 kc2 ki1 ki2 hR
  go_enter Try.func10, Try.ntmps10
  go_upto_region 1 with fail
  rw [HW1.out, HW2.out]
  clear HW1 HW2
  by_cases g0 : name = name'
  rotate_left
  · have hd := bstr_ne g0
    have HT := Lib.hid (show R = false by rw [HR.out, decide_eq_false g0]; rfl)
    clear g0
    go_wp2
    go_ret
    exact ⟨by rw [HT.out]; rfl, HA.out⟩
  subst g0
  by_cases g0 : limit = limit'
  rotate_left
  · have hd : (limit == limit') = false := beq_false_of_ne g0
    have hd2 : (limit != limit') = true := by rw [bne, hd]; rfl
    have HT := Lib.hid (show R = false by rw [HR.out, decide_eq_false g0]; simp)
    go_wp2
    go_ret
    exact ⟨by rw [HT.out]; rfl, HA.out⟩
  subst g0
  by_cases g1 : parts = parts'
  rotate_left
  · have hd : (parts == parts') = false := beq_false_of_ne g1
    have hd2 : (parts != parts') = true := by rw [bne, hd]; rfl
    have HT := Lib.hid (show R = false by rw [HR.out, decide_eq_false g1]; simp)
    go_wp2
    go_ret
    exact ⟨by rw [HT.out]; rfl, HA.out⟩
  subst g1
  by_cases g2 : place = place'
  rotate_left
  · have hd : (place == place') = false := beq_false_of_ne g2
    have hd2 : (place != place') = true := by rw [bne, hd]; rfl
    have HT := Lib.hid (show R = false by rw [HR.out, decide_eq_false g2]; simp)
    go_wp2
    go_ret
    exact ⟨by rw [HT.out]; rfl, HA.out⟩
  subst g2
  by_cases g4 : cn = cn'
  rotate_left
  · have hd : ((cn : Int) == (cn' : Int)) = false := beq_false_of_ne (by omega)
    have HT := Lib.hid (show R = false by
      rw [HR.out, decide_eq_false (fun e : cs = cs' => g4 (by rw [← HCL.out, ← HCL'.out, e]))]; simp)
    go_wp2
    go_ret
    exact ⟨by rw [HT.out]; rfl, HA.out⟩
  subst g4
  by_cases g5 : iN = iN'
  rotate_left
  · have hd : ((iN : Int) == (iN' : Int)) = false := beq_false_of_ne (by omega)
    have HT := Lib.hid (show R = false by
      rw [HR.out, decide_eq_false (fun e : xs.map keyI = xs'.map keyI => g5 (by have := congrArg List.length e; rwa [List.length_map, List.length_map, HIL.out, HIL'.out] at this))]; simp)
    go_wp2
    go_ret
    exact ⟨by rw [HT.out]; rfl, HA.out⟩
  subst g5
  have HR2 := Lib.hid (show R = (decide (cs = cs') && decide (xs.map keyI = xs'.map keyI)) by rw [HR.out]; simp)
  clear HR
  go_wp2
  clear e0 e1 e2 e3 e4 e5 f0 f1 f2 f3 f4 f5
  go_loopw [5] (fun i wr => ∃ k : Nat, k ≤ cn ∧ i = .int .i64 (k : Int) ∧ Hid (cs.take k = cs'.take k) ∧ w.heap.size + 1 < wr.heap.size ∧ wr.heap[w.heap.size]? = some (.cells #[.string name, .slice ca cn cc, .slice ia iN ic, .int .i64 limit, .int .i64 parts, .int .i64 place] 25 (0, 0)) ∧ wr.heap[w.heap.size + 1]? = some (.cells #[.string name, .slice ca' cn cc', .slice ia' iN ic', .int .i64 limit, .int .i64 parts, .int .i64 place] 25 (0, 0)) ∧ Below w.heap.size w wr) (fun i _ => cn - (intOf i).toNat)
  case atStart => exact ⟨0, Nat.zero_le _, rfl, rfl, hs2, HK.out, HK'.out, HA.out⟩
  case round =>
    obtain ⟨k, hk, rfl, htk, hsz, hkb, hkb', hbel⟩ := hrel
    obtain ⟨e0, e1, e2, e3, e4, e5⟩ := six_at hkb
    obtain ⟨f0, f1, f2, f3, f4, f5⟩ := six_at hkb'
    clear HK HK'
    by_cases hlt : k < cn
    · have hlt' : decide ((k : Int) < (cn : Int)) = true := decide_eq_true (by omega)
      obtain ⟨b, o, u, rfl, hb, huk, c0, c1⟩ := Cols.at HC.out HCL.out hlt hbel
      obtain ⟨b', o', v, rfl, hb', hvk, p0, p1⟩ := Cols.at HC'.out HCL'.out hlt hbel
      have hk0 : (0 : Int) ≤ (k : Int) := by omega
      have hk1 : (k : Int) < (cn : Int) := by omega
      by_cases he : u = v
      · have htk' := Lib.hid (take_eq' htk.out huk hvk he)
        subst he
        obtain ⟨un, uk⟩ := u
        simp only [] at c0 c1 p0 p1
        clear huk hvk htk
        go_wp2_with fail
        go_quiet (fail)
        go_wp2
        go_roundw
        case rel => exact ⟨k + 1, by omega, by go_num, htk', by simpa using hsz, by simpa using hkb, by simpa using hkb', bdrewN hbel _⟩
        case measure => simp [intOf]; omega
      · have HF := Lib.hid (show R = false by rw [HR2.out, decide_eq_false (ne_at' huk hvk he)]; rfl)
        obtain ⟨un, uk⟩ := u
        obtain ⟨vn, vk⟩ := v
        simp only [] at c0 c1 p0 p1
        clear huk hvk htk
        by_cases h1 : uk = vk
        · subst h1
          have h3 := list_ne (c := un) (z := vn) (by simpa using he)
          clear he
          go_wp2_with fail
          go_quiet (fail)
          go_wp2
          go_ret
          exact ⟨by rw [HF.out]; rfl, bdrewN hbel _⟩
        · clear he
          go_wp2_with fail
          go_quiet (fail)
          go_wp2
          go_ret
          exact ⟨by rw [HF.out]; rfl, bdrewN hbel _⟩
    · have hlt' : decide ((k : Int) < (cn : Int)) = false := decide_eq_false (by omega)
      have HR3 := Lib.hid (show R = decide (xs.map keyI = xs'.map keyI) by
        rw [HR2.out, decide_eq_true (eq_upto (by rw [HCL.out, HCL'.out]) htk.out (by rw [HCL.out]; omega))]; rfl)
      have HB := Lib.hid hbel
      clear htk hbel HR2
      go_wp2
      clear e0 e1 e2 e3 e4 e5 f0 f1 f2 f3 f4 f5 hlt'
      go_loopw [6] (fun i wx => ∃ j : Nat, j ≤ iN ∧ i = .int .i64 (j : Int) ∧ Hid ((xs.map keyI).take j = (xs'.map keyI).take j) ∧ w.heap.size + 1 < wx.heap.size ∧ wx.heap[w.heap.size]? = some (.cells #[.string name, .slice ca cn cc, .slice ia iN ic, .int .i64 limit, .int .i64 parts, .int .i64 place] 25 (0, 0)) ∧ wx.heap[w.heap.size + 1]? = some (.cells #[.string name, .slice ca' cn cc', .slice ia' iN ic', .int .i64 limit, .int .i64 parts, .int .i64 place] 25 (0, 0)) ∧ Below w.heap.size w wx) (fun i _ => iN - (intOf i).toNat)
      case atStart => exact ⟨0, Nat.zero_le _, rfl, Lib.hid (by simp), hsz, hkb, hkb', HB.out⟩
      case round =>
        obtain ⟨j, hj, rfl, htj, hsz2, hkc, hkc', hb2⟩ := hrel
        obtain ⟨e0, e1, e2, e3, e4, e5⟩ := six_at hkc
        obtain ⟨f0, f1, f2, f3, f4, f5⟩ := six_at hkc'
        by_cases hlt : j < iN
        · have hlt' : decide ((j : Int) < (iN : Int)) = true := decide_eq_true (by omega)
          obtain ⟨b, o, x, rfl, hb, hxk, c0, c1, x2, x3, _, x5⟩ := Idxs.at HI.out HIL.out hlt hb2
          obtain ⟨b', o', y, rfl, hb', hyk, p0, p1, y2, y3, _, y5⟩ := Idxs.at HI'.out HIL'.out hlt hb2
          have hxm : (xs.map keyI)[j]? = some (keyI x) := by rw [List.getElem?_map, hxk]; rfl
          have hym : (xs'.map keyI)[j]? = some (keyI y) := by rw [List.getElem?_map, hyk]; rfl
          have hT := fun h : keyI x = keyI y => take_eq' htj.out hxm hym h
          have hF := fun h : ¬ keyI x = keyI y => show R = false by rw [HR3.out]; exact decide_eq_false (ne_at' hxm hym h)
          have HTT := Lib.hid hT
          have HFF := Lib.hid hF
          have hj0 : (0 : Int) ≤ (j : Int) := by omega
          have hj1 : (j : Int) < (iN : Int) := by omega
          obtain ⟨xa, xn, xc, xp, xu⟩ := x
          obtain ⟨ya, yn, yc, yp, yu⟩ := y
          simp only [] at c0 c1 p0 p1 x2 x3 x5 y2 y3 y5
          simp only [keyI] at HTT HFF
          have hsm := rsame_any xa ya xn xc yn yc xp yp wr.drew x3 y3 x5 y5 (x2.below (bdrewN (Below.refl _ _) 1)) (y2.below (bdrewN (Below.refl _ _) 1))
          have HBD := Lib.hid hb2.drew
          have HKC := Lib.hid hkc
          have HKC' := Lib.hid hkc'
          have hbr : b < wr.heap.size := Nat.lt_of_lt_of_le hb hb2.size
          have hbr' : b' < wr.heap.size := Nat.lt_of_lt_of_le hb' hb2.size
          by_cases hu : xu = yu
          · subst hu
            obtain ⟨t, ht⟩ : ∃ t, t = decide (xp = yp) := ⟨_, rfl⟩
            rw [← ht] at hsm
            have HSM := Lib.hid hsm
            have HTE := Lib.hid ht
            clear hxk hyk hxm hym hT hF htj hsm ht x2 x3 x5 y2 y3 y5 hb2
            cases t with
            | true =>
              have htj' := Lib.hid (HTT.out (by rw [of_decide_eq_true HTE.out.symm]))
              clear HTT HFF HTE
              go_wp2_with fail
              go_region_held3 (fun W => W.cell? ⟨w.heap.size, 2, none⟩ = some (.slice (some ⟨b, o, none⟩) iN ic) ∧ W.cell? ⟨w.heap.size + 1, 2, none⟩ = some (.slice (some ⟨b', o', none⟩) iN ic') ∧ W.cell? ⟨b, o + j * 2, none⟩ = some (.slice xa xn xc) ∧ W.cell? ⟨b, o + j * 2 + 1, none⟩ = some (.bool xu) ∧ W.cell? ⟨b', o' + j * 2, none⟩ = some (.slice ya yn yc) ∧ W.cell? ⟨b', o' + j * 2 + 1, none⟩ = some (.bool xu))
                (first | (with_reducible exact ⟨q0, q1, q2, q3, q4, q5⟩) | go_keep)
                ((go_at_call 33; refine HSM.out.mono ?_; rintro e w3 ⟨rfl, hb3⟩; obtain ⟨hc1, hf1⟩ := bcell hb3; have q0 := (hc1 w.heap.size 2 (by show w.heap.size < wr.heap.size; omega)).trans (by exact e2); have q1 := (hc1 (w.heap.size + 1) 2 (by show w.heap.size + 1 < wr.heap.size; omega)).trans (by exact f2); have q2 := (hc1 b (o + j * 2) (by exact hbr)).trans (by exact c0); have q3 := (hc1 b (o + j * 2 + 1) (by exact hbr)).trans (by exact c1); have q4 := (hc1 b' (o' + j * 2) (by exact hbr')).trans (by exact p0); have q5 := (hc1 b' (o' + j * 2 + 1) (by exact hbr')).trans (by exact p1); clear hc1 hf1))
              have HB3 := Lib.hid (Below.thenB HBD.out HBD.out.size hb3)
              have hk3 := (hb3.block w.heap.size (by show w.heap.size < wr.heap.size; omega)).trans HKC.out
              have hk3' := (hb3.block (w.heap.size + 1) (by show w.heap.size + 1 < wr.heap.size; omega)).trans HKC'.out
              have hs3 : w.heap.size + 1 < w3.heap.size := Nat.lt_of_lt_of_le hsz2 hb3.size
              go_wp2
              go_roundw
              case rel => exact ⟨j + 1, by omega, by go_num, htj', hs3, hk3, hk3', HB3.out⟩
              case measure => simp [intOf]; omega
            | false =>
              have HF := Lib.hid (HFF.out (fun e => of_decide_eq_false HTE.out.symm (by injection e)))
              clear HTT HFF HTE
              go_wp2_with fail
              go_region_held3 (fun W => W.cell? ⟨w.heap.size, 2, none⟩ = some (.slice (some ⟨b, o, none⟩) iN ic) ∧ W.cell? ⟨w.heap.size + 1, 2, none⟩ = some (.slice (some ⟨b', o', none⟩) iN ic') ∧ W.cell? ⟨b, o + j * 2, none⟩ = some (.slice xa xn xc) ∧ W.cell? ⟨b, o + j * 2 + 1, none⟩ = some (.bool xu) ∧ W.cell? ⟨b', o' + j * 2, none⟩ = some (.slice ya yn yc) ∧ W.cell? ⟨b', o' + j * 2 + 1, none⟩ = some (.bool xu))
                (first | (with_reducible exact ⟨q0, q1, q2, q3, q4, q5⟩) | go_keep)
                ((go_at_call 33; refine HSM.out.mono ?_; rintro e w3 ⟨rfl, hb3⟩; obtain ⟨hc1, hf1⟩ := bcell hb3; have q0 := (hc1 w.heap.size 2 (by show w.heap.size < wr.heap.size; omega)).trans (by exact e2); have q1 := (hc1 (w.heap.size + 1) 2 (by show w.heap.size + 1 < wr.heap.size; omega)).trans (by exact f2); have q2 := (hc1 b (o + j * 2) (by exact hbr)).trans (by exact c0); have q3 := (hc1 b (o + j * 2 + 1) (by exact hbr)).trans (by exact c1); have q4 := (hc1 b' (o' + j * 2) (by exact hbr')).trans (by exact p0); have q5 := (hc1 b' (o' + j * 2 + 1) (by exact hbr')).trans (by exact p1); clear hc1 hf1))
              have HB3 := Lib.hid (Below.thenB HBD.out HBD.out.size hb3)
              go_wp2
              go_ret
              exact ⟨by rw [HF.out]; rfl, HB3.out⟩
          · have hd : (xu == yu) = false := beq_false_of_ne hu
            have HF := Lib.hid (HFF.out (fun e => hu (by injection e)))
            clear hxk hyk hxm hym hT hF htj hsm x2 x3 x5 y2 y3 y5 HTT HFF
            go_wp2_with fail
            go_quiet (fail)
            go_wp2
            go_ret
            exact ⟨by rw [HF.out]; rfl, bdrewN hb2 _⟩
        · have hlt' : decide ((j : Int) < (iN : Int)) = false := decide_eq_false (by omega)
          have HT := Lib.hid (show R = true by rw [HR3.out]; exact decide_eq_true (eq_upto (by rw [List.length_map, List.length_map, HIL.out, HIL'.out]) htj.out (by rw [List.length_map, HIL.out]; omega)))
          have HBL := Lib.hid hb2
          clear htj hb2
          go_wp2
          go_ret
          exact ⟨by rw [HT.out]; rfl, HBL.out⟩
end Go.Proofs.Ytapnkbamilkpoaa
