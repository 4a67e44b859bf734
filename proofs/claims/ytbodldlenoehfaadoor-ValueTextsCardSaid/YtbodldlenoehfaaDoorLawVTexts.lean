/- ValueTexts: any value's print, any row's line, any text's value. -/
import Derived.Test.YtbodldlenoehfaaDoorLine
import Derived.Test.YtbodldlenoehfaaDoorRVPrint
import Derived.Test.YtbodldlenoehfaaDoorAwake2
import Derived.Test.YtbodldlenoehfaaDoorRdVal
import Derived.Test.YtbodldlenoehfaaDoorRowsC
namespace Go.Proofs.YtbodldlenoehfaaDoor
open Go.RowKit
set_option maxRecDepth 100000 in
set_option maxHeartbeats 4000000 in
theorem vtexts_walk (v0 : Value) (vs : List Val) (v1 : Value) (s : ByteArray) (w : World) (y0 : VArg w v0 vs) (y1 : v1 = .string s ∧ s.size ≤ maxLen) (htab : Lib.TabIs Tryd.prog w "internal/strconv.uint64pow10" .u64 Lib.pow10Tab) (hev : ErrCell w 1) (hmx : IntCell w 3) :
    Calls Tryd.prog 6 #[v0, v1] w fun e w' => e = .returned (.bool true) ∧ Below w.heap.size w w' := by
  obtain ⟨a, m, c, rfl, hl, hmc, hcm, hv, hok⟩ := y0
  obtain ⟨rfl, hsz⟩ := y1
  have HL := Lib.hid hl
  have HM := Lib.hid hmx
  have HT := Lib.hid htab
  have HE := Lib.hid hev
  have HV := Lib.hid hv
  have HOK := Lib.hid hok
  have hmx' : m ≤ maxLen := by omega
  clear hl hmx hok hv htab hev
  unfold maxLen at hsz
  cases hg : greatB vs with
  | true =>
    have HG := Lib.hid hg
    clear hg
    go_enter Tryd.func6, Tryd.ntmps6
    go_wp2_with fail
    refine (great_any a m c vs _ HL.out hmx' HV.out HOK.out).mono ?_
    rintro e w' ⟨rfl, rfl⟩
    rw [HG.out]
    go_wp2_with fail
    refine (awake2_any _ HM.out).mono ?_
    rintro e wz ⟨rfl, hbz⟩
    go_wp2
    go_ret
    exact ⟨rfl, hbz⟩
  | false =>
    have HG := Lib.hid hg
    have hm30 := (great_not hg).1
    rw [HL.out] at hm30
    clear hg
    by_cases hs : s.size ≤ 600
    · have hd : decide ((600 : Int) < (s.size : Int)) = false := decide_eq_false (by omega)
      obtain ⟨ps, hps⟩ : ∃ ps, ps = vs.map printOf := ⟨_, rfl⟩
      have hpl : ps.length = m := by rw [hps, List.length_map]; exact HL.out
      have hpb : ∀ p ∈ ps, p.length ≤ 500 := by
        intro p hp
        rw [hps] at hp
        obtain ⟨v, hv, rfl⟩ := List.mem_map.1 hp
        obtain ⟨_, ⟨hn0, hn1⟩, _⟩ := HOK.out v hv
        exact printOf_len v hn0 hn1
      have HPS := Lib.hid hps
      have HPL := Lib.hid hpl
      have HPB := Lib.hid hpb
      clear hps hpl hpb
      go_enter Tryd.func6, Tryd.ntmps6
      go_wp2_with fail
      refine (great_any a m c vs _ HL.out hmx' HV.out HOK.out).mono ?_
      rintro e w' ⟨rfl, rfl⟩
      rw [HG.out]
      go_wp2
      go_loopw [5, 6] (fun x i wr => ∃ k : Nat, k ≤ m ∧ i = .int .i64 (k : Int) ∧ x = .string ⟨(line (ps.take k)).toArray⟩ ∧ Below w.heap.size w wr) (fun _ i _ => m - (intOf i).toNat)
      case atStart => exact ⟨0, Nat.zero_le _, rfl, rfl, Below.refl _ _⟩
      case round =>
      obtain ⟨k, hk, rfl, rfl, hbel⟩ := hrel
      have hszr := hbel.size
      have hll : (line (ps.take k)).length ≤ 15060 := by
        have h1 := line_len (ps := ps.take k) (N := 500) (fun p hp => HPB.out p (List.mem_of_mem_take hp))
        have h2 : (ps.take k).length ≤ 30 := Nat.le_trans (List.length_take_le _ _) (by omega)
        have h3 : (ps.take k).length * (500 + 2) ≤ 30 * 502 := Nat.mul_le_mul h2 (Nat.le_refl _)
        omega
      obtain ⟨X, hX⟩ : ∃ X, X = line (ps.take k) := ⟨_, rfl⟩
      rw [← hX] at hll ⊢
      by_cases hlt : k < m
      · have hlt' : decide ((k : Int) < (m : Int)) = true := decide_eq_true (by omega)
        obtain ⟨b, o, v, rfl, hb, hvk, c0, c1, c2⟩ := Vals.at3 HV.out HL.out hlt hbel
        obtain ⟨_, ⟨hn0, hn1⟩, _⟩ := HOK.out v (List.mem_of_getElem? hvk)
        have hbx : b < wr.heap.size := Nat.lt_of_lt_of_le hb hszr
        have hpk : ps[k]? = some (printOf v) := by rw [HPS.out, List.getElem?_map, hvk]; rfl
        have hts : ps.take (k + 1) = ps.take k ++ [printOf v] := by rw [List.take_add_one, hpk]; rfl
        have hpn : (printOf v).length ≤ 500 := printOf_len v hn0 hn1
        obtain ⟨P, hP⟩ : ∃ P, P = printOf v := ⟨_, rfl⟩
        rw [← hP] at hpn hts
        have hnx : line (ps.take (k + 1)) = if k = 0 then P else X ++ [44, 32] ++ P := by
          rw [hts, line_snoc, hX]
          by_cases h0 : k = 0
          · subst h0; rw [if_pos (by simp), if_pos rfl]
          · rw [if_neg (by
              intro e
              have h2 := congrArg List.length e
              rw [List.length_take, HPL.out] at h2
              simp at h2
              omega), if_neg h0]
        have HNX := Lib.hid hnx
        have HP := Lib.hid hP
        clear hvk hpk hts hnx hP
        have hX0 : k = 0 → X = [] := fun h => by rw [hX, h]; rfl
        have HX0 := Lib.hid hX0
        clear hX hX0
        cases hr : vright v with
        | true =>
          have hpo : P = vprint v := by rw [HP.out]; unfold printOf; rw [hr]; rfl
          have HPO := Lib.hid hpo
          have HR := Lib.hid hr
          clear hr hpo
          go_wp2_with fail
          refine (rright_any v _).mono ?_
          rintro e w1 ⟨rfl, hb1⟩
          rw [HR.out]
          obtain ⟨hc1, hf1⟩ := bcell hb1
          have d0 := (hc1 b (o + k * 3) hbx).trans c0
          have d1 := (hc1 b (o + k * 3 + 1) hbx).trans c1
          have d2 := (hc1 b (o + k * 3 + 2) hbx).trans c2
          clear hc1 hf1 c0 c1 c2
          have B1 := Below.thenB hbel hszr hb1
          have z1 := B1.size
          have hbx1 := Nat.lt_of_lt_of_le hbx hb1.size
          go_wp2_with fail
          refine (rvprint_any v HR.out hn0 hn1 _).mono ?_
          rintro e w2 ⟨rfl, hb2⟩
          rw [← HPO.out]
          obtain ⟨hc2, hf2⟩ := bcell hb2
          have e0 := (hc2 b (o + k * 3) hbx1).trans d0
          have e1 := (hc2 b (o + k * 3 + 1) hbx1).trans d1
          have e2 := (hc2 b (o + k * 3 + 2) hbx1).trans d2
          clear hc2 hf2 d0 d1 d2
          have B2 := Below.thenB B1 z1 hb2
          have z2 := B2.size
          go_wp2_with fail
          refine (vprint_any v hn0 hn1 _ (tab_below HT.out B2) (HM.out.below B2)).mono ?_
          rintro e w3 ⟨rfl, hb3⟩
          rw [← HP.out]
          have B3 := Below.thenB B2 B2.size hb3
          clear e0 e1 e2
          by_cases h0 : k = 0
          · have hd0 : decide (0 < k) = false := decide_eq_false (by omega)
            go_wp2
            refine ⟨⟨k + 1, by omega, by go_num, ?_, B3⟩, by simp [intOf]; omega⟩
            have h := HNX.out
            rw [if_pos h0] at h
            have hx := HX0.out h0
            rw [h, hx]
            show Value.string ((⟨[].toArray⟩ : ByteArray) ++ ⟨P.toArray⟩) = _
            rw [app_str]
            simp
          · have hd0 : decide (0 < k) = true := decide_eq_true (by omega)
            go_wp2
            refine ⟨⟨k + 1, by omega, by go_num, ?_, B3⟩, by simp [intOf]; omega⟩
            have h := HNX.out
            rw [if_neg h0] at h
            rw [h]
            show Value.string ((⟨X.toArray⟩ : ByteArray) ++ ⟨[44, 32].toArray⟩ ++ ⟨P.toArray⟩) = _
            rw [app_str, app_str]
        | false =>
          have hpo : P = [] := by rw [HP.out]; unfold printOf; rw [hr]; rfl
          have HPO := Lib.hid hpo
          have HR := Lib.hid hr
          clear hr hpo
          go_wp2_with fail
          refine (rright_any v _).mono ?_
          rintro e w1 ⟨rfl, hb1⟩
          rw [HR.out]
          obtain ⟨hc1, hf1⟩ := bcell hb1
          have d0 := (hc1 b (o + k * 3) hbx).trans c0
          have d1 := (hc1 b (o + k * 3 + 1) hbx).trans c1
          have d2 := (hc1 b (o + k * 3 + 2) hbx).trans c2
          clear hc1 hf1 c0 c1 c2
          have B1 := Below.thenB hbel hszr hb1
          have z1 := B1.size
          have hbx1 := Nat.lt_of_lt_of_le hbx hb1.size
          go_wp2_with fail
          refine (vprint_any v hn0 hn1 _ (tab_below HT.out B1) (HM.out.below B1)).mono ?_
          rintro e w3 ⟨rfl, hb3⟩
          rw [← HP.out]
          have B3 := Below.thenB B1 B1.size hb3
          clear d0 d1 d2
          have hPe := HPO.out
          have hPn : (P == []) = true := by rw [hPe]; rfl
          have hPz : P.isEmpty = true := by rw [hPe]; rfl
          clear hPe
          by_cases h0 : k = 0
          · have hd0 : decide (0 < k) = false := decide_eq_false (by omega)
            go_wp2
            refine ⟨⟨k + 1, by omega, by go_num, ?_, B3⟩, by simp [intOf]; omega⟩
            have h := HNX.out
            rw [if_pos h0] at h
            have hx := HX0.out h0
            rw [h, hx, HPO.out]
            show Value.string ((⟨[].toArray⟩ : ByteArray) ++ ⟨([] : List UInt8).toArray⟩) = _
            rw [app_str]
            simp
          · have hd0 : decide (0 < k) = true := decide_eq_true (by omega)
            go_wp2
            refine ⟨⟨k + 1, by omega, by go_num, ?_, B3⟩, by simp [intOf]; omega⟩
            have h := HNX.out
            rw [if_neg h0] at h
            rw [h, HPO.out]
            show Value.string ((⟨X.toArray⟩ : ByteArray) ++ ⟨[44, 32].toArray⟩ ++ ⟨([] : List UInt8).toArray⟩) = _
            rw [app_str, app_str]
      · have hlt' : decide ((k : Int) < (m : Int)) = false := decide_eq_false (by omega)
        have hkm : ps.take k = ps := List.take_of_length_le (by rw [HPL.out]; omega)
        rw [hkm] at hX
        have HX := Lib.hid hX
        have hXl : (⟨X.toArray⟩ : ByteArray) = ⟨(line ps).toArray⟩ := by rw [hX]
        have HXL := Lib.hid hXl
        rw [hXl]
        clear hX hkm hXl
        cases hvp : vparse s.data.toList with
        | some v =>
          obtain ⟨vk, vn, vz⟩ := v
          have HVP := Lib.hid hvp
          clear hvp
          go_wp2_with fail
          refine (vparse_any s (by omega) _ (tab_below HT.out hbel) (HE.out.below hbel) (HM.out.below hbel)).mono ?_
          rintro e w1 ⟨he, hb1⟩
          rw [HVP.out] at he
          have he' : e = .returned (.tuple #[.agg #[.int .i64 vk, .int .i64 vn, .string vz], .int .i64 0]) := he
          subst he'
          clear he
          have z1 : w.heap.size ≤ w1.heap.size := Nat.le_trans hszr hb1.size
          have B1 := Below.thenB hbel hszr hb1
          have hC1 : Below w1.heap.size w1 (w1.alloc (.cells #[.int .i64 vk, .int .i64 vn, .string vz] 34)) := (Below.refl _ _).alloc (Nat.le_refl _) _
          go_wp2_with fail
          refine (rvparse_any s (by omega) _).mono ?_
          rintro e w2 ⟨he, hb2⟩
          rw [HVP.out] at he
          have he' : e = .returned (.tuple #[.agg #[.int .i64 vk, .int .i64 vn, .string vz], .bool true]) := he
          subst he'
          clear he
          have hz2 := hb2.size
          simp at hz2
          obtain ⟨hc2, hf2⟩ := bcell hb2
          have p0 : w2.cell? ⟨w1.heap.size, 0, none⟩ = some (.int .i64 vk) := (hc2 w1.heap.size 0 (by simp)).trans (by go_simp)
          have p1 : w2.cell? ⟨w1.heap.size, 1, none⟩ = some (.int .i64 vn) := (hc2 w1.heap.size 1 (by simp)).trans (by go_simp)
          have p2 : w2.cell? ⟨w1.heap.size, 2, none⟩ = some (.string vz) := (hc2 w1.heap.size 2 (by simp)).trans (by go_simp)
          clear hc2 hf2
          have B2 : Below w.heap.size w w2 := Below.thenB (B1.alloc z1 _) (by simp; omega) hb2
          have z2 := B2.size
          have hC2 : Below w2.heap.size w2 (w2.alloc (.cells #[.int .i64 vk, .int .i64 vn, .string vz] 34)) := (Below.refl _ _).alloc (Nat.le_refl _) _
          have B3 : Below w.heap.size w (w2.alloc (.cells #[.int .i64 vk, .int .i64 vn, .string vz] 34)) := B2.alloc z2 _
          have hU3 := Lib.hid (HV.out.below B3)
          go_wp2_with fail
          refine (line_any a m c vs _ HL.out (by omega) hU3.out HOK.out (tab_below HT.out B3) (HM.out.below B3)).mono ?_
          rintro e w3 ⟨rfl, hb3⟩
          rw [← HPS.out]
          have hz3 := hb3.size
          simp at hz3
          obtain ⟨hc3, hf3⟩ := bcell hb3
          have r0 : w3.cell? ⟨w1.heap.size, 0, none⟩ = some (.int .i64 vk) := (hc3 w1.heap.size 0 (by simp; omega)).trans ((World.cell?_alloc_lt _ _ _ (by show w1.heap.size < w2.heap.size; omega)).trans p0)
          have r1 : w3.cell? ⟨w1.heap.size, 1, none⟩ = some (.int .i64 vn) := (hc3 w1.heap.size 1 (by simp; omega)).trans ((World.cell?_alloc_lt _ _ _ (by show w1.heap.size < w2.heap.size; omega)).trans p1)
          have r2 : w3.cell? ⟨w1.heap.size, 2, none⟩ = some (.string vz) := (hc3 w1.heap.size 2 (by simp; omega)).trans ((World.cell?_alloc_lt _ _ _ (by show w1.heap.size < w2.heap.size; omega)).trans p2)
          have r3 : w3.cell? ⟨w2.heap.size, 0, none⟩ = some (.int .i64 vk) := (hc3 w2.heap.size 0 (by simp)).trans (by go_simp)
          have r4 : w3.cell? ⟨w2.heap.size, 1, none⟩ = some (.int .i64 vn) := (hc3 w2.heap.size 1 (by simp)).trans (by go_simp)
          have r5 : w3.cell? ⟨w2.heap.size, 2, none⟩ = some (.string vz) := (hc3 w2.heap.size 2 (by simp)).trans (by go_simp)
          clear hc3 hf3 p0 p1 p2
          have B4 : Below w.heap.size w w3 := Below.thenB B3 (by simp; omega) hb3
          go_wp2_with fail
          refine (awake2_any _ (HM.out.below B4)).mono ?_
          rintro e w4 ⟨rfl, hb4⟩
          go_wp2
          go_ret
          exact ⟨rfl, Below.thenB B4 B4.size hb4⟩
        | none =>
          have HVP := Lib.hid hvp
          clear hvp
          go_wp2_with fail
          refine (vparse_any s (by omega) _ (tab_below HT.out hbel) (HE.out.below hbel) (HM.out.below hbel)).mono ?_
          rintro e w1 ⟨he, hb1⟩
          rw [HVP.out] at he
          have he' : e = .returned (.tuple #[.agg #[.int .i64 0, .int .i64 0, .string ⟨#[]⟩], .int .i64 12]) := he
          subst he'
          clear he
          have z1 : w.heap.size ≤ w1.heap.size := Nat.le_trans hszr hb1.size
          have B1 := Below.thenB hbel hszr hb1
          have hC1 : Below w1.heap.size w1 (w1.alloc (.cells #[.int .i64 0, .int .i64 0, .string ⟨#[]⟩] 34)) := (Below.refl _ _).alloc (Nat.le_refl _) _
          go_wp2_with fail
          refine (rvparse_any s (by omega) _).mono ?_
          rintro e w2 ⟨he, hb2⟩
          rw [HVP.out] at he
          have he' : e = .returned (.tuple #[.agg #[.int .i64 0, .int .i64 0, .string ⟨#[]⟩], .bool false]) := he
          subst he'
          clear he
          have hz2 := hb2.size
          simp at hz2
          obtain ⟨hc2, hf2⟩ := bcell hb2
          have p0 : w2.cell? ⟨w1.heap.size, 0, none⟩ = some (.int .i64 0) := (hc2 w1.heap.size 0 (by simp)).trans (by go_simp)
          have p1 : w2.cell? ⟨w1.heap.size, 1, none⟩ = some (.int .i64 0) := (hc2 w1.heap.size 1 (by simp)).trans (by go_simp)
          have p2 : w2.cell? ⟨w1.heap.size, 2, none⟩ = some (.string ⟨#[]⟩) := (hc2 w1.heap.size 2 (by simp)).trans (by go_simp)
          clear hc2 hf2
          have B2 : Below w.heap.size w w2 := Below.thenB (B1.alloc z1 _) (by simp; omega) hb2
          have z2 := B2.size
          have hC2 : Below w2.heap.size w2 (w2.alloc (.cells #[.int .i64 0, .int .i64 0, .string ⟨#[]⟩] 34)) := (Below.refl _ _).alloc (Nat.le_refl _) _
          have B3 : Below w.heap.size w (w2.alloc (.cells #[.int .i64 0, .int .i64 0, .string ⟨#[]⟩] 34)) := B2.alloc z2 _
          have hU3 := Lib.hid (HV.out.below B3)
          go_wp2_with fail
          refine (line_any a m c vs _ HL.out (by omega) hU3.out HOK.out (tab_below HT.out B3) (HM.out.below B3)).mono ?_
          rintro e w3 ⟨rfl, hb3⟩
          rw [← HPS.out]
          have hz3 := hb3.size
          simp at hz3
          obtain ⟨hc3, hf3⟩ := bcell hb3
          have r0 : w3.cell? ⟨w1.heap.size, 0, none⟩ = some (.int .i64 0) := (hc3 w1.heap.size 0 (by simp; omega)).trans ((World.cell?_alloc_lt _ _ _ (by show w1.heap.size < w2.heap.size; omega)).trans p0)
          have r1 : w3.cell? ⟨w1.heap.size, 1, none⟩ = some (.int .i64 0) := (hc3 w1.heap.size 1 (by simp; omega)).trans ((World.cell?_alloc_lt _ _ _ (by show w1.heap.size < w2.heap.size; omega)).trans p1)
          have r2 : w3.cell? ⟨w1.heap.size, 2, none⟩ = some (.string ⟨#[]⟩) := (hc3 w1.heap.size 2 (by simp; omega)).trans ((World.cell?_alloc_lt _ _ _ (by show w1.heap.size < w2.heap.size; omega)).trans p2)
          have r3 : w3.cell? ⟨w2.heap.size, 0, none⟩ = some (.int .i64 0) := (hc3 w2.heap.size 0 (by simp)).trans (by go_simp)
          have r4 : w3.cell? ⟨w2.heap.size, 1, none⟩ = some (.int .i64 0) := (hc3 w2.heap.size 1 (by simp)).trans (by go_simp)
          have r5 : w3.cell? ⟨w2.heap.size, 2, none⟩ = some (.string ⟨#[]⟩) := (hc3 w2.heap.size 2 (by simp)).trans (by go_simp)
          clear hc3 hf3 p0 p1 p2
          have B4 : Below w.heap.size w w3 := Below.thenB B3 (by simp; omega) hb3
          go_wp2_with fail
          refine (awake2_any _ (HM.out.below B4)).mono ?_
          rintro e w4 ⟨rfl, hb4⟩
          go_wp2
          go_ret
          exact ⟨rfl, Below.thenB B4 B4.size hb4⟩
    · have hd : decide ((600 : Int) < (s.size : Int)) = true := decide_eq_true (by omega)
      go_enter Tryd.func6, Tryd.ntmps6
      go_wp2_with fail
      refine (great_any a m c vs _ HL.out hmx' HV.out HOK.out).mono ?_
      rintro e w' ⟨rfl, rfl⟩
      rw [HG.out]
      go_wp2_with fail
      refine (awake2_any _ HM.out).mono ?_
      rintro e wz ⟨rfl, hbz⟩
      go_wp2
      go_ret
      exact ⟨rfl, hbz⟩
end Go.Proofs.YtbodldlenoehfaaDoor
