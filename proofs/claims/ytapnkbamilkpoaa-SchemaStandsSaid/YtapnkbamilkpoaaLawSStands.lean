/- The walk of SchemaStands. -/
import Derived.Test.YtapnkbamilkpoaaSOrd
import Derived.Test.YtapnkbamilkpoaaAwake3
import Derived.Test.YtapnkbamilkpoaaRdSch
import Derived.Deep.RegionWith
import Derived.Deep.DrawnRows
namespace Go.Proofs.Ytapnkbamilkpoaa
open Go.RowKit
set_option maxRecDepth 100000 in
set_option maxHeartbeats 8000000 in
theorem sstands_walk (v0 : Value) (S : Sch) (v1 : Value) (us : List Val) (v2 : Value) (vs : List Val) (v3 : Value) (ix : Int) (w : World) (y0 : SArg w v0 S) (y1 : VArg w v1 us) (y2 : VArg w v2 vs) (y3 : v3 = .int .i64 ix ∧ (Lit.int .i64 ix).wf = true) :
    Calls Try.prog 6 #[v0, v1, v2, v3] w fun e w' => e = .returned (.bool true) ∧ Below w.heap.size w w' := by
  obtain ⟨rfl, hSM, hok⟩ := y0
  obtain ⟨a, m, c, rfl, hl, hmc, hcm, hu, ou⟩ := y1
  obtain ⟨a', m', c', rfl, hl', hmc', hcm', hv, ov⟩ := y2
  obtain ⟨rfl, hw3⟩ := y3
  obtain ⟨hi0, hi1⟩ := wf_i64 hw3
  have HA := Lib.hid awake3
  have hG := fun W (hb : Below w.heap.size w W) => sgreat_any S W (hSM.below hb) hok.1 (fun x hx => (hok.2.1 x hx).1)
  have hg1 := fun W (hb : Below w.heap.size w W) => great_any a m c us W hl (by omega) (hu.below hb) ou
  have hg2 := fun W (hb : Below w.heap.size w W) => great_any a' m' c' vs W hl' (by omega) (hv.below hb) ov
  obtain ⟨G, hGe⟩ : ∃ G, G = sgreatB S := ⟨_, rfl⟩
  obtain ⟨G1, hG1e⟩ : ∃ G, G = greatB us := ⟨_, rfl⟩
  obtain ⟨G2, hG2e⟩ : ∃ G, G = greatB vs := ⟨_, rfl⟩
  rw [← hGe] at hG
  rw [← hG1e] at hg1
  rw [← hG2e] at hg2
  have hS0 := fun h : G = false => sgreat_at (hGe.symm.trans h) hSM
  have hm0 := fun h : G1 = false => (great_not (hG1e.symm.trans h)).1
  have hm1 := fun h : G2 = false => (great_not (hG2e.symm.trans h)).1
  rw [hl] at hm0
  rw [hl'] at hm1
  obtain ⟨W1, hW1⟩ : ∃ W1, W1 = w.alloc (.cells (schCells S) 25) := ⟨_, rfl⟩
  have hA1 : Below w.heap.size w W1 := by rw [hW1]; exact (Below.refl _ _).alloc (Nat.le_refl _) _
  have hk1 : W1.heap[w.heap.size]? = some (.cells (schCells S) 25 (0, 0)) := by rw [hW1]; exact Array.getElem?_push_size
  have hs1 : w.heap.size < W1.heap.size := by rw [hW1]; simp
  have HG := Lib.hid (hG W1 hA1)
  have HG1 := Lib.hid hg1
  have HG2 := Lib.hid hg2
  have HK1 := Lib.hid hk1
  have HA1 := Lib.hid hA1
  have HW1 := Lib.hid hW1.symm
  have HU := Lib.hid hu
  have HV := Lib.hid hv
  have HL := Lib.hid hl
  have HL' := Lib.hid hl'
  have HOU := Lib.hid ou
  have HOV := Lib.hid ov
  have HS0 := Lib.hid hS0
  have HM0 := Lib.hid hm0
  have HM1 := Lib.hid hm1
  obtain ⟨e0, e1, e2, e3, e4, e5⟩ := six_at hk1
  clear hG hg1 hg2 hGe hG1e hG2e hS0 hm0 hm1 hA1 hk1 hW1 hSM hok hu hv hl hl' ou ov hw3
  cases G with
  | true =>
    clear HS0
    go_enter Try.func6, Try.ntmps6
    go_upto_region 1 with fail
    rw [HW1.out]
    go_wp2_with fail
    refine HG.out.mono ?_
    rintro e w2 ⟨rfl, hb2⟩
    have HB2 := Lib.hid (Below.thenB HA1.out HA1.out.size hb2)
    clear hb2
    go_wp2_with fail
    refine (HA.out _).mono ?_
    rintro e w3 ⟨rfl, hb3⟩
    have hB := Below.thenB HB2.out HB2.out.size hb3
    go_wp2
    go_ret
    exact ⟨rfl, hB⟩
  | false =>
  have HS := Lib.hid (HS0.out rfl)
  clear HS0
  cases G1 with
  | true =>
    clear HM0
    go_enter Try.func6, Try.ntmps6
    go_upto_region 1 with fail
    rw [HW1.out]
    go_wp2_with fail
    refine HG.out.mono ?_
    rintro e w2 ⟨rfl, hb2⟩
    have HB2 := Lib.hid (Below.thenB HA1.out HA1.out.size hb2)
    clear hb2
    go_wp2_with fail
    refine (HG1.out _ HB2.out).mono ?_
    rintro e w3 ⟨rfl, rfl⟩
    go_wp2_with fail
    refine (HA.out _).mono ?_
    rintro e w3 ⟨rfl, hb3⟩
    have hB := Below.thenB HB2.out HB2.out.size hb3
    go_wp2
    go_ret
    exact ⟨rfl, hB⟩
  | false =>
  have h30 := HM0.out rfl
  clear HM0
  cases G2 with
  | true =>
    clear HM1
    go_enter Try.func6, Try.ntmps6
    go_upto_region 1 with fail
    rw [HW1.out]
    go_wp2_with fail
    refine HG.out.mono ?_
    rintro e w2 ⟨rfl, hb2⟩
    have HB2 := Lib.hid (Below.thenB HA1.out HA1.out.size hb2)
    clear hb2
    go_wp2_with fail
    refine (HG1.out _ HB2.out).mono ?_
    rintro e w3 ⟨rfl, rfl⟩
    go_wp2_with fail
    refine (HG2.out _ HB2.out).mono ?_
    rintro e w3 ⟨rfl, rfl⟩
    go_wp2_with fail
    refine (HA.out _).mono ?_
    rintro e w3 ⟨rfl, hb3⟩
    have hB := Below.thenB HB2.out HB2.out.size hb3
    go_wp2
    go_ret
    exact ⟨rfl, hB⟩
  | false =>
  have h30' := HM1.out rfl
  clear HM1
  have hF1 := fun W (hb : Below w.heap.size w W) => Fits_any S a m c us W (HS.out.below hb) HL.out (HU.out.below hb)
  have hF2 := fun W (hb : Below w.heap.size w W) => Fits_any S a' m' c' vs W (HS.out.below hb) HL'.out (HV.out.below hb)
  obtain ⟨F1, hF1e⟩ : ∃ F, F = (srightB S && fitsB S.cs us) := ⟨_, rfl⟩
  obtain ⟨F2, hF2e⟩ : ∃ F, F = (srightB S && fitsB S.cs vs) := ⟨_, rfl⟩
  rw [← hF1e] at hF1
  rw [← hF2e] at hF2
  have HF1 := Lib.hid hF1
  have HF2 := Lib.hid hF2
  have HF1E := Lib.hid hF1e
  have HF2E := Lib.hid hF2e
  clear hF1 hF2 hF1e hF2e
  cases F1 with
  | false =>
    go_enter Try.func6, Try.ntmps6
    go_upto_region 1 with fail
    rw [HW1.out]
    go_wp2_with fail
    refine HG.out.mono ?_
    rintro e w2 ⟨rfl, hb2⟩
    have HB2 := Lib.hid (Below.thenB HA1.out HA1.out.size hb2)
    obtain ⟨g0, g1, g2, g3, g4, g5⟩ := six_at ((hb2.block w.heap.size hs1).trans HK1.out)
    clear hb2 e0 e1 e2 e3 e4 e5
    go_wp2_with fail
    refine (HG1.out _ HB2.out).mono ?_
    rintro e w3 ⟨rfl, rfl⟩
    go_wp2_with fail
    refine (HG2.out _ HB2.out).mono ?_
    rintro e w3 ⟨rfl, rfl⟩
    go_wp2_with fail
    refine (HF1.out _ HB2.out).mono ?_
    rintro e w3 ⟨rfl, hb3⟩
    have HB3 := Lib.hid (Below.thenB HB2.out HB2.out.size hb3)
    go_wp2_with fail
    refine (HA.out _).mono ?_
    rintro e w4 ⟨rfl, hb4⟩
    have hB := Below.thenB HB3.out HB3.out.size hb4
    go_wp2
    go_ret
    exact ⟨rfl, hB⟩
  | true =>
  cases F2 with
  | false =>
    go_enter Try.func6, Try.ntmps6
    go_upto_region 1 with fail
    rw [HW1.out]
    go_wp2_with fail
    refine HG.out.mono ?_
    rintro e w2 ⟨rfl, hb2⟩
    have HB2 := Lib.hid (Below.thenB HA1.out HA1.out.size hb2)
    have HK2 := Lib.hid ((hb2.block w.heap.size hs1).trans HK1.out)
    have hs2 : w.heap.size < w2.heap.size := Nat.lt_of_lt_of_le hs1 hb2.size
    obtain ⟨g0, g1, g2, g3, g4, g5⟩ := six_at HK2.out
    clear hb2 e0 e1 e2 e3 e4 e5
    go_wp2_with fail
    refine (HG1.out _ HB2.out).mono ?_
    rintro e w3 ⟨rfl, rfl⟩
    go_wp2_with fail
    refine (HG2.out _ HB2.out).mono ?_
    rintro e w3 ⟨rfl, rfl⟩
    go_wp2_with fail
    refine (HF1.out _ HB2.out).mono ?_
    rintro e w3 ⟨rfl, hb3⟩
    have HB3 := Lib.hid (Below.thenB HB2.out HB2.out.size hb3)
    obtain ⟨k0, k1, k2, k3, k4, k5⟩ := six_at ((hb3.block w.heap.size hs2).trans HK2.out)
    clear hb3 g0 g1 g2 g3 g4 g5
    go_wp2_with fail
    refine (HF2.out _ HB3.out).mono ?_
    rintro e w4 ⟨rfl, hb4⟩
    have HB4 := Lib.hid (Below.thenB HB3.out HB3.out.size hb4)
    clear hb4
    go_wp2_with fail
    refine (HA.out _).mono ?_
    rintro e w5 ⟨rfl, hb5⟩
    have hB := Below.thenB HB4.out HB4.out.size hb5
    go_wp2
    go_ret
    exact ⟨rfl, hB⟩
  | true =>
  have hr : srightB S = true := by have := HF1E.out; cases h : srightB S with | true => rfl | false => rw [h] at this; cases this
  have hf1 : fitsB S.cs us = true := by have := HF1E.out; rw [hr, Bool.true_and] at this; exact this.symm
  have hf2 : fitsB S.cs vs = true := by have := HF2E.out; rw [hr, Bool.true_and] at this; exact this.symm
  obtain ⟨x1, x2, x3, x4⟩ := idxs_parts (right_parts hr).2
  have hiN := HS.out.2.2.1
  rw [hiN] at x1 x2
  obtain ⟨q, hq⟩ : ∃ q : Nat, q = (IntKind.u64.wrap ix).toNat % S.iN := ⟨_, rfl⟩
  have hqn : q < S.iN := by rw [hq]; exact Nat.mod_lt _ x1
  obtain ⟨x, hx⟩ : ∃ x, S.xs[q]? = some x := ⟨_, List.getElem?_eq_getElem (by rw [hiN]; exact hqn)⟩
  obtain ⟨z, hz⟩ : ∃ z, S.xs[0]? = some z := ⟨_, List.getElem?_eq_getElem (by rw [hiN]; omega)⟩
  have hst := skeys_math hr (List.mem_of_getElem? hx) hf1 hf2 HOU.out HOV.out
  have hwy : wayS S x us vs = if vrows (pickS us x.ps) (pickS vs x.ps) = 0 ∧ x.u = false then vrows (pickS us z.ps) (pickS vs z.ps) else vrows (pickS us x.ps) (pickS vs x.ps) := by
    unfold wayS
    cases hxs : S.xs with
    | nil => rw [hxs] at hz; cases hz
    | cons y r => rw [hxs] at hz; injection hz with hz; rw [hz]
  obtain ⟨name, ca, cn, cc, cs, ia, iN, ic, xs, limit, parts, place⟩ := S
  simp only [] at hqn hq hx hz x1 x2
  simp only [schCells] at e0 e1 e2 e3 e4 e5 HG HF1 HF2 HW1 HK1
  have HST := Lib.hid hst
  have HWY := Lib.hid hwy
  have HX := Lib.hid hx
  have HZ := Lib.hid hz
  have HQ := Lib.hid hq
  have HR := Lib.hid hr
  have HFA := Lib.hid hf1
  have HFB := Lib.hid hf2
  clear hst hwy hx hz hq hr hf1 hf2 x3
  have hN0 : ((iN : Int) == 0) = false := beq_false_of_ne (by omega)
  have hU : 0 ≤ IntKind.u64.wrap ix ∧ IntKind.u64.wrap ix < 18446744073709551616 := by rw [IntKind.wrap_u64]; omega
  have hqi : wrap64 ((IntKind.u64.wrap ix).tmod (iN : Int)) = (q : Int) := by
    have h1 : (IntKind.u64.wrap ix).tmod (iN : Int) = (q : Int) := by
      rw [Int.tmod_eq_emod_of_nonneg hU.1, HQ.out, Int.natCast_emod, Int.toNat_of_nonneg hU.1]
    rw [h1]
    unfold wrap64
    omega
  obtain ⟨PU, hPU⟩ : ∃ P, P = pickS us x.ps := ⟨_, rfl⟩
  obtain ⟨PV, hPV⟩ : ∃ P, P = pickS vs x.ps := ⟨_, rfl⟩
  obtain ⟨QU, hQU⟩ : ∃ P, P = pickS us z.ps := ⟨_, rfl⟩
  obtain ⟨QV, hQV⟩ : ∃ P, P = pickS vs z.ps := ⟨_, rfl⟩
  have lPU : PU.length ≤ 8 := by rw [hPU]; exact Nat.le_trans (pickS_len us x.ps) (x4 x (List.mem_of_getElem? HX.out))
  have lPV : PV.length ≤ 8 := by rw [hPV]; exact Nat.le_trans (pickS_len vs x.ps) (x4 x (List.mem_of_getElem? HX.out))
  have lQU : QU.length ≤ 8 := by rw [hQU]; exact Nat.le_trans (pickS_len us z.ps) (x4 z (List.mem_of_getElem? HZ.out))
  have lQV : QV.length ≤ 8 := by rw [hQV]; exact Nat.le_trans (pickS_len vs z.ps) (x4 z (List.mem_of_getElem? HZ.out))
  have lx : x.ps.length ≤ 1048576 := by have := x4 x (List.mem_of_getElem? HX.out); omega
  have lz : z.ps.length ≤ 1048576 := by have := x4 z (List.mem_of_getElem? HZ.out); omega
  have hP1 := fun (y : Idx) (ly : y.ps.length ≤ 1048576) W (hb : Below w.heap.size w W) (hy : Ints .i64 W y.a y.ps ∧ y.ps.length = y.n) => show Calls Try.prog 26 #[.slice a m c, .slice y.a y.n y.c] W fun e w' => RowRet W.heap.size (pickS us y.ps) e w' ∧ Below W.heap.size W w' from by
    have := pick_any a m c us y.a y.n y.c y.ps W HL.out (by omega) (HU.out.below hb) hy.2 (by omega) hy.1
    unfold pickS
    rw [HL.out]
    exact this
  have hP2 := fun (y : Idx) (ly : y.ps.length ≤ 1048576) W (hb : Below w.heap.size w W) (hy : Ints .i64 W y.a y.ps ∧ y.ps.length = y.n) => show Calls Try.prog 26 #[.slice a' m' c', .slice y.a y.n y.c] W fun e w' => RowRet W.heap.size (pickS vs y.ps) e w' ∧ Below W.heap.size W w' from by
    have := pick_any a' m' c' vs y.a y.n y.c y.ps W HL'.out (by omega) (HV.out.below hb) hy.2 (by omega) hy.1
    unfold pickS
    rw [HL'.out]
    exact this
  have HP1x := Lib.hid (hPU ▸ hP1 x lx)
  have HP2x := Lib.hid (hPV ▸ hP2 x lx)
  have HP1z := Lib.hid (hQU ▸ hP1 z lz)
  have HP2z := Lib.hid (hQV ▸ hP2 z lz)
  obtain ⟨WY, hWY⟩ : ∃ y, y = wayS ⟨name, ca, cn, cc, cs, ia, iN, ic, xs, limit, parts, place⟩ x us vs := ⟨_, rfl⟩
  have hw2 := HWY.out
  have hsl := stood_less HST.out
  rw [← hWY] at hw2 hsl
  rw [← hPU, ← hPV, ← hQU, ← hQV] at hw2
  have hKU := fun W (hb : Below w.heap.size w W) => Key_any ⟨name, ca, cn, cc, cs, ia, iN, ic, xs, limit, parts, place⟩ (q : Int) a m c us W HL.out (by omega) (HU.out.below hb) HOU.out (HS.out.below hb)
  have hKV := fun W (hb : Below w.heap.size w W) => Key_any ⟨name, ca, cn, cc, cs, ia, iN, ic, xs, limit, parts, place⟩ (q : Int) a' m' c' vs W HL'.out (by omega) (HV.out.below hb) HOV.out (HS.out.below hb)
  have hkr : ∀ (rs : List Val) (e : Ending), fitsB cs rs = true → KeyRet ⟨name, ca, cn, cc, cs, ia, iN, ic, xs, limit, parts, place⟩ (q : Int) rs e → e = .returned (.tuple #[.string ⟨(keyS ⟨name, ca, cn, cc, cs, ia, iN, ic, xs, limit, parts, place⟩ x rs).toArray⟩, .int .i64 0]) := by
    intro rs e hf h
    rcases h with ⟨h | h, _⟩ | ⟨⟨_, _, h⟩, _⟩ | ⟨y, ⟨_, _, h, _⟩, he⟩
    · rw [HR.out] at h; cases h
    · have h2 : (q : Int) < (xs.length : Int) := by have := (List.getElem?_eq_some_iff.1 HX.out).1; omega
      exact absurd ⟨by omega, h2⟩ h
    · rw [hf] at h; cases h
    · rw [Int.toNat_natCast, HX.out] at h
      injection h with h
      rw [h]; exact he
  obtain ⟨X, hX⟩ : ∃ X : ByteArray, X = ⟨(keyS ⟨name, ca, cn, cc, cs, ia, iN, ic, xs, limit, parts, place⟩ x us).toArray⟩ := ⟨_, rfl⟩
  obtain ⟨Y, hY⟩ : ∃ Y : ByteArray, Y = ⟨(keyS ⟨name, ca, cn, cc, cs, ia, iN, ic, xs, limit, parts, place⟩ x vs).toArray⟩ := ⟨_, rfl⟩
  have hXl : X.toList = keyS ⟨name, ca, cn, cc, cs, ia, iN, ic, xs, limit, parts, place⟩ x us := by rw [hX, ByteArray.toList_eq]
  have hYl : Y.toList = keyS ⟨name, ca, cn, cc, cs, ia, iN, ic, xs, limit, parts, place⟩ x vs := by rw [hY, ByteArray.toList_eq]
  rw [← hXl, ← hYl] at hsl
  have hku := fun W (hb : Below w.heap.size w W) => (hKU W hb).mono (fun e w' h => (⟨hX ▸ hkr us e HFA.out h.1, h.2⟩ : e = .returned (.tuple #[.string X, .int .i64 0]) ∧ Below W.heap.size W w'))
  have hkv := fun W (hb : Below w.heap.size w W) => (hKV W hb).mono (fun e w' h => (⟨hY ▸ hkr vs e HFB.out h.1, h.2⟩ : e = .returned (.tuple #[.string Y, .int .i64 0]) ∧ Below W.heap.size W w'))
  simp only [schCells] at hku hkv
  have HKU := Lib.hid hku
  have HKV := Lib.hid hkv
  obtain ⟨L, hLe⟩ : ∃ L, L = decide (WY < 0) := ⟨_, rfl⟩
  obtain ⟨E, hEe⟩ : ∃ E, E = (WY == 0) := ⟨_, rfl⟩
  rw [← hLe, ← hEe] at hsl
  obtain ⟨hl1, hl2⟩ := hsl
  have HW2 := Lib.hid hw2
  have HLE := Lib.hid hLe
  have HEE := Lib.hid hEe
  clear hU hPU hPV hQU hQV hP1 hP2 lx lz hWY hw2 hKU hKV hkr hX hY hXl hYl hku hkv hLe hEe HWY HST HQ x4 HR HFA HFB hi0 hi1
  go_enter Try.func6, Try.ntmps6
  go_upto_region 1 with fail
  rw [HW1.out]
  go_wp2_with fail
  refine HG.out.mono ?_
  rintro e w2 ⟨rfl, hb2⟩
  have HB2 := Lib.hid (Below.thenB HA1.out HA1.out.size hb2)
  have HK2 := Lib.hid ((hb2.block w.heap.size hs1).trans HK1.out)
  have hs2 : w.heap.size < w2.heap.size := Nat.lt_of_lt_of_le hs1 hb2.size
  obtain ⟨g0, g1, g2, g3, g4, g5⟩ := six_at HK2.out
  clear hb2 e0 e1 e2 e3 e4 e5 HK1 HA1 HW1 HG
  go_wp2_with fail
  refine (HG1.out _ HB2.out).mono ?_
  rintro e w3 ⟨rfl, rfl⟩
  go_wp2_with fail
  refine (HG2.out _ HB2.out).mono ?_
  rintro e w3 ⟨rfl, rfl⟩
  go_wp2_with fail
  refine (HF1.out _ HB2.out).mono ?_
  rintro e w3 ⟨rfl, hb3⟩
  have HB3 := Lib.hid (Below.thenB HB2.out HB2.out.size hb3)
  have HK3 := Lib.hid ((hb3.block w.heap.size hs2).trans HK2.out)
  have hs3 : w.heap.size < w3.heap.size := Nat.lt_of_lt_of_le hs2 hb3.size
  obtain ⟨k0, k1, k2, k3, k4, k5⟩ := six_at HK3.out
  clear hb3 g0 g1 g2 g3 g4 g5 HK2 HB2 HG1 HG2
  go_wp2_with fail
  refine (HF2.out _ HB3.out).mono ?_
  rintro e w4 ⟨rfl, hb4⟩
  have HB4 := Lib.hid (Below.thenB HB3.out HB3.out.size hb4)
  have HK4 := Lib.hid ((hb4.block w.heap.size hs3).trans HK3.out)
  have hs4 : w.heap.size < w4.heap.size := Nat.lt_of_lt_of_le hs3 hb4.size
  obtain ⟨j0, j1, j2, j3, j4, j5⟩ := six_at HK4.out
  clear hb4 k0 k1 k2 k3 k4 k5 HK3 HB3 HF1 HF2
  have HSI := Lib.hid HS.out.2.1
  have HIL := Lib.hid HS.out.2.2.1
  go_wp2_with fail
  refine (HKU.out _ HB4.out).mono ?_
  rintro e w5 ⟨rfl, hb5⟩
  have HB5 := Lib.hid (Below.thenB HB4.out HB4.out.size hb5)
  have HK5 := Lib.hid ((hb5.block w.heap.size hs4).trans HK4.out)
  have hs5 : w.heap.size < w5.heap.size := Nat.lt_of_lt_of_le hs4 hb5.size
  obtain ⟨k0, k1, k2, k3, k4, k5⟩ := six_at HK5.out
  clear hb5 j0 j1 j2 j3 j4 j5 HK4 HB4 HKU
  go_wp2_with fail
  refine (HKV.out _ HB5.out).mono ?_
  rintro e w6 ⟨rfl, hb6⟩
  have hb6' := Below.thenB HB5.out HB5.out.size hb6
  have HK6 := Lib.hid ((hb6.block w.heap.size hs5).trans HK5.out)
  have hs6 : w.heap.size < w6.heap.size := Nat.lt_of_lt_of_le hs5 hb6.size
  obtain ⟨g0, g1, g2, g3, g4, g5⟩ := six_at HK6.out
  obtain ⟨bI, oI, x', hae, hbI, hxk, c0, c1, hxi, hxl, _, _⟩ := Idxs.at HSI.out HIL.out hqn hb6'
  have hxe : x' = x := Option.some.inj (hxk.symm.trans HX.out)
  subst hxe
  obtain ⟨bz, oz, z', haz, _, hzk, d0, d1, hzi, hzl, _, _⟩ := Idxs.at HSI.out HIL.out (k := 0) (by omega) hb6'
  have hze : z' = z := Option.some.inj (hzk.symm.trans HZ.out)
  subst hze
  rw [hae] at haz
  injection haz with haz
  injection haz with hb' ho'
  subst hb' ho'
  rw [Nat.zero_mul, Nat.add_zero] at d0 d1
  subst hae
  have HB6 := Lib.hid hb6'
  have HXI := Lib.hid hxi
  have HZI := Lib.hid hzi
  have hbI6 : bI < w6.heap.size := by have := hb6'.size; omega
  obtain ⟨xa, xn, xc, xp, xu⟩ := x'
  obtain ⟨za, zn, zc, zp, zu⟩ := z'
  simp only [] at c0 c1 d0 d1 hxl hzl HP1x HP2x HP1z HP2z HXI HZI HW2
  have hq0 : (0 : Int) ≤ (q : Int) := by omega
  have hq1 : (q : Int) < (iN : Int) := by omega
  have hz1 : (0 : Int) < (iN : Int) := by omega
  have CA : Below w.heap.size w w6.drew := hb6'.drew
  have ID : Ints .i64 w6.drew xa xp := hxi.below (bdrewN (Below.refl _ _) 1)
  have sD : w.heap.size < w6.drew.heap.size := hs6
  have bD : bI < w6.drew.heap.size := hbI6
  have u0 : w6.drew.cell? ⟨w.heap.size, 2, none⟩ = some (.slice (some ⟨bI, oI, none⟩) iN ic) := g2
  have u1 : w6.drew.cell? ⟨bI, oI + q * 2, none⟩ = some (.slice xa xn xc) := c0
  have C1w := Lib.hid c1
  have D0w := Lib.hid d0
  have HD6 := Lib.hid (Below.refl w6.heap.size w6).drew
  have ZD : Ints .i64 w6.drew za zp := hzi.below (bdrewN (Below.refl _ _) 1)
  have u2 : w6.drew.cell? ⟨bI, oI + q * 2 + 1, none⟩ = some (.bool xu) := c1
  have u3 : w6.drew.cell? ⟨bI, oI, none⟩ = some (.slice za zn zc) := d0
  clear hb6 k0 k1 k2 k3 k4 k5 HK5 HB5 HKV hxi hzi hxk hzk g0 g1 g3 g4 g5 hb6' HSI
  go_wp2_with fail
  go_region_held3 (fun W => W.cell? ⟨w.heap.size, 2, none⟩ = some (.slice (some ⟨bI, oI, none⟩) iN ic) ∧ W.cell? ⟨bI, oI + q * 2, none⟩ = some (.slice xa xn xc))
    (first | (with_reducible exact ⟨t0, t1⟩) | (with_reducible exact ⟨s0, s1⟩) | (with_reducible exact ⟨r0, r1⟩) | go_keep)
    (first
      | (go_at_call 29; refine (rrows_any pA pB _ cA _ cB PU PV _ rfl rfl (by omega) (by omega) vA vB).mono ?_; rintro e w9 ⟨rfl, hb9⟩; have CD := Below.thenB CC CC.size hb9; have t0 := (hb9.cell (p := ⟨w.heap.size, 2, none⟩) sC).trans s0; have t1 := (hb9.cell (p := ⟨bI, oI + q * 2, none⟩) bC).trans s1; have t2 := (hb9.cell (p := ⟨bI, oI + q * 2 + 1, none⟩) bC).trans s2; have t3 := (hb9.cell (p := ⟨bI, oI, none⟩) bC).trans s3; have ZE := ZC.below hb9; have sE : w.heap.size < w9.heap.size := Nat.lt_of_lt_of_le sC hb9.size; have bE : bI < w9.heap.size := Nat.lt_of_lt_of_le bC hb9.size)
      | (go_at_call 26; refine (HP2x.out _ CB ⟨IB, hxl⟩).mono ?_; rintro e w8 ⟨⟨pB, cB, rfl, vB, _⟩, hb8⟩; have CC := Below.thenB CB CB.size hb8; have vA := vA7.below hb8; have sC : w.heap.size < w8.heap.size := Nat.lt_of_lt_of_le sB hb8.size; have bC : bI < w8.heap.size := Nat.lt_of_lt_of_le bB hb8.size; have s0 := (hb8.cell (p := ⟨w.heap.size, 2, none⟩) sB).trans r0; have s1 := (hb8.cell (p := ⟨bI, oI + q * 2, none⟩) bB).trans r1; have s2 := (hb8.cell (p := ⟨bI, oI + q * 2 + 1, none⟩) bB).trans r2; have s3 := (hb8.cell (p := ⟨bI, oI, none⟩) bB).trans r3; have ZC := ZB.below hb8)
      | (go_at_call 26; refine (HP1x.out _ CA ⟨ID, hxl⟩).mono ?_; rintro e w7 ⟨⟨pA, cA, rfl, vA7, _⟩, hb7⟩; have CB := Below.thenB CA CA.size hb7; have IB := ID.below hb7; have sB : w.heap.size < w7.heap.size := Nat.lt_of_lt_of_le sD hb7.size; have bB : bI < w7.heap.size := Nat.lt_of_lt_of_le bD hb7.size; have r0 := (hb7.cell (p := ⟨w.heap.size, 2, none⟩) sD).trans u0; have r1 := (hb7.cell (p := ⟨bI, oI + q * 2, none⟩) bD).trans u1; have r2 := (hb7.cell (p := ⟨bI, oI + q * 2 + 1, none⟩) bD).trans u2; have r3 := (hb7.cell (p := ⟨bI, oI, none⟩) bD).trans u3; have ZB := ZD.below hb7))
  have ht : ∃ u, w9.cell? ⟨w.heap.size, 2, none⟩ = some u := ⟨_, t0⟩
  generalize hV : vrows PU PV = V at HW2 ⊢
  clear hV HP1x HP2x hxl HXI HZI HB6 HK6 u0 u1 u2 u3 r0 r1 r2 r3 s0 s1 s2 s3 ID IB ZD ZB ZC CA CB CC vA7 vA vB hb7 hb8 hb9 sD sB sC bD bB bC c0 c1 d0 d1 g2 lPU lPV C1w D0w HD6 ht
  by_cases hv0 : V = 0
  · have dv : (V == 0) = true := by simp [hv0]
    cases xu with
    | true =>
      have HWV := Lib.hid (show WY = V by rw [HW2.out, if_neg (fun h => Bool.noConfusion h.2)])
      have dl : decide (V < 0) = L := by rw [← HWV.out]; exact HLE.out.symm
      have he : (V == 0) = E := by rw [← HWV.out]; exact HEE.out.symm
      rw [dv] at he
      subst he
      clear HW2 hv0
      go_wp2_with fail
      refine (HA.out _).mono ?_
      rintro e w10 ⟨rfl, hb10⟩
      have hB := Below.thenB CD CD.size hb10
      go_wp2
      go_ret
      exact ⟨rfl, hB⟩
    | false =>
      have HWV := Lib.hid (show WY = vrows QU QV by rw [HW2.out, if_pos ⟨hv0, rfl⟩])
      obtain ⟨V2, hV2⟩ : ∃ V2, V2 = vrows QU QV := ⟨_, rfl⟩
      have HRW := Lib.hid (fun (pA pB : Option Addr) (cA cB : Nat) W (h1 : Vals W pA QU) (h2 : Vals W pB QV) => show Calls Try.prog 29 #[.slice pA QU.length cA, .slice pB QV.length cB] W fun e w' => e = .returned (.int .i64 V2) ∧ Below W.heap.size W w' from by
        rw [hV2]; exact rrows_any pA pB _ cA _ cB QU QV W rfl rfl (by omega) (by omega) h1 h2)
      have dl : decide (V2 < 0) = L := by rw [hV2, ← HWV.out]; exact HLE.out.symm
      have he : (V2 == 0) = E := by rw [hV2, ← HWV.out]; exact HEE.out.symm
      clear HWV hV2
      clear HW2 hv0
      have HE9 := Lib.hid CD
      have CA : Below w.heap.size w w9.drew := CD.drew
      have ID : Ints .i64 w9.drew za zp := ZE.below (bdrewN (Below.refl _ _) 1)
      have sD : w.heap.size < w9.drew.heap.size := sE
      have bD : bI < w9.drew.heap.size := bE
      have u0 : w9.drew.cell? ⟨w.heap.size, 2, none⟩ = some (.slice (some ⟨bI, oI, none⟩) iN ic) := t0
      have u1 : w9.drew.cell? ⟨bI, oI, none⟩ = some (.slice za zn zc) := t3
      have hz2 : 0 < iN := by omega
      have hz3 : decide ((0 : Int) < (iN : Int)) = true := decide_eq_true (by omega)
      clear CD ZE
      go_wp2_with fail
      go_region_held3 (fun W => W.cell? ⟨w.heap.size, 2, none⟩ = some (.slice (some ⟨bI, oI, none⟩) iN ic) ∧ W.cell? ⟨bI, oI, none⟩ = some (.slice za zn zc))
        (first | (with_reducible exact ⟨p0, p1⟩) | (with_reducible exact ⟨s0, s1⟩) | (with_reducible exact ⟨r0, r1⟩) | go_keep)
        (first
          | (go_at_call 29; refine (HRW.out pA pB cA cB _ vA vB).mono ?_; rintro e w12 ⟨rfl, hb9⟩; have CD := Below.thenB CC CC.size hb9; have p0 := (hb9.cell (p := ⟨w.heap.size, 2, none⟩) sC).trans s0; have p1 := (hb9.cell (p := ⟨bI, oI, none⟩) bC).trans s1)
          | (go_at_call 26; refine (HP2z.out _ CB ⟨IB, hzl⟩).mono ?_; rintro e w11 ⟨⟨pB, cB, rfl, vB, _⟩, hb8⟩; have CC := Below.thenB CB CB.size hb8; have vA := vA7.below hb8; have sC : w.heap.size < w11.heap.size := Nat.lt_of_lt_of_le sB hb8.size; have bC : bI < w11.heap.size := Nat.lt_of_lt_of_le bB hb8.size; have s0 := (hb8.cell (p := ⟨w.heap.size, 2, none⟩) sB).trans r0; have s1 := (hb8.cell (p := ⟨bI, oI, none⟩) bB).trans r1)
          | (go_at_call 26; refine (HP1z.out _ CA ⟨ID, hzl⟩).mono ?_; rintro e w10 ⟨⟨pA, cA, rfl, vA7, _⟩, hb7⟩; have CB := Below.thenB CA CA.size hb7; have IB := ID.below hb7; have sB : w.heap.size < w10.heap.size := Nat.lt_of_lt_of_le sD hb7.size; have bB : bI < w10.heap.size := Nat.lt_of_lt_of_le bD hb7.size; have r0 := (hb7.cell (p := ⟨w.heap.size, 2, none⟩) sD).trans u0; have r1 := (hb7.cell (p := ⟨bI, oI, none⟩) bD).trans u1))
      all_goals
        go_wp2_with fail
        refine (HA.out _).mono ?_
        rintro e w13 ⟨rfl, hb13⟩
        have hB := Below.thenB CD CD.size hb13
        go_wp2
        go_ret
        exact ⟨rfl, hB⟩
  · have dv : (V == 0) = false := beq_false_of_ne hv0
    have HWV := Lib.hid (show WY = V by rw [HW2.out, if_neg (fun h => hv0 h.1)])
    have dl : decide (V < 0) = L := by rw [← HWV.out]; exact HLE.out.symm
    have he : (V == 0) = E := by rw [← HWV.out]; exact HEE.out.symm
    rw [dv] at he
    subst he
    clear HW2 hv0
    go_wp2_with fail
    refine (HA.out _).mono ?_
    rintro e w10 ⟨rfl, hb10⟩
    have hB := Below.thenB CD CD.size hb10
    go_wp2
    go_ret
    exact ⟨rfl, hB⟩
end Go.Proofs.Ytapnkbamilkpoaa
