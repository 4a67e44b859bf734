/- The walk of SchemaRights. -/
import Derived.Test.YtapnkbamilkpoaaSEq2
import Derived.Test.YtapnkbamilkpoaaSCopy
import Derived.Test.YtapnkbamilkpoaaSZero
import Derived.Test.YtapnkbamilkpoaaSKind
import Derived.Test.YtapnkbamilkpoaaSCol
import Derived.Test.YtapnkbamilkpoaaSRight
import Derived.Test.YtapnkbamilkpoaaSRef2
import Derived.Test.YtapnkbamilkpoaaSGreatR
import Derived.Test.YtapnkbamilkpoaaAwake3
import Derived.Deep.DeepCutAuto
namespace Go.Proofs.Ytapnkbamilkpoaa
open Go.RowKit
theorem six_below {W W' : World} {B n : Nat} {v0 v1 v2 v3 v4 v5 : Value} (hb : Below n W W') (hB : B < n) (h : W.cell? ⟨B, 0, none⟩ = some v0 ∧ W.cell? ⟨B, 1, none⟩ = some v1 ∧ W.cell? ⟨B, 2, none⟩ = some v2 ∧ W.cell? ⟨B, 3, none⟩ = some v3 ∧ W.cell? ⟨B, 4, none⟩ = some v4 ∧ W.cell? ⟨B, 5, none⟩ = some v5) : W'.cell? ⟨B, 0, none⟩ = some v0 ∧ W'.cell? ⟨B, 1, none⟩ = some v1 ∧ W'.cell? ⟨B, 2, none⟩ = some v2 ∧ W'.cell? ⟨B, 3, none⟩ = some v3 ∧ W'.cell? ⟨B, 4, none⟩ = some v4 ∧ W'.cell? ⟨B, 5, none⟩ = some v5 :=
  ⟨(hb.cell (p := ⟨B, 0, none⟩) hB).trans h.1, (hb.cell (p := ⟨B, 1, none⟩) hB).trans h.2.1, (hb.cell (p := ⟨B, 2, none⟩) hB).trans h.2.2.1, (hb.cell (p := ⟨B, 3, none⟩) hB).trans h.2.2.2.1, (hb.cell (p := ⟨B, 4, none⟩) hB).trans h.2.2.2.2.1, (hb.cell (p := ⟨B, 5, none⟩) hB).trans h.2.2.2.2.2⟩
theorem two_text (w : World) (x y : ByteArray) : Texts (w.alloc (.cells #[.string x, .string y] 9)) (some ⟨w.heap.size, 0, none⟩) [x, y] := by
  refine .inr ⟨by simp, w.heap.size, 0, rfl, by simp, fun i s hi => ?_⟩
  rcases i with _ | _ | i
  · simp at hi; subst hi; go_simp
  · simp at hi; subst hi; go_simp
  · simp at hi
def firstN : List Idx → Nat
  | y :: _ => y.n
  | [] => 0
theorem firstN_of {xs : List Idx} {y : Idx} (h : xs[0]? = some y) : firstN xs = y.n := by
  cases xs with
  | nil => cases h
  | cons z r => injection h with h; rw [← h]; rfl
theorem ssame_refl {S S' : Sch} (h : S'.name = S.name ∧ S'.cs = S.cs ∧ S'.xs.map keyI = S.xs.map keyI ∧ S'.limit = S.limit ∧ S'.parts = S.parts ∧ S'.place = S.place) : ssameB S' S = true := by
  unfold ssameB
  rw [h.1, h.2.1, h.2.2.1, h.2.2.2.1, h.2.2.2.2.1, h.2.2.2.2.2]
  simp
set_option maxRecDepth 100000 in
set_option maxHeartbeats 16000000 in
theorem srights_walk (v0 : Value) (S : Sch) (v1 : Value) (T : Sch) (v2 : Value) (nm : ByteArray) (w : World) (y0 : SArg w v0 S) (y1 : SArg w v1 T) (y2 : v2 = .string nm ∧ nm.size ≤ maxLen) :
    Calls Try.prog 3 #[v0, v1, v2] w fun e w' => e = .returned (.bool true) ∧ Below w.heap.size w w' := by
  obtain ⟨rfl, hSM, hok⟩ := y0
  obtain ⟨rfl, hTM, hok'⟩ := y1
  obtain ⟨rfl, hnm⟩ := y2
  unfold maxLen at hnm
  have HA := Lib.hid awake3
  have hG := fun W (hb : Below w.heap.size w W) => sgreat_any S W (hSM.below hb) hok.1 (fun x hx => (hok.2.1 x hx).1)
  have hG' := fun W (hb : Below w.heap.size w W) => sgreat_any T W (hTM.below hb) hok'.1 (fun x hx => (hok'.2.1 x hx).1)
  obtain ⟨G, hGe⟩ : ∃ G, G = sgreatB S := ⟨_, rfl⟩
  obtain ⟨G', hGe'⟩ : ∃ G, G = sgreatB T := ⟨_, rfl⟩
  rw [← hGe] at hG
  rw [← hGe'] at hG'
  have hS0 := fun h : G = false => sgreat_at (hGe.symm.trans h) hSM
  have hS1 := fun h : G = false => sgreat_not (hGe.symm.trans h)
  have hT0 := fun h : G' = false => sgreat_at (hGe'.symm.trans h) hTM
  have hT1 := fun h : G' = false => sgreat_not (hGe'.symm.trans h)
  obtain ⟨W1, hW1⟩ : ∃ W1, W1 = w.alloc (.cells (schCells S) 25) := ⟨_, rfl⟩
  have hA1 : Below w.heap.size w W1 := by rw [hW1]; exact (Below.refl _ _).alloc (Nat.le_refl _) _
  have hs1 : W1.heap.size = w.heap.size + 1 := by rw [hW1]; simp
  have hk1 : W1.heap[w.heap.size]? = some (.cells (schCells S) 25 (0, 0)) := by rw [hW1]; exact Array.getElem?_push_size
  obtain ⟨W2, hW2⟩ : ∃ W2, W2 = W1.alloc (.cells (schCells T) 25) := ⟨_, rfl⟩
  have hA2 : Below W1.heap.size W1 W2 := by rw [hW2]; exact (Below.refl _ _).alloc (Nat.le_refl _) _
  have hs2 : w.heap.size + 1 < W2.heap.size := by rw [hW2]; simp [hs1]
  have hj2 : W2.heap[w.heap.size + 1]? = some (.cells (schCells T) 25 (0, 0)) := by rw [hW2, ← hs1]; exact Array.getElem?_push_size
  have hk2 := (hA2.block w.heap.size (by omega)).trans hk1
  have hB2 := Below.thenB hA1 (by omega) hA2
  have HG := Lib.hid hG
  have HG' := Lib.hid hG'
  have HK2 := Lib.hid hk2
  have HJ2 := Lib.hid hj2
  have HB2 := Lib.hid hB2
  have HW1 := Lib.hid hW1.symm
  have HW2 := Lib.hid hW2.symm
  have HS0 := Lib.hid hS0
  have HS1 := Lib.hid hS1
  have HT0 := Lib.hid hT0
  have HT1 := Lib.hid hT1
  obtain ⟨e0, e1, e2, e3, e4, e5⟩ := six_at hk2
  obtain ⟨f0, f1, f2, f3, f4, f5⟩ := six_at hj2
  clear hG hG' hGe hGe' hS0 hS1 hT0 hT1 hA1 hk1 hA2 hk2 hj2 hB2 hW1 hW2 hSM hTM hok hok'
  cases G with
  | true =>
    clear HS0 HS1
    go_enter Try.func3, Try.ntmps3
    go_upto_region 1 with fail
    rw [HW1.out, HW2.out]
    go_wp2_with fail
    refine (HG.out _ HB2.out).mono ?_
    rintro e w3 ⟨rfl, hb3⟩
    have HB3 := Lib.hid (Below.thenB HB2.out HB2.out.size hb3)
    have HK3 := Lib.hid ((hb3.block w.heap.size (by omega)).trans HK2.out)
    have HJ3 := Lib.hid ((hb3.block (w.heap.size + 1) (by omega)).trans HJ2.out)
    have hs3 : w.heap.size + 1 < w3.heap.size := Nat.lt_of_lt_of_le hs2 hb3.size
    clear e0 e1 e2 e3 e4 e5 f0 f1 f2 f3 f4 f5
    obtain ⟨e0, e1, e2, e3, e4, e5⟩ := six_at HK3.out
    obtain ⟨f0, f1, f2, f3, f4, f5⟩ := six_at HJ3.out
    clear HK2 HJ2 HB2
    go_wp2_with fail
    refine (HA.out _).mono ?_
    rintro e wz ⟨rfl, hbz⟩
    have hB := Below.thenB HB3.out HB3.out.size hbz
    go_wp2
    go_ret
    exact ⟨rfl, hB⟩

  | false =>
  have HS := Lib.hid (HS0.out rfl)
  obtain ⟨p1, p2, p3, p4, p5⟩ := HS1.out rfl
  have P4 := Lib.hid p4
  have P5 := Lib.hid p5
  clear HS0 HS1 p4 p5
  cases G' with
  | true =>
    clear HT0 HT1
    go_enter Try.func3, Try.ntmps3
    go_upto_region 1 with fail
    rw [HW1.out, HW2.out]
    go_wp2_with fail
    refine (HG.out _ HB2.out).mono ?_
    rintro e w3 ⟨rfl, hb3⟩
    have HB3 := Lib.hid (Below.thenB HB2.out HB2.out.size hb3)
    have HK3 := Lib.hid ((hb3.block w.heap.size (by omega)).trans HK2.out)
    have HJ3 := Lib.hid ((hb3.block (w.heap.size + 1) (by omega)).trans HJ2.out)
    have hs3 : w.heap.size + 1 < w3.heap.size := Nat.lt_of_lt_of_le hs2 hb3.size
    clear e0 e1 e2 e3 e4 e5 f0 f1 f2 f3 f4 f5
    obtain ⟨e0, e1, e2, e3, e4, e5⟩ := six_at HK3.out
    obtain ⟨f0, f1, f2, f3, f4, f5⟩ := six_at HJ3.out
    clear HK2 HJ2 HB2
    go_wp2_with fail
    refine (HG'.out _ HB3.out).mono ?_
    rintro e w4 ⟨rfl, hb4⟩
    have HB4 := Lib.hid (Below.thenB HB3.out HB3.out.size hb4)
    have HK4 := Lib.hid ((hb4.block w.heap.size (by omega)).trans HK3.out)
    have HJ4 := Lib.hid ((hb4.block (w.heap.size + 1) (by omega)).trans HJ3.out)
    have hs4 : w.heap.size + 1 < w4.heap.size := Nat.lt_of_lt_of_le hs3 hb4.size
    clear e0 e1 e2 e3 e4 e5 f0 f1 f2 f3 f4 f5
    obtain ⟨e0, e1, e2, e3, e4, e5⟩ := six_at HK4.out
    obtain ⟨f0, f1, f2, f3, f4, f5⟩ := six_at HJ4.out
    clear HK3 HJ3 HB3
    go_wp2_with fail
    refine (HA.out _).mono ?_
    rintro e wz ⟨rfl, hbz⟩
    have hB := Below.thenB HB4.out HB4.out.size hbz
    go_wp2
    go_ret
    exact ⟨rfl, hB⟩

  | false =>
  have HT := Lib.hid (HT0.out rfl)
  obtain ⟨t1, t2, t3, t4, t5⟩ := HT1.out rfl
  clear HT0 HT1 t3 t4 t5
  by_cases h100 : 100 < nm.size
  · have d1 : decide ((100 : Int) < (nm.size : Int)) = true := decide_eq_true (by omega)
    go_enter Try.func3, Try.ntmps3
    go_upto_region 1 with fail
    rw [HW1.out, HW2.out]
    go_wp2_with fail
    refine (HG.out _ HB2.out).mono ?_
    rintro e w3 ⟨rfl, hb3⟩
    have HB3 := Lib.hid (Below.thenB HB2.out HB2.out.size hb3)
    have HK3 := Lib.hid ((hb3.block w.heap.size (by omega)).trans HK2.out)
    have HJ3 := Lib.hid ((hb3.block (w.heap.size + 1) (by omega)).trans HJ2.out)
    have hs3 : w.heap.size + 1 < w3.heap.size := Nat.lt_of_lt_of_le hs2 hb3.size
    clear e0 e1 e2 e3 e4 e5 f0 f1 f2 f3 f4 f5
    obtain ⟨e0, e1, e2, e3, e4, e5⟩ := six_at HK3.out
    obtain ⟨f0, f1, f2, f3, f4, f5⟩ := six_at HJ3.out
    clear HK2 HJ2 HB2
    go_wp2_with fail
    refine (HG'.out _ HB3.out).mono ?_
    rintro e w4 ⟨rfl, hb4⟩
    have HB4 := Lib.hid (Below.thenB HB3.out HB3.out.size hb4)
    have HK4 := Lib.hid ((hb4.block w.heap.size (by omega)).trans HK3.out)
    have HJ4 := Lib.hid ((hb4.block (w.heap.size + 1) (by omega)).trans HJ3.out)
    have hs4 : w.heap.size + 1 < w4.heap.size := Nat.lt_of_lt_of_le hs3 hb4.size
    clear e0 e1 e2 e3 e4 e5 f0 f1 f2 f3 f4 f5
    obtain ⟨e0, e1, e2, e3, e4, e5⟩ := six_at HK4.out
    obtain ⟨f0, f1, f2, f3, f4, f5⟩ := six_at HJ4.out
    clear HK3 HJ3 HB3
    go_wp2_with fail
    refine (HA.out _).mono ?_
    rintro e wz ⟨rfl, hbz⟩
    have hB := Below.thenB HB4.out HB4.out.size hbz
    go_wp2
    go_ret
    exact ⟨rfl, hB⟩

  have d1 : decide ((100 : Int) < (nm.size : Int)) = false := decide_eq_false (by omega)
  have hcn := HS.out.1.2.1
  have hin := HS.out.2.2.1
  have hcn' := HT.out.1.2.1
  have hin' := HT.out.2.2.1
  have sS : SSmall S := ⟨by omega, by omega⟩
  have sT : SSmall T := ⟨by omega, by omega⟩
  have hCP := fun W (hb : Below w.heap.size w W) => Copy_any S W (HS.out.below hb) (by omega) (by omega) (fun x hx => by have := P5.out x hx; omega)
  have hST := fun W (hb : Below w.heap.size w W) => ssame_any S T W (HS.out.below hb) (HT.out.below hb) sS sT
  have hRT := fun W (hb : Below w.heap.size w W) => rssame_any S T W (HS.out.below hb) (HT.out.below hb) sS sT
  obtain ⟨X, hX⟩ : ∃ X, X = ssameB S T := ⟨_, rfl⟩
  rw [← hX] at hST hRT
  have hZ := fun W (hb : Below w.heap.size w W) => Zero_any S W (HS.out.below hb) (by omega)
  have hCO := fun W (hb : Below w.heap.size w W) => Col_any S nm W (HS.out.below hb) (by omega)
  have hR1 := fun W (hb : Below w.heap.size w W) => sright_any S W (HS.out.below hb)
  have hR2 := fun W (hb : Below w.heap.size w W) => rsright_any S W (HS.out.below hb) (by omega) (fun x hx => by have := P4.out x hx; omega)
  have hRF := fun b W (hb : Below w.heap.size w W) (hv : Vals W (some ⟨b, 0, none⟩) (zvals S.cs)) => rfits_any S (some ⟨b, 0, none⟩) S.cn S.cn (zvals S.cs) W (HS.out.below hb) (by unfold zvals; rw [List.length_map]; exact hcn) (by omega) hv
  have hfz : srightB S = true → fitsB S.cs (zvals S.cs) = true := by
    intro h
    have hc := (right_parts h).1
    unfold colsB at hc
    simp only [Bool.and_eq_true, List.all_eq_true] at hc
    rw [fitsB_parts]
    simp only [Bool.and_eq_true, List.all_eq_true, decide_eq_true_eq]
    have hk : ∀ x ∈ S.cs, 1 ≤ x.2 ∧ x.2 ≤ 3 := fun x hx => by
      have := hc.1.2 x hx
      unfold colB at this
      simp only [Bool.and_eq_true, decide_eq_true_eq] at this
      exact this.2
    refine ⟨by unfold zvals; rw [List.length_map], fun v hv => ?_, fun p hp => ?_⟩
    · unfold zvals at hv
      obtain ⟨x, hx, rfl⟩ := List.mem_map.1 hv
      have := hk x hx
      unfold zkind
      rw [if_pos this]
      unfold vright
      simp only
      rcases (by omega : x.2 = 1 ∨ x.2 = 2 ∨ x.2 = 3) with e | e | e <;> rw [e] <;> simp <;> first | rfl | decide
    · obtain ⟨i, hi, rfl⟩ := List.mem_iff_getElem.1 hp
      simp only [List.getElem_zip, zvals, List.getElem_map]
      have := hk _ (List.getElem_mem (l := S.cs) (n := i) (by have := hi; simp [List.length_zip] at this; omega))
      unfold zkind
      rw [if_pos this]
  obtain ⟨r, hr⟩ : ∃ r, r = srightB S := ⟨_, rfl⟩
  rw [← hr] at hR1 hR2 hfz
  obtain ⟨F, hF⟩ : ∃ F, F = fitsB S.cs (zvals S.cs) := ⟨_, rfl⟩
  rw [← hF] at hRF hfz
  have HCP := Lib.hid hCP
  have HST := Lib.hid hST
  have HRT := Lib.hid hRT
  have HZ := Lib.hid hZ
  have HCO := Lib.hid hCO
  have HR1 := Lib.hid hR1
  have HR2 := Lib.hid hR2
  have HRF := Lib.hid hRF
  have HFZ := Lib.hid hfz
  have HSS := Lib.hid sS
  have hSC : S.cs.length = S.cn := hcn
  clear hCP hST hRT hX hZ hCO hR1 hR2 hRF hfz hr hF sS sT
  obtain ⟨name, ca, cn, cc, cs, ia, iN, ic, xs, limit, parts, place⟩ := S
  obtain ⟨name', ca', cn', cc', cs', ia', iN', ic', xs', limit', parts', place'⟩ := T
  simp only [] at hcn hin hcn' hin' hSC p1 p2 p3 t1 t2
  simp only [schCells] at HG HG' HCP HST HRT HZ HCO HR1 HR2 HRF HW1 HW2 HK2 HJ2 e0 e1 e2 e3 e4 e5 f0 f1 f2 f3 f4 f5
  have hw1 : IntKind.i64.wrap ((cn : Int) - 1) = (cn : Int) - 1 := by simp [IntKind.wrap, IntKind.bits, IntKind.signed]; omega
  obtain ⟨RP, hRP⟩ : ∃ R, R = posFrom nm 0 cs := ⟨_, rfl⟩
  have HRP := Lib.hid hRP
  have HCS := Lib.hid HS.out.1.1
  obtain ⟨N, hN⟩ : ∃ N, N = namedB nm.data.toList := ⟨_, rfl⟩
  have HN1 := Lib.hid (fun W : World => show Calls Try.prog 16 #[.slice (some ⟨W.heap.size, 0, none⟩) 1 1] (W.alloc (.cells #[.string nm] 9)) fun e w' => e = .returned (.bool N) ∧ Below (W.alloc (.cells #[.string nm] 9)).heap.size (W.alloc (.cells #[.string nm] 9)) w' from by
    have h := Named_any (some ⟨W.heap.size, 0, none⟩) 1 1 [nm] (W.alloc (.cells #[.string nm] 9)) rfl (by decide) (one_text W nm)
    rw [show ([nm].all fun s => namedB s.data.toList) = N by rw [hN]; simp] at h
    exact h)
  have HN2 := Lib.hid (fun W : World => show Calls Try.prog 16 #[.slice (some ⟨W.heap.size, 0, none⟩) 2 2] (W.alloc (.cells #[.string nm, .string ⟨#[97]⟩] 9)) fun e w' => e = .returned (.bool N) ∧ Below (W.alloc (.cells #[.string nm, .string ⟨#[97]⟩] 9)).heap.size (W.alloc (.cells #[.string nm, .string ⟨#[97]⟩] 9)) w' from by
    have h := Named_any (some ⟨W.heap.size, 0, none⟩) 2 2 [nm, ⟨#[97]⟩] (W.alloc (.cells #[.string nm, .string ⟨#[97]⟩] 9)) rfl (by decide) (two_text W nm ⟨#[97]⟩)
    rw [show ([nm, ⟨#[97]⟩].all fun s => namedB s.data.toList) = N by rw [hN]; simp only [List.all_cons, List.all_nil, Bool.and_true]; rw [show namedB (⟨#[97]⟩ : ByteArray).data.toList = true by rfl, Bool.and_true]] at h
    exact h)
  have HRN := Lib.hid (fun W : World => show Calls Try.prog 17 #[.string nm] W fun e w' => e = .returned (.bool N) ∧ W = w' from by rw [hN]; exact rnamed_any nm W (by omega))
  rw [← hRP] at HCO
  clear hRP hN
  go_enter Try.func3, Try.ntmps3
  go_upto_region 1 with fail
  rw [HW1.out, HW2.out]
  clear HW1 HW2
  go_wp2_with fail
  refine (HG.out _ HB2.out).mono ?_
  rintro e w3 ⟨rfl, hb3⟩
  have HB3 := Lib.hid (Below.thenB HB2.out HB2.out.size hb3)
  have HK3 := Lib.hid ((hb3.block w.heap.size (by omega)).trans HK2.out)
  have HJ3 := Lib.hid ((hb3.block (w.heap.size + 1) (by omega)).trans HJ2.out)
  have hs3 : w.heap.size + 1 < w3.heap.size := Nat.lt_of_lt_of_le hs2 hb3.size
  clear e0 e1 e2 e3 e4 e5 f0 f1 f2 f3 f4 f5
  obtain ⟨e0, e1, e2, e3, e4, e5⟩ := six_at HK3.out
  obtain ⟨f0, f1, f2, f3, f4, f5⟩ := six_at HJ3.out
  clear HK2 HJ2 HB2
  go_wp2_with fail
  refine (HG'.out _ HB3.out).mono ?_
  rintro e w4 ⟨rfl, hb4⟩
  have HB4 := Lib.hid (Below.thenB HB3.out HB3.out.size hb4)
  have HK4 := Lib.hid ((hb4.block w.heap.size (by omega)).trans HK3.out)
  have HJ4 := Lib.hid ((hb4.block (w.heap.size + 1) (by omega)).trans HJ3.out)
  have hs4 : w.heap.size + 1 < w4.heap.size := Nat.lt_of_lt_of_le hs3 hb4.size
  clear e0 e1 e2 e3 e4 e5 f0 f1 f2 f3 f4 f5
  obtain ⟨e0, e1, e2, e3, e4, e5⟩ := six_at HK4.out
  obtain ⟨f0, f1, f2, f3, f4, f5⟩ := six_at HJ4.out
  clear HK3 HJ3 HB3
  clear hb3 hb4 HG HG'
  go_wp2
  go_loop [7, 8] (fun av iv => ∃ j : Nat, j ≤ cn ∧ iv = .int .i64 ((j : Int) - 1) ∧ ∃ p : Int, av = .int .i64 p ∧ Hid (p = posFrom nm j (cs.drop j))) (fun _ iv => (intOf iv + 1).toNat)
  case atStart => exact ⟨cn, Nat.le_refl _, rfl, -1, rfl, Lib.hid (posFrom_end (by omega)).symm⟩
  case round =>
    obtain ⟨j, hj, rfl, p, rfl, hp⟩ := hrel
    by_cases hj0 : 1 ≤ j
    · obtain ⟨i, rfl⟩ : ∃ i, j = i + 1 := ⟨j - 1, by omega⟩
      have hii : (((i + 1 : Nat) : Int) - 1) = (i : Int) := by omega
      have hle : decide ((0 : Int) ≤ (i : Int)) = true := decide_eq_true (by omega)
      obtain ⟨b, o, x, rfl, hb, hxk, c0, c1⟩ := Cols.at HCS.out hcn (by omega : i < cn) HB4.out
      have hst := posFrom_step (nm := nm) hxk
      obtain ⟨xn, xk⟩ := x
      simp only [] at c0 c1 hst
      have hi0 : (0 : Int) ≤ (i : Int) := by omega
      have hi1 : (i : Int) < (cn : Int) := by omega
      have hw2 : IntKind.i64.wrap ((i : Int) - 1) = (i : Int) - 1 := by simp [IntKind.wrap, IntKind.bits, IntKind.signed]; omega
      clear hxk
      by_cases he : xn = nm
      · have HN := Lib.hid (show (i : Int) = posFrom nm i (cs.drop i) by rw [hst, if_pos he])
        clear hst hp
        rw [hii]
        go_wp2
        go_round
        case rel => exact ⟨i, by omega, rfl, _, rfl, HN⟩
        case measure => simp [intOf]
      · have hne := bstr_ne he
        have HN := Lib.hid (show p = posFrom nm i (cs.drop i) by rw [hst, if_neg he]; exact hp.out)
        clear hst hp
        rw [hii]
        go_wp2
        go_round
        case rel => exact ⟨i, by omega, rfl, _, rfl, HN⟩
        case measure => simp [intOf]
    · have hj1 : j = 0 := by omega
      subst hj1
      have hle : decide ((0 : Int) ≤ (((0 : Nat) : Int) - 1)) = false := by decide
      have hpr : p = RP := by rw [hp.out, List.drop_zero]; exact HRP.out.symm
      subst hpr
      clear hp hj0 hle
      go_wp2_with fail
      refine (HCP.out _ HB4.out).mono ?_
      rintro e w5 ⟨⟨S', G1, G2, rfl, hat, hsame, ⟨m1, m2⟩, ⟨oc, oc2⟩, oi, yi⟩, hb5⟩
      have hS' : S' = ⟨name, S'.ca, cn, S'.cc, cs, S'.ia, iN, S'.ic, S'.xs, limit, parts, place⟩ := by
        obtain ⟨n1, n2, n3, n4, n5, n6⟩ := hsame
        clear hat oc oc2 oi yi hb5
        cases S'
        simp only [] at m1 m2 n1 n2 n3 n4 n5 n6
        subst n1 n2 n4 n5 n6 m1 m2
        rfl
      have hself := ssame_refl hsame
      have hkeys := hsame.2.2.1
      obtain ⟨ca2, cc2, ia2, ic2, xs2, rfl⟩ : ∃ ca2 cc2 ia2 ic2 xs2, S' = ⟨name, ca2, cn, cc2, cs, ia2, iN, ic2, xs2, limit, parts, place⟩ := ⟨_, _, _, _, _, hS'⟩
      simp only [] at oc oc2 oi yi hkeys
      have HB5 := Lib.hid (Below.thenB HB4.out HB4.out.size hb5)
      have HK5 := Lib.hid ((hb5.block w.heap.size (by omega)).trans HK4.out)
      have HJ5 := Lib.hid ((hb5.block (w.heap.size + 1) (by omega)).trans HJ4.out)
      have hs5 : w.heap.size + 1 < w5.heap.size := Nat.lt_of_lt_of_le hs4 hb5.size
      have hs45 : w.heap.size ≤ w4.heap.size := HB4.out.size
      have HAT := Lib.hid hat
      have OC := Lib.hid oc
      have OC2 := Lib.hid oc2
      have OI := Lib.hid oi
      have YI := Lib.hid yi
      have HKEY := Lib.hid hkeys
      obtain ⟨W6, hW6⟩ : ∃ W, W = w5.alloc (.cells #[.string name, .slice ca2 cn cc2, .slice ia2 iN ic2, .int .i64 limit, .int .i64 parts, .int .i64 place] 25) := ⟨_, rfl⟩
      have hA6 : Below w5.heap.size w5 W6 := by rw [hW6]; exact (Below.refl _ _).alloc (Nat.le_refl _) _
      have hs6 : W6.heap.size = w5.heap.size + 1 := by rw [hW6]; simp
      have hc6 : W6.rowIs w5.heap.size 25 6 (six6 (.string name) (.slice ca2 cn cc2) (.slice ia2 iN ic2) (.int .i64 limit) (.int .i64 parts) (.int .i64 place)) := by rw [hW6]; exact six6_new w5 _ _ _ _ _ _ _
      have hB6 := Below.thenB HB5.out HB5.out.size hA6
      have hC1 := fun W (hb : Below w5.heap.size w5 W) => rssame_any ⟨name, ca2, cn, cc2, cs, ia2, iN, ic2, xs2, limit, parts, place⟩ ⟨name, ca, cn, cc, cs, ia, iN, ic, xs, limit, parts, place⟩ W (HAT.out.below hb) (HS.out.below (Below.thenB HB5.out HB5.out.size hb)) HSS.out HSS.out
      have hC4 := fun W (hb : Below w5.heap.size w5 W) => ssame_any ⟨name, ca2, cn, cc2, cs, ia2, iN, ic2, xs2, limit, parts, place⟩ ⟨name, ca, cn, cc, cs, ia, iN, ic, xs, limit, parts, place⟩ W (HAT.out.below hb) (HS.out.below (Below.thenB HB5.out HB5.out.size hb)) HSS.out HSS.out
      rw [hself] at hC1 hC4
      simp only [schCells] at hC1 hC4
      have HC1 := Lib.hid hC1
      have HC4 := Lib.hid hC4
      have C0 : Below w.heap.size w W6.drew := hB6.drew
      have D0 : Below w5.heap.size w5 W6.drew := hA6.drew
      have z0 : w5.heap.size < W6.drew.heap.size := by show w5.heap.size < W6.heap.size; omega
      have s6 := six_below D0 (by omega) (six_at HK5.out)
      have t6 := six_below D0 (by omega) (six_at HJ5.out)
      have c6 : (W6.drew.cell? ⟨w5.heap.size, 0, none⟩ = some (.string name) ∧ W6.drew.cell? ⟨w5.heap.size, 1, none⟩ = some (.slice ca2 cn cc2) ∧ W6.drew.cell? ⟨w5.heap.size, 2, none⟩ = some (.slice ia2 iN ic2) ∧ W6.drew.cell? ⟨w5.heap.size, 3, none⟩ = some (.int .i64 limit) ∧ W6.drew.cell? ⟨w5.heap.size, 4, none⟩ = some (.int .i64 parts) ∧ W6.drew.cell? ⟨w5.heap.size, 5, none⟩ = some (.int .i64 place)) := (six6_cells hc6).1
      have HC6 := Lib.hid hc6
      have HB6 := Lib.hid hB6
      have HA6 := Lib.hid hA6
      have HW6 := Lib.hid hW6.symm
      simp only [schCells]
      clear hS' hself hkeys hsame hb5 hat oc oc2 oi yi hW6 hA6 hc6 hB6 hC1 hC4 e0 e1 e2 e3 e4 e5 f0 f1 f2 f3 f4 f5 HK4 HJ4 HB4 m1 m2 HCP
      go_upto_region 10 with fail
      rw [HW6.out]
      clear HW6
      have s10 := s6
      have t10 := t6
      have c10 := c6
      clear s6 t6 c6
      go_region_held3 (fun W => W.cell? ⟨w.heap.size, 0, none⟩ = some (.string name) ∧ W.cell? ⟨w.heap.size, 1, none⟩ = some (.slice ca cn cc) ∧ W.cell? ⟨w.heap.size, 2, none⟩ = some (.slice ia iN ic) ∧ W.cell? ⟨w.heap.size, 3, none⟩ = some (.int .i64 limit) ∧ W.cell? ⟨w.heap.size, 4, none⟩ = some (.int .i64 parts) ∧ W.cell? ⟨w.heap.size, 5, none⟩ = some (.int .i64 place) ∧ W.cell? ⟨w.heap.size + 1, 0, none⟩ = some (.string name') ∧ W.cell? ⟨w.heap.size + 1, 1, none⟩ = some (.slice ca' cn' cc') ∧ W.cell? ⟨w.heap.size + 1, 2, none⟩ = some (.slice ia' iN' ic') ∧ W.cell? ⟨w.heap.size + 1, 3, none⟩ = some (.int .i64 limit') ∧ W.cell? ⟨w.heap.size + 1, 4, none⟩ = some (.int .i64 parts') ∧ W.cell? ⟨w.heap.size + 1, 5, none⟩ = some (.int .i64 place') ∧ W.cell? ⟨w5.heap.size, 0, none⟩ = some (.string name) ∧ W.cell? ⟨w5.heap.size, 1, none⟩ = some (.slice ca2 cn cc2) ∧ W.cell? ⟨w5.heap.size, 2, none⟩ = some (.slice ia2 iN ic2) ∧ W.cell? ⟨w5.heap.size, 3, none⟩ = some (.int .i64 limit) ∧ W.cell? ⟨w5.heap.size, 4, none⟩ = some (.int .i64 parts) ∧ W.cell? ⟨w5.heap.size, 5, none⟩ = some (.int .i64 place))
        (first | (with_reducible exact ⟨s14.1, s14.2.1, s14.2.2.1, s14.2.2.2.1, s14.2.2.2.2.1, s14.2.2.2.2.2, t14.1, t14.2.1, t14.2.2.1, t14.2.2.2.1, t14.2.2.2.2.1, t14.2.2.2.2.2, c14.1, c14.2.1, c14.2.2.1, c14.2.2.2.1, c14.2.2.2.2.1, c14.2.2.2.2.2⟩) | (with_reducible exact ⟨s13.1, s13.2.1, s13.2.2.1, s13.2.2.2.1, s13.2.2.2.2.1, s13.2.2.2.2.2, t13.1, t13.2.1, t13.2.2.1, t13.2.2.2.1, t13.2.2.2.2.1, t13.2.2.2.2.2, c13.1, c13.2.1, c13.2.2.1, c13.2.2.2.1, c13.2.2.2.2.1, c13.2.2.2.2.2⟩) | (with_reducible exact ⟨s12.1, s12.2.1, s12.2.2.1, s12.2.2.2.1, s12.2.2.2.2.1, s12.2.2.2.2.2, t12.1, t12.2.1, t12.2.2.1, t12.2.2.2.1, t12.2.2.2.2.1, t12.2.2.2.2.2, c12.1, c12.2.1, c12.2.2.1, c12.2.2.2.1, c12.2.2.2.2.1, c12.2.2.2.2.2⟩) | (with_reducible exact ⟨s11.1, s11.2.1, s11.2.2.1, s11.2.2.2.1, s11.2.2.2.2.1, s11.2.2.2.2.2, t11.1, t11.2.1, t11.2.2.1, t11.2.2.2.1, t11.2.2.2.2.1, t11.2.2.2.2.2, c11.1, c11.2.1, c11.2.2.1, c11.2.2.2.1, c11.2.2.2.2.1, c11.2.2.2.2.2⟩) | go_keep)
        (first
          | (go_at_call 11; refine (HC4.out _ D3).mono ?_; rintro e w14 ⟨rfl, hb4⟩; have C4 := Below.thenB C3 C3.size hb4; have D4 := Below.thenB D3 D3.size hb4; have z4 : w5.heap.size < w14.heap.size := Nat.lt_of_lt_of_le z3 hb4.size; have s14 := six_below hb4 (by omega) s13; have t14 := six_below hb4 (by omega) t13; have c14 := six_below hb4 z3 c13)
          | (go_at_call 10; refine (HRT.out _ C2).mono ?_; rintro e w13 ⟨rfl, hb3⟩; have C3 := Below.thenB C2 C2.size hb3; have D3 := Below.thenB D2 D2.size hb3; have z3 : w5.heap.size < w13.heap.size := Nat.lt_of_lt_of_le z2 hb3.size; have s13 := six_below hb3 (by omega) s12; have t13 := six_below hb3 (by omega) t12; have c13 := six_below hb3 z2 c12)
          | (go_at_call 11; refine (HST.out _ C1).mono ?_; rintro e w12 ⟨rfl, hb2⟩; have C2 := Below.thenB C1 C1.size hb2; have D2 := Below.thenB D1 D1.size hb2; have z2 : w5.heap.size < w12.heap.size := Nat.lt_of_lt_of_le z1 hb2.size; have s12 := six_below hb2 (by omega) s11; have t12 := six_below hb2 (by omega) t11; have c12 := six_below hb2 z1 c11)
          | (go_at_call 10; refine (HC1.out _ D0).mono ?_; rintro e w11 ⟨rfl, hb1⟩; have C1 := Below.thenB C0 C0.size hb1; have D1 := Below.thenB D0 D0.size hb1; have z1 : w5.heap.size < w11.heap.size := Nat.lt_of_lt_of_le z0 hb1.size; have s11 := six_below hb1 (by omega) s10; have t11 := six_below hb1 (by omega) t10; have c11 := six_below hb1 z0 c10))
      obtain ⟨e0, e1, e2, e3, e4, e5⟩ := s14
      obtain ⟨c0, c1, c2, c3, c4, c5⟩ := c14
      have z14' : w.heap.size < w14.heap.size := by omega
      clear t14 s13 t13 c13 s12 t12 c12 s11 t11 c11 s10 t10 c10 C0 C1 C2 C3 D0 D1 D2 D3 hb1 hb2 hb3 hb4 HC1 HC4 HST HRT HK5 HJ5 HC6 HB6 HA6
      obtain ⟨t, ht⟩ : ∃ t, t = (decide (0 < cn) && (decide (0 < iN) && decide (0 < firstN xs2))) := ⟨_, rfl⟩
      have HTT := Lib.hid ht
      clear ht
      go_upto_region 12 with fail
      go_cut [79] (fun s79 W => s79 = .bool t ∧ W = w14)
      case first =>
        by_cases k0 : cn = 0
        · have dk : decide ((0 : Int) < (cn : Int)) = false := decide_eq_false (by omega)
          have dk2 : ¬ 0 < cn := by omega
          have HTF := Lib.hid (show t = false by rw [HTT.out, decide_eq_false dk2]; rfl)
          clear k0
          go_wp2_with fail
          go_meet
          exact ⟨by rw [HTF.out], rfl⟩
        have dk : decide ((0 : Int) < (cn : Int)) = true := decide_eq_true (by omega)
        have dk2 : 0 < cn := by omega
        by_cases k1 : iN = 0
        · have dj : decide ((0 : Int) < (iN : Int)) = false := decide_eq_false (by omega)
          have dj2 : ¬ 0 < iN := by omega
          have HTF := Lib.hid (show t = false by rw [HTT.out, decide_eq_false dj2]; simp)
          clear k1
          go_wp2_with fail
          go_meet
          exact ⟨by rw [HTF.out], rfl⟩
        have dj : decide ((0 : Int) < (iN : Int)) = true := decide_eq_true (by omega)
        have dj2 : 0 < iN := by omega
        obtain ⟨b9, o9, y, hy9, hb9, hyk, y0, y1, _, yl, _, _⟩ := Idxs.at HAT.out.2.1 HAT.out.2.2.1 dj2 D4
        subst hy9
        rw [Nat.zero_mul, Nat.add_zero] at y0 y1
        have hfn := firstN_of hyk
        obtain ⟨ya, yn, yc, yp, yu⟩ := y
        simp only [] at y0 y1 yl hfn
        have HTF := Lib.hid (show t = decide (0 < yn) by rw [HTT.out, decide_eq_true dk2, decide_eq_true dj2, hfn]; simp)
        clear hfn hyk
        by_cases k2 : yn = 0
        · have di : decide ((0 : Int) < (yn : Int)) = false := decide_eq_false (by omega)
          have di2 : ¬ 0 < yn := by omega
          clear k2
          go_wp2_with fail
          go_meet
          exact ⟨by rw [HTF.out, decide_eq_false di2], rfl⟩
        · have di : decide ((0 : Int) < (yn : Int)) = true := decide_eq_true (by omega)
          have di2 : 0 < yn := by omega
          clear k2
          go_wp2_with fail
          go_meet
          exact ⟨by rw [HTF.out, decide_eq_true di2], rfl⟩
      case rest =>
      obtain ⟨rfl, hwc⟩ := hcut
      subst hwc
      go_upto_if 79 with fail
      go_cut [] (fun W => Below w.heap.size w W ∧ w.heap.size < W.heap.size ∧ W.cell? ⟨w.heap.size, 0, none⟩ = some (.string name) ∧ W.cell? ⟨w.heap.size, 1, none⟩ = some (.slice ca cn cc) ∧ W.cell? ⟨w.heap.size, 2, none⟩ = some (.slice ia iN ic) ∧ W.cell? ⟨w.heap.size, 3, none⟩ = some (.int .i64 limit) ∧ W.cell? ⟨w.heap.size, 4, none⟩ = some (.int .i64 parts) ∧ W.cell? ⟨w.heap.size, 5, none⟩ = some (.int .i64 place))
      case first =>
        cases t with
        | false =>
          go_wp2_with fail
          go_meet
          exact ⟨C4, z14', e0, e1, e2, e3, e4, e5⟩
        | true =>
          have htt := HTT.out.symm
          simp only [Bool.and_eq_true, decide_eq_true_eq] at htt
          obtain ⟨dk2, dj2, df2⟩ := htt
          have dk : decide ((0 : Int) < (cn : Int)) = true := decide_eq_true (by omega)
          have dj : decide ((0 : Int) < (iN : Int)) = true := decide_eq_true (by omega)
          obtain ⟨b9, o9, y, hy9, hb9, hyk, y0, y1, _, yl, _, _⟩ := Idxs.at HAT.out.2.1 HAT.out.2.2.1 dj2 D4
          subst hy9
          rw [Nat.zero_mul, Nat.add_zero] at y0 y1
          rw [firstN_of hyk] at df2
          have hyi := YI.out y (List.mem_of_getElem? hyk)
          have OI9 := OI.out _ rfl
          obtain ⟨ya, yn, yc, yp, yu⟩ := y
          simp only [] at y0 y1 yl OI9 df2
          unfold IdxNew at hyi
          simp only [] at hyi
          have di2 : 0 < yn := df2
          have di : decide ((0 : Int) < (yn : Int)) = true := decide_eq_true (by omega)
          obtain ⟨g3, hg3, hg3a, hg3b⟩ := own_some OC.out dk2
          have hg3c : g3 < G1 := OC2.out _ hg3
          obtain ⟨g7, hg7, hg7a, hg7b⟩ := own_some hyi.1 di2
          subst hg3 hg7
          obtain ⟨F3, row3, F3c, F3n⟩ := own_rowIs OC.out
          obtain ⟨F7, row7, F7c, F7n⟩ := own_rowIs hyi.1
          obtain ⟨bs, os, x0, hx0, hbs, hx0k, q0, q1⟩ := Cols.at HCS.out hcn dk2 C4
          subst hx0
          rw [Nat.zero_mul, Nat.add_zero] at q0 q1
          obtain ⟨n0, k0i⟩ := x0
          simp only [] at q0 q1
          obtain ⟨pm1, pm2⟩ := pair_mk (fun x : Col => Value.string x.1) (fun x : Col => Value.int .i64 x.2) cs 0 (n0, k0i) hx0k
          have v30 : F3 0 = .string n0 := F3c 0 _ pm1
          have v31 : F3 1 = .int .i64 k0i := F3c 1 _ pm2
          obtain ⟨p0, hp0⟩ : ∃ p, yp[0]? = some p := ⟨_, List.getElem?_eq_getElem (by omega)⟩
          have v70 : F7 0 = .int .i64 p0 := F7c 0 _ (by rw [List.getElem?_map, hp0]; rfl)
          have rw3 := row3.of_block (D4.block g3 hg3b)
          have rw7 := row7.of_block (D4.block g7 hg7b)
          have ux30 := rw3.cell (i := 0) (by omega)
          have ux31 := rw3.cell (i := 1) (by omega)
          rw [v30] at ux30
          rw [v31] at ux31
          have fz3 := rw3.frozen 1
          have ux70 := rw7.cell (i := 0) (by omega)
          rw [v70] at ux70
          have fz7 := rw7.frozen 0
          obtain ⟨K1, hK1⟩ : ∃ K, K = wrap64 (k0i + 1) := ⟨_, rfl⟩
          obtain ⟨K2, hK2⟩ : ∃ K, K = wrap64 (p0 + 1) := ⟨_, rfl⟩
          have hKn : ¬ K1 = k0i := by rw [hK1]; unfold wrap64; omega
          have hK1' := hK1.symm
          have hK2' := hK2.symm
          have hKe : (k0i == K1) = false := beq_false_of_ne (fun e => hKn e.symm)
          have lt5 : w5.heap.size < wc.heap.size := z4
          have g39 : g3 < b9 := by omega
          have g97 : b9 < g7 := by omega
          have g75 : g7 < w5.heap.size := hg7b
          have gsw : bs < w.heap.size := hbs
          have gw3 : w.heap.size ≤ g3 := by omega
          obtain ⟨w15, hw15⟩ : ∃ W, W = wc.setCell ⟨g3, 1, none⟩ (.int .i64 K1) := ⟨_, rfl⟩
          have k15 : ∀ (B o : Nat), B ≠ g3 → w15.cell? ⟨B, o, none⟩ = wc.cell? ⟨B, o, none⟩ := fun B o h => by rw [hw15]; exact World.cell?_setCell_far _ _ _ _ (by show g3 ≠ B; omega)
          have f15 : w15.frozen? ⟨g7, 0, none⟩ = false := by
            have := rw7.setOther (a := ⟨g3, 1, none⟩) (by show g7 ≠ g3; omega) (.int .i64 K1)
            rw [← hw15] at this
            exact this.frozen 0
          have r15 := rw3.set 1 (.int .i64 K1)
          rw [← hw15] at r15
          have a30 : w15.cell? ⟨g3, 0, none⟩ = some (.string n0) := by have := r15.cell (i := 0) (by omega); rw [if_neg (by decide), v30] at this; exact this
          have a31 : w15.cell? ⟨g3, 1, none⟩ = some (.int .i64 K1) := by have := r15.cell (i := 1) (by omega); rw [if_pos rfl] at this; exact this
          have hs15 : w15.heap.size = wc.heap.size := by rw [hw15]; simp
          have C15 : Below w.heap.size w w15 := by rw [hw15]; exact C4.setCell (by show w.heap.size ≤ g3; omega) _
          have a70 := (k15 g7 0 (by omega)).trans ux70
          have a90 := (k15 b9 o9 (by omega)).trans y0
          have ac0 := (k15 w5.heap.size 0 (by omega)).trans c0
          have ac1 := (k15 w5.heap.size 1 (by omega)).trans c1
          have ac2 := (k15 w5.heap.size 2 (by omega)).trans c2
          have ac3 := (k15 w5.heap.size 3 (by omega)).trans c3
          have ac4 := (k15 w5.heap.size 4 (by omega)).trans c4
          have ac5 := (k15 w5.heap.size 5 (by omega)).trans c5
          obtain ⟨w16, hw16⟩ : ∃ W, W = w15.setCell ⟨g7, 0, none⟩ (.int .i64 K2) := ⟨_, rfl⟩
          have k16 : ∀ (B o : Nat), B ≠ g7 → w16.cell? ⟨B, o, none⟩ = w15.cell? ⟨B, o, none⟩ := fun B o h => by rw [hw16]; exact World.cell?_setCell_far _ _ _ _ (by show g7 ≠ B; omega)
          have hs16 : w16.heap.size = wc.heap.size := by rw [hw16]; simp [hs15]
          have C16 : Below w.heap.size w w16 := by rw [hw16]; exact C15.setCell (by show w.heap.size ≤ g7; omega) _
          have hw16' : w15.setCell ⟨g7, 0, none⟩ (.int .i64 K2) = w16 := hw16.symm
          have hw15' : wc.setCell ⟨g3, 1, none⟩ (.int .i64 K1) = w15 := hw15.symm
          have HW16 := Lib.hid hw16'
          have HW15 := Lib.hid hw15'
          have bc0 := (k16 w5.heap.size 0 (by omega)).trans ac0
          have bc1 := (k16 w5.heap.size 1 (by omega)).trans ac1
          have bc2 := (k16 w5.heap.size 2 (by omega)).trans ac2
          have bc3 := (k16 w5.heap.size 3 (by omega)).trans ac3
          have bc4 := (k16 w5.heap.size 4 (by omega)).trans ac4
          have bc5 := (k16 w5.heap.size 5 (by omega)).trans ac5
          have be0 := (k16 w.heap.size 0 (by omega)).trans ((k15 w.heap.size 0 (by omega)).trans e0)
          have be1 := (k16 w.heap.size 1 (by omega)).trans ((k15 w.heap.size 1 (by omega)).trans e1)
          have be2 := (k16 w.heap.size 2 (by omega)).trans ((k15 w.heap.size 2 (by omega)).trans e2)
          have be3 := (k16 w.heap.size 3 (by omega)).trans ((k15 w.heap.size 3 (by omega)).trans e3)
          have be4 := (k16 w.heap.size 4 (by omega)).trans ((k15 w.heap.size 4 (by omega)).trans e4)
          have be5 := (k16 w.heap.size 5 (by omega)).trans ((k15 w.heap.size 5 (by omega)).trans e5)
          have b30 := (k16 g3 0 (by omega)).trans a30
          have b31 := (k16 g3 1 (by omega)).trans a31
          have bq0 := (k16 bs os (by omega)).trans ((k15 bs os (by omega)).trans q0)
          have bq1 := (k16 bs (os + 1) (by omega)).trans ((k15 bs (os + 1) (by omega)).trans q1)
          have HKD := Lib.hid (rssame_kind name n0 g3 bs os cn cc2 cc iN ic2 ic (some ⟨b9, o9, none⟩) ia limit parts place K1 k0i w16.drew dk2 (by omega) (by omega) hKn b30 b31 bq0 bq1)
          have E0 : Below w.heap.size w w16.drew := C16.drew
          have hz0 : w.heap.size < w16.drew.heap.size := by show w.heap.size < w16.heap.size; omega
          have hz5 : w5.heap.size < w16.drew.heap.size := by show w5.heap.size < w16.heap.size; omega
          have hzs : bs < w16.drew.heap.size := by show bs < w16.heap.size; omega
          have hz3 : g3 < w16.drew.heap.size := by show g3 < w16.heap.size; omega
          have HD0 := Lib.hid (show w16.drew.cell? ⟨w.heap.size, 0, none⟩ = some (.string name) ∧ w16.drew.cell? ⟨w.heap.size, 1, none⟩ = some (.slice (some ⟨bs, os, none⟩) cn cc) ∧ w16.drew.cell? ⟨w.heap.size, 2, none⟩ = some (.slice ia iN ic) ∧ w16.drew.cell? ⟨w.heap.size, 3, none⟩ = some (.int .i64 limit) ∧ w16.drew.cell? ⟨w.heap.size, 4, none⟩ = some (.int .i64 parts) ∧ w16.drew.cell? ⟨w.heap.size, 5, none⟩ = some (.int .i64 place) from ⟨be0, be1, be2, be3, be4, be5⟩)
          have HD1 := Lib.hid (show w16.drew.cell? ⟨w5.heap.size, 0, none⟩ = some (.string name) ∧ w16.drew.cell? ⟨w5.heap.size, 1, none⟩ = some (.slice (some ⟨g3, 0, none⟩) cn cc2) ∧ w16.drew.cell? ⟨w5.heap.size, 2, none⟩ = some (.slice (some ⟨b9, o9, none⟩) iN ic2) ∧ w16.drew.cell? ⟨w5.heap.size, 3, none⟩ = some (.int .i64 limit) ∧ w16.drew.cell? ⟨w5.heap.size, 4, none⟩ = some (.int .i64 parts) ∧ w16.drew.cell? ⟨w5.heap.size, 5, none⟩ = some (.int .i64 place) from ⟨bc0, bc1, bc2, bc3, bc4, bc5⟩)
          have HD2 := Lib.hid (show w16.drew.cell? ⟨bs, os + 1, none⟩ = some (.int .i64 k0i) ∧ w16.drew.cell? ⟨g3, 1, none⟩ = some (.int .i64 K1) from ⟨bq1, b31⟩)
          clear k15 k16 hw15 hw16 hw15' hw16' hK1 hK2 hKn r15 row3 row7 rw3 rw7 F3c F7c v30 v31 v70 pm1 pm2 hp0 hx0k hyi hyk y1 q0 q1 HCS ux30 C4 D4 C15 C16
          go_upto_region 14 with fail
          rw [HW15.out]
          clear ux31 fz3 c0 c1 c2 c3 c4 c5 e0 e1 e2 e3 e4 e5
          go_upto_region 15 with fail
          rw [HW16.out]
          clear ac0 ac1 ac2 ac3 ac4 ac5 a30 a31 a70 a90 f15
          have hidx : (0 : Int) < (cn : Int) := by omega
          obtain ⟨j0, j1, j2, j3, j4, j5⟩ := HD0.out
          obtain ⟨l0, l1, l2, l3, l4, l5⟩ := HD1.out
          obtain ⟨m0, m1⟩ := HD2.out
          go_region_held3 (fun W => W.cell? ⟨w.heap.size, 0, none⟩ = some (.string name) ∧ W.cell? ⟨w.heap.size, 1, none⟩ = some (.slice (some ⟨bs, os, none⟩) cn cc) ∧ W.cell? ⟨w.heap.size, 2, none⟩ = some (.slice ia iN ic) ∧ W.cell? ⟨w.heap.size, 3, none⟩ = some (.int .i64 limit) ∧ W.cell? ⟨w.heap.size, 4, none⟩ = some (.int .i64 parts) ∧ W.cell? ⟨w.heap.size, 5, none⟩ = some (.int .i64 place) ∧ W.cell? ⟨w5.heap.size, 0, none⟩ = some (.string name) ∧ W.cell? ⟨w5.heap.size, 1, none⟩ = some (.slice (some ⟨g3, 0, none⟩) cn cc2) ∧ W.cell? ⟨w5.heap.size, 2, none⟩ = some (.slice (some ⟨b9, o9, none⟩) iN ic2) ∧ W.cell? ⟨w5.heap.size, 3, none⟩ = some (.int .i64 limit) ∧ W.cell? ⟨w5.heap.size, 4, none⟩ = some (.int .i64 parts) ∧ W.cell? ⟨w5.heap.size, 5, none⟩ = some (.int .i64 place) ∧ W.cell? ⟨bs, os + 1, none⟩ = some (.int .i64 k0i) ∧ W.cell? ⟨g3, 1, none⟩ = some (.int .i64 K1))
            (first | (with_reducible exact ⟨r0.1, r0.2.1, r0.2.2.1, r0.2.2.2.1, r0.2.2.2.2.1, r0.2.2.2.2.2, r1.1, r1.2.1, r1.2.2.1, r1.2.2.2.1, r1.2.2.2.2.1, r1.2.2.2.2.2, r2, r3⟩) | go_keep)
            ((go_at_call 10; refine HKD.out.mono ?_; rintro e w17 ⟨rfl, hb17⟩; have C17 := Below.thenB E0 E0.size hb17; have z17 : w.heap.size < w17.heap.size := Nat.lt_of_lt_of_le hz0 hb17.size; have r0 := six_below hb17 hz0 HD0.out; have r1 := six_below hb17 hz5 HD1.out; have r2 := (hb17.cell (p := ⟨bs, os + 1, none⟩) hzs).trans HD2.out.1; have r3 := (hb17.cell (p := ⟨g3, 1, none⟩) hz3).trans HD2.out.2))
          all_goals
            have HR0 := Lib.hid r0
            have HC17 := Lib.hid C17
            clear r0 r1 r2 r3 C17 hb17 j0 j1 j2 j3 j4 j5 l0 l1 l2 l3 l4 l5 m0 m1 E0 hz0 hz5 hzs hz3
            go_wp2_with fail
            go_meet
            exact ⟨HC17.out, z17, HR0.out.1, HR0.out.2.1, HR0.out.2.2.1, HR0.out.2.2.2.1, HR0.out.2.2.2.2.1, HR0.out.2.2.2.2.2⟩
      case rest =>
      clear e0 e1 e2 e3 e4 e5 c0 c1 c2 c3 c4 c5 C4 D4 z4 z14' HAT OC OC2 OI YI HKEY HTT
      obtain ⟨CX, zx, e0, e1, e2, e3, e4, e5⟩ := hcut
      go_wp2_with fail
      refine (HZ.out _ CX).mono ?_
      rintro e w20 ⟨⟨zb, rfl, zv⟩, hb20⟩
      have C20 := Below.thenB CX CX.size hb20
      have z20 : w.heap.size < w20.heap.size := Nat.lt_of_lt_of_le zx hb20.size
      have s20 := six_below hb20 zx ⟨e0, e1, e2, e3, e4, e5⟩
      have ZV := Lib.hid zv
      clear e0 e1 e2 e3 e4 e5 hb20 zv HZ
      obtain ⟨e0, e1, e2, e3, e4, e5⟩ := s20
      go_upto_region 18 with fail
      go_cut [130] (fun s130 W => s130 = .bool false ∧ Below w.heap.size w W ∧ w.heap.size < W.heap.size ∧ W.cell? ⟨w.heap.size, 0, none⟩ = some (.string name) ∧ W.cell? ⟨w.heap.size, 1, none⟩ = some (.slice ca cn cc) ∧ W.cell? ⟨w.heap.size, 2, none⟩ = some (.slice ia iN ic) ∧ W.cell? ⟨w.heap.size, 3, none⟩ = some (.int .i64 limit) ∧ W.cell? ⟨w.heap.size, 4, none⟩ = some (.int .i64 parts) ∧ W.cell? ⟨w.heap.size, 5, none⟩ = some (.int .i64 place))
      case first =>
        go_wp2_with fail
        refine (HR2.out _ C20).mono ?_
        rintro e w21 ⟨rfl, hb21⟩
        have C21 := Below.thenB C20 C20.size hb21
        have z21 : w.heap.size < w21.heap.size := Nat.lt_of_lt_of_le z20 hb21.size
        have s21 := six_below hb21 z20 ⟨e0, e1, e2, e3, e4, e5⟩
        have ZV2 := Lib.hid (ZV.out.below hb21)
        clear e0 e1 e2 e3 e4 e5 hb21 ZV
        obtain ⟨e0, e1, e2, e3, e4, e5⟩ := s21
        cases r with
        | false =>
          go_wp2_with fail
          go_meet
          exact ⟨rfl, C21, z21, e0, e1, e2, e3, e4, e5⟩
        | true =>
          have hFt := HFZ.out rfl
          subst hFt
          go_wp2_with fail
          refine (HRF.out zb _ C21 ZV2.out).mono ?_
          rintro e w22 ⟨rfl, hb22⟩
          have C22 := Below.thenB C21 C21.size hb22
          have z22 : w.heap.size < w22.heap.size := Nat.lt_of_lt_of_le z21 hb22.size
          have s22 := six_below hb22 z21 ⟨e0, e1, e2, e3, e4, e5⟩
          clear e0 e1 e2 e3 e4 e5 hb22
          obtain ⟨e0, e1, e2, e3, e4, e5⟩ := s22
          go_wp2_with fail
          go_meet
          exact ⟨rfl, C22, z22, e0, e1, e2, e3, e4, e5⟩
      case rest =>
      clear e0 e1 e2 e3 e4 e5 HRF HFZ ZV C20 z20
      obtain ⟨rfl, C22, z22, e0, e1, e2, e3, e4, e5⟩ := hcut
      have s40 : wc.drew.cell? ⟨w.heap.size, 0, none⟩ = some (.string name) ∧ wc.drew.cell? ⟨w.heap.size, 1, none⟩ = some (.slice ca cn cc) ∧ wc.drew.cell? ⟨w.heap.size, 2, none⟩ = some (.slice ia iN ic) ∧ wc.drew.cell? ⟨w.heap.size, 3, none⟩ = some (.int .i64 limit) ∧ wc.drew.cell? ⟨w.heap.size, 4, none⟩ = some (.int .i64 parts) ∧ wc.drew.cell? ⟨w.heap.size, 5, none⟩ = some (.int .i64 place) := ⟨e0, e1, e2, e3, e4, e5⟩
      have Q0 : Below w.heap.size w wc.drew := C22.drew
      have z40 : w.heap.size < wc.drew.heap.size := z22
      go_wp2_with fail
      go_region_held3 (fun W => W.cell? ⟨w.heap.size, 0, none⟩ = some (.string name) ∧ W.cell? ⟨w.heap.size, 1, none⟩ = some (.slice ca cn cc) ∧ W.cell? ⟨w.heap.size, 2, none⟩ = some (.slice ia iN ic) ∧ W.cell? ⟨w.heap.size, 3, none⟩ = some (.int .i64 limit) ∧ W.cell? ⟨w.heap.size, 4, none⟩ = some (.int .i64 parts) ∧ W.cell? ⟨w.heap.size, 5, none⟩ = some (.int .i64 place))
        (first | (with_reducible exact s48) | (with_reducible exact s47) | (with_reducible exact s45) | (with_reducible exact s43) | (with_reducible exact s42) | (with_reducible exact s41) | go_keep)
        (first
          | (go_at_call 8; refine (HA.out _).mono ?_; rintro e w48 ⟨rfl, hb8⟩; have Q8 := Below.thenB Q7 Q7.size hb8; have z48 : w.heap.size < w48.heap.size := Nat.lt_of_lt_of_le z47 hb8.size; have s48 := six_below hb8 z47 s47)
          | (go_at_call 18; refine (HCO.out _ Q5).mono ?_; rintro e w47 ⟨rfl, hb7⟩; have Q7 := Below.thenB Q5 Q5.size hb7; have z47 : w.heap.size < w47.heap.size := Nat.lt_of_lt_of_le z45 hb7.size; have s47 := six_below hb7 z45 s45)
          | (go_at_call 17; refine (HRN.out _).mono ?_; rintro e wq ⟨rfl, rfl⟩)
          | (go_at_call 16; refine (HN2.out w43).mono ?_; rintro e w45 ⟨rfl, hb5⟩; have A5 := (Below.refl w43.heap.size w43).alloc (Nat.le_refl _) (.cells #[.string nm, .string ⟨#[97]⟩] 9); have Q5 := Below.thenB (Below.thenB Q3 Q3.size A5) (Nat.le_trans Q3.size A5.size) hb5; have z45 : w.heap.size < w45.heap.size := Nat.lt_of_lt_of_le (Nat.lt_of_lt_of_le z43 A5.size) hb5.size; have s45 := six_below hb5 (Nat.lt_of_lt_of_le z43 A5.size) (six_below A5 z43 s43))
          | (go_at_call 16; refine (HN1.out w42).mono ?_; rintro e w43 ⟨rfl, hb3⟩; have A3 := (Below.refl w42.heap.size w42).alloc (Nat.le_refl _) (.cells #[.string nm] 9); have Q3 := Below.thenB (Below.thenB Q2 Q2.size A3) (Nat.le_trans Q2.size A3.size) hb3; have z43 : w.heap.size < w43.heap.size := Nat.lt_of_lt_of_le (Nat.lt_of_lt_of_le z42 A3.size) hb3.size; have s43 := six_below hb3 (Nat.lt_of_lt_of_le z42 A3.size) (six_below A3 z42 s42))
          | (go_at_call 13; refine (HR2.out _ Q1).mono ?_; rintro e w42 ⟨rfl, hb2⟩; have Q2 := Below.thenB Q1 Q1.size hb2; have z42 : w.heap.size < w42.heap.size := Nat.lt_of_lt_of_le z41 hb2.size; have s42 := six_below hb2 z41 s41)
          | (go_at_call 15; refine (HR1.out _ Q0).mono ?_; rintro e w41 ⟨rfl, hb1⟩; have Q1 := Below.thenB Q0 Q0.size hb1; have z41 : w.heap.size < w41.heap.size := Nat.lt_of_lt_of_le z40 hb1.size; have s41 := six_below hb1 z40 s40))
      all_goals
        have HQ8 := Lib.hid Q8
        clear e0 e1 e2 e3 e4 e5 s40 s41 s42 s43 s45 s47 s48 z40 z41 z42 z43 z45 z47 z48 Q0 Q1 Q2 Q3 Q5 Q7 Q8 hb1 hb2 hb3 hb5 hb7 hb8 A3 A5
        go_wp2
        go_ret
        exact ⟨rfl, HQ8.out⟩

end Go.Proofs.Ytapnkbamilkpoaa
