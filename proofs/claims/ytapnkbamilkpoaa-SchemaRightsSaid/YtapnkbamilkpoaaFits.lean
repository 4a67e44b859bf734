/- Contracts of schema: fits. -/
import Derived.Test.YtapnkbamilkpoaaSch6
import Derived.Test.YtapnkbamilkpoaaOwn3
namespace Go.Proofs.Ytapnkbamilkpoaa
open Go.RowKit
def fit1 (p : Col × Val) : Bool := decide (p.2.1 = p.1.2) && vright p.2
def fitsB (cs : List Col) (vs : List Val) : Bool := decide (cs.length = vs.length) && (cs.zip vs).all fit1
set_option maxRecDepth 100000 in
set_option maxHeartbeats 1000000 in
theorem fits1_any (x : Col) (v : Val) (w : World) : Calls Try.prog 63 #[.agg #[.string x.1, .int .i64 x.2], .agg #[.int .i64 v.1, .int .i64 v.2.1, .string v.2.2]] w fun e w' => e = .returned (.bool (fit1 (x, v))) ∧ Below w.heap.size w w' := by
  obtain ⟨xn, xk⟩ := x
  obtain ⟨k, n, s⟩ := v
  unfold fit1
  simp only []
  obtain ⟨W1, hW1⟩ : ∃ W1, W1 = w.alloc (.cells #[.string xn, .int .i64 xk] 29) := ⟨_, rfl⟩
  have hA1 : Below w.heap.size w W1 := by rw [hW1]; exact (Below.refl _ _).alloc (Nat.le_refl _) _
  have hk1 : W1.heap[w.heap.size]? = some (.cells #[.string xn, .int .i64 xk] 29 (0, 0)) := by rw [hW1]; exact Array.getElem?_push_size
  have hs1 : W1.heap.size = w.heap.size + 1 := by rw [hW1]; simp
  obtain ⟨W2, hW2⟩ : ∃ W2, W2 = W1.alloc (.cells #[.int .i64 k, .int .i64 n, .string s] 55) := ⟨_, rfl⟩
  have hA2 : Below W1.heap.size W1 W2 := by rw [hW2]; exact (Below.refl _ _).alloc (Nat.le_refl _) _
  have hk2 : W2.heap[w.heap.size + 1]? = some (.cells #[.int .i64 k, .int .i64 n, .string s] 55 (0, 0)) := by rw [hW2, ← hs1]; exact Array.getElem?_push_size
  have hk12 := (hA2.block w.heap.size (by omega)).trans hk1
  have hs2 : W2.heap.size = w.heap.size + 2 := by rw [hW2]; simp [hs1]
  have hB2 := Below.thenB hA1 (by omega) hA2
  obtain ⟨W3, hW3⟩ : ∃ W3, W3 = W2.alloc (.cells #[.int .i64 k, .int .i64 n, .string s] 55) := ⟨_, rfl⟩
  have hA3 : Below W2.heap.size W2 W3 := by rw [hW3]; exact (Below.refl _ _).alloc (Nat.le_refl _) _
  have hr := right_all (some ⟨W2.heap.size, 0, none⟩) 1 1 [(k, n, s)] W3 rfl (by omega) (by
    rw [hW3]
    refine .inr ⟨by simp, W2.heap.size, 0, rfl, by simp, fun i v hi => ?_⟩
    cases i with
    | zero => simp at hi; subst hi; exact ⟨by go_simp, by go_simp, by go_simp⟩
    | succ i => simp at hi)
  rw [hs2, show [(k, n, s)].all vright = vright (k, n, s) by simp] at hr
  have HRI := Lib.hid hr
  have HB2 := Lib.hid hB2
  have HB3 := Lib.hid (Below.thenB hB2 (by omega) hA3)
  have HW1 := Lib.hid hW1.symm
  have HW2 := Lib.hid hW2.symm
  have HW3 := Lib.hid hW3.symm
  have d1 := Lib.cell_of_heap hk12 1
  have e0 := Lib.cell_of_heap hk2 0
  have e1 := Lib.cell_of_heap hk2 1
  have e2 := Lib.cell_of_heap hk2 2
  clear hA1 hA2 hA3 hk1 hk2 hk12 hr hW1 hW2 hW3 hB2
  by_cases hkk : k = xk
  · subst hkk
    rw [decide_eq_true rfl, Bool.true_and]
    generalize vright (k, n, s) = r at HRI ⊢
    go_enter Try.func63, Try.ntmps63
    go_upto_region 1 with fail
    rw [HW1.out, HW2.out]
    go_wp2_with fail
    rw [HW3.out]
    refine HRI.out.mono ?_
    rintro e w4 ⟨rfl, hb4⟩
    have hB := Below.thenB HB3.out HB3.out.size hb4
    go_wp2
    go_ret
    exact ⟨rfl, hB⟩
  · rw [decide_eq_false hkk, Bool.false_and]
    have hkb : (k == xk) = false := beq_false_of_ne hkk
    go_enter Try.func63, Try.ntmps63
    go_upto_region 1 with fail
    rw [HW1.out, HW2.out]
    go_wp2
    go_ret
    exact ⟨rfl, HB2.out⟩
set_option maxRecDepth 100000 in
set_option maxHeartbeats 2000000 in
theorem eqf_any (a : Option Addr) (m c : Nat) (cs : List Col) (a' : Option Addr) (m' c' : Nat) (vs : List Val) (w : World) (hl : cs.length = m) (hm : m ≤ 281474976710656) (hl' : vs.length = m') (hc : Cols w a cs) (hv : Vals w a' vs) :
    Calls Try.prog 62 #[.slice a m c, .slice a' m' c', .func (.func 63) #[] #[]] w fun e w' => e = .returned (.bool (fitsB cs vs)) ∧ Below w.heap.size w w' := by
  obtain ⟨R, hR⟩ : ∃ R, R = fitsB cs vs := ⟨_, rfl⟩
  rw [← hR]
  by_cases hmm : m = m'
  · subst hmm
    have HR := Lib.hid hR
    have HL := Lib.hid hl
    have HL' := Lib.hid hl'
    have HC := Lib.hid hc
    have HV := Lib.hid hv
    clear hR hl hl' hc hv
    go_enter Try.func62, Try.ntmps62
    go_wp2
    go_loopw [17] (fun i wr => ∃ k : Nat, k ≤ m ∧ i = .int .i64 (k : Int) ∧ Hid (((cs.zip vs).take k).all fit1 = true) ∧ Below w.heap.size w wr) (fun i _ => m - (intOf i).toNat)
    case atStart => exact ⟨0, Nat.zero_le _, rfl, Lib.hid (by simp), Below.refl _ _⟩
    case round =>
      obtain ⟨k, hk, rfl, hall, hbel⟩ := hrel
      have hsz := hbel.size
      by_cases hlt : k < m
      · have hlt' : decide ((k : Int) < (m : Int)) = true := decide_eq_true (by omega)
        obtain ⟨b, o, x, rfl, hb, hxk, c0, c1⟩ := Cols.at HC.out HL.out hlt hbel
        obtain ⟨b', o', v, rfl, hb', hvk, e0, e1, e2⟩ := Vals.at3 HV.out HL'.out hlt hbel
        obtain ⟨xn, xk⟩ := x
        obtain ⟨vk, vn, vt⟩ := v
        simp only [] at c0 c1 e0 e1 e2
        have hzk : (cs.zip vs)[k]? = some ((xn, xk), (vk, vn, vt)) := by rw [List.getElem?_zip_eq_some]; exact ⟨hxk, hvk⟩
        obtain ⟨W2, hW2⟩ : ∃ W2, W2 = wr.alloc (.cells #[.string xn, .int .i64 xk] 29) := ⟨_, rfl⟩
        obtain ⟨W3, hW3⟩ : ∃ W3, W3 = W2.alloc (.cells #[.int .i64 vk, .int .i64 vn, .string vt] 55) := ⟨_, rfl⟩
        have hA2 : Below wr.heap.size wr W2 := by rw [hW2]; exact (Below.refl _ _).alloc (Nat.le_refl _) _
        have hA3 : Below W2.heap.size W2 W3 := by rw [hW3]; exact (Below.refl _ _).alloc (Nat.le_refl _) _
        have hs2 : W2.heap.size = wr.heap.size + 1 := by rw [hW2]; simp
        have hk2 : W2.heap[wr.heap.size]? = some (.cells #[.string xn, .int .i64 xk] 29 (0, 0)) := by rw [hW2]; exact Array.getElem?_push_size
        have hk3 : W3.heap[wr.heap.size + 1]? = some (.cells #[.int .i64 vk, .int .i64 vn, .string vt] 55 (0, 0)) := by rw [hW3, ← hs2]; exact Array.getElem?_push_size
        have hk23 := (hA3.block wr.heap.size (by omega)).trans hk2
        have hq0 : (0 : Int) ≤ (k : Int) := by omega
        have hq1 : (k : Int) < (m : Int) := by omega
        have hbx' : b' < wr.heap.size := Nat.lt_of_lt_of_le hb' hsz
        have g0 := (hA2.cell (p := ⟨b', o' + k * 3, none⟩) hbx').trans e0
        have g1 := (hA2.cell (p := ⟨b', o' + k * 3 + 1, none⟩) hbx').trans e1
        have g2 := (hA2.cell (p := ⟨b', o' + k * 3 + 2, none⟩) hbx').trans e2
        have p0 := Lib.cell_of_heap hk23 0
        have p1 := Lib.cell_of_heap hk23 1
        have r0 := Lib.cell_of_heap hk3 0
        have r1 := Lib.cell_of_heap hk3 1
        have r2 := Lib.cell_of_heap hk3 2
        have hcall := fits1_any (xn, xk) (vk, vn, vt) W3
        obtain ⟨t, ht⟩ : ∃ t, t = fit1 ((xn, xk), (vk, vn, vt)) := ⟨_, rfl⟩
        rw [← ht] at hcall
        simp only [] at hcall
        have HCL := Lib.hid hcall
        have HB3 := Lib.hid (Below.thenB (Below.thenB hbel hsz hA2) (by omega) hA3)
        have HW2 := Lib.hid hW2.symm
        have HW3 := Lib.hid hW3.symm
        cases t with
        | true =>
          have hall' : Hid (((cs.zip vs).take (k + 1)).all fit1 = true) := by
            show ((cs.zip vs).take (k + 1)).all fit1 = true
            rw [List.take_add_one, hzk, List.all_append, hall.out]
            simpa using ht.symm
          clear hcall ht hzk hxk hvk hbel hA2 hA3 hk2 hk3 hk23 hW2 hW3 hall
          go_upto_region 6 with fail
          rw [HW2.out]
          go_upto_region 7 with fail
          rw [HW3.out]
          go_wp2_with fail
          refine HCL.out.mono ?_
          rintro e w4 ⟨rfl, hb4⟩
          have HB4 := Lib.hid (Below.thenB HB3.out HB3.out.size hb4)
          clear hb4 HB3 HCL HW2 HW3 c0 c1 e0 e1 e2 g0 g1 g2 p0 p1 r0 r1 r2
          go_wp2
          go_roundw
          case rel => exact ⟨k + 1, by omega, by go_num, hall', HB4.out⟩
          case measure => simp [intOf]; omega
        | false =>
          have HF := Lib.hid (show R = false by
            rw [HR.out]; unfold fitsB
            rw [List.all_eq_false.2 ⟨_, List.mem_of_getElem? hzk, by rw [← ht]; decide⟩, Bool.and_false])
          clear hcall ht hzk hxk hvk hbel hA2 hA3 hk2 hk3 hk23 hW2 hW3 hall
          go_upto_region 6 with fail
          rw [HW2.out]
          go_upto_region 7 with fail
          rw [HW3.out]
          go_wp2_with fail
          refine HCL.out.mono ?_
          rintro e w4 ⟨rfl, hb4⟩
          have HB4 := Lib.hid (Below.thenB HB3.out HB3.out.size hb4)
          clear hb4
          go_wp2
          go_ret
          exact ⟨by rw [HF.out]; rfl, HB4.out⟩
      · have hlt' : decide ((k : Int) < (m : Int)) = false := decide_eq_false (by omega)
        have HT := Lib.hid (show R = true by
          have := hall.out
          rw [List.take_of_length_le (by rw [List.length_zip, HL.out, HL'.out]; omega)] at this
          rw [HR.out]; unfold fitsB
          rw [this, HL.out, HL'.out]; simp)
        have HBL := Lib.hid hbel
        clear hall hbel
        go_wp2
        go_ret
        exact ⟨by rw [HT.out]; rfl, HBL.out⟩
  · have HF := Lib.hid (show R = false by rw [hR]; unfold fitsB; rw [hl, hl', decide_eq_false hmm]; rfl)
    have hd : ¬ (m : Int) = (m' : Int) := by omega
    clear hR hl hl' hc hv
    go_enter Try.func62, Try.ntmps62
    go_wp2
    go_ret
    exact ⟨by rw [HF.out]; rfl, Below.refl _ _⟩
set_option maxHeartbeats 1000000 in
theorem fits_any (S : Sch) (a' : Option Addr) (m' c' : Nat) (vs : List Val) (w : World) (hS : SchAt w S) (hl' : vs.length = m') (hv : Vals w a' vs) :
    Calls Try.prog 45 #[.agg (schCells S), .slice a' m' c'] w fun e w' => e = .returned (.bool (fitsB S.cs vs)) ∧ Below w.heap.size w w' := by
  obtain ⟨name, ca, cn, cc, cs, ia, iN, ic, xs, limit, parts, place⟩ := S
  obtain ⟨⟨hc1, hc2, hc3, hc4⟩, _⟩ := hS
  simp only [] at hc1 hc2 hc3 hc4
  unfold schCells
  simp only []
  have hA1 : Below w.heap.size w (w.alloc (.cells #[.string name, .slice ca cn cc, .slice ia iN ic, .int .i64 limit, .int .i64 parts, .int .i64 place] 25)) := (Below.refl _ _).alloc (Nat.le_refl _) _
  have HE := Lib.hid (eqf_any ca cn cc cs a' m' c' vs _ hc2 hc4 hl' (hc1.below hA1) (hv.below hA1))
  have HA := Lib.hid hA1
  clear hc1 hv hA1
  go_enter Try.func45, Try.ntmps45
  go_wp2_with fail
  refine HE.out.mono ?_
  rintro e w2 ⟨rfl, hb2⟩
  have hB := Below.thenB HA.out HA.out.size hb2
  go_wp2
  go_ret
  exact ⟨rfl, hB⟩
end Go.Proofs.Ytapnkbamilkpoaa
