/- The document's Fits, of schemas. -/
import Derived.Test.YtapnkbamilkpoaaSRef1
namespace Go.Proofs.Ytapnkbamilkpoaa
open Go.RowKit
theorem fitsB_parts (cs : List Col) (vs : List Val) : fitsB cs vs = (decide (cs.length = vs.length) && (vs.all vright && (cs.zip vs).all (fun p => decide (p.2.1 = p.1.2)))) := by
  unfold fitsB
  by_cases hl : cs.length = vs.length
  · rw [decide_eq_true hl, Bool.true_and, Bool.true_and, Bool.eq_iff_iff, Bool.and_eq_true, List.all_eq_true, List.all_eq_true, List.all_eq_true]
    constructor
    · intro h
      refine ⟨fun v hv => ?_, fun p hp => ?_⟩
      · obtain ⟨i, hi, rfl⟩ := List.mem_iff_getElem.1 hv
        have hz : (cs.zip vs)[i]? = some (cs[i]'(by omega), vs[i]) := by
          rw [List.getElem?_zip_eq_some]; exact ⟨List.getElem?_eq_getElem (by omega), List.getElem?_eq_getElem hi⟩
        have := h _ (List.mem_of_getElem? hz)
        unfold fit1 at this
        rw [Bool.and_eq_true] at this
        exact this.2
      · have := h p hp
        unfold fit1 at this
        rw [Bool.and_eq_true] at this
        exact this.1
    · rintro ⟨h1, h2⟩ p hp
      unfold fit1
      rw [Bool.and_eq_true]
      exact ⟨h2 p hp, h1 _ (List.of_mem_zip hp).2⟩
  · rw [decide_eq_false hl]; rfl
def kindB (p : Col × Val) : Bool := decide (p.2.1 = p.1.2)
set_option maxRecDepth 100000 in
set_option maxHeartbeats 2000000 in
theorem rfits_any (S : Sch) (a' : Option Addr) (m' c' : Nat) (vs : List Val) (w : World) (hS : SchAt w S) (hl' : vs.length = m') (hm' : m' ≤ 1048576) (hv : Vals w a' vs) :
    Calls Try.prog 14 #[.agg (schCells S), .slice a' m' c'] w fun e w' => e = .returned (.bool (fitsB S.cs vs)) ∧ Below w.heap.size w w' := by
  obtain ⟨R, hR⟩ : ∃ R, R = fitsB S.cs vs := ⟨_, rfl⟩
  rw [← hR]
  rw [fitsB_parts] at hR
  obtain ⟨name, ca, cn, cc, cs, ia, iN, ic, xs, limit, parts, place⟩ := S
  obtain ⟨⟨hc1, hc2, hc3, hc4⟩, _⟩ := hS
  simp only [] at hc1 hc2 hc3 hc4 hR
  unfold schCells
  simp only []
  obtain ⟨W1, hW1⟩ : ∃ W1, W1 = w.alloc (.cells #[.string name, .slice ca cn cc, .slice ia iN ic, .int .i64 limit, .int .i64 parts, .int .i64 place] 25) := ⟨_, rfl⟩
  have hA1 : Below w.heap.size w W1 := by rw [hW1]; exact (Below.refl _ _).alloc (Nat.le_refl _) _
  have hk1 : W1.heap[w.heap.size]? = some (.cells #[.string name, .slice ca cn cc, .slice ia iN ic, .int .i64 limit, .int .i64 parts, .int .i64 place] 25 (0, 0)) := by rw [hW1]; exact Array.getElem?_push_size
  have hs1 : w.heap.size < W1.heap.size := by rw [hW1]; simp
  obtain ⟨e0, e1, e2, e3, e4, e5⟩ := six_at hk1
  have HW1 := Lib.hid hW1.symm
  have HA := Lib.hid hA1
  have HK := Lib.hid hk1
  have HALL := Lib.hid (rall_any a' m' c' vs W1 hl' hm' (hv.below hA1))
  obtain ⟨t, ht⟩ : ∃ t, t = vs.all vright := ⟨_, rfl⟩
  rw [← ht] at hR HALL
  have HC := Lib.hid hc1
  have HV := Lib.hid hv
  have HCL := Lib.hid hc2
  have HL := Lib.hid hl'
  by_cases hmm : m' = cn
  · subst hmm
    rw [decide_eq_true (by omega : cs.length = vs.length), Bool.true_and] at hR
    cases t with
    | false =>
      have HT := Lib.hid (show R = false from hR)
      clear hR hc1 hv hA1 hk1 hW1 ht hc2 hl'
      go_enter Try.func14, Try.ntmps14
      go_upto_region 1 with fail
      rw [HW1.out]
      go_wp2_with fail
      refine HALL.out.mono ?_
      rintro e w2 ⟨rfl, hb2⟩
      have HB2 := Lib.hid (Below.thenB HA.out HA.out.size hb2)
      clear hb2
      go_wp2
      go_ret
      exact ⟨by rw [HT.out]; rfl, HB2.out⟩
    | true =>
      rw [Bool.true_and] at hR
      have HR := Lib.hid (show R = (cs.zip vs).all kindB from hR)
      clear hR hc1 hv hA1 hk1 hW1 ht hc2 hl'
      go_enter Try.func14, Try.ntmps14
      go_upto_region 1 with fail
      rw [HW1.out]
      go_wp2_with fail
      refine HALL.out.mono ?_
      rintro e w2 ⟨rfl, hb2⟩
      have HB2 := Lib.hid (Below.thenB HA.out HA.out.size hb2)
      have HK2 := Lib.hid ((hb2.block w.heap.size hs1).trans HK.out)
      have hs2 : w.heap.size < w2.heap.size := Nat.lt_of_lt_of_le hs1 hb2.size
      obtain ⟨g0, g1, g2, g3, g4, g5⟩ := six_at HK2.out
      clear hb2 e0 e1 e2 e3 e4 e5 HALL HW1 HK HA
      go_wp2
      go_loopw [5] (fun i wr => ∃ k : Nat, k ≤ m' ∧ i = .int .i64 (k : Int) ∧ Hid (((cs.zip vs).take k).all kindB = true) ∧ w.heap.size < wr.heap.size ∧ wr.heap[w.heap.size]? = some (.cells #[.string name, .slice ca m' cc, .slice ia iN ic, .int .i64 limit, .int .i64 parts, .int .i64 place] 25 (0, 0)) ∧ Below w.heap.size w wr) (fun i _ => m' - (intOf i).toNat)
      case atStart => exact ⟨0, Nat.zero_le _, rfl, Lib.hid (by simp), hs2, HK2.out, HB2.out⟩
      case round =>
        obtain ⟨k, hk, rfl, hall, hsz, hkb, hbel⟩ := hrel
        obtain ⟨k0, k1, k2, k3, k4, k5⟩ := six_at hkb
        clear g0 g1 g2 g3 g4 g5
        by_cases hlt : k < m'
        · have hlt' : decide ((k : Int) < (m' : Int)) = true := decide_eq_true (by omega)
          obtain ⟨b, o, x, rfl, hb, hxk, c0, c1⟩ := Cols.at HC.out HCL.out hlt hbel
          obtain ⟨b', o', v, rfl, hb', hvk, q0, q1, q2⟩ := Vals.at3 HV.out HL.out hlt hbel
          have hzk : (cs.zip vs)[k]? = some (x, v) := by rw [List.getElem?_zip_eq_some]; exact ⟨hxk, hvk⟩
          obtain ⟨xn, xk⟩ := x
          obtain ⟨vk, vn, vt⟩ := v
          simp only [] at c0 c1 q0 q1 q2
          have hk0 : (0 : Int) ≤ (k : Int) := by omega
          have hk1 : (k : Int) < (m' : Int) := by omega
          by_cases hkk : vk = xk
          · have hd : (vk == xk) = true := by simp [hkk]
            have hall' : Hid (((cs.zip vs).take (k + 1)).all kindB = true) := by
              show ((cs.zip vs).take (k + 1)).all kindB = true
              rw [take_snoc' hzk, List.all_append, hall.out]
              simp [kindB, hkk]
            clear hzk hvk hxk hall hkk
            go_wp2_with fail
            go_quiet (fail)
            go_wp2
            go_roundw
            case rel => exact ⟨k + 1, by omega, by go_num, hall', by simpa using hsz, by simpa using hkb, bdrewN hbel _⟩
            case measure => simp [intOf]; omega
          · have hd : (vk == xk) = false := beq_false_of_ne hkk
            have HT := Lib.hid (show R = false by
              rw [HR.out]
              exact List.all_eq_false.2 ⟨_, List.mem_of_getElem? hzk, by simp [kindB, hkk]⟩)
            clear hzk hvk hxk hall hkk
            go_wp2_with fail
            go_quiet (fail)
            go_wp2
            go_ret
            exact ⟨by rw [HT.out]; rfl, bdrewN hbel _⟩
        · have hlt' : decide ((k : Int) < (m' : Int)) = false := decide_eq_false (by omega)
          have HT := Lib.hid (show R = true by
            have := hall.out
            rw [List.take_of_length_le (by rw [List.length_zip, HCL.out, HL.out]; omega)] at this
            rw [HR.out]; exact this)
          clear hall
          go_wp2
          go_ret
          exact ⟨by rw [HT.out]; rfl, hbel⟩
  · have hd : ((m' : Int) == (cn : Int)) = false := beq_false_of_ne (by omega)
    have HT := Lib.hid (show R = false by rw [hR, decide_eq_false (by omega : ¬ cs.length = vs.length)]; rfl)
    clear hR hc1 hv hA1 hk1 hW1 ht hc2 hl'
    go_enter Try.func14, Try.ntmps14
    go_upto_region 1 with fail
    rw [HW1.out]
    go_wp2
    go_ret
    exact ⟨by rw [HT.out]; rfl, HA.out⟩
end Go.Proofs.Ytapnkbamilkpoaa
