/- The document's Right, of schemas. -/
import Derived.Test.YtapnkbamilkpoaaSRef1
import Derived.Test.YtapnkbamilkpoaaSKey2
namespace Go.Proofs.Ytapnkbamilkpoaa
open Go.RowKit
theorem ff_of {R : Bool} (h : R = true → False) : R = false := by cases R with | false => rfl | true => exact (h rfl).elim
def cname (x : Col) : List UInt8 := x.1.data.toList
structure RightP (name : ByteArray) (cs : List Col) (xs : List Idx) (limit parts place : Int) : Prop where
  nm : namedB name.data.toList = true
  c1 : 1 ≤ cs.length
  c2 : cs.length ≤ 8
  i1 : 1 ≤ xs.length
  i2 : xs.length ≤ 4
  l1 : 1 ≤ limit
  l2 : limit ≤ 1000
  p1 : 1 ≤ parts
  p2 : parts ≤ 8
  b1 : 0 ≤ place
  b2 : place ≤ (cs.length : Int) - 1
  hu : headU xs = true
  ca : cs.all colB = true
  cn : (cs.map cname).Nodup
  xa : xs.all (fun x => placesB (cs.length : Int) x.ps) = true
  xn : (xs.map (fun x : Idx => x.ps)).Nodup
theorem right_iff (name : ByteArray) (ca : Option Addr) (cn cc : Nat) (cs : List Col) (ia : Option Addr) (iN ic : Nat) (xs : List Idx) (limit parts place : Int) :
    srightB ⟨name, ca, cn, cc, cs, ia, iN, ic, xs, limit, parts, place⟩ = true ↔ RightP name cs xs limit parts place := by
  unfold srightB colsB idxsB
  simp only [Bool.and_eq_true, decide_eq_true_eq]
  constructor
  · rintro ⟨a, ⟨⟨⟨b1, b2⟩, b3⟩, b4⟩, ⟨⟨⟨⟨d1, d2⟩, d3⟩, d4⟩, d5⟩, ⟨e1, e2⟩, ⟨f1, f2⟩, g1, g2⟩
    exact ⟨a, b1, b2, d1, d2, e1, e2, f1, f2, g1, g2, d3, b3, b4, d4, d5⟩
  · rintro ⟨a, b1, b2, d1, d2, e1, e2, f1, f2, g1, g2, d3, b3, b4, d4, d5⟩
    exact ⟨a, ⟨⟨⟨b1, b2⟩, b3⟩, b4⟩, ⟨⟨⟨⟨d1, d2⟩, d3⟩, d4⟩, d5⟩, ⟨e1, e2⟩, ⟨f1, f2⟩, g1, g2⟩
theorem nodup_snoc {α : Type} {l : List α} {x : α} (h : l.Nodup) (hx : x ∉ l) : (l ++ [x]).Nodup := by
  rw [List.nodup_append]
  exact ⟨h, List.nodup_cons.2 ⟨List.not_mem_nil, List.nodup_nil⟩, fun a ha b hb e => by rw [List.mem_singleton] at hb; rw [e, hb] at ha; exact hx ha⟩
theorem nodup_not {α : Type} {l : List α} {j k : Nat} {x : α} (hjk : j < k) (hj : l[j]? = some x) (hk : l[k]? = some x) : ¬ l.Nodup := by
  intro h
  obtain ⟨h1, h2⟩ := List.getElem?_eq_some_iff.1 hj
  obtain ⟨h3, h4⟩ := List.getElem?_eq_some_iff.1 hk
  have := List.pairwise_iff_getElem.1 h j k h1 h3 hjk
  exact this (h2.trans h4.symm)
theorem not_mem_snoc {α : Type} {l : List α} {x y : α} (h : y ∉ l) (hn : ¬ x = y) : y ∉ l ++ [x] := by
  simp only [List.mem_append, List.mem_singleton, not_or]
  exact ⟨h, fun e => hn e.symm⟩
set_option maxRecDepth 100000 in
set_option maxHeartbeats 16000000 in
theorem rsright_any (S : Sch) (w : World) (hS : SchAt w S) (hsn : S.name.size ≤ 281474976710656) (hsc : ∀ x ∈ S.cs, x.1.size ≤ 281474976710656) :
    Calls Try.prog 13 #[.agg (schCells S)] w fun e w' => e = .returned (.bool (srightB S)) ∧ Below w.heap.size w w' := by
  obtain ⟨R, hR⟩ : ∃ R, R = srightB S := ⟨_, rfl⟩
  rw [← hR]
  obtain ⟨name, ca, cn, cc, cs, ia, iN, ic, xs, limit, parts, place⟩ := S
  obtain ⟨⟨hc1, hc2, hc3, hc4⟩, hi1, hi2, hi3, hi4⟩ := hS
  simp only [] at hc1 hc2 hc3 hc4 hi1 hi2 hi3 hi4 hsn hsc
  have hP := right_iff name ca cn cc cs ia iN ic xs limit parts place
  rw [← hR] at hP
  clear hR
  unfold schCells
  simp only []
  obtain ⟨W1, hW1⟩ : ∃ W1, W1 = w.alloc (.cells #[.string name, .slice ca cn cc, .slice ia iN ic, .int .i64 limit, .int .i64 parts, .int .i64 place] 25) := ⟨_, rfl⟩
  have hA1 : Below w.heap.size w W1 := by rw [hW1]; exact (Below.refl _ _).alloc (Nat.le_refl _) _
  have hk1 : W1.heap[w.heap.size]? = some (.cells #[.string name, .slice ca cn cc, .slice ia iN ic, .int .i64 limit, .int .i64 parts, .int .i64 place] 25 (0, 0)) := by rw [hW1]; exact Array.getElem?_push_size
  have hs1 : w.heap.size < W1.heap.size := by rw [hW1]; simp
  have HC := Lib.hid hc1
  have HI := Lib.hid hi1
  have HCL := Lib.hid hc2
  have HIL := Lib.hid hi2
  have HA := Lib.hid hA1
  have HK := Lib.hid hk1
  have HW1 := Lib.hid hW1.symm
  have HP := Lib.hid hP
  have HSC := Lib.hid hsc
  have hnm := rnamed_any name W1 hsn
  obtain ⟨t, ht⟩ : ∃ t, t = namedB name.data.toList := ⟨_, rfl⟩
  rw [← ht] at hnm
  have HNM := Lib.hid hnm
  have HTT := Lib.hid ht
  obtain ⟨e0, e1, e2, e3, e4, e5⟩ := six_at hk1
  clear hnm ht hc1 hi1 hc2 hi2 hA1 hk1 hW1 hP hsn hsc
  cases t with
  | false =>
    have HT := Lib.hid (show R = false from ff_of fun h => by have := (HP.out.1 h).nm; rw [← HTT.out] at this; cases this)
    go_enter Try.func13, Try.ntmps13
    go_upto_region 1 with fail
    rw [HW1.out]
    go_wp2_with fail
    refine HNM.out.mono ?_
    rintro e w2 ⟨rfl, rfl⟩
    go_wp2
    go_ret
    exact ⟨by rw [HT.out]; rfl, HA.out⟩
  | true =>
  go_enter Try.func13, Try.ntmps13
  go_upto_region 1 with fail
  rw [HW1.out]
  clear HW1
  go_wp2_with fail
  refine HNM.out.mono ?_
  rintro e w2 ⟨rfl, rfl⟩
  clear HNM
  by_cases n0 : cn < 1
  · have d0 : decide ((cn : Int) < 1) = true := decide_eq_true (by omega)
    have HT := Lib.hid (show R = false from ff_of fun h => by have h1 := (HP.out.1 h).c1; have h2 := HCL.out; have h3 := HIL.out; omega)
    go_wp2
    go_ret
    exact ⟨by rw [HT.out]; rfl, HA.out⟩
  have d0 : decide ((cn : Int) < 1) = false := decide_eq_false (by omega)
  by_cases n1 : 8 < cn
  · have d1 : decide ((8 : Int) < (cn : Int)) = true := decide_eq_true (by omega)
    have HT := Lib.hid (show R = false from ff_of fun h => by have h1 := (HP.out.1 h).c2; have h2 := HCL.out; have h3 := HIL.out; omega)
    go_wp2
    go_ret
    exact ⟨by rw [HT.out]; rfl, HA.out⟩
  have d1 : decide ((8 : Int) < (cn : Int)) = false := decide_eq_false (by omega)
  by_cases n2 : iN < 1
  · have d2 : decide ((iN : Int) < 1) = true := decide_eq_true (by omega)
    have HT := Lib.hid (show R = false from ff_of fun h => by have h1 := (HP.out.1 h).i1; have h2 := HCL.out; have h3 := HIL.out; omega)
    go_wp2
    go_ret
    exact ⟨by rw [HT.out]; rfl, HA.out⟩
  have d2 : decide ((iN : Int) < 1) = false := decide_eq_false (by omega)
  by_cases n3 : 4 < iN
  · have d3 : decide ((4 : Int) < (iN : Int)) = true := decide_eq_true (by omega)
    have HT := Lib.hid (show R = false from ff_of fun h => by have h1 := (HP.out.1 h).i2; have h2 := HCL.out; have h3 := HIL.out; omega)
    go_wp2
    go_ret
    exact ⟨by rw [HT.out]; rfl, HA.out⟩
  have d3 : decide ((4 : Int) < (iN : Int)) = false := decide_eq_false (by omega)
  by_cases n4 : limit < 1
  · have d4 : decide (limit < 1) = true := decide_eq_true (by omega)
    have HT := Lib.hid (show R = false from ff_of fun h => by have h1 := (HP.out.1 h).l1; have h2 := HCL.out; have h3 := HIL.out; omega)
    go_wp2
    go_ret
    exact ⟨by rw [HT.out]; rfl, HA.out⟩
  have d4 : decide (limit < 1) = false := decide_eq_false (by omega)
  by_cases n5 : 1000 < limit
  · have d5 : decide (1000 < limit) = true := decide_eq_true (by omega)
    have HT := Lib.hid (show R = false from ff_of fun h => by have h1 := (HP.out.1 h).l2; have h2 := HCL.out; have h3 := HIL.out; omega)
    go_wp2
    go_ret
    exact ⟨by rw [HT.out]; rfl, HA.out⟩
  have d5 : decide (1000 < limit) = false := decide_eq_false (by omega)
  by_cases n6 : parts < 1
  · have d6 : decide (parts < 1) = true := decide_eq_true (by omega)
    have HT := Lib.hid (show R = false from ff_of fun h => by have h1 := (HP.out.1 h).p1; have h2 := HCL.out; have h3 := HIL.out; omega)
    go_wp2
    go_ret
    exact ⟨by rw [HT.out]; rfl, HA.out⟩
  have d6 : decide (parts < 1) = false := decide_eq_false (by omega)
  by_cases n7 : 8 < parts
  · have d7 : decide (8 < parts) = true := decide_eq_true (by omega)
    have HT := Lib.hid (show R = false from ff_of fun h => by have h1 := (HP.out.1 h).p2; have h2 := HCL.out; have h3 := HIL.out; omega)
    go_wp2
    go_ret
    exact ⟨by rw [HT.out]; rfl, HA.out⟩
  have d7 : decide (8 < parts) = false := decide_eq_false (by omega)
  by_cases n8 : place < 0
  · have d8 : decide (place < 0) = true := decide_eq_true (by omega)
    have HT := Lib.hid (show R = false from ff_of fun h => by have h1 := (HP.out.1 h).b1; have h2 := HCL.out; have h3 := HIL.out; omega)
    go_wp2
    go_ret
    exact ⟨by rw [HT.out]; rfl, HA.out⟩
  have d8 : decide (place < 0) = false := decide_eq_false (by omega)
  by_cases n9 : (cn : Int) ≤ place
  · have d9 : decide ((cn : Int) ≤ place) = true := decide_eq_true (by omega)
    have HT := Lib.hid (show R = false from ff_of fun h => by have h1 := (HP.out.1 h).b2; have h2 := HCL.out; have h3 := HIL.out; omega)
    go_wp2
    go_ret
    exact ⟨by rw [HT.out]; rfl, HA.out⟩
  have d9 : decide ((cn : Int) ≤ place) = false := decide_eq_false (by omega)
  obtain ⟨b, o, z, rfl, hb, hzk, z0, z1, _, _, _, _⟩ := Idxs.at HI.out HIL.out (k := 0) (by omega : 0 < iN) HA.out
  rw [Nat.zero_mul, Nat.add_zero] at z0 z1
  have hzu := headU_of hzk
  have HZU := Lib.hid hzu
  have n10 : 0 < iN := by omega
  have n11 : (0 : Int) < (iN : Int) := by omega
  obtain ⟨za, zn, zc, zp, zu⟩ := z
  simp only [] at z0 z1 HZU
  clear hzk hzu
  cases zu with
  | false =>
    have HT := Lib.hid (show R = false from ff_of fun h => by have h1 := (HP.out.1 h).hu; rw [HZU.out] at h1; cases h1)
    go_wp2
    go_ret
    exact ⟨by rw [HT.out]; rfl, HA.out⟩
  | true =>
  go_wp2
  clear d0 d1 d2 d3 d4 d5 d6 d7 d8 d9 z0 z1 e0 e1 e2 e3 e4 e5
  go_loopw [4] (fun iv wr => ∃ k : Nat, k ≤ cn ∧ iv = .int .i64 (k : Int) ∧ Hid ((cs.take k).all colB = true) ∧ Hid ((cs.map cname).take k).Nodup ∧ w.heap.size < wr.heap.size ∧ wr.heap[w.heap.size]? = some (.cells #[.string name, .slice ca cn cc, .slice (some ⟨b, o, none⟩) iN ic, .int .i64 limit, .int .i64 parts, .int .i64 place] 25 (0, 0)) ∧ Below w.heap.size w wr) (fun iv _ => cn - (intOf iv).toNat)
  case atStart => exact ⟨0, Nat.zero_le _, rfl, Lib.hid (by simp), Lib.hid (by simp), hs1, HK.out, HA.out⟩
  case round =>
    obtain ⟨k, hk, rfl, hall, hnd, hsz, hkb, hbel⟩ := hrel
    obtain ⟨k0, k1, k2, k3, k4, k5⟩ := six_at hkb
    clear HK
    by_cases hlt : k < cn
    · have hlt' : decide ((k : Int) < (cn : Int)) = true := decide_eq_true (by omega)
      obtain ⟨bc, oc, x, hca, hbc, hxk, x0, x1⟩ := Cols.at HC.out HCL.out hlt hbel
      subst hca
      have hmem := List.mem_of_getElem? hxk
      have hxs := HSC.out x hmem
      have hck : (cs.map cname)[k]? = some (cname x) := by rw [List.getElem?_map, hxk]; rfl
      have hcb : ∀ h : R = true, colB x = true := fun h => List.all_eq_true.1 (HP.out.1 h).ca x hmem
      have htk := take_snoc' hxk
      have hnk := take_snoc' hck
      have HXK := Lib.hid hxk
      obtain ⟨xn, xk⟩ := x
      simp only [] at x0 x1 hxs
      unfold colB at hcb
      simp only [] at hcb
      have hnx := rnamed_any xn wr hxs
      obtain ⟨t, ht⟩ : ∃ t, t = namedB xn.data.toList := ⟨_, rfl⟩
      rw [← ht] at hnx hcb
      have HNX := Lib.hid hnx
      have hk0' : (0 : Int) ≤ (k : Int) := by omega
      have hk1' : (k : Int) < (cn : Int) := by omega
      have HCB := Lib.hid hcb
      have HTK := Lib.hid htk
      have HNK := Lib.hid hnk
      have HCK := Lib.hid hck
      have HT1 := Lib.hid ht
      clear hnx hcb htk hnk hck ht hxk hmem
      cases t with
      | false =>
        have HT := Lib.hid (show R = false from ff_of fun h => by have := HCB.out h; cases this)
        go_wp2_with fail
        refine HNX.out.mono ?_
        rintro e w3 ⟨rfl, rfl⟩
        go_wp2
        go_ret
        exact ⟨by rw [HT.out]; rfl, hbel⟩
      | true =>
      go_wp2_with fail
      refine HNX.out.mono ?_
      rintro e w3 ⟨rfl, rfl⟩
      clear HNX
      by_cases m1 : xk < 1
      · have q1 : decide (xk < 1) = true := decide_eq_true m1
        have HT := Lib.hid (show R = false from ff_of fun h => by have := HCB.out h; simp only [Bool.and_eq_true, decide_eq_true_eq] at this; omega)
        go_wp2
        go_ret
        exact ⟨by rw [HT.out]; rfl, hbel⟩
      have q1 : decide (xk < 1) = false := decide_eq_false m1
      by_cases m2 : 3 < xk
      · have q2 : decide (3 < xk) = true := decide_eq_true m2
        have HT := Lib.hid (show R = false from ff_of fun h => by have := HCB.out h; simp only [Bool.and_eq_true, decide_eq_true_eq] at this; omega)
        go_wp2
        go_ret
        exact ⟨by rw [HT.out]; rfl, hbel⟩
      have q2 : decide (3 < xk) = false := decide_eq_false m2
      have hall' : Hid ((cs.take (k + 1)).all colB = true) := by
        show (cs.take (k + 1)).all colB = true
        rw [HTK.out, List.all_append, hall.out]
        simp only [Bool.true_and, List.all_cons, List.all_nil, Bool.and_true]
        unfold colB
        rw [← HT1.out, decide_eq_true (by omega : 1 ≤ xk), decide_eq_true (by omega : xk ≤ 3)]
        rfl
      have HB := Lib.hid hbel
      clear HCB HTK hall hbel
      go_wp2
      clear q1 q2 m1 m2 x0 x1 k0 k1 k2 k3 k4 k5
      go_loopw [5] (fun jv wx => ∃ j : Nat, j ≤ k ∧ jv = .int .i64 (j : Int) ∧ Hid (cname (xn, xk) ∉ (cs.map cname).take j) ∧ w.heap.size < wx.heap.size ∧ wx.heap[w.heap.size]? = some (.cells #[.string name, .slice (some ⟨bc, oc, none⟩) cn cc, .slice (some ⟨b, o, none⟩) iN ic, .int .i64 limit, .int .i64 parts, .int .i64 place] 25 (0, 0)) ∧ Below w.heap.size w wx) (fun jv _ => k - (intOf jv).toNat)
      case atStart => exact ⟨0, Nat.zero_le _, rfl, Lib.hid (by simp), hsz, hkb, HB.out⟩
      case round =>
        obtain ⟨j, hj, rfl, hno, hszx, hkbx, hbx⟩ := hrel
        obtain ⟨g0, g1, g2, g3, g4, g5⟩ := six_at hkbx
        by_cases hjk : j < k
        · have hjk' : decide ((j : Int) < (k : Int)) = true := decide_eq_true (by omega)
          obtain ⟨b2, o2, y, hya, hb2, hyk, y0, y1⟩ := Cols.at HC.out HCL.out (by omega : j < cn) hbx
          obtain ⟨b3, o3, x', hxa, hb3, hxk', p0, p1⟩ := Cols.at HC.out HCL.out hlt hbx
          injection hya with hya
          injection hya with hya1 hya2
          subst hya1 hya2
          injection hxa with hxa
          injection hxa with hxa1 hxa2
          subst hxa1 hxa2
          have hxe : x' = (xn, xk) := Option.some.inj (hxk'.symm.trans HXK.out)
          subst hxe
          have hyc : (cs.map cname)[j]? = some (cname y) := by rw [List.getElem?_map, hyk]; rfl
          obtain ⟨yn, yk⟩ := y
          simp only [] at y0 y1 p0 p1
          have hj0 : (0 : Int) ≤ (j : Int) := by omega
          have hj1 : (j : Int) < (cn : Int) := by omega
          have HYC := Lib.hid hyc
          clear hyk hxk' hyc
          by_cases he : yn = xn
          · subst he
            have HT := Lib.hid (show R = false from ff_of fun h => nodup_not hjk HYC.out HCK.out (HP.out.1 h).cn)
            clear HYC
            go_wp2_with fail
            go_quiet (fail)
            go_wp2
            go_ret
            exact ⟨by rw [HT.out]; rfl, bdrewN hbx _⟩
          · have hbn := bstr_ne he
            have hno' : Hid (cname (xn, xk) ∉ (cs.map cname).take (j + 1)) := by
              show cname (xn, xk) ∉ (cs.map cname).take (j + 1)
              rw [take_snoc' HYC.out]
              refine not_mem_snoc hno.out fun e => he ?_
              unfold cname at e
              simp only at e
              cases yn; cases xn; simpa using e
            clear HYC hno he
            go_wp2_with fail
            go_quiet (fail)
            go_wp2
            go_roundw
            case rel => exact ⟨j + 1, by omega, by go_num, hno', by simpa using hszx, by simpa using hkbx, bdrewN hbx _⟩
            case measure => simp [intOf]; omega
        · have hjk' : decide ((j : Int) < (k : Int)) = false := decide_eq_false (by omega)
          have hjk2 : j = k := by omega
          have hnd' : Hid ((cs.map cname).take (k + 1)).Nodup := by
            show ((cs.map cname).take (k + 1)).Nodup
            rw [HNK.out]
            exact nodup_snoc hnd.out (by rw [← hjk2]; exact hno.out)
          clear hno hnd
          go_wp2
          go_roundw
          case rel => exact ⟨k + 1, by omega, by go_num, hall', hnd', hszx, hkbx, hbx⟩
          case measure => simp [intOf]; omega
    · have hlt' : decide ((k : Int) < (cn : Int)) = false := decide_eq_false (by omega)
      have HCA := Lib.hid (show cs.all colB = true by
        have := hall.out
        rwa [List.take_of_length_le (by rw [HCL.out]; omega)] at this)
      have HCN := Lib.hid (show (cs.map cname).Nodup by
        have := hnd.out
        rwa [List.take_of_length_le (by rw [List.length_map, HCL.out]; omega)] at this)
      have HB := Lib.hid hbel
      clear hall hnd hbel
      go_wp2
      clear k0 k1 k2 k3 k4 k5 hlt'
      go_loopw [6] (fun iv wx => ∃ i : Nat, i ≤ iN ∧ iv = .int .i64 (i : Int) ∧ Hid ((xs.take i).all (fun x => placesB (cs.length : Int) x.ps) = true) ∧ Hid ((xs.map (fun x : Idx => x.ps)).take i).Nodup ∧ w.heap.size < wx.heap.size ∧ wx.heap[w.heap.size]? = some (.cells #[.string name, .slice ca cn cc, .slice (some ⟨b, o, none⟩) iN ic, .int .i64 limit, .int .i64 parts, .int .i64 place] 25 (0, 0)) ∧ Below w.heap.size w wx) (fun iv _ => iN - (intOf iv).toNat)
      case atStart => exact ⟨0, Nat.zero_le _, rfl, Lib.hid (by simp), Lib.hid (by simp), hsz, hkb, HB.out⟩
      case round =>
        obtain ⟨i, hi, rfl, hpa, hpn, hszx, hkbx, hbx⟩ := hrel
        obtain ⟨g0, g1, g2, g3, g4, g5⟩ := six_at hkbx
        by_cases hin : i < iN
        · have hin' : decide ((i : Int) < (iN : Int)) = true := decide_eq_true (by omega)
          obtain ⟨b2, o2, x, hxa, hb2, hxk, x0, x1, x2, x3, x4, x5⟩ := Idxs.at HI.out HIL.out hin hbx
          injection hxa with hxa
          injection hxa with hxa1 hxa2
          subst hxa1 hxa2
          have hmem := List.mem_of_getElem? hxk
          have hxc : (xs.map (fun x : Idx => x.ps))[i]? = some x.ps := by rw [List.getElem?_map, hxk]; rfl
          have hpb : ∀ h : R = true, placesB (cs.length : Int) x.ps = true := fun h => List.all_eq_true.1 (HP.out.1 h).xa x hmem
          have HTK := Lib.hid (take_snoc' hxk)
          have HXC := Lib.hid hxc
          obtain ⟨xa, xn, xc, xp, xu⟩ := x
          simp only [] at x0 x1 x2 x3 x4 x5 hpb HXC
          unfold placesB at hpb
          have HPB := Lib.hid hpb
          have HX2 := Lib.hid x2
          have HX3 := Lib.hid x3
          have HB := Lib.hid hbx
          have hi0 : (0 : Int) ≤ (i : Int) := by omega
          have hi1 : (i : Int) < (iN : Int) := by omega
          clear hpb x2 x3 hxk hmem hxc hbx
          by_cases m1 : xn < 1
          · have q1 : decide ((xn : Int) < 1) = true := decide_eq_true (by omega)
            have HT := Lib.hid (show R = false from ff_of fun h => by have h1 := HPB.out h; simp only [Bool.and_eq_true, decide_eq_true_eq] at h1; have h2 := HX3.out; omega)
            go_wp2
            go_ret
            exact ⟨by rw [HT.out]; rfl, HB.out⟩
          have q1 : decide ((xn : Int) < 1) = false := decide_eq_false (by omega)
          by_cases m2 : 8 < xn
          · have q2 : decide ((8 : Int) < (xn : Int)) = true := decide_eq_true (by omega)
            have HT := Lib.hid (show R = false from ff_of fun h => by have h1 := HPB.out h; simp only [Bool.and_eq_true, decide_eq_true_eq] at h1; have h2 := HX3.out; omega)
            go_wp2
            go_ret
            exact ⟨by rw [HT.out]; rfl, HB.out⟩
          have q2 : decide ((8 : Int) < (xn : Int)) = false := decide_eq_false (by omega)
          go_wp2
          clear q1 q2 x0 x1 g0 g1 g2 g3 g4 g5
          obtain ⟨wx, hwx⟩ : ∃ W, W = wr := ⟨_, rfl⟩
          subst hwx
          go_loopw [8] (fun jv wy => ∃ j : Nat, j ≤ xn ∧ jv = .int .i64 (j : Int) ∧ Hid ((xp.take j).all (placeB (cs.length : Int)) = true) ∧ Hid (xp.take j).Nodup ∧ w.heap.size < wy.heap.size ∧ wy.heap[w.heap.size]? = some (.cells #[.string name, .slice ca cn cc, .slice (some ⟨b, o, none⟩) iN ic, .int .i64 limit, .int .i64 parts, .int .i64 place] 25 (0, 0)) ∧ Below wx.heap.size wx wy ∧ Below w.heap.size w wy) (fun jv _ => xn - (intOf jv).toNat)
          case atStart => exact ⟨0, Nat.zero_le _, rfl, Lib.hid (by simp), Lib.hid (by simp), hszx, hkbx, Below.refl _ _, HB.out⟩
          case round =>
            obtain ⟨j, hj, rfl, hja, hjn, hszy, hkby, hbxy, hby⟩ := hrel
            obtain ⟨g0, g1, g2, g3, g4, g5⟩ := six_at hkby
            by_cases hjx : j < xn
            · have hjx' : decide ((j : Int) < (xn : Int)) = true := decide_eq_true (by omega)
              obtain ⟨bp, op, p, rfl, hbp, hpk, p0⟩ := ints_at HX2.out HX3.out hjx hbxy
              have hj0 : (0 : Int) ≤ (j : Int) := by omega
              have hj1 : (j : Int) < (xn : Int) := by omega
              have hpl : ∀ h : R = true, placeB (cs.length : Int) p = true := fun h => by
                have h1 := HPB.out h
                simp only [Bool.and_eq_true] at h1
                exact List.all_eq_true.1 h1.1.2 p (List.mem_of_getElem? hpk)
              unfold placeB at hpl
              have HPL := Lib.hid hpl
              have HPK := Lib.hid hpk
              have HBY := Lib.hid hby
              have HBXY := Lib.hid hbxy
              clear hpl hpk hby hbxy
              by_cases m3 : p < 0
              · have q3 : decide (p < 0) = true := decide_eq_true m3
                have HT := Lib.hid (show R = false from ff_of fun h => by have h1 := HPL.out h; simp only [Bool.and_eq_true, decide_eq_true_eq] at h1; omega)
                go_wp2
                go_ret
                exact ⟨by rw [HT.out]; rfl, HBY.out⟩
              have q3 : decide (p < 0) = false := decide_eq_false m3
              by_cases m4 : (cn : Int) ≤ p
              · have q4 : decide ((cn : Int) ≤ p) = true := decide_eq_true m4
                have HT := Lib.hid (show R = false from ff_of fun h => by have h1 := HPL.out h; simp only [Bool.and_eq_true, decide_eq_true_eq] at h1; have h2 := HCL.out; omega)
                go_wp2
                go_ret
                exact ⟨by rw [HT.out]; rfl, HBY.out⟩
              have q4 : decide ((cn : Int) ≤ p) = false := decide_eq_false m4
              have hja' : Hid ((xp.take (j + 1)).all (placeB (cs.length : Int)) = true) := by
                show (xp.take (j + 1)).all (placeB (cs.length : Int)) = true
                rw [take_snoc' HPK.out, List.all_append, hja.out]
                simp only [Bool.true_and, List.all_cons, List.all_nil, Bool.and_true]
                unfold placeB
                rw [decide_eq_true (by omega : 0 ≤ p), decide_eq_true (by have := HCL.out; omega : p ≤ (cs.length : Int) - 1)]
                rfl
              clear HPL hja
              go_wp2
              clear q3 q4 p0 g0 g1 g2 g3 g4 g5
              go_loopw [9] (fun lv wz => ∃ l : Nat, l ≤ j ∧ lv = .int .i64 (l : Int) ∧ Hid (p ∉ xp.take l) ∧ w.heap.size < wz.heap.size ∧ wz.heap[w.heap.size]? = some (.cells #[.string name, .slice ca cn cc, .slice (some ⟨b, o, none⟩) iN ic, .int .i64 limit, .int .i64 parts, .int .i64 place] 25 (0, 0)) ∧ Below wx.heap.size wx wz ∧ Below w.heap.size w wz) (fun lv _ => j - (intOf lv).toNat)
              case atStart => exact ⟨0, Nat.zero_le _, rfl, Lib.hid (by simp), hszy, hkby, HBXY.out, HBY.out⟩
              case round =>
                obtain ⟨l, hl, rfl, hno, hszz, hkbz, hbxz, hbz⟩ := hrel
                by_cases hlj : l < j
                · have hlj' : decide ((l : Int) < (j : Int)) = true := decide_eq_true (by omega)
                  obtain ⟨b4, o4, y, hya, _, hyk, y0⟩ := ints_at HX2.out HX3.out (by omega : l < xn) hbxz
                  obtain ⟨b5, o5, p', hpa', _, hpk', p0⟩ := ints_at HX2.out HX3.out hjx hbxz
                  injection hya with hya
                  injection hya with hya1 hya2
                  subst hya1 hya2
                  injection hpa' with hpa'
                  injection hpa' with hpa1 hpa2
                  subst hpa1 hpa2
                  have hpe : p' = p := Option.some.inj (hpk'.symm.trans HPK.out)
                  subst hpe
                  have hl0 : (0 : Int) ≤ (l : Int) := by omega
                  have hl1 : (l : Int) < (xn : Int) := by omega
                  by_cases he : y = p'
                  · have hd : (y == p') = true := by simp [he]
                    have HT := Lib.hid (show R = false from ff_of fun h => by
                      have h1 := HPB.out h
                      simp only [Bool.and_eq_true, decide_eq_true_eq] at h1
                      rw [he] at hyk
                      exact nodup_not hlj hyk HPK.out h1.2)
                    clear hyk hpk' he hno
                    go_wp2_with fail
                    go_quiet (fail)
                    go_wp2
                    go_ret
                    exact ⟨by rw [HT.out]; rfl, bdrewN hbz _⟩
                  · have hd : (y == p') = false := beq_false_of_ne he
                    have hno' : Hid (p' ∉ xp.take (l + 1)) := by
                      show p' ∉ xp.take (l + 1)
                      rw [take_snoc' hyk]
                      exact not_mem_snoc hno.out he
                    clear hyk hpk' he hno
                    go_wp2_with fail
                    go_quiet (fail)
                    go_wp2
                    go_roundw
                    case rel => exact ⟨l + 1, by omega, by go_num, hno', by simpa using hszz, by simpa using hkbz, bdrewN hbxz _, bdrewN hbz _⟩
                    case measure => simp [intOf]; omega
                · have hlj' : decide ((l : Int) < (j : Int)) = false := decide_eq_false (by omega)
                  have hlj2 : l = j := by omega
                  have hjn' : Hid (xp.take (j + 1)).Nodup := by
                    show (xp.take (j + 1)).Nodup
                    rw [take_snoc' HPK.out]
                    exact nodup_snoc hjn.out (by rw [← hlj2]; exact hno.out)
                  clear hno hjn
                  go_wp2
                  go_roundw
                  case rel => exact ⟨j + 1, by omega, by go_num, hja', hjn', hszz, hkbz, hbxz, hbz⟩
                  case measure => simp [intOf]; omega
            · have hjx' : decide ((j : Int) < (xn : Int)) = false := decide_eq_false (by omega)
              have hpl : Hid (placesB (cs.length : Int) xp = true) := by
                show placesB (cs.length : Int) xp = true
                have h1 := hja.out
                have h2 := hjn.out
                have h3 := HX3.out
                rw [List.take_of_length_le (by omega)] at h1 h2
                unfold placesB
                rw [h1, decide_eq_true h2, decide_eq_true (by omega : 1 ≤ xp.length), decide_eq_true (by omega : xp.length ≤ 8)]
                rfl
              have HBY := Lib.hid hby
              have HBXY := Lib.hid hbxy
              clear hja hjn hby hbxy
              go_wp2
              clear hjx' g0 g1 g2 g3 g4 g5
              go_loopw [10] (fun lv wz => ∃ l : Nat, l ≤ i ∧ lv = .int .i64 (l : Int) ∧ Hid (xp ∉ (xs.map (fun x : Idx => x.ps)).take l) ∧ w.heap.size < wz.heap.size ∧ wz.heap[w.heap.size]? = some (.cells #[.string name, .slice ca cn cc, .slice (some ⟨b, o, none⟩) iN ic, .int .i64 limit, .int .i64 parts, .int .i64 place] 25 (0, 0)) ∧ Below wx.heap.size wx wz ∧ Below w.heap.size w wz) (fun lv _ => i - (intOf lv).toNat)
              case atStart => exact ⟨0, Nat.zero_le _, rfl, Lib.hid (by simp), hszy, hkby, HBXY.out, HBY.out⟩
              case round =>
                obtain ⟨l, hl, rfl, hno, hszz, hkbz, hbxz, hbz⟩ := hrel
                obtain ⟨g0, g1, g2, g3, g4, g5⟩ := six_at hkbz
                by_cases hli : l < i
                · have hli' : decide ((l : Int) < (i : Int)) = true := decide_eq_true (by omega)
                  obtain ⟨b4, o4, y, hya, _, hyk, y0, y1, y2, y3, y4, y5⟩ := Idxs.at HI.out HIL.out (by omega : l < iN) hbz
                  injection hya with hya
                  injection hya with hya1 hya2
                  subst hya1 hya2
                  have hyc : (xs.map (fun x : Idx => x.ps))[l]? = some y.ps := by rw [List.getElem?_map, hyk]; rfl
                  have HYC := Lib.hid hyc
                  obtain ⟨ya, yn, yc, yp, yu⟩ := y
                  simp only [] at y0 y1 y2 y3 y4 y5 HYC
                  have hsm := rsame_any ya xa yn yc xn xc yp xp _ y3 HX3.out y5 x5 y2 (HX2.out.below hbxz)
                  obtain ⟨t, ht⟩ : ∃ t, t = decide (yp = xp) := ⟨_, rfl⟩
                  rw [← ht] at hsm
                  have HSM := Lib.hid hsm
                  have HBZ := Lib.hid hbz
                  have HBXZ := Lib.hid hbxz
                  have HTE := Lib.hid ht
                  have hl0 : (0 : Int) ≤ (l : Int) := by omega
                  have hl1 : (l : Int) < (iN : Int) := by omega
                  clear hyk hyc hsm hbz hbxz ht y2 y3
                  cases t with
                  | true =>
                    have HT := Lib.hid (show R = false from ff_of fun h => by
                      have h1 := of_decide_eq_true HTE.out.symm
                      have h2 := HYC.out
                      rw [h1] at h2
                      exact nodup_not hli h2 HXC.out (HP.out.1 h).xn)
                    go_wp2_with fail
                    refine HSM.out.mono ?_
                    rintro e w9 ⟨rfl, hb9⟩
                    have hB := Below.thenB HBZ.out HBZ.out.size hb9
                    go_wp2
                    go_ret
                    exact ⟨by rw [HT.out]; rfl, hB⟩
                  | false =>
                    have hno' : Hid (xp ∉ (xs.map (fun x : Idx => x.ps)).take (l + 1)) := by
                      show xp ∉ (xs.map (fun x : Idx => x.ps)).take (l + 1)
                      rw [take_snoc' HYC.out]
                      exact not_mem_snoc hno.out (of_decide_eq_false HTE.out.symm)
                    clear hno
                    go_wp2_with fail
                    refine HSM.out.mono ?_
                    rintro e w9 ⟨rfl, hb9⟩
                    have HB9 := Lib.hid (Below.thenB HBZ.out HBZ.out.size hb9)
                    have HBX9 := Lib.hid (Below.thenB HBXZ.out HBXZ.out.size hb9)
                    have HK9 := Lib.hid ((hb9.block w.heap.size hszz).trans hkbz)
                    have hs9 : w.heap.size < w9.heap.size := Nat.lt_of_lt_of_le hszz hb9.size
                    clear hb9 HSM g0 g1 g2 g3 g4 g5 y0 y1
                    go_wp2
                    go_roundw
                    case rel => exact ⟨l + 1, by omega, by go_num, hno', hs9, HK9.out, HBX9.out, HB9.out⟩
                    case measure => simp [intOf]; omega
                · have hli' : decide ((l : Int) < (i : Int)) = false := decide_eq_false (by omega)
                  have hli2 : l = i := by omega
                  have hpa' : Hid ((xs.take (i + 1)).all (fun x => placesB (cs.length : Int) x.ps) = true) := by
                    show (xs.take (i + 1)).all (fun x => placesB (cs.length : Int) x.ps) = true
                    rw [HTK.out, List.all_append, hpa.out]
                    simp only [Bool.true_and, List.all_cons, List.all_nil, Bool.and_true]
                    exact hpl.out
                  have hpn' : Hid ((xs.map (fun x : Idx => x.ps)).take (i + 1)).Nodup := by
                    show ((xs.map (fun x : Idx => x.ps)).take (i + 1)).Nodup
                    rw [take_snoc' HXC.out]
                    exact nodup_snoc hpn.out (by rw [← hli2]; exact hno.out)
                  clear hno hpa hpn g0 g1 g2 g3 g4 g5
                  go_wp2
                  go_roundw
                  case rel => exact ⟨i + 1, by omega, by go_num, hpa', hpn', hszz, hkbz, hbz⟩
                  case measure => simp [intOf]; omega
        · have hin' : decide ((i : Int) < (iN : Int)) = false := decide_eq_false (by omega)
          have HT := Lib.hid (show R = true by
            have h1 := hpa.out
            have h2 := hpn.out
            have h3 := HIL.out
            have h4 := HCL.out
            rw [List.take_of_length_le (by omega)] at h1
            rw [List.take_of_length_le (by rw [List.length_map]; omega)] at h2
            exact HP.out.2 ⟨HTT.out.symm, by omega, by omega, by omega, by omega, by omega, by omega, by omega, by omega, by omega, by omega, HZU.out, HCA.out, HCN.out, h1, h2⟩)
          have HB := Lib.hid hbx
          clear hpa hpn hbx
          go_wp2
          go_ret
          exact ⟨by rw [HT.out]; rfl, HB.out⟩
end Go.Proofs.Ytapnkbamilkpoaa
