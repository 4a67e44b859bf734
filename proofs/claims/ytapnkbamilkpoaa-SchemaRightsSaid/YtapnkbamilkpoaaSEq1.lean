/- Contracts of schema: Same; the document's Same, of schemas. -/
import Derived.Test.YtapnkbamilkpoaaSRef1
import Derived.Test.YtapnkbamilkpoaaSame
namespace Go.Proofs.Ytapnkbamilkpoaa
open Go.RowKit
theorem eq_upto {α : Type} {xs ys : List α} {k : Nat} (hl : xs.length = ys.length) (h : xs.take k = ys.take k) (hk : xs.length ≤ k) : xs = ys := by
  rwa [List.take_of_length_le hk, List.take_of_length_le (by omega)] at h
theorem take_eq' {α : Type} {xs ys : List α} {k : Nat} {x y : α} (h : xs.take k = ys.take k) (hx : xs[k]? = some x) (hy : ys[k]? = some y) (e : x = y) : xs.take (k + 1) = ys.take (k + 1) := by
  rw [take_snoc' hx, take_snoc' hy, h, e]
theorem ne_at' {α : Type} {xs ys : List α} {k : Nat} {x y : α} (hx : xs[k]? = some x) (hy : ys[k]? = some y) (e : ¬ x = y) : ¬ xs = ys := by
  intro h
  rw [h, hy] at hx
  injection hx with hx
  exact e hx.symm
set_option maxRecDepth 100000 in
set_option maxHeartbeats 2000000 in
theorem equal_cols (a a' : Option Addr) (m c m' c' : Nat) (us vs : List Col) (w : World) (hl : us.length = m) (hl' : vs.length = m') (hm : m ≤ 1048576) (hm' : m' ≤ 1048576) (hu : Cols w a us) (hv : Cols w a' vs) :
    Calls Try.prog 34 #[.slice a m c, .slice a' m' c'] w fun e w' => e = .returned (.bool (decide (us = vs))) ∧ Below w.heap.size w w' := by
  obtain ⟨r, hr⟩ : ∃ r, r = decide (us = vs) := ⟨_, rfl⟩
  rw [← hr]
  have HR := Lib.hid hr
  have HL := Lib.hid hl
  have HL' := Lib.hid hl'
  have HU := Lib.hid hu
  have HV := Lib.hid hv
  clear hr hl hl' hu hv
  by_cases hmm : m = m'
  · subst hmm
    go_enter Try.func34, Try.ntmps34
    go_wp2
    go_loopw [13] (fun i wr => ∃ k : Nat, k ≤ m ∧ i = .int .i64 (k : Int) ∧ Hid (us.take k = vs.take k) ∧ Below w.heap.size w wr) (fun i _ => m - (intOf i).toNat)
    case atStart => exact ⟨0, Nat.zero_le _, rfl, rfl, Below.refl _ _⟩
    case round =>
      obtain ⟨k, hk, rfl, htk, hbel⟩ := hrel
      by_cases hlt : k < m
      · have hlt' : decide ((k : Int) < (m : Int)) = true := decide_eq_true (by omega)
        obtain ⟨b, o, u, rfl, hb, huk, c0, c1⟩ := Cols.at HU.out HL.out hlt hbel
        obtain ⟨b', o', v, rfl, hb', hvk, e0, e1⟩ := Cols.at HV.out HL'.out hlt hbel
        have hk0 : (0 : Int) ≤ (k : Int) := by omega
        have hk1 : (k : Int) < (m : Int) := by omega
        by_cases he : u = v
        · have htk' := Lib.hid (take_eq' htk.out huk hvk he)
          subst he
          obtain ⟨un, uk⟩ := u
          simp only [] at c0 c1 e0 e1
          clear huk hvk htk
          go_wp2_with fail
          go_quiet (fail)
          go_wp2
          go_roundw
          case rel => exact ⟨k + 1, by omega, by go_num, htk', bdrewN hbel _⟩
          case measure => simp [intOf]; omega
        · have HF := Lib.hid (show r = false by rw [HR.out]; exact decide_eq_false (ne_at' huk hvk he))
          obtain ⟨un, uk⟩ := u
          obtain ⟨vn, vk⟩ := v
          simp only [] at c0 c1 e0 e1
          clear huk hvk htk
          by_cases h1 : uk = vk
          · subst h1
            have h3 := list_ne (c := un) (z := vn) (by simpa using he)
            clear he
            go_wp2_with fail
            go_quiet (fail)
            go_wp2
            go_ret
            exact ⟨by rw [HF.out]; rfl, bdrewN hbel _⟩
          · clear he
            go_wp2_with fail
            go_quiet (fail)
            go_wp2
            go_ret
            exact ⟨by rw [HF.out]; rfl, bdrewN hbel _⟩
      · have hlt' : decide ((k : Int) < (m : Int)) = false := decide_eq_false (by omega)
        have HT := Lib.hid (show r = true by rw [HR.out]; exact decide_eq_true (eq_upto (by rw [HL.out, HL'.out]) htk.out (by rw [HL.out]; omega)))
        clear htk
        go_wp2
        go_ret
        exact ⟨by rw [HT.out]; rfl, hbel⟩
  · have hd : ((m : Int) == (m' : Int)) = false := beq_false_of_ne (by omega)
    have HT := Lib.hid (show r = false by rw [HR.out]; refine decide_eq_false fun e => hmm ?_; rw [← HL.out, ← HL'.out, e])
    go_enter Try.func34, Try.ntmps34
    go_wp2
    go_ret
    exact ⟨by rw [HT.out]; rfl, Below.refl _ _⟩
/-- What an index is, wherever it lies. -/
def keyI (x : Idx) : List Int × Bool := (x.ps, x.u)
set_option maxRecDepth 100000 in
set_option maxHeartbeats 2000000 in
theorem sameidx_any (x y : Idx) (w : World) (hx : Ints .i64 w x.a x.ps ∧ x.ps.length = x.n ∧ x.n ≤ 281474976710656) (hy : Ints .i64 w y.a y.ps ∧ y.ps.length = y.n ∧ y.n ≤ 281474976710656) :
    Calls Try.prog 36 #[.agg #[.slice x.a x.n x.c, .bool x.u], .agg #[.slice y.a y.n y.c, .bool y.u]] w fun e w' => e = .returned (.bool (decide (keyI x = keyI y))) ∧ Below w.heap.size w w' := by
  obtain ⟨xa, xn, xc, xp, xu⟩ := x
  obtain ⟨ya, yn, yc, yp, yu⟩ := y
  simp only [] at hx hy
  obtain ⟨W1, hW1⟩ : ∃ W1, W1 = w.alloc (.cells #[.slice xa xn xc, .bool xu] 34) := ⟨_, rfl⟩
  have hA1 : Below w.heap.size w W1 := by rw [hW1]; exact (Below.refl _ _).alloc (Nat.le_refl _) _
  have hk1 : W1.heap[w.heap.size]? = some (.cells #[.slice xa xn xc, .bool xu] 34 (0, 0)) := by rw [hW1]; exact Array.getElem?_push_size
  have hs1 : W1.heap.size = w.heap.size + 1 := by rw [hW1]; simp
  obtain ⟨W2, hW2⟩ : ∃ W2, W2 = W1.alloc (.cells #[.slice ya yn yc, .bool yu] 34) := ⟨_, rfl⟩
  have hA2 : Below W1.heap.size W1 W2 := by rw [hW2]; exact (Below.refl _ _).alloc (Nat.le_refl _) _
  have hk2 : W2.heap[w.heap.size + 1]? = some (.cells #[.slice ya yn yc, .bool yu] 34 (0, 0)) := by rw [hW2, ← hs1]; exact Array.getElem?_push_size
  have hk12 := (hA2.block w.heap.size (by omega)).trans hk1
  have hB2 := Below.thenB hA1 (by omega) hA2
  obtain ⟨⟨d0, d1⟩, _⟩ := two_at2 hk12
  obtain ⟨⟨f0, f1⟩, _⟩ := two_at2 hk2
  have HE := Lib.hid (equal_ints xa ya xn xc yn yc xp yp W2 hx.2.1 hy.2.1 hx.2.2 hy.2.2 (hx.1.below hB2) (hy.1.below hB2))
  obtain ⟨t, ht⟩ : ∃ t, t = decide (xp = yp) := ⟨_, rfl⟩
  rw [← ht] at HE
  have HB2 := Lib.hid hB2
  have HW1 := Lib.hid hW1.symm
  have HW2 := Lib.hid hW2.symm
  obtain ⟨R, hR⟩ : ∃ R, R = decide (keyI ⟨xa, xn, xc, xp, xu⟩ = keyI ⟨ya, yn, yc, yp, yu⟩) := ⟨_, rfl⟩
  rw [← hR]
  have hRe : R = (decide (xu = yu) && t) := by
    rw [hR, ht, Bool.eq_iff_iff]
    simp only [keyI, Prod.mk.injEq, Bool.and_eq_true, decide_eq_true_eq]
    exact ⟨fun h => ⟨h.2, h.1⟩, fun h => ⟨h.2, h.1⟩⟩
  have HR := Lib.hid hRe
  clear hA1 hA2 hk1 hk2 hk12 hW1 hW2 hB2 hx hy ht hR hRe
  by_cases hu : xu = yu
  · subst hu
    go_enter Try.func36, Try.ntmps36
    go_upto_region 1 with fail
    rw [HW1.out, HW2.out]
    go_wp2_with fail
    refine HE.out.mono ?_
    rintro e w3 ⟨rfl, hb3⟩
    have hB := Below.thenB HB2.out HB2.out.size hb3
    go_wp2
    go_ret
    exact ⟨by rw [HR.out]; simp, hB⟩
  · have hd : (xu == yu) = false := beq_false_of_ne hu
    have HT := Lib.hid (show R = false by rw [HR.out, decide_eq_false hu]; rfl)
    go_enter Try.func36, Try.ntmps36
    go_upto_region 1 with fail
    rw [HW1.out, HW2.out]
    go_wp2
    go_ret
    exact ⟨by rw [HT.out]; rfl, HB2.out⟩
set_option maxRecDepth 100000 in
set_option maxHeartbeats 2000000 in
theorem eqf_idxs (a : Option Addr) (m c : Nat) (xs : List Idx) (a' : Option Addr) (m' c' : Nat) (ys : List Idx) (w : World) (hl : xs.length = m) (hm : m ≤ 1048576) (hl' : ys.length = m') (hm' : m' ≤ 1048576) (hx : Idxs w a xs) (hy : Idxs w a' ys) :
    Calls Try.prog 35 #[.slice a m c, .slice a' m' c', .func (.func 36) #[] #[]] w fun e w' => e = .returned (.bool (decide (xs.map keyI = ys.map keyI))) ∧ Below w.heap.size w w' := by
  obtain ⟨R, hR⟩ : ∃ R, R = decide (xs.map keyI = ys.map keyI) := ⟨_, rfl⟩
  rw [← hR]
  have HR := Lib.hid hR
  have HL := Lib.hid hl
  have HL' := Lib.hid hl'
  have HX := Lib.hid hx
  have HY := Lib.hid hy
  clear hR hl hl' hx hy
  by_cases hmm : m = m'
  · subst hmm
    go_enter Try.func35, Try.ntmps35
    go_wp2
    go_loopw [17] (fun i wr => ∃ k : Nat, k ≤ m ∧ i = .int .i64 (k : Int) ∧ Hid ((xs.map keyI).take k = (ys.map keyI).take k) ∧ Below w.heap.size w wr) (fun i _ => m - (intOf i).toNat)
    case atStart => exact ⟨0, Nat.zero_le _, rfl, Lib.hid (by simp), Below.refl _ _⟩
    case round =>
      obtain ⟨k, hk, rfl, hall, hbel⟩ := hrel
      have hsz := hbel.size
      by_cases hlt : k < m
      · have hlt' : decide ((k : Int) < (m : Int)) = true := decide_eq_true (by omega)
        obtain ⟨b, o, x, rfl, hb, hxk, c0, c1, x2, x3, _, x5⟩ := Idxs.at HX.out HL.out hlt hbel
        obtain ⟨b', o', y, rfl, hb', hyk, e0, e1, y2, y3, _, y5⟩ := Idxs.at HY.out HL'.out hlt hbel
        have hxm : (xs.map keyI)[k]? = some (keyI x) := by rw [List.getElem?_map, hxk]; rfl
        have hym : (ys.map keyI)[k]? = some (keyI y) := by rw [List.getElem?_map, hyk]; rfl
        obtain ⟨W2, hW2⟩ : ∃ W2, W2 = wr.alloc (.cells #[.slice x.a x.n x.c, .bool x.u] 34) := ⟨_, rfl⟩
        obtain ⟨W3, hW3⟩ : ∃ W3, W3 = W2.alloc (.cells #[.slice y.a y.n y.c, .bool y.u] 34) := ⟨_, rfl⟩
        have hA2 : Below wr.heap.size wr W2 := by rw [hW2]; exact (Below.refl _ _).alloc (Nat.le_refl _) _
        have hA3 : Below W2.heap.size W2 W3 := by rw [hW3]; exact (Below.refl _ _).alloc (Nat.le_refl _) _
        have hs2 : W2.heap.size = wr.heap.size + 1 := by rw [hW2]; simp
        have hk2 : W2.heap[wr.heap.size]? = some (.cells #[.slice x.a x.n x.c, .bool x.u] 34 (0, 0)) := by rw [hW2]; exact Array.getElem?_push_size
        have hk3 : W3.heap[wr.heap.size + 1]? = some (.cells #[.slice y.a y.n y.c, .bool y.u] 34 (0, 0)) := by rw [hW3, ← hs2]; exact Array.getElem?_push_size
        have hk23 := (hA3.block wr.heap.size (by omega)).trans hk2
        have hq0 : (0 : Int) ≤ (k : Int) := by omega
        have hq1 : (k : Int) < (m : Int) := by omega
        have hbx' : b' < wr.heap.size := Nat.lt_of_lt_of_le hb' hsz
        have g0 := (hA2.cell (p := ⟨b', o' + k * 2, none⟩) hbx').trans e0
        have g1 := (hA2.cell (p := ⟨b', o' + k * 2 + 1, none⟩) hbx').trans e1
        obtain ⟨⟨p0, p1⟩, _⟩ := two_at2 hk23
        obtain ⟨⟨r0, r1⟩, _⟩ := two_at2 hk3
        have hB23 := Below.thenB hA2 (by omega) hA3
        have hcall := sameidx_any x y W3 ⟨x2.below hB23, x3, x5⟩ ⟨y2.below hB23, y3, y5⟩
        obtain ⟨t, ht⟩ : ∃ t, t = decide (keyI x = keyI y) := ⟨_, rfl⟩
        rw [← ht] at hcall
        have HB3 := Lib.hid (Below.thenB hbel hsz hB23)
        have HW2 := Lib.hid hW2.symm
        have HW3 := Lib.hid hW3.symm
        have HCL := Lib.hid hcall
        have hT := fun h : t = true => take_eq' hall.out hxm hym (of_decide_eq_true (ht.symm.trans h))
        have hF := fun h : t = false => show R = false by rw [HR.out]; exact decide_eq_false (ne_at' hxm hym (of_decide_eq_false (ht.symm.trans h)))
        have HTT := Lib.hid hT
        have HFF := Lib.hid hF
        obtain ⟨xa, xn, xc, xp, xu⟩ := x
        obtain ⟨ya, yn, yc, yp, yu⟩ := y
        simp only [] at c0 c1 e0 e1 g0 g1 p0 p1 r0 r1 HCL HW2 HW3
        clear hcall ht hT hF hxk hyk hxm hym hbel hA2 hA3 hk2 hk3 hk23 hW2 hW3 hall x2 x3 x5 y2 y3 y5 hB23
        cases t with
        | true =>
          have hall' := Lib.hid (HTT.out rfl)
          clear HTT HFF
          go_upto_region 6 with fail
          rw [HW2.out]
          go_upto_region 7 with fail
          rw [HW3.out]
          go_wp2_with fail
          refine HCL.out.mono ?_
          rintro e w4 ⟨rfl, hb4⟩
          have HB4 := Lib.hid (Below.thenB HB3.out HB3.out.size hb4)
          clear hb4 HB3 HCL HW2 HW3 c0 c1 e0 e1 g0 g1 p0 p1 r0 r1
          go_wp2
          go_roundw
          case rel => exact ⟨k + 1, by omega, by go_num, hall', HB4.out⟩
          case measure => simp [intOf]; omega
        | false =>
          have HF := Lib.hid (HFF.out rfl)
          clear HTT HFF
          go_upto_region 6 with fail
          rw [HW2.out]
          go_upto_region 7 with fail
          rw [HW3.out]
          go_wp2_with fail
          refine HCL.out.mono ?_
          rintro e w4 ⟨rfl, hb4⟩
          have HB4 := Lib.hid (Below.thenB HB3.out HB3.out.size hb4)
          clear hb4
          go_wp2
          go_ret
          exact ⟨by rw [HF.out]; rfl, HB4.out⟩
      · have hlt' : decide ((k : Int) < (m : Int)) = false := decide_eq_false (by omega)
        have HT := Lib.hid (show R = true by rw [HR.out]; exact decide_eq_true (eq_upto (by rw [List.length_map, List.length_map, HL.out, HL'.out]) hall.out (by rw [List.length_map, HL.out]; omega)))
        have HBL := Lib.hid hbel
        clear hall hbel
        go_wp2
        go_ret
        exact ⟨by rw [HT.out]; rfl, HBL.out⟩
  · have hd : ((m : Int) == (m' : Int)) = false := beq_false_of_ne (by omega)
    have HT := Lib.hid (show R = false by rw [HR.out]; refine decide_eq_false fun e => hmm ?_; have := congrArg List.length e; rwa [List.length_map, List.length_map, HL.out, HL'.out] at this)
    go_enter Try.func35, Try.ntmps35
    go_wp2
    go_ret
    exact ⟨by rw [HT.out]; rfl, Below.refl _ _⟩
end Go.Proofs.Ytapnkbamilkpoaa
