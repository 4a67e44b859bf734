/- Contracts of schema: rightPlaces, rightCols, rightIndexes, Right. -/
import Derived.Test.YtapnkbamilkpoaaSch3
namespace Go.Proofs.Ytapnkbamilkpoaa
open Go.RowKit
def placeB (n : Int) (p : Int) : Bool := decide (0 ≤ p) && decide (p ≤ n - 1)
def placesB (n : Int) (ps : List Int) : Bool := decide (1 ≤ ps.length) && decide (ps.length ≤ 8) && ps.all (placeB n) && decide ps.Nodup
def colB (x : Col) : Bool := namedB x.1.data.toList && (decide (1 ≤ x.2) && decide (x.2 ≤ 3))
def colsB (cs : List Col) : Bool := decide (1 ≤ cs.length) && decide (cs.length ≤ 8) && cs.all colB && decide (cs.map (fun x : Col => x.1.data.toList)).Nodup
def headU : List Idx → Bool
  | x :: _ => x.u
  | [] => false
theorem headU_of {xs : List Idx} {z : Idx} (h : xs[0]? = some z) : headU xs = z.u := by
  cases xs with
  | nil => simp at h
  | cons x r => simp at h; rw [h]; rfl
def idxsB (n : Int) (xs : List Idx) : Bool := decide (1 ≤ xs.length) && decide (xs.length ≤ 4) && headU xs && xs.all (fun x => placesB n x.ps) && decide (xs.map (fun x : Idx => x.ps)).Nodup
set_option maxRecDepth 100000 in
set_option maxHeartbeats 2000000 in
theorem places_any (a : Option Addr) (m c : Nat) (zs : List Int) (n : Int) (hn0 : 0 ≤ n) (hn1 : n ≤ 1000000) (w : World) (hl : zs.length = m) (hmc : m ≤ c) (hm : m ≤ 281474976710656) (hz : Ints .i64 w a zs) :
    Calls Try.prog 57 #[.slice a m c, .int .i64 n] w fun e w' => e = .returned (.bool (placesB n zs)) ∧ Below w.heap.size w w' := by
  obtain ⟨R, hR⟩ : ∃ R, R = placesB n zs := ⟨_, rfl⟩
  rw [← hR]
  have HBT := Lib.hid (fun W => between_any 1 (m : Int) 8 W)
  by_cases hlen : 1 ≤ m ∧ m ≤ 8
  · rw [decide_eq_true (by omega : (1 : Int) ≤ (m : Int)), decide_eq_true (by omega : (m : Int) ≤ 8)] at HBT
    simp only [Bool.and_true] at HBT
    have HR := Lib.hid hR
    have HL := Lib.hid hl
    have HZ := Lib.hid hz
    have HUN := Lib.hid (fun W (hb : Below w.heap.size w W) => unlike_int a m c zs W hl hmc (by omega) (hz.below hb))
    have hw1 : IntKind.i64.wrap (n - 1) = n - 1 := by simp [IntKind.wrap, IntKind.bits, IntKind.signed]; omega
    clear hR hl hz
    go_enter Try.func57, Try.ntmps57
    go_wp2_with fail
    refine (HBT.out _).mono ?_
    rintro e w1 ⟨rfl, hE⟩
    subst hE
    clear HBT
    go_wp2
    go_loopw [13] (fun i wr => ∃ k : Nat, k ≤ m ∧ i = .int .i64 (k : Int) ∧ Hid ((zs.take k).all (placeB n) = true) ∧ Below w.heap.size w wr) (fun i _ => m - (intOf i).toNat)
    case atStart => exact ⟨0, Nat.zero_le _, rfl, Lib.hid (by simp), Below.refl _ _⟩
    case round =>
      obtain ⟨k, hk, rfl, hall, hbel⟩ := hrel
      have hsz := hbel.size
      by_cases hlt : k < m
      · have hlt' : decide ((k : Int) < (m : Int)) = true := decide_eq_true (by omega)
        rcases HZ.out with hv0 | ⟨hnn, bs, o, rfl, hbs, hcz⟩
        · have := HL.out
          rw [hv0] at this
          simp at this
          omega
        have hc := (hbel.cell (p := ⟨bs, o + k, none⟩) hbs).trans (hcz k (by rw [HL.out]; exact hlt))
        obtain ⟨z, hzk⟩ : ∃ z, zs[k]? = some z := ⟨_, List.getElem?_eq_getElem (by rw [HL.out]; exact hlt)⟩
        rw [List.getD_eq_getElem?_getD, hzk, Option.getD_some] at hc
        clear hcz
        have hstep : ∀ t, t = ((placeB n)) z → (t = true → Hid ((zs.take (k + 1)).all (placeB n) = true)) ∧ (t = false → R = false) := by
          intro t ht
          constructor
          · intro h
            show (zs.take (k + 1)).all (placeB n) = true
            rw [List.take_add_one, hzk, List.all_append, hall.out]
            simpa [h] using (ht.symm.trans h)
          · intro h
            rw [HR.out]
            unfold placesB
            have : zs.all (placeB n) = false := List.all_eq_false.2 ⟨z, List.mem_of_getElem? hzk, by rw [ht] at h; simpa using h⟩
            rw [this]; simp
        have hbt := between_any 0 z (n - 1) wr
        obtain ⟨t, ht⟩ : ∃ t, t = (decide (0 ≤ z) && decide (z ≤ n - 1)) := ⟨_, rfl⟩
        rw [← ht] at hbt
        obtain ⟨hs1, hs2⟩ := hstep t ht
        have HB := Lib.hid hbt
        have HBL := Lib.hid hbel
        clear hbt ht hstep hall hbel hzk
        cases t with
        | true =>
          have hok := hs1 rfl
          clear hs1 hs2
          go_wp2_with fail
          refine HB.out.mono ?_
          rintro e w2 ⟨rfl, hE⟩
          subst hE
          go_wp2
          go_roundw
          case rel => exact ⟨k + 1, by omega, by go_num, hok, HBL.out⟩
          case measure => simp [intOf]; omega
        | false =>
          have HF := Lib.hid (hs2 rfl)
          clear hs1 hs2
          go_wp2_with fail
          refine HB.out.mono ?_
          rintro e w2 ⟨rfl, hE⟩
          subst hE
          go_wp2
          go_ret
          exact ⟨by rw [HF.out]; rfl, HBL.out⟩
      · have hlt' : decide ((k : Int) < (m : Int)) = false := decide_eq_false (by omega)
        have hun := HUN.out wr hbel
        have HT := Lib.hid (show decide (zs).Nodup = R by
          have := hall.out
          rw [List.take_of_length_le (by rw [HL.out]; omega)] at this
          rw [HR.out]; unfold placesB
          rw [HL.out, this, decide_eq_true hlen.1, decide_eq_true hlen.2]
          simp)
        rw [HT.out] at hun
        have HU2 := Lib.hid hun
        have HBL := Lib.hid hbel
        clear hall hbel hun
        go_wp2_with fail
        refine HU2.out.mono ?_
        rintro e w3 ⟨rfl, hb3⟩
        have hB := Below.thenB HBL.out hsz hb3
        go_wp2
        go_ret
        exact ⟨rfl, hB⟩
  · have hor : decide ((1 : Int) ≤ (m : Int)) = false ∨ decide ((m : Int) ≤ 8) = false := by
      rcases (by omega : ¬ 1 ≤ m ∨ ¬ m ≤ 8) with h | h
      · exact .inl (decide_eq_false (by omega))
      · exact .inr (decide_eq_false (by omega))
    have hbt : (decide ((1 : Int) ≤ (m : Int)) && decide ((m : Int) ≤ 8)) = false := by rcases hor with h | h <;> rw [h] <;> simp
    rw [hbt] at HBT
    have HT := Lib.hid (show R = false by
      rw [hR]; unfold placesB
      rw [hl]
      rcases (by omega : ¬ 1 ≤ m ∨ ¬ m ≤ 8) with h | h
      · rw [decide_eq_false h]; simp
      · rw [decide_eq_false h]; simp)
    clear hR hl hz hor hbt
    go_enter Try.func57, Try.ntmps57
    go_wp2_with fail
    refine (HBT.out _).mono ?_
    rintro e w1 ⟨rfl, hE⟩
    subst hE
    go_wp2
    go_ret
    exact ⟨by rw [HT.out]; rfl, Below.refl _ _⟩
theorem two_at2 {w : World} {b : Nat} {x y : Value} {T : Nat} (h : w.heap[b]? = some (.cells #[x, y] T (0, 0))) : (w.cell? ⟨b, 0, none⟩ = some x ∧ w.cell? ⟨b, 1, none⟩ = some y) ∧ w.frozen? ⟨b, 0, none⟩ = false ∧ w.frozen? ⟨b, 1, none⟩ = false :=
  ⟨⟨Lib.cell_of_heap h 0, Lib.cell_of_heap h 1⟩, Lib.frozen_of_heap h 0, Lib.frozen_of_heap h 1⟩
set_option maxRecDepth 100000 in
set_option maxHeartbeats 2000000 in
theorem cols_any (a : Option Addr) (m c : Nat) (zs : List Col) (w : World) (hl : zs.length = m) (hmc : m ≤ c) (hm : m ≤ 281474976710656) (hz : Cols w a zs) :
    Calls Try.prog 39 #[.slice a m c] w fun e w' => e = .returned (.bool (colsB zs)) ∧ Below w.heap.size w w' := by
  obtain ⟨R, hR⟩ : ∃ R, R = colsB zs := ⟨_, rfl⟩
  rw [← hR]
  have HBT := Lib.hid (fun W => between_any 1 (m : Int) 8 W)
  by_cases hlen : 1 ≤ m ∧ m ≤ 8
  · rw [decide_eq_true (by omega : (1 : Int) ≤ (m : Int)), decide_eq_true (by omega : (m : Int) ≤ 8)] at HBT
    simp only [Bool.and_true] at HBT
    have HR := Lib.hid hR
    have HL := Lib.hid hl
    have HZ := Lib.hid hz
    have HUN := Lib.hid (fun W (hb : Below w.heap.size w W) => unlike_col a m c zs W hl hmc (by omega) (hz.below hb))
    clear hR hl hz
    go_enter Try.func39, Try.ntmps39
    go_wp2_with fail
    refine (HBT.out _).mono ?_
    rintro e w1 ⟨rfl, hE⟩
    subst hE
    clear HBT
    go_wp2
    go_loopw [11] (fun i wr => ∃ k : Nat, k ≤ m ∧ i = .int .i64 (k : Int) ∧ Hid ((zs.take k).all colB = true) ∧ Below w.heap.size w wr) (fun i _ => m - (intOf i).toNat)
    case atStart => exact ⟨0, Nat.zero_le _, rfl, Lib.hid (by simp), Below.refl _ _⟩
    case round =>
      obtain ⟨k, hk, rfl, hall, hbel⟩ := hrel
      have hsz := hbel.size
      by_cases hlt : k < m
      · have hlt' : decide ((k : Int) < (m : Int)) = true := decide_eq_true (by omega)
        obtain ⟨bs, o, z, rfl, hbs, hzk, c0, c1⟩ := Cols.at HZ.out HL.out hlt hbel
        have hstep : ∀ t, t = (colB) z → (t = true → Hid ((zs.take (k + 1)).all colB = true)) ∧ (t = false → R = false) := by
          intro t ht
          constructor
          · intro h
            show (zs.take (k + 1)).all colB = true
            rw [List.take_add_one, hzk, List.all_append, hall.out]
            simpa [h] using (ht.symm.trans h)
          · intro h
            rw [HR.out]
            unfold colsB
            have : zs.all colB = false := List.all_eq_false.2 ⟨z, List.mem_of_getElem? hzk, by rw [ht] at h; simpa using h⟩
            rw [this]; simp
        obtain ⟨zn, zk⟩ := z
        simp only [] at c0 c1
        obtain ⟨W2, hW2⟩ : ∃ W2, W2 = wr.alloc (.cells #[.string zn, .int .i64 zk] 29) := ⟨_, rfl⟩
        have hA2 : Below wr.heap.size wr W2 := by rw [hW2]; exact (Below.refl _ _).alloc (Nat.le_refl _) _
        have hk2 : W2.heap[wr.heap.size]? = some (.cells #[.string zn, .int .i64 zk] 29 (0, 0)) := by rw [hW2]; exact Array.getElem?_push_size
        have hs2 : W2.heap.size = wr.heap.size + 1 := by rw [hW2]; simp
        obtain ⟨W3, hW3⟩ : ∃ W3, W3 = W2.alloc (.cells #[.string zn] 9) := ⟨_, rfl⟩
        have hA3 : Below W2.heap.size W2 W3 := by rw [hW3]; exact (Below.refl _ _).alloc (Nat.le_refl _) _
        have hk3 := (hA3.block wr.heap.size (by omega)).trans hk2
        have hs3 : W3.heap.size = wr.heap.size + 2 := by rw [hW3]; simp [hs2]
        have hnm := Named_any (some ⟨W2.heap.size, 0, none⟩) 1 1 [zn] W3 rfl (by omega) (by rw [hW3]; exact one_text W2 zn)
        rw [hs2] at hnm
        have hB3 := Below.thenB (Below.thenB hbel hsz hA2) (by omega) hA3
        have hkd := kind_any zk
        obtain ⟨t1, ht1⟩ : ∃ t, t = namedB zn.data.toList := ⟨_, rfl⟩
        obtain ⟨t2, ht2⟩ : ∃ t, t = (decide (1 ≤ zk) && decide (zk ≤ 3)) := ⟨_, rfl⟩
        rw [show ([zn].all fun s => namedB s.data.toList) = t1 by rw [ht1]; simp] at hnm
        simp only [← ht2] at hkd
        obtain ⟨hs1', hs2'⟩ := hstep (t1 && t2) (by rw [ht1, ht2]; rfl)
        have HNM := Lib.hid hnm
        have HKD := Lib.hid hkd
        have HB3 := Lib.hid hB3
        have HK3 := Lib.hid hk3
        have HW2 := Lib.hid hW2.symm
        have HW3 := Lib.hid hW3.symm
        obtain ⟨⟨e20, e21⟩, _⟩ := two_at2 hk2
        clear hnm hkd hB3 hk3 hk2 hW2 hW3 hA2 hA3 ht1 ht2 hstep hall hbel hzk
        cases t1 with
        | true =>
          cases t2 with
          | true =>
            have hok := hs1' rfl
            clear hs1' hs2'
            go_upto_region 6 with fail
            rw [HW2.out]
            go_wp2_with fail
            rw [HW3.out]
            refine HNM.out.mono ?_
            rintro e w4 ⟨rfl, hb4⟩
            have hk4 := (hb4.block wr.heap.size (by omega)).trans HK3.out
            obtain ⟨⟨f20, f21⟩, _⟩ := two_at2 hk4
            have HB4 := Lib.hid (Below.thenB HB3.out (by omega) hb4)
            clear hb4 hk4 HK3 HB3 HNM HW2 HW3 c0 c1 e20 e21
            go_wp2_with fail
            refine (HKD.out _).mono ?_
            rintro e w5 ⟨rfl, hE⟩
            subst hE
            go_wp2
            go_roundw
            case rel => exact ⟨k + 1, by omega, by go_num, hok, HB4.out⟩
            case measure => simp [intOf]; omega
          | false =>
            have HF := Lib.hid (hs2' rfl)
            clear hs1' hs2'
            go_upto_region 6 with fail
            rw [HW2.out]
            go_wp2_with fail
            rw [HW3.out]
            refine HNM.out.mono ?_
            rintro e w4 ⟨rfl, hb4⟩
            have hk4 := (hb4.block wr.heap.size (by omega)).trans HK3.out
            obtain ⟨⟨f20, f21⟩, _⟩ := two_at2 hk4
            have HB4 := Lib.hid (Below.thenB HB3.out (by omega) hb4)
            clear hb4 hk4 HK3 HB3 HNM HW2 HW3 c0 c1 e20 e21
            go_wp2_with fail
            refine (HKD.out _).mono ?_
            rintro e w5 ⟨rfl, hE⟩
            subst hE
            go_wp2
            go_ret
            exact ⟨by rw [HF.out]; rfl, HB4.out⟩
        | false =>
          have HF := Lib.hid (hs2' rfl)
          clear hs1' hs2'
          go_upto_region 6 with fail
          rw [HW2.out]
          go_wp2_with fail
          rw [HW3.out]
          refine HNM.out.mono ?_
          rintro e w4 ⟨rfl, hb4⟩
          have HB4 := Lib.hid (Below.thenB HB3.out (by omega) hb4)
          clear hb4
          go_wp2
          go_ret
          exact ⟨by rw [HF.out]; rfl, HB4.out⟩
      · have hlt' : decide ((k : Int) < (m : Int)) = false := decide_eq_false (by omega)
        have hun := HUN.out wr hbel
        have HT := Lib.hid (show decide (zs.map (fun x : Col => x.1.data.toList)).Nodup = R by
          have := hall.out
          rw [List.take_of_length_le (by rw [HL.out]; omega)] at this
          rw [HR.out]; unfold colsB
          rw [HL.out, this, decide_eq_true hlen.1, decide_eq_true hlen.2]
          simp)
        rw [HT.out] at hun
        have HU2 := Lib.hid hun
        have HBL := Lib.hid hbel
        clear hall hbel hun
        go_wp2_with fail
        refine HU2.out.mono ?_
        rintro e w3 ⟨rfl, hb3⟩
        have hB := Below.thenB HBL.out hsz hb3
        go_wp2
        go_ret
        exact ⟨rfl, hB⟩
  · have hor : decide ((1 : Int) ≤ (m : Int)) = false ∨ decide ((m : Int) ≤ 8) = false := by
      rcases (by omega : ¬ 1 ≤ m ∨ ¬ m ≤ 8) with h | h
      · exact .inl (decide_eq_false (by omega))
      · exact .inr (decide_eq_false (by omega))
    have hbt : (decide ((1 : Int) ≤ (m : Int)) && decide ((m : Int) ≤ 8)) = false := by rcases hor with h | h <;> rw [h] <;> simp
    rw [hbt] at HBT
    have HT := Lib.hid (show R = false by
      rw [hR]; unfold colsB
      rw [hl]
      rcases (by omega : ¬ 1 ≤ m ∨ ¬ m ≤ 8) with h | h
      · rw [decide_eq_false h]; simp
      · rw [decide_eq_false h]; simp)
    clear hR hl hz hor hbt
    go_enter Try.func39, Try.ntmps39
    go_wp2_with fail
    refine (HBT.out _).mono ?_
    rintro e w1 ⟨rfl, hE⟩
    subst hE
    go_wp2
    go_ret
    exact ⟨by rw [HT.out]; rfl, Below.refl _ _⟩
end Go.Proofs.Ytapnkbamilkpoaa
