/- Contracts of schema: Right. -/
import Derived.Test.YtapnkbamilkpoaaSch5
namespace Go.Proofs.Ytapnkbamilkpoaa
open Go.RowKit
/-- A schema, as it lies. -/
structure Sch where
  name : ByteArray
  ca : Option Addr
  cn : Nat
  cc : Nat
  cs : List Col
  ia : Option Addr
  iN : Nat
  ic : Nat
  xs : List Idx
  limit : Int
  parts : Int
  place : Int
abbrev schCells (S : Sch) : Array Value := #[.string S.name, .slice S.ca S.cn S.cc, .slice S.ia S.iN S.ic, .int .i64 S.limit, .int .i64 S.parts, .int .i64 S.place]
def SchAt (w : World) (S : Sch) : Prop := (Cols w S.ca S.cs ∧ S.cs.length = S.cn ∧ S.cn ≤ S.cc ∧ S.cn ≤ 281474976710656) ∧ (Idxs w S.ia S.xs ∧ S.xs.length = S.iN ∧ S.iN ≤ S.ic ∧ S.iN ≤ 281474976710656)
theorem SchAt.below {w w' : World} {S : Sch} (h : SchAt w S) (hb : Below w.heap.size w w') : SchAt w' S := ⟨⟨h.1.1.below hb, h.1.2⟩, ⟨h.2.1.below hb, h.2.2⟩⟩
def srightB (S : Sch) : Bool := namedB S.name.data.toList && (colsB S.cs && (idxsB (S.cs.length : Int) S.xs && ((decide (1 ≤ S.limit) && decide (S.limit ≤ 1000)) && ((decide (1 ≤ S.parts) && decide (S.parts ≤ 8)) && (decide (0 ≤ S.place) && decide (S.place ≤ (S.cs.length : Int) - 1))))))
theorem six_at {w : World} {b : Nat} {x0 x1 x2 x3 x4 x5 : Value} {T : Nat} (h : w.heap[b]? = some (.cells #[x0, x1, x2, x3, x4, x5] T (0, 0))) : w.cell? ⟨b, 0, none⟩ = some x0 ∧ w.cell? ⟨b, 1, none⟩ = some x1 ∧ w.cell? ⟨b, 2, none⟩ = some x2 ∧ w.cell? ⟨b, 3, none⟩ = some x3 ∧ w.cell? ⟨b, 4, none⟩ = some x4 ∧ w.cell? ⟨b, 5, none⟩ = some x5 :=
  ⟨Lib.cell_of_heap h 0, Lib.cell_of_heap h 1, Lib.cell_of_heap h 2, Lib.cell_of_heap h 3, Lib.cell_of_heap h 4, Lib.cell_of_heap h 5⟩
theorem colsB_len {cs : List Col} (h : colsB cs = true) : cs.length ≤ 8 := by
  unfold colsB at h
  simp only [Bool.and_eq_true, decide_eq_true_eq] at h
  exact h.1.1.2
set_option maxRecDepth 100000 in
set_option maxHeartbeats 4000000 in
theorem sright_any (S : Sch) (w : World) (hS : SchAt w S) :
    Calls Try.prog 15 #[.agg (schCells S)] w fun e w' => e = .returned (.bool (srightB S)) ∧ Below w.heap.size w w' := by
  obtain ⟨name, ca, cn, cc, cs, ia, iN, ic, xs, limit, parts, place⟩ := S
  obtain ⟨⟨hc1, hc2, hc3, hc4⟩, hi1, hi2, hi3, hi4⟩ := hS
  simp only [] at hc1 hc2 hc3 hc4 hi1 hi2 hi3 hi4
  unfold schCells srightB
  simp only []
  obtain ⟨W1, hW1⟩ : ∃ W1, W1 = w.alloc (.cells #[.string name, .slice ca cn cc, .slice ia iN ic, .int .i64 limit, .int .i64 parts, .int .i64 place] 25) := ⟨_, rfl⟩
  have hA1 : Below w.heap.size w W1 := by rw [hW1]; exact (Below.refl _ _).alloc (Nat.le_refl _) _
  have hk1 : W1.heap[w.heap.size]? = some (.cells #[.string name, .slice ca cn cc, .slice ia iN ic, .int .i64 limit, .int .i64 parts, .int .i64 place] 25 (0, 0)) := by rw [hW1]; exact Array.getElem?_push_size
  have hs1 : W1.heap.size = w.heap.size + 1 := by rw [hW1]; simp
  obtain ⟨W2, hW2⟩ : ∃ W2, W2 = W1.alloc (.cells #[.string name] 9) := ⟨_, rfl⟩
  have hA2 : Below W1.heap.size W1 W2 := by rw [hW2]; exact (Below.refl _ _).alloc (Nat.le_refl _) _
  have hk2 := (hA2.block w.heap.size (by omega)).trans hk1
  have hs2 : W2.heap.size = w.heap.size + 2 := by rw [hW2]; simp [hs1]
  have hnm := Named_any (some ⟨W1.heap.size, 0, none⟩) 1 1 [name] W2 rfl (by omega) (by rw [hW2]; exact one_text W1 name)
  rw [hs1] at hnm
  obtain ⟨t1, ht1⟩ : ∃ t, t = namedB name.data.toList := ⟨_, rfl⟩
  rw [show ([name].all fun s => namedB s.data.toList) = t1 by rw [ht1]; simp] at hnm
  obtain ⟨t2, ht2⟩ : ∃ t, t = colsB cs := ⟨_, rfl⟩
  obtain ⟨t3, ht3⟩ : ∃ t, t = idxsB (cs.length : Int) xs := ⟨_, rfl⟩
  obtain ⟨t4, ht4⟩ : ∃ t, t = (decide (1 ≤ limit) && decide (limit ≤ 1000)) := ⟨_, rfl⟩
  obtain ⟨t5, ht5⟩ : ∃ t, t = (decide (1 ≤ parts) && decide (parts ≤ 8)) := ⟨_, rfl⟩
  obtain ⟨t6, ht6⟩ : ∃ t, t = (decide (0 ≤ place) && decide (place ≤ (cs.length : Int) - 1)) := ⟨_, rfl⟩
  rw [← ht1, ← ht2, ← ht3, ← ht4, ← ht5, ← ht6]
  have HNM := Lib.hid hnm
  have HCO := Lib.hid (fun W (hb : Below w.heap.size w W) => show Calls Try.prog 39 #[.slice ca cn cc] W fun e w' => e = .returned (.bool t2) ∧ Below W.heap.size W w' from ht2 ▸ cols_any ca cn cc cs W hc2 hc3 hc4 (hc1.below hb))
  have H8 := Lib.hid (fun h : t2 = true => (by rw [← hc2]; exact colsB_len (ht2.symm.trans h) : cn ≤ 8))
  have HID := Lib.hid (fun W (hb : Below w.heap.size w W) (h8 : cn ≤ 8) => show Calls Try.prog 40 #[.slice ia iN ic, .int .i64 (cn : Int)] W fun e w' => e = .returned (.bool t3) ∧ Below W.heap.size W w' from by
    rw [ht3, hc2]; exact idxs_any ia iN ic xs (cn : Int) (by omega) (by omega) W hi2 hi3 hi4 (hi1.below hb))
  have HB4 := Lib.hid (fun W => show Calls Try.prog 41 #[.int .i64 1, .int .i64 limit, .int .i64 1000] W fun e w' => e = .returned (.bool t4) ∧ W = w' from ht4 ▸ between_any 1 limit 1000 W)
  have HB5 := Lib.hid (fun W => show Calls Try.prog 41 #[.int .i64 1, .int .i64 parts, .int .i64 8] W fun e w' => e = .returned (.bool t5) ∧ W = w' from ht5 ▸ between_any 1 parts 8 W)
  have HB6 := Lib.hid (fun W => show Calls Try.prog 41 #[.int .i64 0, .int .i64 place, .int .i64 ((cn : Int) - 1)] W fun e w' => e = .returned (.bool t6) ∧ W = w' from by rw [ht6, hc2]; exact between_any 0 place ((cn : Int) - 1) W)
  have HK2 := Lib.hid hk2
  have HA := Lib.hid (Below.thenB hA1 (by omega) hA2)
  have HW1 := Lib.hid hW1.symm
  have HW2 := Lib.hid hW2.symm
  obtain ⟨e0, e1, e2, e3, e4, e5⟩ := six_at hk1
  clear hnm hk1 hk2 hA1 hA2 hW1 hW2 ht1 ht2 ht3 ht4 ht5 ht6 hc1 hc2 hi1 hi2
  go_enter Try.func15, Try.ntmps15
  go_upto_region 1 with fail
  rw [HW1.out]
  go_wp2_with fail
  rw [HW2.out]
  refine HNM.out.mono ?_
  rintro e w3 ⟨rfl, hb3⟩
  have HK3 := Lib.hid ((hb3.block w.heap.size (by omega)).trans HK2.out)
  have HB3 := Lib.hid (Below.thenB HA.out HA.out.size hb3)
  have hs3 : w.heap.size < w3.heap.size := by have := hb3.size; omega
  obtain ⟨f0, f1, f2, f3, f4, f5⟩ := six_at HK3.out
  clear hb3 HNM HW1 HW2 HK2 HA e0 e1 e2 e3 e4 e5
  cases t1 with
  | false =>
    go_wp2
    go_ret
    exact ⟨rfl, HB3.out⟩
  | true =>
  go_wp2_with fail
  refine (HCO.out _ HB3.out).mono ?_
  rintro e w4 ⟨rfl, hb4⟩
  have HK4 := Lib.hid ((hb4.block w.heap.size hs3).trans HK3.out)
  have HB4' := Lib.hid (Below.thenB HB3.out (Nat.le_of_lt hs3) hb4)
  have hs4 : w.heap.size < w4.heap.size := Nat.lt_of_lt_of_le hs3 hb4.size
  obtain ⟨g0, g1, g2, g3, g4, g5⟩ := six_at HK4.out
  clear hb4 HCO HK3 HB3 f0 f1 f2 f3 f4 f5
  cases t2 with
  | false =>
    go_wp2
    go_ret
    exact ⟨rfl, HB4'.out⟩
  | true =>
  have h8 := H8.out rfl
  have hw6 : IntKind.i64.wrap ((cn : Int) - 1) = (cn : Int) - 1 := by simp [IntKind.wrap, IntKind.bits, IntKind.signed]; omega
  go_wp2_with fail
  refine (HID.out _ HB4'.out h8).mono ?_
  rintro e w5 ⟨rfl, hb5⟩
  have HK5 := Lib.hid ((hb5.block w.heap.size hs4).trans HK4.out)
  have HB5' := Lib.hid (Below.thenB HB4'.out (Nat.le_of_lt hs4) hb5)
  obtain ⟨k0, k1, k2, k3, k4, k5⟩ := six_at HK5.out
  clear hb5 HID HK4 HB4' g0 g1 g2 g3 g4 g5
  cases t3 with
  | false =>
    go_wp2
    go_ret
    exact ⟨rfl, HB5'.out⟩
  | true =>
  go_wp2_with fail
  refine (HB4.out _).mono ?_
  rintro e w6 ⟨rfl, hE⟩
  subst hE
  cases t4 with
  | false =>
    go_wp2
    go_ret
    exact ⟨rfl, HB5'.out⟩
  | true =>
  go_wp2_with fail
  refine (HB5.out _).mono ?_
  rintro e w6 ⟨rfl, hE⟩
  subst hE
  cases t5 with
  | false =>
    go_wp2
    go_ret
    exact ⟨rfl, HB5'.out⟩
  | true =>
  go_wp2_with fail
  refine (HB6.out _).mono ?_
  rintro e w6 ⟨rfl, hE⟩
  subst hE
  go_wp2
  go_ret
  exact ⟨by simp, HB5'.out⟩
end Go.Proofs.Ytapnkbamilkpoaa
