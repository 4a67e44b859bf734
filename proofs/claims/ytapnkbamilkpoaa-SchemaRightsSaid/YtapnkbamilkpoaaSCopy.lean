/- Contract of schema's Copy. -/
import Derived.Test.YtapnkbamilkpoaaSClone
import Derived.Test.YtapnkbamilkpoaaSEq1
import Derived.Deep.OwnRows
import Derived.Deep.RegionWith
import Derived.Deep.DrawnRows
namespace Go.Proofs.Ytapnkbamilkpoaa
open Go.RowKit
attribute [local go_sem ↓] Go.wp_at_zero Go.wp_at_succ
def six6 (v0 v1 v2 v3 v4 v5 : Value) (j : Nat) : Value := match j with | 0 => v0 | 1 => v1 | 2 => v2 | 3 => v3 | 4 => v4 | _ => v5
theorem six6_new (w : World) (v0 v1 v2 v3 v4 v5 : Value) (T : TypeId) : (w.alloc (.cells #[v0, v1, v2, v3, v4, v5] T)).rowIs w.heap.size T 6 (six6 v0 v1 v2 v3 v4 v5) :=
  World.rowIs_alloc w #[v0, v1, v2, v3, v4, v5] T _ (fun i hi => by
    have : i < 6 := hi
    rcases (by omega : i = 0 ∨ i = 1 ∨ i = 2 ∨ i = 3 ∨ i = 4 ∨ i = 5) with rfl | rfl | rfl | rfl | rfl | rfl <;> rfl)
theorem six6_cells {w : World} {B : Nat} {T : TypeId} {v0 v1 v2 v3 v4 v5 : Value} (h : w.rowIs B T 6 (six6 v0 v1 v2 v3 v4 v5)) : (w.cell? ⟨B, 0, none⟩ = some v0 ∧ w.cell? ⟨B, 1, none⟩ = some v1 ∧ w.cell? ⟨B, 2, none⟩ = some v2 ∧ w.cell? ⟨B, 3, none⟩ = some v3 ∧ w.cell? ⟨B, 4, none⟩ = some v4 ∧ w.cell? ⟨B, 5, none⟩ = some v5) ∧ (w.frozen? ⟨B, 0, none⟩ = false ∧ w.frozen? ⟨B, 1, none⟩ = false ∧ w.frozen? ⟨B, 2, none⟩ = false ∧ w.frozen? ⟨B, 3, none⟩ = false ∧ w.frozen? ⟨B, 4, none⟩ = false ∧ w.frozen? ⟨B, 5, none⟩ = false) :=
  ⟨⟨h.cell (i := 0) (by decide), h.cell (i := 1) (by decide), h.cell (i := 2) (by decide), h.cell (i := 3) (by decide), h.cell (i := 4) (by decide), h.cell (i := 5) (by decide)⟩, h.frozen 0, h.frozen 1, h.frozen 2, h.frozen 3, h.frozen 4, h.frozen 5⟩
theorem six6_set1 {w : World} {B : Nat} {T : TypeId} {v0 v1 v2 v3 v4 v5 : Value} (h : w.rowIs B T 6 (six6 v0 v1 v2 v3 v4 v5)) (u : Value) : (w.setCell ⟨B, 1, none⟩ u).rowIs B T 6 (six6 v0 u v2 v3 v4 v5) :=
  (h.set 1 u).congr (fun i hi => by rcases (by omega : i = 0 ∨ i = 1 ∨ i = 2 ∨ i = 3 ∨ i = 4 ∨ i = 5) with rfl | rfl | rfl | rfl | rfl | rfl <;> rfl)
theorem six6_set2 {w : World} {B : Nat} {T : TypeId} {v0 v1 v2 v3 v4 v5 : Value} (h : w.rowIs B T 6 (six6 v0 v1 v2 v3 v4 v5)) (u : Value) : (w.setCell ⟨B, 2, none⟩ u).rowIs B T 6 (six6 v0 v1 u v3 v4 v5) :=
  (h.set 2 u).congr (fun i hi => by rcases (by omega : i = 0 ∨ i = 1 ∨ i = 2 ∨ i = 3 ∨ i = 4 ∨ i = 5) with rfl | rfl | rfl | rfl | rfl | rfl <;> rfl)
theorem six6_setAll {w : World} {B : Nat} {T : TypeId} {v0 v1 v2 v3 v4 v5 : Value} (h : w.rowIs B T 6 (six6 v0 v1 v2 v3 v4 v5)) (u0 u1 u2 u3 u4 u5 : Value) : ((((((w.setCell ⟨B, 0, none⟩ u0).setCell ⟨B, 1, none⟩ u1).setCell ⟨B, 2, none⟩ u2).setCell ⟨B, 3, none⟩ u3).setCell ⟨B, 4, none⟩ u4).setCell ⟨B, 5, none⟩ u5).rowIs B T 6 (six6 u0 u1 u2 u3 u4 u5) :=
  ((((((h.set 0 u0).set 1 u1).set 2 u2).set 3 u3).set 4 u4).set 5 u5).congr (fun i hi => by rcases (by omega : i = 0 ∨ i = 1 ∨ i = 2 ∨ i = 3 ∨ i = 4 ∨ i = 5) with rfl | rfl | rfl | rfl | rfl | rfl <;> rfl)
theorem own_keep {w w' : World} {B : Nat} {t : TypeId} {k : Nat} {v : Value} {n : Nat} {xs : List Value} (h : w.ownsRow B t k v n xs) (hk : ∀ g, v.ownBlock = some g → w'.heap[g]? = w.heap[g]?) : w'.ownsRow B t k v n xs := by
  refine ⟨h.1, ?_⟩
  rcases h.2 with h2 | ⟨g, cap, cur, hv, h3, hg, h4⟩
  · exact .inl h2
  · exact .inr ⟨g, cap, cur, hv, h3, (hk g (by rw [hv]; rfl)).trans hg, h4⟩
theorem own_mono {w : World} {B C : Nat} {t : TypeId} {k : Nat} {v : Value} {n : Nat} {xs : List Value} (h : w.ownsRow B t k v n xs) (hC : C ≤ B) : w.ownsRow C t k v n xs := by
  refine ⟨h.1, ?_⟩
  rcases h.2 with h2 | ⟨g, cap, cur, hv, h3, hg, h4⟩
  · exact .inl h2
  · exact .inr ⟨g, cap, cur, hv, Nat.le_trans hC h3, hg, h4⟩
theorem own_slice {w : World} {B : Nat} {t : TypeId} {k : Nat} {v : Value} {n : Nat} {xs : List Value} (h : w.ownsRow B t k v n xs) : ∃ a c, v = .slice a n c ∧ n ≤ c ∧ c ≤ maxLen ∧ ∀ p, a = some p → B ≤ p.block ∧ p.block < w.heap.size := by
  rcases h.2 with ⟨hv, h0⟩ | ⟨g, cap, cur, hv, h3, hg, h4, h5, _⟩
  · exact ⟨none, 0, by rw [hv, h0], by omega, by decide, fun p hp => (by cases hp)⟩
  · exact ⟨some ⟨g, 0, none⟩, cap, hv, h4, h5, fun p hp => by injection hp with hp; subst hp; exact ⟨h3, (Array.getElem?_eq_some_iff.1 hg).1⟩⟩
def icF (cur : Nat → Value) (ys : List Idx) (j : Nat) : Value := if j % 2 = 0 then (match ys[j / 2]? with | some y => .slice y.a y.n y.c | none => cur j) else cur j
theorem icF_nil (cur : Nat → Value) (j : Nat) : icF cur [] j = cur j := by unfold icF; split <;> simp
theorem icF_snoc (cur : Nat → Value) (ys : List Idx) (y : Idx) (j : Nat) : icF cur (ys ++ [y]) j = if j = ys.length * 2 then .slice y.a y.n y.c else icF cur ys j := by
  unfold icF
  by_cases hj : j = ys.length * 2
  · subst hj
    rw [if_pos (by omega), if_pos rfl, Nat.mul_div_cancel _ (by decide)]; simp
  · rw [if_neg hj]
    by_cases h2 : j % 2 = 0
    · rw [if_pos h2, if_pos h2]
      by_cases h3 : j / 2 < ys.length
      · rw [List.getElem?_append_left h3]
      · rw [List.getElem?_append_right (by omega), List.getElem?_eq_none (l := ys) (by omega)]
        rw [show j / 2 - ys.length = (j / 2 - ys.length - 1) + 1 by omega]; simp
    · rw [if_neg h2, if_neg h2]
theorem own_idx_row {w : World} {B : Nat} {t : TypeId} {a : Option Addr} {n c : Nat} {xs : List Idx} (h : w.ownsRow B t 2 (.slice a n c) n (icells xs)) : ∃ cur : Nat → Value, (∀ p, a = some p → p = ⟨p.block, 0, none⟩ ∧ w.rowIs p.block t (c * 2) cur) ∧ (∀ i x, xs[i]? = some x → cur (i * 2) = .slice x.a x.n x.c ∧ cur (i * 2 + 1) = .bool x.u) ∧ (0 < n → ∃ p, a = some p) := by
  rcases h.2 with ⟨hv, h0⟩ | ⟨g, cap, cur, hv, h3, hg, h4, h5, h6, h7⟩
  · injection hv with ha hn hc
    subst ha
    have hx : xs = [] := by
      have h1 := h.1
      rw [h0] at h1
      unfold icells at h1
      rw [pair_len] at h1
      exact List.eq_nil_of_length_eq_zero (by omega)
    subst hx
    exact ⟨fun _ => .bool false, fun p hp => (by cases hp), fun i x hx => (by simp at hx), fun hn => (by omega)⟩
  · injection hv with ha hn hc
    subst ha hc
    refine ⟨fun j => cur.toList.getD j (.bool false), fun p hp => ?_, fun i x hx => ?_, fun _ => ⟨_, rfl⟩⟩
    · injection hp with hp
      subst hp
      refine ⟨rfl, cur, hg, h6, fun i hi => ?_⟩
      show cur[i]? = some (cur.toList.getD i (.bool false))
      rw [List.getD_eq_getElem?_getD, Array.getElem?_toList, Array.getElem?_eq_getElem (by omega)]; rfl
    · obtain ⟨h8, h9⟩ := pair_mk (fun x : Idx => Value.slice x.a x.n x.c) (fun x : Idx => Value.bool x.u) xs i x hx
      have h10 : (icells xs)[i * 2]? = some (.slice x.a x.n x.c) := h8
      have h11 : (icells xs)[i * 2 + 1]? = some (.bool x.u) := h9
      rw [← h7, List.getElem?_take] at h10 h11
      split at h10 <;> split at h11
      · exact ⟨by show cur.toList.getD (i * 2) (.bool false) = _; rw [List.getD_eq_getElem?_getD, h10]; rfl, by show cur.toList.getD (i * 2 + 1) (.bool false) = _; rw [List.getD_eq_getElem?_getD, h11]; rfl⟩
      · cases h11
      · cases h10
      · cases h10
/-- An index of the copy: its numbers are its own. -/
def IdxNew (w : World) (G : Nat) (y : Idx) : Prop := w.ownsRow G 3 1 (.slice y.a y.n y.c) y.n (y.ps.map (Value.int .i64)) ∧ y.n ≤ 1048576
theorem IdxNew.keep {w w' : World} {G : Nat} {y : Idx} (h : IdxNew w G y) (hk : ∀ g, G ≤ g → g < w.heap.size → w'.heap[g]? = w.heap[g]?) : IdxNew w' G y :=
  ⟨own_keep h.1 (fun g hg => hk g (h.1.lt g hg).1 (h.1.lt g hg).2), h.2⟩
theorem IdxNew.facts {w : World} {G : Nat} {y : Idx} (h : IdxNew w G y) : Ints .i64 w y.a y.ps ∧ y.ps.length = y.n ∧ y.n ≤ y.c ∧ y.n ≤ 281474976710656 := by
  have h1 := h.1.1
  rw [List.length_map, Nat.mul_one] at h1
  obtain ⟨a, c, hv, hc, _⟩ := own_slice h.1
  injection hv with _ _ hcc
  exact ⟨own_ints h.1, h1, by rw [hcc]; exact hc, Nat.le_trans h.2 (by decide)⟩
/-- What Copy answers: a schema that is the same, in memory of its own. -/
def CopyRet (S : Sch) (w : World) (e : Ending) (w' : World) : Prop :=
  ∃ (S' : Sch) (G1 G2 : Nat), e = .returned (.agg (schCells S')) ∧ SchAt w' S' ∧ (S'.name = S.name ∧ S'.cs = S.cs ∧ S'.xs.map keyI = S.xs.map keyI ∧ S'.limit = S.limit ∧ S'.parts = S.parts ∧ S'.place = S.place) ∧ (S'.cn = S.cn ∧ S'.iN = S.iN) ∧
    (w'.ownsRow w.heap.size 29 2 (.slice S'.ca S'.cn S'.cc) S'.cn (ccells S.cs) ∧ ∀ p, S'.ca = some p → p.block < G1) ∧ (∀ p, S'.ia = some p → G1 ≤ p.block ∧ p.block < G2) ∧ ∀ y ∈ S'.xs, IdxNew w' G2 y
set_option maxRecDepth 100000 in
set_option maxHeartbeats 8000000 in
theorem Copy_any (S : Sch) (w : World) (hS : SchAt w S) (h1 : S.cn ≤ 1048576) (h2 : S.iN ≤ 1048576) (h3 : ∀ x ∈ S.xs, x.ps.length ≤ 1048576) :
    Calls Try.prog 9 #[.agg (schCells S)] w fun e w' => CopyRet S w e w' ∧ Below w.heap.size w w' := by
  obtain ⟨name, ca, cn, cc, cs, ia, iN, ic, xs, limit, parts, place⟩ := S
  obtain ⟨⟨hc1, hc2, hc3, hc4⟩, hi1, hi2, hi3, hi4⟩ := hS
  simp only [] at hc1 hc2 hc3 hc4 hi1 hi2 hi3 hi4 h1 h2 h3
  simp only [schCells]
  obtain ⟨W1, hW1⟩ : ∃ W1, W1 = w.alloc (.cells #[.string name, .slice ca cn cc, .slice ia iN ic, .int .i64 limit, .int .i64 parts, .int .i64 place] 25) := ⟨_, rfl⟩
  have hA1 : Below w.heap.size w W1 := by rw [hW1]; exact (Below.refl _ _).alloc (Nat.le_refl _) _
  have hs1 : W1.heap.size = w.heap.size + 1 := by rw [hW1]; simp
  have r1 : W1.rowIs w.heap.size 25 6 (six6 (.string name) (.slice ca cn cc) (.slice ia iN ic) (.int .i64 limit) (.int .i64 parts) (.int .i64 place)) := by rw [hW1]; exact six6_new w _ _ _ _ _ _ _
  obtain ⟨W2, hW2⟩ : ∃ W2, W2 = W1.alloc (.cells #[.string ⟨#[]⟩, .slice none 0 0, .slice none 0 0, .int .i64 0, .int .i64 0, .int .i64 0] 25) := ⟨_, rfl⟩
  have hA2 : Below W1.heap.size W1 W2 := by rw [hW2]; exact (Below.refl _ _).alloc (Nat.le_refl _) _
  have hs2 : W2.heap.size = w.heap.size + 2 := by rw [hW2]; simp [hs1]
  have r2 : W2.rowIs w.heap.size 25 6 (six6 (.string name) (.slice ca cn cc) (.slice ia iN ic) (.int .i64 limit) (.int .i64 parts) (.int .i64 place)) := r1.of_block (hA2.block _ (by omega))
  have q2 : W2.rowIs (w.heap.size + 1) 25 6 (six6 (.string ⟨#[]⟩) (.slice none 0 0) (.slice none 0 0) (.int .i64 0) (.int .i64 0) (.int .i64 0)) := by rw [hW2, ← hs1]; exact six6_new W1 _ _ _ _ _ _ _
  have hB2 := Below.thenB hA1 (by omega) hA2
  obtain ⟨⟨e0, e1, e2, e3, e4, e5⟩, _⟩ := six6_cells r2
  have HCC := Lib.hid (clonec_any ca cn cc cs W2 hc2 h1 (hc1.below hB2))
  have HI := Lib.hid hi1
  have HIL := Lib.hid hi2
  have HCL := Lib.hid hc2
  have HB2 := Lib.hid hB2
  have HR2 := Lib.hid r2
  have HQ2 := Lib.hid q2
  have HW1 := Lib.hid hW1.symm
  have HW2 := Lib.hid hW2.symm
  have H3 := Lib.hid h3
  clear hW1 hA1 r1 hW2 hA2 r2 q2 hB2 hc1 hi1 hc2 hi2 h3
  go_enter Try.func9, Try.ntmps9
  go_upto_region 1 with fail
  rw [HW1.out, HW2.out]
  clear HW1 HW2
  go_wp2_with fail
  refine HCC.out.mono ?_
  rintro e w3 ⟨v3, rfl, own3, hb3⟩
  obtain ⟨a3, c3, rfl, lc3, lm3, hp3⟩ := own_slice own3
  have r3 := HR2.out.of_block (hb3.block w.heap.size (by omega))
  have q3 := HQ2.out.of_block (hb3.block (w.heap.size + 1) (by omega))
  have hs3 : w.heap.size + 2 ≤ w3.heap.size := by have := hb3.size; omega
  have hB3 := Below.thenB HB2.out HB2.out.size hb3
  obtain ⟨⟨f0, f1, f2, f3, f4, f5⟩, g0, g1, g2, g3, g4, g5⟩ := six6_cells r3
  obtain ⟨w4, hw4⟩ : ∃ W, W = w3.setCell ⟨w.heap.size, 1, none⟩ (.slice a3 cn c3) := ⟨_, rfl⟩
  have hs4 : w4.heap.size = w3.heap.size := by rw [hw4]; simp
  have r4 := six6_set1 r3 (.slice a3 cn c3)
  rw [← hw4] at r4
  have k4 : ∀ g, g ≠ w.heap.size → w4.heap[g]? = w3.heap[g]? := fun g hg => by rw [hw4]; exact Below.heap_setCell _ _ _ _ hg
  have q4 := q3.of_block (k4 (w.heap.size + 1) (by omega))
  have own4 := own_keep (w' := w4) own3 (fun g hg => k4 g (by have := (own3.lt g hg).1; omega))
  have hB4 : Below w.heap.size w w4 := by rw [hw4]; exact hB3.setCell (Nat.le_refl _) _
  have HCI := Lib.hid (clonei_any ia iN ic xs w4 HIL.out h2 (HI.out.below hB4))
  obtain ⟨⟨d0, d1, d2, d3, d4, d5⟩, _⟩ := six6_cells r4
  have HW4 := Lib.hid hw4.symm
  have HR4 := Lib.hid r4
  have HQ4 := Lib.hid q4
  have HO4 := Lib.hid own4
  have HB4 := Lib.hid hB4
  have HP3 := Lib.hid hp3
  clear hw4 r4 q4 own4 hB4 k4 r3 q3 own3 hb3 hB3 HCC HR2 HQ2 HB2 hp3 e0 e1 e2 e3 e4 e5
  go_upto_region 2 with fail
  rw [HW4.out]
  clear HW4 f0 f1 f2 f3 f4 f5 g0 g1 g2 g3 g4 g5
  go_wp2_with fail
  refine HCI.out.mono ?_
  rintro e w5 ⟨v5, rfl, own5, hb5⟩
  obtain ⟨a5, c5, rfl, lc5, lm5, hp5⟩ := own_slice own5
  have r5 := HR4.out.of_block (hb5.block w.heap.size (by omega))
  have q5 := HQ4.out.of_block (hb5.block (w.heap.size + 1) (by omega))
  have cown5 := own_keep (w' := w5) HO4.out (fun g hg => hb5.block g (HO4.out.lt g hg).2)
  have hs5 : w.heap.size + 2 ≤ w5.heap.size := by have := hb5.size; omega
  have hB5 := Below.thenB HB4.out HB4.out.size hb5
  obtain ⟨⟨f0, f1, f2, f3, f4, f5⟩, g0, g1, g2, g3, g4, g5⟩ := six6_cells r5
  obtain ⟨cur, cu1, cu2, cu3⟩ := own_idx_row own5
  obtain ⟨w6, hw6⟩ : ∃ W, W = w5.setCell ⟨w.heap.size, 2, none⟩ (.slice a5 iN c5) := ⟨_, rfl⟩
  have hs6 : w6.heap.size = w5.heap.size := by rw [hw6]; simp
  have r6 := six6_set2 r5 (.slice a5 iN c5)
  rw [← hw6] at r6
  have k6 : ∀ g, g ≠ w.heap.size → w6.heap[g]? = w5.heap[g]? := fun g hg => by rw [hw6]; exact Below.heap_setCell _ _ _ _ hg
  have q6 := q5.of_block (k6 (w.heap.size + 1) (by omega))
  have own6 := own_keep (w' := w6) cown5 (fun g hg => k6 g (by have := (HO4.out.lt g hg).1; omega))
  have hB6 : Below w.heap.size w w6 := by rw [hw6]; exact hB5.setCell (Nat.le_refl _) _
  have cu6 : ∀ p, a5 = some p → p = ⟨p.block, 0, none⟩ ∧ w6.rowIs p.block 34 (c5 * 2) cur := fun p hp => ⟨(cu1 p hp).1, (cu1 p hp).2.of_block (k6 _ (by have := (hp5 p hp).1; omega))⟩
  obtain ⟨⟨d0, d1, d2, d3, d4, d5⟩, _⟩ := six6_cells r6
  have HW6 := Lib.hid hw6.symm
  have HR6 := Lib.hid r6
  have HQ6 := Lib.hid q6
  have HO6 := Lib.hid own6
  have HB6 := Lib.hid hB6
  have CU := Lib.hid cu6
  have CU2 := Lib.hid cu2
  have CU3 := Lib.hid cu3
  have HP5 := Lib.hid hp5
  have hG : w4.heap.size ≤ w5.heap.size := hb5.size
  clear hw6 r6 q6 own6 hB6 k6 r5 q5 cown5 own5 hb5 hB5 cu1 cu2 cu3 cu6 hp5 HCI HR4 HQ4 HO4 HB4
  go_upto_region 3 with fail
  rw [HW6.out]
  clear HW6 f0 f1 f2 f3 f4 f5 g0 g1 g2 g3 g4 g5
  go_wp2
  clear d0 d1 d2 d3 d4 d5
  go_loopw [16] (fun iv wr => ∃ (k : Nat) (ys : List Idx), k ≤ iN ∧ iv = .int .i64 (k : Int) ∧ ys.length = k ∧ Hid (ys.map keyI = (xs.map keyI).take k) ∧ Hid (∀ y ∈ ys, IdxNew wr w5.heap.size y) ∧ Hid (∀ p, a5 = some p → wr.rowIs p.block 34 (c5 * 2) (icF cur ys)) ∧ Hid (wr.rowIs w.heap.size 25 6 (six6 (.string name) (.slice a3 cn c3) (.slice a5 iN c5) (.int .i64 limit) (.int .i64 parts) (.int .i64 place))) ∧ Hid (wr.rowIs (w.heap.size + 1) 25 6 (six6 (.string ⟨#[]⟩) (.slice none 0 0) (.slice none 0 0) (.int .i64 0) (.int .i64 0) (.int .i64 0))) ∧ Hid (wr.ownsRow W2.heap.size 29 2 (.slice a3 cn c3) cn (ccells cs)) ∧ w5.heap.size ≤ wr.heap.size ∧ Below w.heap.size w wr) (fun iv _ => iN - (intOf iv).toNat)
  case atStart => exact ⟨0, [], Nat.zero_le _, rfl, rfl, Lib.hid (by simp), Lib.hid (fun y hy => (List.not_mem_nil hy).elim), Lib.hid (fun p hp => (CU.out p hp).2.congr (fun j _ => (icF_nil cur j).symm)), HR6, HQ6, HO6, by omega, HB6.out⟩
  case round =>
    obtain ⟨k, ys, hk, rfl, hyl, hym, hyn, hrw, hrb, hrq, hro, hsz, hbel⟩ := hrel
    obtain ⟨⟨e0, e1, e2, e3, e4, e5⟩, _⟩ := six6_cells hrb.out
    clear HR6 HQ6 HO6 HB6
    by_cases hlt : k < iN
    · have hlt' : decide ((k : Int) < (iN : Int)) = true := decide_eq_true (by omega)
      obtain ⟨pi, hpi⟩ := CU3.out (by omega)
      obtain ⟨hpe, _⟩ := CU.out pi hpi
      obtain ⟨hp1, hp2⟩ := HP5.out pi hpi
      have hrow := hrw.out pi hpi
      obtain ⟨gi, oi, si⟩ := pi
      simp only [Addr.mk.injEq, true_and] at hpe
      obtain ⟨rfl, rfl⟩ := hpe
      simp only [] at hp1 hp2 hrow
      subst hpi
      obtain ⟨x, hxk⟩ : ∃ x, xs[k]? = some x := ⟨_, List.getElem?_eq_getElem (by rw [HIL.out]; exact hlt)⟩
      obtain ⟨hcu1, hcu2⟩ := CU2.out k x hxk
      have c0 := hrow.cell (i := k * 2) (by omega)
      have c1 := hrow.cell (i := k * 2 + 1) (by omega)
      have ic0 : icF cur ys (k * 2) = .slice x.a x.n x.c := by unfold icF; rw [if_pos (by omega), Nat.mul_div_cancel _ (by decide), List.getElem?_eq_none (by omega)]; exact hcu1
      have ic1 : icF cur ys (k * 2 + 1) = .bool x.u := by unfold icF; rw [if_neg (by omega)]; exact hcu2
      rw [ic0] at c0
      rw [ic1] at c1
      obtain ⟨bO, oO, x', hae, hbO, hxk', _, _, x2, x3, x4, x5⟩ := Idxs.at HI.out HIL.out hlt hbel
      have hxe : x' = x := Option.some.inj (hxk'.symm.trans hxk)
      subst hxe
      have hxl := H3.out x' (List.mem_of_getElem? hxk)
      have hkx : (xs.map keyI).take (k + 1) = (xs.map keyI).take k ++ [keyI x'] := take_snoc' (by rw [List.getElem?_map, hxk]; rfl)
      obtain ⟨xa, xn, xc, xp, xu⟩ := x'
      simp only [] at c0 c1 x2 x3 x4 x5 hxl
      simp only [keyI] at hkx
      obtain ⟨W3, hW3⟩ : ∃ W3, W3 = wr.alloc (.cells #[.slice xa xn xc, .bool xu] 34) := ⟨_, rfl⟩
      have hA3 : Below wr.heap.size wr W3 := by rw [hW3]; exact (Below.refl _ _).alloc (Nat.le_refl _) _
      have hk3 : W3.heap[wr.heap.size]? = some (.cells #[.slice xa xn xc, .bool xu] 34 (0, 0)) := by rw [hW3]; exact Array.getElem?_push_size
      have hs3' : W3.heap.size = wr.heap.size + 1 := by rw [hW3]; simp
      obtain ⟨⟨j0, j1⟩, _⟩ := two_at2 hk3
      have hgi : gi < wr.heap.size := by omega
      have hclone := clonep_any xa xn xc xp W3.drew x3 (by omega) ((x2.below hA3).below (bdrewN (Below.refl _ _) 1))
      have u2 : W3.drew.cell? ⟨w.heap.size, 2, none⟩ = some (.slice (some ⟨gi, 0, none⟩) iN c5) := (hA3.cell (p := ⟨w.heap.size, 2, none⟩) (by show w.heap.size < _; omega)).trans e2
      have u3 : W3.drew.cell? ⟨wr.heap.size, 0, none⟩ = some (.slice xa xn xc) := j0
      have hk0 : (0 : Int) ≤ (k : Int) := by omega
      have hk1 : (k : Int) < (iN : Int) := by omega
      have HCL3 := Lib.hid hclone
      have HW3 := Lib.hid hW3.symm
      have HBD := Lib.hid (Below.thenB hbel (by omega) hA3).drew
      have HK3 := Lib.hid (fun g (hg : g < wr.heap.size) => show W3.drew.heap[g]? = wr.heap[g]? from hA3.block g hg)
      have HRW := Lib.hid hrow
      have HKX := Lib.hid hkx
      have HX3 := Lib.hid x3
      clear hae hbO hclone hW3 hA3 hk3 hrow hkx x2 x3 x4 x5 hxk hxk' hcu1 hcu2 ic0 ic1 hbel hrw
      go_upto_region 6 with fail
      rw [HW3.out]
      clear HW3
      go_region_held3 (fun W => W.cell? ⟨w.heap.size, 2, none⟩ = some (.slice (some ⟨gi, 0, none⟩) iN c5) ∧ W.cell? ⟨wr.heap.size, 0, none⟩ = some (.slice xa xn xc))
        (first | (with_reducible exact ⟨t2, t3⟩) | (with_reducible exact ⟨m2, m3⟩) | go_keep)
        ((go_at_call 32; refine HCL3.out.mono ?_; rintro e w7 ⟨v7, rfl, own7, hb7⟩; obtain ⟨a7, c7, rfl, lc7, lm7, hp7⟩ := own_slice own7; obtain ⟨hc1, hf1⟩ := bcell hb7; have t2 := (hc1 w.heap.size 2 (by show w.heap.size < W3.heap.size; omega)).trans (by exact u2); have t3 := (hc1 wr.heap.size 0 (by show wr.heap.size < W3.heap.size; omega)).trans (by exact u3); have HR7 := Lib.hid (HRW.out.of_block ((hb7.block gi (by show gi < W3.heap.size; omega)).trans (HK3.out gi hgi))); have s0 := HR7.out.cell (i := k * 2) (by omega); have s1 := HR7.out.frozen (k * 2); have m2 := (World.cell?_setCell_far w7 ⟨gi, k * 2, none⟩ ⟨w.heap.size, 2, none⟩ (.slice a7 xn c7) (by show gi ≠ w.heap.size; omega)).trans t2; have m3 := (World.cell?_setCell_far w7 ⟨gi, k * 2, none⟩ ⟨wr.heap.size, 0, none⟩ (.slice a7 xn c7) (by show gi ≠ wr.heap.size; omega)).trans t3; clear hc1 hf1))
      have hs7 : W3.heap.size ≤ w7.heap.size := hb7.size
      have hB7 := Below.thenB HBD.out (by show w.heap.size ≤ W3.heap.size; omega) hb7
      have k7 : ∀ g, g < wr.heap.size → w7.heap[g]? = wr.heap[g]? := fun g hg => (hb7.block g (by show g < W3.heap.size; omega)).trans (HK3.out g hg)
      obtain ⟨w8, hw8⟩ : ∃ W, W = w7.setCell ⟨gi, k * 2, none⟩ (.slice a7 xn c7) := ⟨_, rfl⟩
      have k8 : ∀ g, g ≠ gi → w8.heap[g]? = w7.heap[g]? := fun g hg => by rw [hw8]; exact Below.heap_setCell _ _ _ _ hg
      have hs8 : w8.heap.size = w7.heap.size := by rw [hw8]; simp
      have hB8 : Below w.heap.size w w8 := by rw [hw8]; exact hB7.setCell (by show w.heap.size ≤ gi; omega) _
      have hr8 := (HR7.out.set (k * 2) (.slice a7 xn c7)).congr (g := icF cur (ys ++ [⟨a7, xn, c7, xp, xu⟩])) (fun j _ => by rw [icF_snoc, hyl])
      rw [← hw8] at hr8
      have rb8 := (hrb.out.of_block (k7 w.heap.size (by omega))).of_block (k8 w.heap.size (by omega))
      have rq8 := (hrq.out.of_block (k7 (w.heap.size + 1) (by omega))).of_block (k8 (w.heap.size + 1) (by omega))
      have ro8 := own_keep (w' := w8) hro.out (fun g hg => by
        obtain ⟨g, e1, e2⟩ := (⟨g, rfl, hg⟩ : ∃ g', g' = g ∧ _)
        subst e1
        have h3 := HP3.out ⟨g, 0, none⟩
        have hlt3 := hro.out.lt g e2
        have hgi3 : g < w4.heap.size := by
          rcases hro.out.2 with ⟨hv, _⟩ | ⟨g', cap, cur', hv, _⟩
          · rw [hv] at e2; cases e2
          · have e3 : some g' = some g := by rw [hv] at e2; exact e2
            injection e3 with e3
            subst e3
            injection hv with hv _ _
            have h4 : g' < w3.heap.size := (h3 hv).2
            omega
        exact (k8 g (by omega)).trans (k7 g hlt3.2))
      have yn8 : ∀ y ∈ ys ++ [(⟨a7, xn, c7, xp, xu⟩ : Idx)], IdxNew w8 w5.heap.size y := by
        intro y hy
        rcases List.mem_append.1 hy with hy | hy
        · exact (hyn.out y hy).keep (fun g h1 h2 => (k8 g (by omega)).trans (k7 g h2))
        · rw [List.mem_singleton] at hy
          subst hy
          exact ⟨own_mono (own_keep own7 (fun g hg => k8 g (by have h1 : W3.heap.size ≤ g := (own7.lt g hg).1; omega))) (by show w5.heap.size ≤ W3.heap.size; omega), by show xn ≤ 1048576; have := HX3.out; omega⟩
      have ym8 : (ys ++ [(⟨a7, xn, c7, xp, xu⟩ : Idx)]).map keyI = (xs.map keyI).take (k + 1) := by rw [List.map_append, hym.out, HKX.out]; rfl
      have HY1 := Lib.hid ym8
      have HY2 := Lib.hid yn8
      have HY3 := Lib.hid hr8
      have HY4 := Lib.hid rb8
      have HY5 := Lib.hid rq8
      have HY6 := Lib.hid ro8
      have HY7 := Lib.hid hB8
      have hw8' := hw8.symm
      clear ym8 yn8 hr8 rb8 rq8 ro8 hB8 hB7 k7 k8 hw8 own7 hb7 hym hyn hrb hrq hro HK3 HRW HR7 HBD HKX
      rw [hw8']
      go_wp2
      go_roundw
      case rel => exact ⟨k + 1, ys ++ [⟨a7, xn, c7, xp, xu⟩], by omega, by go_num, by simp [hyl], HY1, HY2, Lib.hid (fun p hp => by injection hp with hp; subst hp; exact HY3.out), HY4, HY5, HY6, by omega, HY7.out⟩
      case measure => simp [intOf]; omega
    · have hlt' : decide ((k : Int) < (iN : Int)) = false := decide_eq_false (by omega)
      have hkm : k = iN := by omega
      have hkk : ys.map keyI = xs.map keyI := by rw [hym.out, List.take_of_length_le (by rw [List.length_map, HIL.out]; omega)]
      obtain ⟨⟨p0, p1, p2, p3, p4, p5⟩, t0, t1, t2, t3, t4, t5⟩ := six6_cells hrq.out
      have hset := six6_setAll hrq.out (.string name) (.slice a3 cn c3) (.slice a5 iN c5) (.int .i64 limit) (.int .i64 parts) (.int .i64 place)
      obtain ⟨w9, hw9⟩ : ∃ W, W = ((((((wr.setCell ⟨w.heap.size + 1, 0, none⟩ (.string name)).setCell ⟨w.heap.size + 1, 1, none⟩ (.slice a3 cn c3)).setCell ⟨w.heap.size + 1, 2, none⟩ (.slice a5 iN c5)).setCell ⟨w.heap.size + 1, 3, none⟩ (.int .i64 limit)).setCell ⟨w.heap.size + 1, 4, none⟩ (.int .i64 parts)).setCell ⟨w.heap.size + 1, 5, none⟩ (.int .i64 place)) := ⟨_, rfl⟩
      rw [← hw9] at hset
      have k9 : ∀ g, g ≠ w.heap.size + 1 → w9.heap[g]? = wr.heap[g]? := fun g hg => by
        rw [hw9]
        rw [Below.heap_setCell _ _ _ _ hg, Below.heap_setCell _ _ _ _ hg, Below.heap_setCell _ _ _ _ hg, Below.heap_setCell _ _ _ _ hg, Below.heap_setCell _ _ _ _ hg, Below.heap_setCell _ _ _ _ hg]
      have hs9 : w9.heap.size = wr.heap.size := by rw [hw9]; simp
      have hB9 : Below w.heap.size w w9 := by
        rw [hw9]
        exact (((((hbel.setCell (Nat.le_succ _) _).setCell (Nat.le_succ _) _).setCell (Nat.le_succ _) _).setCell (Nat.le_succ _) _).setCell (Nat.le_succ _) _).setCell (Nat.le_succ _) _
      have ro9 := own_keep (w' := w9) hro.out (fun g hg => k9 g (by have := (hro.out.lt g hg).1; omega))
      have yn9 : ∀ y ∈ ys, IdxNew w9 w5.heap.size y := fun y hy => (hyn.out y hy).keep (fun g h1 h2 => k9 g (by omega))
      have hid9 : Idxs w9 a5 ys := by
        by_cases hn : ys = []
        · exact .inl hn
        · obtain ⟨p, hp⟩ := CU3.out (by rw [← hkm, ← hyl]; exact List.length_pos_iff.2 hn)
          obtain ⟨hpe, _⟩ := CU.out p hp
          have hrow := (hrw.out p hp).of_block (k9 p.block (by have := (HP5.out p hp).1; omega))
          have hlt9 := hrow.lt
          obtain ⟨gi, oi, si⟩ := p
          simp only [Addr.mk.injEq, true_and] at hpe
          obtain ⟨rfl, rfl⟩ := hpe
          refine .inr ⟨hn, gi, 0, hp, hlt9, fun i y hy => ?_⟩
          have hil : i < ys.length := (List.getElem?_eq_some_iff.1 hy).1
          have c0 := hrow.cell (i := i * 2) (by omega)
          have c1 := hrow.cell (i := i * 2 + 1) (by omega)
          have ic0 : icF cur ys (i * 2) = .slice y.a y.n y.c := by unfold icF; rw [if_pos (by omega), Nat.mul_div_cancel _ (by decide), hy]
          obtain ⟨x, hx⟩ : ∃ x, xs[i]? = some x := ⟨_, List.getElem?_eq_getElem (by rw [HIL.out]; omega)⟩
          have hu : y.u = x.u := by
            have h1 : (ys.map keyI)[i]? = some (keyI y) := by rw [List.getElem?_map, hy]; rfl
            rw [hkk, List.getElem?_map, hx] at h1
            injection h1 with h1
            exact (congrArg Prod.snd h1).symm
          have ic1 : icF cur ys (i * 2 + 1) = .bool y.u := by unfold icF; rw [if_neg (by omega), hu]; exact (CU2.out i x hx).2
          rw [ic0] at c0
          rw [ic1] at c1
          simp only [Nat.zero_add]
          exact ⟨⟨c0, c1⟩, (yn9 y (List.mem_of_getElem? hy)).facts⟩
      have hcol9 := own_cols ro9
      obtain ⟨⟨x0, x1, x2, x3, x4, x5⟩, _⟩ := six6_cells hset
      have HP := Lib.hid (show CopyRet ⟨name, ca, cn, cc, cs, ia, iN, ic, xs, limit, parts, place⟩ w (.returned (.agg #[.string name, .slice a3 cn c3, .slice a5 iN c5, .int .i64 limit, .int .i64 parts, .int .i64 place])) w9 from
        ⟨⟨name, a3, cn, c3, cs, a5, iN, c5, ys, limit, parts, place⟩, w4.heap.size, w5.heap.size, rfl, ⟨⟨hcol9, HCL.out, lc3, by show cn ≤ 281474976710656; omega⟩, hid9, by show ys.length = iN; omega, lc5, by show iN ≤ 281474976710656; omega⟩, ⟨rfl, rfl, hkk, rfl, rfl, rfl⟩, ⟨rfl, rfl⟩, ⟨own_mono ro9 (by omega), fun p hp => by have := (HP3.out p hp).2; omega⟩, fun p hp => HP5.out p hp, yn9⟩)
      have HB9 := Lib.hid hB9
      have hw9' := hw9.symm
      clear hset k9 hB9 ro9 yn9 hid9 hcol9 hym hyn hrw hrb hrq hro hbel hw9
      go_wp2
      simp [bodyPost, results, Try.results9, go_sem, x0, x1, x2, x3, x4, x5]
      exact ⟨HP.out, HB9.out⟩
end Go.Proofs.Ytapnkbamilkpoaa
