/- Contract of schema's Col. -/
import Derived.Test.YtapnkbamilkpoaaSRef1
namespace Go.Proofs.Ytapnkbamilkpoaa
open Go.RowKit
/-- The place of the first column of a name, from a place on; -1. -/
def posFrom (nm : ByteArray) : Nat → List Col → Int
  | _, [] => -1
  | k, x :: r => if x.1 = nm then (k : Int) else posFrom nm (k + 1) r
theorem posFrom_step {nm : ByteArray} {cs : List Col} {k : Nat} {x : Col} (h : cs[k]? = some x) : posFrom nm k (cs.drop k) = if x.1 = nm then (k : Int) else posFrom nm (k + 1) (cs.drop (k + 1)) := by
  obtain ⟨h1, h2⟩ := List.getElem?_eq_some_iff.1 h
  rw [List.drop_eq_getElem_cons h1, h2]
  rfl
theorem posFrom_end {nm : ByteArray} {cs : List Col} {k : Nat} (h : cs.length ≤ k) : posFrom nm k (cs.drop k) = -1 := by rw [List.drop_eq_nil_of_le h]; rfl
theorem clo_col1 (x : Col) (nm : ByteArray) (B : Nat) (w : World) (h : w.heap[B]? = some (.cells #[.string nm] 9 (0, 0))) :
    Calls Try.prog 44 #[.agg #[.string x.1, .int .i64 x.2], .pointer (some ⟨B, 0, none⟩)] w fun e w' => e = .returned (.bool (decide (x.1 = nm))) ∧ Below w.heap.size w w' := by
  obtain ⟨xn, xk⟩ := x
  simp only []
  have hA : Below w.heap.size w (w.alloc (.cells #[.string xn, .int .i64 xk] 29)) := (Below.refl _ _).alloc (Nat.le_refl _) _
  have hl : B < w.heap.size := (Array.getElem?_eq_some_iff.1 h).1
  have d0 := Lib.cell_of_heap ((hA.block B hl).trans h) 0
  have HA := Lib.hid hA
  clear hA h
  by_cases he : xn = nm
  · subst he
    rw [decide_eq_true rfl]
    go_enter Try.func44, Try.ntmps44
    go_wp2
    go_ret
    exact ⟨by simp, HA.out⟩
  · rw [decide_eq_false he]
    have hn := bstr_ne he
    clear he
    go_enter Try.func44, Try.ntmps44
    go_wp2
    go_ret
    exact ⟨by simp, HA.out⟩
set_option maxRecDepth 100000 in
set_option maxHeartbeats 1000000 in
theorem idxf_col1 (a : Option Addr) (m c : Nat) (zs : List Col) (nm : ByteArray) (B : Nat) (w : World) (hl : zs.length = m) (hm : m ≤ 1048576) (hz : Cols w a zs) (h1 : w.heap[B]? = some (.cells #[.string nm] 9 (0, 0))) :
    Calls Try.prog 43 #[.slice a m c, .func (.func 44) #[] #[.pointer (some ⟨B, 0, none⟩)]] w fun e w' => e = .returned (.int .i64 (posFrom nm 0 zs)) ∧ Below w.heap.size w w' := by
  have l1 : B < w.heap.size := (Array.getElem?_eq_some_iff.1 h1).1
  obtain ⟨R, hR⟩ : ∃ R, R = posFrom nm 0 zs := ⟨_, rfl⟩
  rw [← hR]
  have HR0 : Hid (R = posFrom nm 0 (zs.drop 0)) := by rw [List.drop_zero]; exact hR
  have HZ := Lib.hid hz
  have HL := Lib.hid hl
  have H1 := Lib.hid h1
  clear hz hl h1 hR
  go_enter Try.func43, Try.ntmps43
  go_wp2
  go_loopw [8] (fun i wr => ∃ k : Nat, k ≤ m ∧ i = .int .i64 (k : Int) ∧ Hid (R = posFrom nm k (zs.drop k)) ∧ Below w.heap.size w wr) (fun i _ => m - (intOf i).toNat)
  case atStart => exact ⟨0, Nat.zero_le _, rfl, HR0, Below.refl _ _⟩
  case round =>
    obtain ⟨k, hk, rfl, hR, hbel⟩ := hrel
    have hsz := hbel.size
    clear HR0
    by_cases hlt : k < m
    · have hlt' : decide ((k : Int) < (m : Int)) = true := decide_eq_true (by omega)
      obtain ⟨bs, o, z, rfl, hbs, hzk, c0, c1⟩ := Cols.at HZ.out HL.out hlt hbel
      have hst := hR.out.trans (posFrom_step hzk)
      have HE := Lib.hid (clo_col1 z nm B wr ((hbel.block B l1).trans H1.out))
      have HBL := Lib.hid hbel
      obtain ⟨zn, zk⟩ := z
      simp only [] at c0 c1 HE hst
      clear hbel hzk hR
      by_cases he : zn = nm
      · have HT := Lib.hid (show R = (k : Int) by rw [hst, if_pos he])
        rw [decide_eq_true he] at HE
        clear he hst
        go_wp2_with fail
        refine HE.out.mono ?_
        rintro e w1 ⟨rfl, hb1⟩
        have HB1 := Lib.hid (Below.thenB HBL.out hsz hb1)
        clear hb1
        go_wp2
        go_ret
        exact ⟨by rw [HT.out]; rfl, HB1.out⟩
      · have HN := Lib.hid (show R = posFrom nm (k + 1) (zs.drop (k + 1)) by rw [hst, if_neg he])
        rw [decide_eq_false he] at HE
        clear he hst
        go_wp2_with fail
        refine HE.out.mono ?_
        rintro e w1 ⟨rfl, hb1⟩
        have HB1 := Lib.hid (Below.thenB HBL.out hsz hb1)
        clear hb1 c0 c1 HE HBL
        go_wp2
        go_roundw
        case rel => exact ⟨k + 1, by omega, by go_num, HN, HB1.out⟩
        case measure => simp [intOf]; omega
    · have hlt' : decide ((k : Int) < (m : Int)) = false := decide_eq_false (by omega)
      have HT := Lib.hid (show R = -1 by rw [hR.out]; exact posFrom_end (by rw [HL.out]; omega))
      have HBL := Lib.hid hbel
      clear hR hbel
      go_wp2
      go_ret
      exact ⟨by rw [HT.out]; rfl, HBL.out⟩
set_option maxRecDepth 100000 in
set_option maxHeartbeats 1000000 in
theorem Col_any (S : Sch) (nm : ByteArray) (w : World) (hS : SchAt w S) (hm : S.cn ≤ 1048576) :
    Calls Try.prog 18 #[.agg (schCells S), .string nm] w fun e w' => e = .returned (.int .i64 (posFrom nm 0 S.cs)) ∧ Below w.heap.size w w' := by
  obtain ⟨name, ca, cn, cc, cs, ia, iN, ic, xs, limit, parts, place⟩ := S
  obtain ⟨⟨hc1, hc2, hc3, hc4⟩, _⟩ := hS
  simp only [] at hc1 hc2 hc3 hc4 hm
  simp only [schCells]
  obtain ⟨W1, hW1⟩ : ∃ W1, W1 = w.alloc (.cells #[.string name, .slice ca cn cc, .slice ia iN ic, .int .i64 limit, .int .i64 parts, .int .i64 place] 25) := ⟨_, rfl⟩
  have hA1 : Below w.heap.size w W1 := by rw [hW1]; exact (Below.refl _ _).alloc (Nat.le_refl _) _
  have hk1 : W1.heap[w.heap.size]? = some (.cells #[.string name, .slice ca cn cc, .slice ia iN ic, .int .i64 limit, .int .i64 parts, .int .i64 place] 25 (0, 0)) := by rw [hW1]; exact Array.getElem?_push_size
  have hs1 : W1.heap.size = w.heap.size + 1 := by rw [hW1]; simp
  obtain ⟨W2, hW2⟩ : ∃ W2, W2 = W1.alloc (.cells #[.string nm] 9) := ⟨_, rfl⟩
  have hA2 : Below W1.heap.size W1 W2 := by rw [hW2]; exact (Below.refl _ _).alloc (Nat.le_refl _) _
  have hk2 : W2.heap[w.heap.size + 1]? = some (.cells #[.string nm] 9 (0, 0)) := by rw [hW2, ← hs1]; exact Array.getElem?_push_size
  obtain ⟨e0, e1, e2, e3, e4, e5⟩ := six_at ((hA2.block w.heap.size (by omega)).trans hk1)
  have hB2 := Below.thenB hA1 (by omega) hA2
  have HF := Lib.hid (idxf_col1 ca cn cc cs nm (w.heap.size + 1) W2 hc2 hm (hc1.below hB2) hk2)
  have HB2 := Lib.hid hB2
  have HW1 := Lib.hid hW1.symm
  have HW2 := Lib.hid hW2.symm
  generalize posFrom nm 0 cs = R at HF ⊢
  clear hA1 hA2 hk1 hk2 hW1 hW2 hB2 hc1 hc2
  go_enter Try.func18, Try.ntmps18
  go_upto_region 1 with fail
  rw [HW1.out, HW2.out]
  go_wp2_with fail
  refine HF.out.mono ?_
  rintro e w3 ⟨rfl, hb3⟩
  have hB := Below.thenB HB2.out HB2.out.size hb3
  go_wp2
  go_ret
  exact ⟨rfl, hB⟩
end Go.Proofs.Ytapnkbamilkpoaa
