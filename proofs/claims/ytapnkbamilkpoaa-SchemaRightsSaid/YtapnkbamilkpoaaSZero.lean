/- Contract of schema's Zero. -/
import Derived.Test.YtapnkbamilkpoaaSch6
import Derived.Test.YtapnkbamilkpoaaOwn3
import Derived.Deep.OwnRows
namespace Go.Proofs.Ytapnkbamilkpoaa
open Go.RowKit
def zkind (k : Int) : Int := if 1 ≤ k ∧ k ≤ 3 then k else 0
def zvals (cs : List Col) : List Val := cs.map fun x => (zkind x.2, 0, ⟨#[]⟩)
def zcell (cs : List Col) (k j : Nat) : Value := if j % 3 = 2 then .string ⟨#[]⟩ else if j % 3 = 0 ∧ j / 3 < k then .int .i64 (zkind (cs.getD (j / 3) (⟨#[]⟩, 0)).2) else .int .i64 0
theorem zcell_0 (cs : List Col) (j : Nat) : zcell cs 0 j = if j % 3 = 2 then .string ⟨#[]⟩ else .int .i64 0 := by unfold zcell; simp
theorem zcell_step {cs : List Col} {k : Nat} {x : Col} (h : cs[k]? = some x) (j : Nat) : zcell cs (k + 1) j = if j = k * 3 then .int .i64 (zkind x.2) else zcell cs k j := by
  unfold zcell
  by_cases hj : j = k * 3
  · subst hj
    rw [if_pos rfl, if_neg (by omega), if_pos (by omega), Nat.mul_div_cancel _ (by decide), List.getD_eq_getElem?_getD, h]; rfl
  · rw [if_neg hj]
    by_cases h2 : j % 3 = 2
    · rw [if_pos h2, if_pos h2]
    · rw [if_neg h2, if_neg h2]
      by_cases h3 : j % 3 = 0 ∧ j / 3 < k
      · rw [if_pos h3, if_pos (by omega)]
      · rw [if_neg h3, if_neg (by omega)]
theorem zcell_same {cs : List Col} {k : Nat} {x : Col} (h : cs[k]? = some x) (hk : zkind x.2 = 0) (j : Nat) : zcell cs (k + 1) j = zcell cs k j := by
  rw [zcell_step h]
  by_cases hj : j = k * 3
  · rw [if_pos hj, hk]; unfold zcell; rw [if_neg (by omega), if_neg (by omega)]
  · rw [if_neg hj]
theorem zrow_vals {w : World} {B m : Nat} {cs : List Col} {t : TypeId} (h : w.rowIs B t (m * 3) (zcell cs m)) (hl : cs.length = m) : Vals w (some ⟨B, 0, none⟩) (zvals cs) := by
  by_cases hn : zvals cs = []
  · exact .inl hn
  · refine .inr ⟨hn, B, 0, rfl, h.lt, fun i v hi => ?_⟩
    unfold zvals at hi
    rw [List.getElem?_map] at hi
    cases hx : cs[i]? with
    | none => rw [hx] at hi; cases hi
    | some x =>
      rw [hx] at hi
      injection hi with hi
      subst hi
      have him : i < m := by rw [← hl]; exact (List.getElem?_eq_some_iff.1 hx).1
      have c0 := h.cell (i := i * 3) (by omega)
      have c1 := h.cell (i := i * 3 + 1) (by omega)
      have c2 := h.cell (i := i * 3 + 2) (by omega)
      have e0 : zcell cs m (i * 3) = .int .i64 (zkind x.2) := by unfold zcell; rw [if_neg (by omega), if_pos (by omega), Nat.mul_div_cancel _ (by decide), List.getD_eq_getElem?_getD, hx]; rfl
      have e1 : zcell cs m (i * 3 + 1) = .int .i64 0 := by unfold zcell; rw [if_neg (by omega), if_neg (by omega)]
      have e2 : zcell cs m (i * 3 + 2) = .string ⟨#[]⟩ := by unfold zcell; rw [if_pos (by omega)]
      rw [e0] at c0; rw [e1] at c1; rw [e2] at c2
      simp only [Nat.zero_add]
      exact ⟨c0, c1, c2⟩
theorem run_make_rowZ {P : Program} (t e : TypeId) (i : TypeInfo) (z : Value) (ht : P.underlying t = some (.slice e)) (hi : P.info? e = some i) (hz : i.zero = some z)
    (kl kc : IntKind) (n c : Nat) (hnc : n ≤ c) (hbytes : i.bytes * c ≤ 281474976710656) (h63 : c ≤ 9223372036854775807) (w : World) :
    (Instr.makeSlice t (.int kl (n : Int)) (.int kc (c : Int))).run P w = .ok (.slice (some ⟨w.heap.size, 0, none⟩) n c) (w.alloc (.cells (madeCells z.cells (c * i.size)) e)) := by
  have hb : (i.bytes : Int) * (c : Int) ≤ 281474976710656 := by
    have h : ((i.bytes * c : Nat) : Int) ≤ 281474976710656 := by omega
    rwa [Int.natCast_mul] at h
  have hr := run_make (P := P) w t e i z ht hi hz kl kc n c (by omega) (by omega) hb (by omega)
  simp only [Int.toNat_natCast] at hr
  exact hr
theorem made3_at (n i : Nat) (h : i < n * 3) : (madeCells #[Value.int .i64 0, .int .i64 0, .string ⟨#[]⟩] (n * 3))[i]? = some (if i % 3 = 2 then .string ⟨#[]⟩ else .int .i64 0) := by
  unfold madeCells
  have h1 : i % 3 < 3 := Nat.mod_lt _ (by decide)
  rw [Array.getElem?_map, Array.getElem?_eq_getElem (by simpa using h)]
  simp only [Array.getElem_range, Option.map_some, Option.some.injEq]
  rcases (by omega : i % 3 = 0 ∨ i % 3 = 1 ∨ i % 3 = 2) with e | e | e <;> simp [e]
set_option maxRecDepth 100000 in
set_option maxHeartbeats 4000000 in
theorem Zero_any (S : Sch) (w : World) (hS : SchAt w S) (hm : S.cn ≤ 1048576) :
    Calls Try.prog 12 #[.agg (schCells S)] w fun e w' => (∃ b, e = .returned (.slice (some ⟨b, 0, none⟩) S.cn S.cn) ∧ Vals w' (some ⟨b, 0, none⟩) (zvals S.cs)) ∧ Below w.heap.size w w' := by
  obtain ⟨i0, hi, iz0, iz1, iz2⟩ := info_parts info3_val
  obtain ⟨name, ca, cn, cc, cs, ia, iN, ic, xs, limit, parts, place⟩ := S
  obtain ⟨⟨hc1, hc2, hc3, hc4⟩, _⟩ := hS
  simp only [] at hc1 hc2 hc3 hc4 hm
  simp only [schCells]
  obtain ⟨W1, hW1⟩ : ∃ W1, W1 = w.alloc (.cells #[.string name, .slice ca cn cc, .slice ia iN ic, .int .i64 limit, .int .i64 parts, .int .i64 place] 25) := ⟨_, rfl⟩
  have hA1 : Below w.heap.size w W1 := by rw [hW1]; exact (Below.refl _ _).alloc (Nat.le_refl _) _
  have hk1 : W1.heap[w.heap.size]? = some (.cells #[.string name, .slice ca cn cc, .slice ia iN ic, .int .i64 limit, .int .i64 parts, .int .i64 place] 25 (0, 0)) := by rw [hW1]; exact Array.getElem?_push_size
  have hs1 : W1.heap.size = w.heap.size + 1 := by rw [hW1]; simp
  have hmk := run_make_rowZ (P := Try.prog) 35 55 i0 _ Try.underlying35 hi iz0 .i64 .i64 cn cn (Nat.le_refl _) (by rw [iz2]; omega) (by omega) W1
  rw [iz1, hs1] at hmk
  obtain ⟨W2, hW2⟩ : ∃ W2, W2 = W1.alloc (.cells (madeCells #[Value.int .i64 0, .int .i64 0, .string ⟨#[]⟩] (cn * 3)) 55) := ⟨_, rfl⟩
  have hA2 : Below W1.heap.size W1 W2 := by rw [hW2]; exact (Below.refl _ _).alloc (Nat.le_refl _) _
  have hrow : W2.rowIs (w.heap.size + 1) 55 (cn * 3) (zcell cs 0) := by
    have h := World.rowIs_alloc W1 (madeCells #[Value.int .i64 0, .int .i64 0, .string ⟨#[]⟩] (cn * 3)) 55 (zcell cs 0) (fun i hi => by
      rw [size_madeCells] at hi
      rw [made3_at cn i hi, zcell_0])
    rw [size_madeCells, hs1] at h
    rw [hW2]; exact h
  have hB2 := Below.thenB hA1 (by omega) hA2
  have hk2 := (hA2.block w.heap.size (by omega)).trans hk1
  have hs2 : w.heap.size + 1 < W2.heap.size := by rw [hW2]; simp [hs1]
  have hmk' : (Instr.makeSlice 35 (.int .i64 (cn : Int)) (.int .i64 (cn : Int))).run Try.prog W1 = .ok (.slice (some ⟨w.heap.size + 1, 0, none⟩) cn cn) W2 := by rw [hW2]; exact hmk
  obtain ⟨e0, e1, e2, e3, e4, e5⟩ := six_at hk1
  obtain ⟨g0, g1, g2, g3, g4, g5⟩ := six_at hk2
  have HC := Lib.hid hc1
  have HCL := Lib.hid hc2
  have HB2 := Lib.hid hB2
  have HK2 := Lib.hid hk2
  have HRW := Lib.hid hrow
  have HW1 := Lib.hid hW1.symm
  clear hmk hW2 hA1 hA2 hk1 hk2 hW1 hB2 hc1 hc2 hrow
  go_enter Try.func12, Try.ntmps12
  go_upto_region 1 with fail
  rw [HW1.out]
  clear HW1
  go_wp2
  clear hmk' e0 e1 e2 e3 e4 e5 g0 g1 g2 g3 g4 g5
  go_loopw [13] (fun iv wr => ∃ k : Nat, k ≤ cn ∧ iv = .int .i64 (k : Int) ∧ Hid (wr.rowIs (w.heap.size + 1) 55 (cn * 3) (zcell cs k)) ∧ w.heap.size + 1 < wr.heap.size ∧ Below w.heap.size w wr) (fun iv _ => cn - (intOf iv).toNat)
  case atStart => exact ⟨0, Nat.zero_le _, rfl, HRW, hs2, HB2.out⟩
  case round =>
    obtain ⟨k, hk, rfl, hrw, hsz, hbel⟩ := hrel
    clear HRW
    by_cases hlt : k < cn
    · have hlt' : decide ((k : Int) < (cn : Int)) = true := decide_eq_true (by omega)
      obtain ⟨b, o, x, rfl, hb, hxk, c0, c1⟩ := Cols.at HC.out HCL.out hlt hbel
      have HST := Lib.hid (fun j => zcell_step hxk j)
      have HSM := Lib.hid (fun (h : zkind x.2 = 0) j => zcell_same hxk h j)
      obtain ⟨xn, xk⟩ := x
      simp only [] at c0 c1 HST HSM
      obtain ⟨W3, hW3⟩ : ∃ W3, W3 = wr.alloc (.cells #[.string xn, .int .i64 xk] 29) := ⟨_, rfl⟩
      have hA3 : Below wr.heap.size wr W3 := by rw [hW3]; exact (Below.refl _ _).alloc (Nat.le_refl _) _
      have hk3 : W3.heap[wr.heap.size]? = some (.cells #[.string xn, .int .i64 xk] 29 (0, 0)) := by rw [hW3]; exact Array.getElem?_push_size
      obtain ⟨⟨j0, j1⟩, _⟩ := two_at2 hk3
      have hr3 := hrw.out.of_block (hA3.block (w.heap.size + 1) hsz)
      have s0 := hr3.cell (i := k * 3) (by omega)
      have s1 := hr3.frozen (k * 3)
      have HB3 := Lib.hid (Below.thenB hbel (by omega) hA3)
      have hs3 : w.heap.size + 1 < W3.heap.size := Nat.lt_of_lt_of_le hsz hA3.size
      have HR3 := Lib.hid hr3
      have HKI := Lib.hid (kind_any xk W3)
      have HW3 := Lib.hid hW3.symm
      have hk0 : (0 : Int) ≤ (k : Int) := by omega
      have hk1 : (k : Int) < (cn : Int) := by omega
      clear hxk hW3 hA3 hk3 hr3 hbel hrw
      by_cases hkk : 1 ≤ xk ∧ xk ≤ 3
      · rw [decide_eq_true hkk.1, decide_eq_true hkk.2] at HKI
        have hzk : zkind xk = xk := by unfold zkind; rw [if_pos hkk]
        rw [hzk] at HST
        clear hzk HSM
        go_upto_region 5 with fail
        rw [HW3.out]
        go_wp2_with fail
        refine HKI.out.mono ?_
        rintro e w4 ⟨rfl, hE⟩
        subst hE
        go_wp2
        go_roundw
        case rel =>
          refine ⟨k + 1, by omega, by go_num, ?_, by simpa [World.setCell] using hs3, HB3.out.setCell (by simp) _⟩
          exact (HR3.out.set (k * 3) (.int .i64 xk)).congr (fun j _ => (HST.out j).symm)
        case measure => simp [intOf]; omega
      · have hf : (decide (1 ≤ xk) && decide (xk ≤ 3)) = false := by
          rw [Bool.and_eq_false_iff]
          by_cases h : 1 ≤ xk
          · exact .inr (decide_eq_false (by omega))
          · exact .inl (decide_eq_false h)
        rw [hf] at HKI
        have hz0 : zkind xk = 0 := by unfold zkind; rw [if_neg hkk]
        have HN := Lib.hid (HR3.out.congr (fun j _ => (HSM.out hz0 j).symm))
        clear hz0 hf HST HSM
        go_upto_region 5 with fail
        rw [HW3.out]
        go_wp2_with fail
        refine HKI.out.mono ?_
        rintro e w4 ⟨rfl, hE⟩
        subst hE
        go_wp2
        go_roundw
        case rel => exact ⟨k + 1, by omega, by go_num, HN, hs3, HB3.out⟩
        case measure => simp [intOf]; omega
    · have hlt' : decide ((k : Int) < (cn : Int)) = false := decide_eq_false (by omega)
      have hkm : k = cn := by omega
      have HV := Lib.hid (show Vals wr (some ⟨w.heap.size + 1, 0, none⟩) (zvals cs) from zrow_vals (hkm ▸ hrw.out) HCL.out)
      have HBL := Lib.hid hbel
      clear hrw hbel
      go_wp2
      go_ret
      exact ⟨⟨_, rfl, HV.out⟩, HBL.out⟩
end Go.Proofs.Ytapnkbamilkpoaa
