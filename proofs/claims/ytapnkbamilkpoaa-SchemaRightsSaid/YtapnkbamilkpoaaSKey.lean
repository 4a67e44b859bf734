/- Contracts of schema: key, Key. -/
import Derived.Test.YtapnkbamilkpoaaFits
import Derived.Test.YtapnkbamilkpoaaPick
import Derived.Test.YtapnkbamilkpoaaKey3
import Derived.Deep.RegionWith
import Derived.Deep.DrawnRows
namespace Go.Proofs.Ytapnkbamilkpoaa
open Go.RowKit
attribute [local go_sem ↓] Go.wp_at_zero Go.wp_at_succ
/-- What is picked: nothing, if a place isn't there. -/
def pickS (vs : List Val) (ps : List Int) : List Val := if ps.all (therB vs.length) = true then pickL vs ps else []
theorem pickS_ok {vs : List Val} (h : ValsOk vs) (ps : List Int) : ValsOk (pickS vs ps) := by
  unfold pickS
  split
  · intro v hv
    unfold pickL at hv
    obtain ⟨p, _, rfl⟩ := List.mem_map.1 hv
    by_cases hp : p.toNat < vs.length
    · rw [List.getD_eq_getElem?_getD, List.getElem?_eq_getElem hp]
      exact h _ (List.getElem_mem hp)
    · rw [List.getD_eq_getElem?_getD, List.getElem?_eq_none (by omega)]
      exact ⟨⟨by decide, by decide⟩, ⟨by decide, by decide⟩, Nat.zero_le _⟩
  · intro v hv; cases hv
theorem pickS_len (vs : List Val) (ps : List Int) : (pickS vs ps).length ≤ ps.length := by
  unfold pickS
  split
  · unfold pickL; rw [List.length_map]; exact Nat.le_refl _
  · exact Nat.zero_le _
set_option maxRecDepth 100000 in
set_option maxHeartbeats 2000000 in
theorem key1_any (S : Sch) (x : Idx) (a : Option Addr) (m c : Nat) (vs : List Val) (w : World) (hu : x.u = true) (hl : vs.length = m) (hm : m ≤ 281474976710656) (hv : Vals w a vs) (hok : ValsOk vs) (hx : Ints .i64 w x.a x.ps ∧ x.ps.length = x.n ∧ x.n ≤ 2000) :
    Calls Try.prog 46 #[.agg (schCells S), .agg #[.slice x.a x.n x.c, .bool x.u], .slice a m c] w fun e w' => e = .returned (.string ⟨(rowKey (pickS vs x.ps)).toArray⟩) ∧ Below w.heap.size w w' := by
  obtain ⟨name, ca, cn, cc, cs, ia, iN, ic, xs, limit, parts, place⟩ := S
  obtain ⟨xa, xn, xc, xp, xu⟩ := x
  simp only [] at hu hx
  subst hu
  unfold schCells
  simp only []
  obtain ⟨W1, hW1⟩ : ∃ W1, W1 = w.alloc (.cells #[.string name, .slice ca cn cc, .slice ia iN ic, .int .i64 limit, .int .i64 parts, .int .i64 place] 25) := ⟨_, rfl⟩
  have hA1 : Below w.heap.size w W1 := by rw [hW1]; exact (Below.refl _ _).alloc (Nat.le_refl _) _
  have hs1 : W1.heap.size = w.heap.size + 1 := by rw [hW1]; simp
  obtain ⟨W2, hW2⟩ : ∃ W2, W2 = W1.alloc (.cells #[.slice xa xn xc, .bool true] 34) := ⟨_, rfl⟩
  have hA2 : Below W1.heap.size W1 W2 := by rw [hW2]; exact (Below.refl _ _).alloc (Nat.le_refl _) _
  have hk2 : W2.heap[w.heap.size + 1]? = some (.cells #[.slice xa xn xc, .bool true] 34 (0, 0)) := by rw [hW2, ← hs1]; exact Array.getElem?_push_size
  have hs2 : W2.heap.size = w.heap.size + 2 := by rw [hW2]; simp [hs1]
  have hB2 := Below.thenB hA1 (by omega) hA2
  have hpk := pick_any a m c vs xa xn xc xp W2 hl hm (hv.below hB2) hx.2.1 (by omega) (hx.1.below hB2)
  rw [show (if xp.all (therB m) = true then pickL vs xp else []) = pickS vs xp by unfold pickS; rw [hl]] at hpk
  have hpo := pickS_ok hok xp
  have hpl := pickS_len vs xp
  rw [hx.2.1] at hpl
  generalize pickS vs xp = P at hpk hpo hpl ⊢
  have HPK := Lib.hid hpk
  have HPO := Lib.hid hpo
  have HK2 := Lib.hid hk2
  have HB2 := Lib.hid hB2
  have HW1 := Lib.hid hW1.symm
  have HW2 := Lib.hid hW2.symm
  obtain ⟨⟨e0, e1⟩, _⟩ := two_at2 hk2
  have hn2 := hx.2.2
  clear hpk hpo hk2 hB2 hA1 hA2 hW1 hW2 hv hok hx hl
  go_enter Try.func46, Try.ntmps46
  go_upto_region 1 with fail
  rw [HW1.out, HW2.out]
  go_wp2_with fail
  refine HPK.out.mono ?_
  rintro e w3 ⟨⟨pa, pc, rfl, hpv, _⟩, hb3⟩
  have hz3 := hb3.size
  have HK3 := Lib.hid ((hb3.block (w.heap.size + 1) (by omega)).trans HK2.out)
  have HB3 := Lib.hid (Below.thenB HB2.out HB2.out.size hb3)
  have HKY := Lib.hid (key_any pa P.length pc P w3 rfl (by omega) hpv HPO.out)
  clear hb3 hpv HPK HPO HK2 HB2 HW1 HW2 e0 e1
  go_wp2_with fail
  refine HKY.out.mono ?_
  rintro e w4 ⟨rfl, hb4⟩
  obtain ⟨⟨f0, f1⟩, _⟩ := two_at2 ((hb4.block (w.heap.size + 1) (by omega)).trans HK3.out)
  have HB4 := Lib.hid (Below.thenB HB3.out HB3.out.size hb4)
  clear hb4
  go_wp2
  go_ret
  exact ⟨rfl, HB4.out⟩
theorem rowKey_len (vs : List Val) : (rowKey vs).length ≤ 410 * vs.length := by
  unfold rowKey
  split
  · rename_i h; exact vkeys_len vs h
  · exact Nat.zero_le _
set_option maxRecDepth 100000 in
set_option maxHeartbeats 4000000 in
theorem key2_any (S : Sch) (x z : Idx) (a : Option Addr) (m c : Nat) (vs : List Val) (w : World) (hu : x.u = false) (hl : vs.length = m) (hm : m ≤ 281474976710656) (hv : Vals w a vs) (hok : ValsOk vs) (hx : Ints .i64 w x.a x.ps ∧ x.ps.length = x.n ∧ x.n ≤ 2000) (hS : SchAt w S) (hz : S.xs[0]? = some z) (hzu : z.u = true) (hzn : z.n ≤ 2000) :
    Calls Try.prog 46 #[.agg (schCells S), .agg #[.slice x.a x.n x.c, .bool x.u], .slice a m c] w fun e w' => e = .returned (.string ⟨(rowKey (pickS vs x.ps) ++ rowKey (pickS vs z.ps)).toArray⟩) ∧ Below w.heap.size w w' := by
  have hi0 : 0 < S.xs.length := by
    cases h : S.xs with
    | nil => rw [h] at hz; simp at hz
    | cons _ _ => simp
  have hKEY := fun W (hb : Below w.heap.size w W) => key1_any S z a m c vs W hzu hl hm (hv.below hb) hok
  obtain ⟨name, ca, cn, cc, cs, ia, iN, ic, xs, limit, parts, place⟩ := S
  obtain ⟨_, hI1, hI2, hI3, hI4⟩ := hS
  obtain ⟨xa, xn, xc, xp, xu⟩ := x
  obtain ⟨za, zn, zc, zp, zu⟩ := z
  simp only [] at hu hx hI1 hI2 hI3 hI4 hz hzu hzn hi0 hKEY
  subst hu hzu
  unfold schCells at hKEY ⊢
  simp only [] at hKEY ⊢
  obtain ⟨W1, hW1⟩ : ∃ W1, W1 = w.alloc (.cells #[.string name, .slice ca cn cc, .slice ia iN ic, .int .i64 limit, .int .i64 parts, .int .i64 place] 25) := ⟨_, rfl⟩
  have hA1 : Below w.heap.size w W1 := by rw [hW1]; exact (Below.refl _ _).alloc (Nat.le_refl _) _
  have hk1 : W1.heap[w.heap.size]? = some (.cells #[.string name, .slice ca cn cc, .slice ia iN ic, .int .i64 limit, .int .i64 parts, .int .i64 place] 25 (0, 0)) := by rw [hW1]; exact Array.getElem?_push_size
  have hs1 : W1.heap.size = w.heap.size + 1 := by rw [hW1]; simp
  obtain ⟨W2, hW2⟩ : ∃ W2, W2 = W1.alloc (.cells #[.slice xa xn xc, .bool false] 34) := ⟨_, rfl⟩
  have hA2 : Below W1.heap.size W1 W2 := by rw [hW2]; exact (Below.refl _ _).alloc (Nat.le_refl _) _
  have hk2 : W2.heap[w.heap.size + 1]? = some (.cells #[.slice xa xn xc, .bool false] 34 (0, 0)) := by rw [hW2, ← hs1]; exact Array.getElem?_push_size
  have hk12 := (hA2.block w.heap.size (by omega)).trans hk1
  have hs2 : W2.heap.size = w.heap.size + 2 := by rw [hW2]; simp [hs1]
  have hB2 := Below.thenB hA1 (by omega) hA2
  have hpk := pick_any a m c vs xa xn xc xp W2 hl hm (hv.below hB2) hx.2.1 (by omega) (hx.1.below hB2)
  rw [show (if xp.all (therB m) = true then pickL vs xp else []) = pickS vs xp by unfold pickS; rw [hl]] at hpk
  have hpo := pickS_ok hok xp
  have hpl := pickS_len vs xp
  rw [hx.2.1] at hpl
  have hql := pickS_len vs zp
  generalize pickS vs xp = P at hpk hpo hpl ⊢
  generalize pickS vs zp = Q at hKEY hql ⊢
  have HPK := Lib.hid hpk
  have HPO := Lib.hid hpo
  have HK1 := Lib.hid hk12
  have HK2 := Lib.hid hk2
  have HB2 := Lib.hid hB2
  have HI := Lib.hid hI1
  have HIL := Lib.hid hI2
  have HZ := Lib.hid hz
  have HKEY := Lib.hid hKEY
  have HW1 := Lib.hid hW1.symm
  have HW2 := Lib.hid hW2.symm
  obtain ⟨⟨e0, e1⟩, _⟩ := two_at2 hk2
  have hn2 := hx.2.2
  have hpos : 0 < iN := by rw [← hI2]; exact hi0
  clear hpk hpo hk1 hk2 hk12 hB2 hA1 hA2 hW1 hW2 hv hok hx hl hKEY hI1 hI2 hi0 hz
  go_enter Try.func46, Try.ntmps46
  go_upto_region 1 with fail
  rw [HW1.out, HW2.out]
  go_wp2_with fail
  refine HPK.out.mono ?_
  rintro e w3 ⟨⟨pa, pc, rfl, hpv, _⟩, hb3⟩
  have hz3 := hb3.size
  have HK13 := Lib.hid ((hb3.block w.heap.size (by omega)).trans HK1.out)
  have HK3 := Lib.hid ((hb3.block (w.heap.size + 1) (by omega)).trans HK2.out)
  have HB3 := Lib.hid (Below.thenB HB2.out HB2.out.size hb3)
  have HKY := Lib.hid (key_any pa P.length pc P w3 rfl (by omega) hpv HPO.out)
  clear hb3 hpv HPK HPO HK1 HK2 HB2 HW1 HW2 e0 e1
  go_wp2_with fail
  refine HKY.out.mono ?_
  rintro e w4 ⟨rfl, hb4⟩
  obtain ⟨⟨f0, f1⟩, _⟩ := two_at2 ((hb4.block (w.heap.size + 1) (by omega)).trans HK3.out)
  obtain ⟨g0, g1, g2, g3, g4, g5⟩ := six_at ((hb4.block w.heap.size (by omega)).trans HK13.out)
  have hb4' := Below.thenB HB3.out HB3.out.size hb4
  obtain ⟨bI, oI, z', hae, hbI, hzk, q0, q1, hzi, hzl, _, _⟩ := Idxs.at HI.out HIL.out hpos hb4'
  have hze : z' = ⟨za, zn, zc, zp, true⟩ := Option.some.inj (hzk.symm.trans HZ.out)
  subst hze
  rw [Nat.zero_mul, Nat.add_zero] at q0 q1
  simp only [] at q0 q1 hzi hzl
  subst hae
  have hzb : zn ≤ 2000 := hzn
  have HKE := Lib.hid (HKEY.out w4.drew hb4'.drew ⟨hzi.below (bdrewN (Below.refl _ _) 1), hzl, hzb⟩)
  obtain ⟨A, hA⟩ : ∃ A : ByteArray, A = ⟨(rowKey P).toArray⟩ := ⟨_, rfl⟩
  obtain ⟨B, hB⟩ : ∃ B : ByteArray, B = ⟨(rowKey Q).toArray⟩ := ⟨_, rfl⟩
  have hAs : A.size ≤ 820000 := by
    have h1 := rowKey_len P
    rw [hA]; show (rowKey P).toArray.size ≤ _; rw [List.size_toArray]; omega
  have hBs : B.size ≤ 820000 := by
    have h1 := rowKey_len Q
    rw [hB]; show (rowKey Q).toArray.size ≤ _; rw [List.size_toArray]; omega
  obtain ⟨Y, hY⟩ : ∃ Y : ByteArray, Y = A ++ B := ⟨_, rfl⟩
  have hYd : Y = ⟨(rowKey P ++ rowKey Q).toArray⟩ := by
    rw [hY, hA, hB]; apply ByteArray.ext; rw [ByteArray.data_append]; simp
  have hYe := hY.symm
  have HY := Lib.hid hYd
  have HB4 := Lib.hid hb4'
  rw [← hA]
  rw [← hB] at HKE
  have hz4 : w.heap.size + 2 ≤ w4.heap.size := by have h1 := hb4.size; omega
  have hi00 : (0 : Int) < (iN : Int) := by omega
  clear hA hB hY hYd hb4 hb4' hzk HI HIL HZ HKEY hzi HK13 HK3 HB3 HKY
  go_wp2_with fail
  go_region_with (go_at_call 46; refine HKE.out.mono ?_; rintro e w5 ⟨rfl, hb5⟩)
  all_goals
    have hB5 := Below.thenB HB4.out.drew HB4.out.size hb5
    go_wp2
    go_ret
    exact ⟨by rw [HY.out]; rfl, hB5⟩
end Go.Proofs.Ytapnkbamilkpoaa
