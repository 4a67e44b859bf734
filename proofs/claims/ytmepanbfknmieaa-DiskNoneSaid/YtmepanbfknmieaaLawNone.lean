/- DiskNone: of no disk, and no power, nothing comes. The walk. -/
import Derived.Test.YtmepanbfknmieaaDNone
namespace Go.Proofs.Ytmepanbfknmieaa
open Go.RowKit Go.Maps
theorem one_act {w : World} {A : ActM} (h : ActIn w A) : Acts (w.alloc (.cells A.cells.toArray 34)) (some ⟨w.heap.size, 0, none⟩) [A] := by
  have hA : Below w.heap.size w (w.alloc (.cells A.cells.toArray 34)) := (Below.refl _ _).alloc (Nat.le_refl _) _
  have hb : (w.alloc (.cells A.cells.toArray 34)).heap[w.heap.size]? = some (.cells A.cells.toArray 34 (0, 0)) := Array.getElem?_push_size
  refine .inr ⟨by simp, w.heap.size, 0, rfl, by simp, fun i B hi => ?_⟩
  cases i with
  | zero =>
    simp at hi
    subst hi
    refine ⟨fun j _ => ?_, h.below hA⟩
    rw [Lib.cell_of_heap hb, ← Array.getElem?_toList]
    congr 1
    omega
  | succ i => simp at hi
set_option maxRecDepth 100000 in
set_option maxHeartbeats 4000000 in
theorem none_walk (v0 : Value) (A : ActM) (w : World) (y0 : A1Arg w v0 A) :
    Calls Try.prog 7 #[v0] w fun e w' => e = .returned (.bool true) ∧ Below w.heap.size w w' := by
  obtain ⟨rfl, hin⟩ := y0
  have HAW := Lib.hid (fun w => awake6 w)
  obtain ⟨W1, hW1⟩ : ∃ W, W = w.alloc (.cells A.cells.toArray 34) := ⟨_, rfl⟩
  have hB1 : Below w.heap.size w W1 := by rw [hW1]; exact (Below.refl _ _).alloc (Nat.le_refl _) _
  have hk1 : W1.heap[w.heap.size]? = some (.cells A.cells.toArray 34 (0, 0)) := by rw [hW1]; exact Array.getElem?_push_size
  obtain ⟨W2, hW2⟩ : ∃ W, W = W1.alloc (.cells A.cells.toArray 34) := ⟨_, rfl⟩
  have hB2 : Below W1.heap.size W1 W2 := by rw [hW2]; exact (Below.refl _ _).alloc (Nat.le_refl _) _
  have hs1 : w.heap.size < W1.heap.size := by rw [hW1]; simp
  have hk2 : W2.heap[w.heap.size]? = some (.cells A.cells.toArray 34 (0, 0)) := (hB2.block _ hs1).trans hk1
  have hi1 := hin.below hB1
  have hG := great_any (some ⟨W1.heap.size, 0, none⟩) 1 1 [A] W2 rfl (by rw [hW2]; exact one_act hi1)
  rw [show greatL [A] = greatA A by simp [greatL]] at hG
  have hi2 := hi1.below hB2
  have HB2 := Lib.hid (Below.thenB hB1 hB1.size hB2)
  obtain ⟨t, ht⟩ : ∃ t, t = greatA A := ⟨_, rfl⟩
  rw [← ht] at hG
  have HDO := Lib.hid (fun h : greatA A = false => do_nil A W2 hi2 h)
  have hcs : A.cells.toArray = #[.int .i64 A.kind, .string A.name, .string A.to, .slice A.da A.dm A.dc, .int .i64 A.n, .slice A.ka A.km A.kc] := rfl
  rw [hcs] at hW1 hW2 hk1 hk2 HDO ⊢
  have x0 := Lib.cell_of_heap hk1 0
  have x1 := Lib.cell_of_heap hk1 1
  have x2 := Lib.cell_of_heap hk1 2
  have x3 := Lib.cell_of_heap hk1 3
  have x4 := Lib.cell_of_heap hk1 4
  have x5 := Lib.cell_of_heap hk1 5
  have z0 := Lib.cell_of_heap hk2 0
  have z1 := Lib.cell_of_heap hk2 1
  have z2 := Lib.cell_of_heap hk2 2
  have z3 := Lib.cell_of_heap hk2 3
  have z4 := Lib.cell_of_heap hk2 4
  have z5 := Lib.cell_of_heap hk2 5
  have hn : A.name.size ≤ maxLen := hin.name
  obtain ⟨kind, name, to, da, dm, dc, ds, n, ka, km, kc, ks⟩ := A
  simp only [] at x0 x1 x2 x3 x4 x5 z0 z1 z2 z3 z4 z5 hn hW1 hW2
  have HG := Lib.hid hG
  have HW1 := Lib.hid hW1.symm
  have HW2 := Lib.hid hW2.symm
  have HK2 := Lib.hid hk2
  have hl2 : w.heap.size < W2.heap.size := Nat.lt_of_lt_of_le hs1 hB2.size
  have HT := Lib.hid ht
  clear hin hW1 hW2 hB1 hB2 hk1 hk2 hi1 hi2 hG hcs ht
  cases t with
  | true =>
    go_enter Try.func7, Try.ntmps7
    go_upto_region 1 with fail
    rw [HW1.out]
    go_wp2_with fail
    rw [HW2.out]
    refine HG.out.mono ?_
    rintro e w3 ⟨rfl, hE⟩
    subst hE
    go_wp2_with fail
    refine (HAW.out _).mono ?_
    rintro e w3 ⟨rfl, hb3⟩
    have HB3 := Lib.hid (Below.thenB HB2.out HB2.out.size hb3)
    clear hb3
    go_wp2
    go_ret
    exact ⟨rfl, HB3.out⟩
  | false =>
    have hdo := HDO.out HT.out.symm
    obtain ⟨R, hR⟩ : ∃ R : Int, R = if kind = 6 ∨ kind = 7 then 0 else 1 := ⟨_, rfl⟩
    rw [show (if ActM.kind ⟨kind, name, to, da, dm, dc, ds, n, ka, km, kc, ks⟩ = 6 ∨ ActM.kind ⟨kind, name, to, da, dm, dc, ds, n, ka, km, kc, ks⟩ = 7 then (0 : Int) else 1) = R from hR.symm] at hdo
    simp only [] at hdo
    have HD2 := Lib.hid hdo
    have HR := Lib.hid hR
    clear hdo hR HDO HT
    have fin : ∀ (q6 q7 : Bool), (kind == 6) = q6 → (kind == 7) = q7 → R = (if (q6 || q7) = true then 0 else 1) → Calls Try.prog 7 #[.agg #[.int .i64 kind, .string name, .string to, .slice da dm dc, .int .i64 n, .slice ka km kc]] w fun e w' => e = .returned (.bool true) ∧ Below w.heap.size w w' := by
      intro q6 q7 hq6 hq7 hRR
      have p6 : (kind != 6) = !q6 := by rw [← hq6]; rfl
      have p7 : (kind != 7) = !q7 := by rw [← hq7]; rfl
      have HRR := Lib.hid hRR
      clear HR hRR
      go_enter Try.func7, Try.ntmps7
      go_upto_region 1 with fail
      rw [HW1.out]
      go_wp2_with fail
      rw [HW2.out]
      refine HG.out.mono ?_
      rintro e w3 ⟨rfl, hE⟩
      subst hE
      go_wp2_with fail
      refine HD2.out.mono ?_
      rintro e w3 ⟨rfl, hb3⟩
      have HB3 := Lib.hid (Below.thenB HB2.out HB2.out.size hb3)
      have hk3 := (hb3.block _ hl2).trans HK2.out
      have y0 := Lib.cell_of_heap hk3 0
      have y1 := Lib.cell_of_heap hk3 1
      have y2 := Lib.cell_of_heap hk3 2
      have y3 := Lib.cell_of_heap hk3 3
      have y4 := Lib.cell_of_heap hk3 4
      have y5 := Lib.cell_of_heap hk3 5
      have HPA := Lib.hid (parm_nil n w3)
      have HON := Lib.hid (don_nil w3)
      have HUS := Lib.hid (duses_nil w3)
      have HUD := Lib.hid (dused_nil w3)
      have HFR := Lib.hid (dfree_nil w3)
      have HKE := Lib.hid (dkept_nil name w3)
      have HNA := Lib.hid (dnames_nil (.slice none 0 0) w3)
      have HPO := Lib.hid (pon_nil w3)
      have HPU := Lib.hid (puses_nil w3)
      have HA3 := Lib.hid (HAW.out w3)
      clear hb3 hk3 HG HD2 HAW HK2
      obtain rfl : R = (if (q6 || q7) = true then 0 else 1) := HRR.out
      clear HRR
      cases q6 <;> cases q7 <;> (first | (exfalso; simp only [beq_iff_eq] at hq6 hq7; omega) | skip)
      all_goals
        simp only [Bool.or_false, Bool.or_true, if_true, Bool.false_eq_true, if_false]
        go_wp2_with fail
        refine HPA.out.mono ?_
        rintro e w4 ⟨rfl, hE⟩
        subst hE
        go_wp2_with fail
        refine HON.out.mono ?_
        rintro e w4 ⟨rfl, hE⟩
        subst hE
        go_wp2_with fail
        refine HUS.out.mono ?_
        rintro e w4 ⟨rfl, hE⟩
        subst hE
        go_wp2_with fail
        refine HUD.out.mono ?_
        rintro e w4 ⟨rfl, hE⟩
        subst hE
        go_wp2_with fail
        refine HFR.out.mono ?_
        rintro e w4 ⟨rfl, hE⟩
        subst hE
        go_wp2_with fail
        refine HKE.out.mono ?_
        rintro e w4 ⟨rfl, hE⟩
        subst hE
        go_wp2_with fail
        refine HNA.out.mono ?_
        rintro e w4 ⟨rfl, hE⟩
        subst hE
        go_wp2_with fail
        refine HPO.out.mono ?_
        rintro e w4 ⟨rfl, hE⟩
        subst hE
        go_wp2_with fail
        refine HPU.out.mono ?_
        rintro e w4 ⟨rfl, hE⟩
        subst hE
        go_wp2_with fail
        refine HA3.out.mono ?_
        rintro e w5 ⟨rfl, hb5⟩
        have HB5 := Lib.hid (Below.thenB HB3.out HB3.out.size hb5)
        clear hb5
        go_wp2
        go_ret
        exact ⟨rfl, HB5.out⟩
    by_cases k6 : kind = 6
    · exact fin true false (by simp [k6]) (by simp [k6]) (by rw [HR.out, if_pos (.inl k6)]; rfl)
    · by_cases k7 : kind = 7
      · exact fin false true (by simp [k7]) (by simp [k7]) (by rw [HR.out, if_pos (.inr k7)]; rfl)
      · exact fin false false (by simpa using k6) (by simpa using k7) (by rw [HR.out, if_neg (by rintro (h | h); exact k6 h; exact k7 h)]; rfl)
end Go.Proofs.Ytmepanbfknmieaa
