/- The document's Great, of schemas. -/
import Derived.Test.YtapnkbamilkpoaaSch6
namespace Go.Proofs.Ytapnkbamilkpoaa
open Go.RowKit
/-- As Idxs, SchAt: as they may come in. -/
def IdxsM (w : World) (a : Option Addr) (xs : List Idx) : Prop := xs = [] ∨ xs ≠ [] ∧ ∃ b o, a = some ⟨b, o, none⟩ ∧ b < w.heap.size ∧ ∀ (i : Nat) (x : Idx), xs[i]? = some x → (w.cell? ⟨b, o + i * 2, none⟩ = some (.slice x.a x.n x.c) ∧ w.cell? ⟨b, o + i * 2 + 1, none⟩ = some (.bool x.u)) ∧ (Ints .i64 w x.a x.ps ∧ x.ps.length = x.n ∧ x.n ≤ x.c ∧ x.n ≤ maxLen)
theorem IdxsM.below {w w' : World} {a : Option Addr} {xs : List Idx} (h : IdxsM w a xs) (hb : Below w.heap.size w w') : IdxsM w' a xs := by
  rcases h with h | ⟨hn, b, o, rfl, hlt, hz⟩
  · exact .inl h
  · refine .inr ⟨hn, b, o, rfl, Nat.lt_of_lt_of_le hlt hb.size, fun i x hi => ?_⟩
    obtain ⟨⟨z0, z1⟩, z2, z3, z4⟩ := hz i x hi
    exact ⟨⟨(hb.cell (p := ⟨b, o + i * 2, none⟩) hlt).trans z0, (hb.cell (p := ⟨b, o + i * 2 + 1, none⟩) hlt).trans z1⟩, z2.below hb, z3, z4⟩
theorem IdxsM.at {w w' : World} {a : Option Addr} {xs : List Idx} {m k : Nat} (hv : IdxsM w a xs) (hl : xs.length = m) (hk : k < m) (hb : Below w.heap.size w w') :
    ∃ b o x, a = some ⟨b, o, none⟩ ∧ b < w.heap.size ∧ xs[k]? = some x ∧ w'.cell? ⟨b, o + k * 2, none⟩ = some (.slice x.a x.n x.c) ∧ w'.cell? ⟨b, o + k * 2 + 1, none⟩ = some (.bool x.u) ∧ Ints .i64 w' x.a x.ps ∧ x.ps.length = x.n ∧ x.n ≤ x.c ∧ x.n ≤ maxLen := by
  rcases hv with hv | ⟨hne, b, o, rfl, hlt, hz⟩
  · rw [hv] at hl; simp at hl; omega
  · obtain ⟨x, hx⟩ : ∃ x, xs[k]? = some x := ⟨_, List.getElem?_eq_getElem (by omega)⟩
    obtain ⟨⟨z0, z1⟩, z2, z3, z4⟩ := hz k x hx
    exact ⟨b, o, x, rfl, hlt, hx, (hb.cell (p := ⟨b, o + k * 2, none⟩) hlt).trans z0, (hb.cell (p := ⟨b, o + k * 2 + 1, none⟩) hlt).trans z1, z2.below hb, z3, z4⟩
def SchAtM (w : World) (S : Sch) : Prop := (Cols w S.ca S.cs ∧ S.cs.length = S.cn ∧ S.cn ≤ S.cc ∧ S.cn ≤ maxLen) ∧ (IdxsM w S.ia S.xs ∧ S.xs.length = S.iN ∧ S.iN ≤ S.ic ∧ S.iN ≤ maxLen)
theorem SchAtM.below {w w' : World} {S : Sch} (h : SchAtM w S) (hb : Below w.heap.size w w') : SchAtM w' S := ⟨⟨h.1.1.below hb, h.1.2⟩, ⟨h.2.1.below hb, h.2.2⟩⟩
def sgreatB (S : Sch) : Bool := decide (12 < S.cs.length) || decide (8 < S.xs.length) || decide (100 < S.name.size) || S.cs.any (fun x => decide (100 < x.1.size)) || S.xs.any (fun x => decide (12 < x.ps.length))
theorem sgreat_not {S : Sch} (h : sgreatB S = false) : S.cs.length ≤ 12 ∧ S.xs.length ≤ 8 ∧ S.name.size ≤ 100 ∧ (∀ x ∈ S.cs, x.1.size ≤ 100) ∧ (∀ x ∈ S.xs, x.ps.length ≤ 12) := by
  unfold sgreatB at h
  simp only [Bool.or_eq_false_iff, decide_eq_false_iff_not, List.any_eq_false, Nat.not_lt, decide_eq_true_eq] at h
  exact ⟨h.1.1.1.1, h.1.1.1.2, h.1.1.2, h.1.2, h.2⟩
theorem sgreat_at {w : World} {S : Sch} (h : sgreatB S = false) (hS : SchAtM w S) : SchAt w S := by
  obtain ⟨g1, g2, _, _, g5⟩ := sgreat_not h
  obtain ⟨⟨a1, a2, a3, _⟩, b1, b2, b3, _⟩ := hS
  refine ⟨⟨a1, a2, a3, by omega⟩, ?_, b2, b3, by omega⟩
  rcases b1 with b1 | ⟨hn, b, o, ha, hlt, hz⟩
  · exact .inl b1
  · refine .inr ⟨hn, b, o, ha, hlt, fun i x hi => ?_⟩
    obtain ⟨z0, z2, z3, z4, _⟩ := hz i x hi
    have := g5 x (List.mem_of_getElem? hi)
    exact ⟨z0, z2, z3, z4, by omega⟩
set_option maxRecDepth 100000 in
set_option maxHeartbeats 4000000 in
theorem sgreat_any (S : Sch) (w : World) (hS : SchAtM w S) (hn : S.name.size ≤ maxLen) (hcn : ∀ x ∈ S.cs, x.1.size ≤ maxLen) :
    Calls Try.prog 7 #[.agg (schCells S)] w fun e w' => e = .returned (.bool (sgreatB S)) ∧ Below w.heap.size w w' := by
  obtain ⟨R, hR⟩ : ∃ R, R = sgreatB S := ⟨_, rfl⟩
  rw [← hR]
  unfold sgreatB at hR
  obtain ⟨name, ca, cn, cc, cs, ia, iN, ic, xs, limit, parts, place⟩ := S
  obtain ⟨⟨hc1, hc2, hc3, hc4⟩, hi1, hi2, hi3, hi4⟩ := hS
  simp only [] at hc1 hc2 hc3 hc4 hi1 hi2 hi3 hi4 hR hn hcn
  unfold maxLen at hc4 hi4 hn hcn
  unfold schCells
  simp only []
  obtain ⟨W1, hW1⟩ : ∃ W1, W1 = w.alloc (.cells #[.string name, .slice ca cn cc, .slice ia iN ic, .int .i64 limit, .int .i64 parts, .int .i64 place] 25) := ⟨_, rfl⟩
  have hA1 : Below w.heap.size w W1 := by rw [hW1]; exact (Below.refl _ _).alloc (Nat.le_refl _) _
  have hk1 : W1.heap[w.heap.size]? = some (.cells #[.string name, .slice ca cn cc, .slice ia iN ic, .int .i64 limit, .int .i64 parts, .int .i64 place] 25 (0, 0)) := by rw [hW1]; exact Array.getElem?_push_size
  obtain ⟨e0, e1, e2, e3, e4, e5⟩ := six_at hk1
  have HC := Lib.hid (hc1.below hA1)
  have HI := Lib.hid (hi1.below hA1)
  have HA := Lib.hid hA1
  have HW1 := Lib.hid hW1.symm
  have HCN := Lib.hid hcn
  have HCL := Lib.hid hc2
  have HIL := Lib.hid hi2
  clear hA1 hk1 hW1 hc1 hi1 hcn
  by_cases g1 : 12 < cn
  · have d1 : decide ((12 : Int) < (cn : Int)) = true := decide_eq_true (by omega)
    have HT := Lib.hid (show R = true by rw [hR, hc2, decide_eq_true g1]; simp)
    clear hR hc2 hi2
    go_enter Try.func7, Try.ntmps7
    go_upto_region 1 with fail
    rw [HW1.out]
    go_wp2
    go_ret
    exact ⟨by rw [HT.out]; rfl, HA.out⟩
  have d1 : decide ((12 : Int) < (cn : Int)) = false := decide_eq_false (by omega)
  by_cases g2 : 8 < iN
  · have d2 : decide ((8 : Int) < (iN : Int)) = true := decide_eq_true (by omega)
    have HT := Lib.hid (show R = true by rw [hR, hi2, decide_eq_true g2]; simp)
    clear hR hc2 hi2
    go_enter Try.func7, Try.ntmps7
    go_upto_region 1 with fail
    rw [HW1.out]
    go_wp2
    go_ret
    exact ⟨by rw [HT.out]; rfl, HA.out⟩
  have d2 : decide ((8 : Int) < (iN : Int)) = false := decide_eq_false (by omega)
  by_cases g3 : 100 < name.size
  · have d3 : decide ((100 : Int) < (name.size : Int)) = true := decide_eq_true (by omega)
    have HT := Lib.hid (show R = true by rw [hR, decide_eq_true g3]; simp)
    clear hR hc2 hi2
    go_enter Try.func7, Try.ntmps7
    go_upto_region 1 with fail
    rw [HW1.out]
    go_wp2
    go_ret
    exact ⟨by rw [HT.out]; rfl, HA.out⟩
  have d3 : decide ((100 : Int) < (name.size : Int)) = false := decide_eq_false (by omega)
  have HR0 := Lib.hid (show R = ((cs.drop 0).any (fun x => decide (100 < x.1.size)) || xs.any (fun x => decide (12 < x.ps.length))) by
    rw [hR, hc2, hi2, decide_eq_false g1, decide_eq_false g2, decide_eq_false g3, List.drop_zero]; simp)
  clear hR hc2 hi2
  go_enter Try.func7, Try.ntmps7
  go_upto_region 1 with fail
  rw [HW1.out]
  clear HW1
  go_wp2
  go_loop [3] (fun i => ∃ k : Nat, k ≤ cn ∧ i = .int .i64 (k : Int) ∧ Hid (R = ((cs.drop k).any (fun x => decide (100 < x.1.size)) || xs.any (fun x => decide (12 < x.ps.length))))) (fun i => cn - (intOf i).toNat)
  case atStart => exact ⟨0, Nat.zero_le _, rfl, HR0⟩
  case round =>
    obtain ⟨k, hk, rfl, HR⟩ := hrel
    clear HR0
    by_cases hlt : k < cn
    · have hlt' : decide ((k : Int) < (cn : Int)) = true := decide_eq_true (by omega)
      obtain ⟨b, o, x, rfl, hb, hxk, c0, c1⟩ := Cols.at HC.out HCL.out hlt (Below.refl _ _)
      have hsz := HCN.out x (List.mem_of_getElem? hxk)
      have hdr : R = (decide (100 < x.1.size) || ((cs.drop (k + 1)).any (fun x => decide (100 < x.1.size)) || xs.any (fun x => decide (12 < x.ps.length)))) := by
        rw [HR.out, List.drop_eq_getElem_cons (by rw [HCL.out]; exact hlt), List.any_cons]
        rw [List.getElem?_eq_getElem (by rw [HCL.out]; exact hlt)] at hxk
        injection hxk with hxk
        rw [hxk, Bool.or_assoc]
      have HD := Lib.hid hdr
      have hk0 : (0 : Int) ≤ (k : Int) := by omega
      have hk1 : (k : Int) < (cn : Int) := by omega
      clear HR hdr hxk
      obtain ⟨xn, xk⟩ := x
      simp only [] at c0 c1 hsz HD
      by_cases hs : 100 < xn.size
      · have hd2 : decide ((100 : Int) < (xn.size : Int)) = true := decide_eq_true (by omega)
        have HT := Lib.hid (show R = true by rw [HD.out, decide_eq_true hs]; rfl)
        clear HD hs
        go_wp2
        go_ret
        exact ⟨by rw [HT.out]; rfl, HA.out⟩
      · have hd2 : decide ((100 : Int) < (xn.size : Int)) = false := decide_eq_false (by omega)
        have HN := Lib.hid (show R = ((cs.drop (k + 1)).any (fun x => decide (100 < x.1.size)) || xs.any (fun x => decide (12 < x.ps.length))) by rw [HD.out, decide_eq_false hs]; rfl)
        clear HD hs
        go_wp2
        go_round
        case rel => exact ⟨k + 1, by omega, by go_num, HN⟩
        case measure => simp [intOf]; omega
    · have hlt' : decide ((k : Int) < (cn : Int)) = false := decide_eq_false (by omega)
      have HR1 := Lib.hid (show R = ((xs.drop 0).any (fun x => decide (12 < x.ps.length))) by rw [HR.out, List.drop_eq_nil_of_le (by rw [HCL.out]; omega), List.drop_zero]; rfl)
      clear HR
      go_wp2
      go_loop [4] (fun i => ∃ k : Nat, k ≤ iN ∧ i = .int .i64 (k : Int) ∧ Hid (R = (xs.drop k).any (fun x => decide (12 < x.ps.length)))) (fun i => iN - (intOf i).toNat)
      case atStart => exact ⟨0, Nat.zero_le _, rfl, HR1⟩
      case round =>
        obtain ⟨j, hj, rfl, HR⟩ := hrel
        clear HR1
        by_cases hlt : j < iN
        · have hlt2 : decide ((j : Int) < (iN : Int)) = true := decide_eq_true (by omega)
          obtain ⟨b, o, x, rfl, hb, hxk, c0, c1, _, z3, z4, z5⟩ := IdxsM.at HI.out HIL.out hlt (Below.refl _ _)
          have hdr : R = (decide (12 < x.ps.length) || ((xs.drop (j + 1)).any (fun x => decide (12 < x.ps.length)))) := by
            rw [HR.out, List.drop_eq_getElem_cons (by rw [HIL.out]; exact hlt), List.any_cons]
            rw [List.getElem?_eq_getElem (by rw [HIL.out]; exact hlt)] at hxk
            injection hxk with hxk
            rw [hxk]
          rw [z3] at hdr
          have HD := Lib.hid hdr
          have hk0 : (0 : Int) ≤ (j : Int) := by omega
          have hk1 : (j : Int) < (iN : Int) := by omega
          clear HR hdr hxk z3
          obtain ⟨xa, xn, xc, xp, xu⟩ := x
          simp only [] at c0 c1 z4 z5 HD
          unfold maxLen at z5
          by_cases hs : 12 < xn
          · have hd2 : decide ((12 : Int) < (xn : Int)) = true := decide_eq_true (by omega)
            have HT := Lib.hid (show R = true by rw [HD.out, decide_eq_true hs]; rfl)
            clear HD hs
            go_wp2
            go_ret
            exact ⟨by rw [HT.out]; rfl, HA.out⟩
          · have hd2 : decide ((12 : Int) < (xn : Int)) = false := decide_eq_false (by omega)
            have HN := Lib.hid (show R = ((xs.drop (j + 1)).any (fun x => decide (12 < x.ps.length))) by rw [HD.out, decide_eq_false hs]; rfl)
            clear HD hs
            go_wp2
            go_round
            case rel => exact ⟨j + 1, by omega, by go_num, HN⟩
            case measure => simp [intOf]; omega
        · have hlt2 : decide ((j : Int) < (iN : Int)) = false := decide_eq_false (by omega)
          have HT := Lib.hid (show R = false by rw [HR.out, List.drop_eq_nil_of_le (by rw [HIL.out]; omega)]; rfl)
          clear HR
          go_wp2
          go_ret
          exact ⟨by rw [HT.out]; rfl, HA.out⟩
end Go.Proofs.Ytapnkbamilkpoaa
