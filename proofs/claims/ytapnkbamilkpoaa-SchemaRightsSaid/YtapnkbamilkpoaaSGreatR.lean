/- The document's Great, of schemas. -/
import Derived.Test.YtapnkbamilkpoaaSch6
import Derived.Test.YtapnkbamilkpoaaRdVal
import Derived.Test.YtapnkbamilkpoaaRdInts
namespace Go.Proofs.Ytapnkbamilkpoaa
open Go.RowKit
/-- As Idxs, SchAt: as they may come in. -/
def IdxsM (w : World) (a : Option Addr) (xs : List Idx) : Prop := xs = [] ∨ xs ≠ [] ∧ ∃ b o, a = some ⟨b, o, none⟩ ∧ b < w.heap.size ∧ ∀ (i : Nat) (x : Idx), xs[i]? = some x → (w.cell? ⟨b, o + i * 2, none⟩ = some (.slice x.a x.n x.c) ∧ w.cell? ⟨b, o + i * 2 + 1, none⟩ = some (.bool x.u)) ∧ (Ints .i64 w x.a x.ps ∧ x.ps.length = x.n ∧ x.n ≤ x.c ∧ x.n ≤ maxLen)
theorem IdxsM.below {w w' : World} {a : Option Addr} {xs : List Idx} (h : IdxsM w a xs) (hb : Below w.heap.size w w') : IdxsM w' a xs := by
  rcases h with h | ⟨hn, b, o, rfl, hlt, hz⟩
  · exact .inl h
  · refine .inr ⟨hn, b, o, rfl, Nat.lt_of_lt_of_le hlt hb.size, fun i x hi => ?_⟩
    obtain ⟨⟨z0, z1⟩, z2, z3, z4⟩ := hz i x hi
    exact ⟨⟨(hb.cell (p := ⟨b, o + i * 2, none⟩) hlt).trans z0, (hb.cell (p := ⟨b, o + i * 2 + 1, none⟩) hlt).trans z1⟩, z2.below hb, z3, z4⟩
theorem IdxsM.at {w w' : World} {a : Option Addr} {xs : List Idx} {m k : Nat} (hv : IdxsM w a xs) (hl : xs.length = m) (hk : k < m) (hb : Below w.heap.size w w') :
    ∃ b o x, a = some ⟨b, o, none⟩ ∧ b < w.heap.size ∧ xs[k]? = some x ∧ w'.cell? ⟨b, o + k * 2, none⟩ = some (.slice x.a x.n x.c) ∧ w'.cell? ⟨b, o + k * 2 + 1, none⟩ = some (.bool x.u) ∧ Ints .i64 w' x.a x.ps ∧ x.ps.length = x.n ∧ x.n ≤ x.c ∧ x.n ≤ maxLen := by
  rcases hv with hv | ⟨hne, b, o, rfl, hlt, hz⟩
  · rw [hv] at hl; simp at hl; omega
  · obtain ⟨x, hx⟩ : ∃ x, xs[k]? = some x := ⟨_, List.getElem?_eq_getElem (by omega)⟩
    obtain ⟨⟨z0, z1⟩, z2, z3, z4⟩ := hz k x hx
    exact ⟨b, o, x, rfl, hlt, hx, (hb.cell (p := ⟨b, o + k * 2, none⟩) hlt).trans z0, (hb.cell (p := ⟨b, o + k * 2 + 1, none⟩) hlt).trans z1, z2.below hb, z3, z4⟩
def SchAtM (w : World) (S : Sch) : Prop := (Cols w S.ca S.cs ∧ S.cs.length = S.cn ∧ S.cn ≤ S.cc ∧ S.cn ≤ maxLen) ∧ (IdxsM w S.ia S.xs ∧ S.xs.length = S.iN ∧ S.iN ≤ S.ic ∧ S.iN ≤ maxLen)
theorem SchAtM.below {w w' : World} {S : Sch} (h : SchAtM w S) (hb : Below w.heap.size w w') : SchAtM w' S := ⟨⟨h.1.1.below hb, h.1.2⟩, ⟨h.2.1.below hb, h.2.2⟩⟩
def sgreatB (S : Sch) : Bool := decide (12 < S.cs.length) || decide (8 < S.xs.length) || decide (100 < S.name.size) || S.cs.any (fun x => decide (100 < x.1.size)) || S.xs.any (fun x => decide (12 < x.ps.length))
theorem sgreat_not {S : Sch} (h : sgreatB S = false) : S.cs.length ≤ 12 ∧ S.xs.length ≤ 8 ∧ S.name.size ≤ 100 ∧ (∀ x ∈ S.cs, x.1.size ≤ 100) ∧ (∀ x ∈ S.xs, x.ps.length ≤ 12) := by
  unfold sgreatB at h
  simp only [Bool.or_eq_false_iff, decide_eq_false_iff_not, List.any_eq_false, Nat.not_lt, decide_eq_true_eq] at h
  exact ⟨h.1.1.1.1, h.1.1.1.2, h.1.1.2, h.1.2, h.2⟩
theorem sgreat_at {w : World} {S : Sch} (h : sgreatB S = false) (hS : SchAtM w S) : SchAt w S := by
  obtain ⟨g1, g2, _, _, g5⟩ := sgreat_not h
  obtain ⟨⟨a1, a2, a3, _⟩, b1, b2, b3, _⟩ := hS
  refine ⟨⟨a1, a2, a3, by omega⟩, ?_, b2, b3, by omega⟩
  rcases b1 with b1 | ⟨hn, b, o, ha, hlt, hz⟩
  · exact .inl b1
  · refine .inr ⟨hn, b, o, ha, hlt, fun i x hi => ?_⟩
    obtain ⟨z0, z2, z3, z4, _⟩ := hz i x hi
    have := g5 x (List.mem_of_getElem? hi)
    exact ⟨z0, z2, z3, z4, by omega⟩
set_option maxRecDepth 100000 in
set_option maxHeartbeats 4000000 in
theorem sgreat_any (S : Sch) (w : World) (hS : SchAtM w S) (hn : S.name.size ≤ maxLen) (hcn : ∀ x ∈ S.cs, x.1.size ≤ maxLen) :
    Calls Try.prog 7 #[.agg (schCells S)] w fun e w' => e = .returned (.bool (sgreatB S)) ∧ Below w.heap.size w w' := by
  obtain ⟨R, hR⟩ : ∃ R, R = sgreatB S := ⟨_, rfl⟩
  rw [← hR]
  unfold sgreatB at hR
  obtain ⟨name, ca, cn, cc, cs, ia, iN, ic, xs, limit, parts, place⟩ := S
  obtain ⟨⟨hc1, hc2, hc3, hc4⟩, hi1, hi2, hi3, hi4⟩ := hS
  simp only [] at hc1 hc2 hc3 hc4 hi1 hi2 hi3 hi4 hR hn hcn
  unfold maxLen at hc4 hi4 hn hcn
  unfold schCells
  simp only []
  obtain ⟨W1, hW1⟩ : ∃ W1, W1 = w.alloc (.cells #[.string name, .slice ca cn cc, .slice ia iN ic, .int .i64 limit, .int .i64 parts, .int .i64 place] 25) := ⟨_, rfl⟩
  have hA1 : Below w.heap.size w W1 := by rw [hW1]; exact (Below.refl _ _).alloc (Nat.le_refl _) _
  have hk1 : W1.heap[w.heap.size]? = some (.cells #[.string name, .slice ca cn cc, .slice ia iN ic, .int .i64 limit, .int .i64 parts, .int .i64 place] 25 (0, 0)) := by rw [hW1]; exact Array.getElem?_push_size
  obtain ⟨e0, e1, e2, e3, e4, e5⟩ := six_at hk1
  have HC := Lib.hid (hc1.below hA1)
  have HI := Lib.hid (hi1.below hA1)
  have HA := Lib.hid hA1
  have HW1 := Lib.hid hW1.symm
  have HCN := Lib.hid hcn
  have HCL := Lib.hid hc2
  have HIL := Lib.hid hi2
  clear hA1 hk1 hW1 hc1 hi1 hcn
  by_cases g1 : 12 < cn
  · have d1 : decide ((12 : Int) < (cn : Int)) = true := decide_eq_true (by omega)
    have HT := Lib.hid (show R = true by rw [hR, hc2, decide_eq_true g1]; simp)
    clear hR hc2 hi2
    go_enter Try.func7, Try.ntmps7
    go_upto_region 1 with fail
    rw [HW1.out]
    go_wp2
    go_ret
    exact ⟨by rw [HT.out]; rfl, HA.out⟩
  have d1 : decide ((12 : Int) < (cn : Int)) = false := decide_eq_false (by omega)
  by_cases g2 : 8 < iN
  · have d2 : decide ((8 : Int) < (iN : Int)) = true := decide_eq_true (by omega)
    have HT := Lib.hid (show R = true by rw [hR, hi2, decide_eq_true g2]; simp)
    clear hR hc2 hi2
    go_enter Try.func7, Try.ntmps7
    go_upto_region 1 with fail
    rw [HW1.out]
    go_wp2
    go_ret
    exact ⟨by rw [HT.out]; rfl, HA.out⟩
  have d2 : decide ((8 : Int) < (iN : Int)) = false := decide_eq_false (by omega)
  by_cases g3 : 100 < name.size
  · have d3 : decide ((100 : Int) < (name.size : Int)) = true := decide_eq_true (by omega)
    have HT := Lib.hid (show R = true by rw [hR, decide_eq_true g3]; simp)
    clear hR hc2 hi2
    go_enter Try.func7, Try.ntmps7
    go_upto_region 1 with fail
    rw [HW1.out]
    go_wp2
    go_ret
    exact ⟨by rw [HT.out]; rfl, HA.out⟩
  have d3 : decide ((100 : Int) < (name.size : Int)) = false := decide_eq_false (by omega)
  have HR0 := Lib.hid (show R = ((cs.drop 0).any (fun x => decide (100 < x.1.size)) || xs.any (fun x => decide (12 < x.ps.length))) by
    rw [hR, hc2, hi2, decide_eq_false g1, decide_eq_false g2, decide_eq_false g3, List.drop_zero]; simp)
  clear hR hc2 hi2
  go_enter Try.func7, Try.ntmps7
  go_upto_region 1 with fail
  rw [HW1.out]
  clear HW1
  go_wp2
  go_loop [3] (fun i => ∃ k : Nat, k ≤ cn ∧ i = .int .i64 (k : Int) ∧ Hid (R = ((cs.drop k).any (fun x => decide (100 < x.1.size)) || xs.any (fun x => decide (12 < x.ps.length))))) (fun i => cn - (intOf i).toNat)
  case atStart => exact ⟨0, Nat.zero_le _, rfl, HR0⟩
  case round =>
    obtain ⟨k, hk, rfl, HR⟩ := hrel
    clear HR0
    by_cases hlt : k < cn
    · have hlt' : decide ((k : Int) < (cn : Int)) = true := decide_eq_true (by omega)
      obtain ⟨b, o, x, rfl, hb, hxk, c0, c1⟩ := Cols.at HC.out HCL.out hlt (Below.refl _ _)
      have hsz := HCN.out x (List.mem_of_getElem? hxk)
      have hdr : R = (decide (100 < x.1.size) || ((cs.drop (k + 1)).any (fun x => decide (100 < x.1.size)) || xs.any (fun x => decide (12 < x.ps.length)))) := by
        rw [HR.out, List.drop_eq_getElem_cons (by rw [HCL.out]; exact hlt), List.any_cons]
        rw [List.getElem?_eq_getElem (by rw [HCL.out]; exact hlt)] at hxk
        injection hxk with hxk
        rw [hxk, Bool.or_assoc]
      have HD := Lib.hid hdr
      have hk0 : (0 : Int) ≤ (k : Int) := by omega
      have hk1 : (k : Int) < (cn : Int) := by omega
      clear HR hdr hxk
      obtain ⟨xn, xk⟩ := x
      simp only [] at c0 c1 hsz HD
      by_cases hs : 100 < xn.size
      · have hd2 : decide ((100 : Int) < (xn.size : Int)) = true := decide_eq_true (by omega)
        have HT := Lib.hid (show R = true by rw [HD.out, decide_eq_true hs]; rfl)
        clear HD hs
        go_wp2
        go_ret
        exact ⟨by rw [HT.out]; rfl, HA.out⟩
      · have hd2 : decide ((100 : Int) < (xn.size : Int)) = false := decide_eq_false (by omega)
        have HN := Lib.hid (show R = ((cs.drop (k + 1)).any (fun x => decide (100 < x.1.size)) || xs.any (fun x => decide (12 < x.ps.length))) by rw [HD.out, decide_eq_false hs]; rfl)
        clear HD hs
        go_wp2
        go_round
        case rel => exact ⟨k + 1, by omega, by go_num, HN⟩
        case measure => simp [intOf]; omega
    · have hlt' : decide ((k : Int) < (cn : Int)) = false := decide_eq_false (by omega)
      have HR1 := Lib.hid (show R = ((xs.drop 0).any (fun x => decide (12 < x.ps.length))) by rw [HR.out, List.drop_eq_nil_of_le (by rw [HCL.out]; omega), List.drop_zero]; rfl)
      clear HR
      go_wp2
      go_loop [4] (fun i => ∃ k : Nat, k ≤ iN ∧ i = .int .i64 (k : Int) ∧ Hid (R = (xs.drop k).any (fun x => decide (12 < x.ps.length)))) (fun i => iN - (intOf i).toNat)
      case atStart => exact ⟨0, Nat.zero_le _, rfl, HR1⟩
      case round =>
        obtain ⟨j, hj, rfl, HR⟩ := hrel
        clear HR1
        by_cases hlt : j < iN
        · have hlt2 : decide ((j : Int) < (iN : Int)) = true := decide_eq_true (by omega)
          obtain ⟨b, o, x, rfl, hb, hxk, c0, c1, _, z3, z4, z5⟩ := IdxsM.at HI.out HIL.out hlt (Below.refl _ _)
          have hdr : R = (decide (12 < x.ps.length) || ((xs.drop (j + 1)).any (fun x => decide (12 < x.ps.length)))) := by
            rw [HR.out, List.drop_eq_getElem_cons (by rw [HIL.out]; exact hlt), List.any_cons]
            rw [List.getElem?_eq_getElem (by rw [HIL.out]; exact hlt)] at hxk
            injection hxk with hxk
            rw [hxk]
          rw [z3] at hdr
          have HD := Lib.hid hdr
          have hk0 : (0 : Int) ≤ (j : Int) := by omega
          have hk1 : (j : Int) < (iN : Int) := by omega
          clear HR hdr hxk z3
          obtain ⟨xa, xn, xc, xp, xu⟩ := x
          simp only [] at c0 c1 z4 z5 HD
          unfold maxLen at z5
          by_cases hs : 12 < xn
          · have hd2 : decide ((12 : Int) < (xn : Int)) = true := decide_eq_true (by omega)
            have HT := Lib.hid (show R = true by rw [HD.out, decide_eq_true hs]; rfl)
            clear HD hs
            go_wp2
            go_ret
            exact ⟨by rw [HT.out]; rfl, HA.out⟩
          · have hd2 : decide ((12 : Int) < (xn : Int)) = false := decide_eq_false (by omega)
            have HN := Lib.hid (show R = ((xs.drop (j + 1)).any (fun x => decide (12 < x.ps.length))) by rw [HD.out, decide_eq_false hs]; rfl)
            clear HD hs
            go_wp2
            go_round
            case rel => exact ⟨j + 1, by omega, by go_num, HN⟩
            case measure => simp [intOf]; omega
        · have hlt2 : decide ((j : Int) < (iN : Int)) = false := decide_eq_false (by omega)
          have HT := Lib.hid (show R = false by rw [HR.out, List.drop_eq_nil_of_le (by rw [HIL.out]; omega)]; rfl)
          clear HR
          go_wp2
          go_ret
          exact ⟨by rw [HT.out]; rfl, HA.out⟩
open Go.RowKit Go.ChangeShapes Go.WideShapes Go.ChangeAt
def i64r (z : Int) : Prop := -9223372036854775808 ≤ z ∧ z ≤ 9223372036854775807
def SchOk (S : Sch) : Prop := S.name.size ≤ maxLen ∧ (∀ x ∈ S.cs, x.1.size ≤ maxLen ∧ i64r x.2) ∧ (∀ x ∈ S.xs, I64s x.ps) ∧ i64r S.limit ∧ i64r S.parts ∧ i64r S.place
/-- A schema, as an argument. -/
def SArg (W : World) (v : Value) (S : Sch) : Prop := v = .agg (schCells S) ∧ SchAtM W S ∧ SchOk S
def RCol : Rdr Col := fun _ cs x => cs = [.string x.1, .int .i64 x.2] ∧ x.1.size ≤ maxLen ∧ (Lit.int .i64 x.2).wf = true
def RIdx : Rdr Idx := fun W cs x => cs = [.slice x.a x.n x.c, .bool x.u] ∧ Ints .i64 W x.a x.ps ∧ x.ps.length = x.n ∧ x.n ≤ x.c ∧ x.c ≤ maxLen ∧ I64s x.ps
section
variable {H : Type} {enc : TypeId × Value → H} {W : World}
theorem op_col : Op enc Try.prog W 29 RCol := by
  intro fuel cs x h
  obtain ⟨v, ⟨h1, w1⟩, h2, w2⟩ := op_2 (n := 1) Try.underlying29 rfl (by kernel_rfl) rfl (by kernel_rfl) (op_str (enc := enc) (W := W) Try.underlying9) (op_int Try.underlying3) fuel cs x h
  refine ⟨v, ?_, w1, w2⟩
  rw [← List.take_append_drop 1 cs, h1, h2]
  rfl
theorem op_idx : Op enc Try.prog W 34 RIdx := by
  intro fuel cs x h
  obtain ⟨v, h1, h2⟩ := op_2 (n := 1) Try.underlying34 rfl (by kernel_rfl) rfl (by kernel_rfl) (op_list (sz := 1) Try.underlying32 (by kernel_rfl) (by decide) (op_int (enc := enc) (W := W) Try.underlying3)) (op_bool Try.underlying4) fuel cs x h
  obtain ⟨a, n, c, k1, k2, k3, k4, k5, k6⟩ := ints_of_RL h1
  refine ⟨⟨a, n, c, v.1, v.2⟩, ?_, k5, k2, k3, k4, fun z hz => wf_i64 (k6 z hz)⟩
  rw [← List.take_append_drop 1 cs, k1, h2]
  rfl
end
theorem cols_of {W : World} {cs : List Value} {xs : List Col} (h : RL 2 RCol W cs xs) : ∃ a m c, cs = [.slice a m c] ∧ Cols W a xs ∧ xs.length = m ∧ m ≤ c ∧ c ≤ maxLen ∧ ∀ x ∈ xs, x.1.size ≤ maxLen ∧ i64r x.2 := by
  obtain ⟨a, m, c, h1, h2, h3, h4, h5⟩ := h
  rcases h5 with rfl | ⟨hn, b, o, ha, hlt, h5⟩
  · exact ⟨a, m, c, h1, .inl rfl, h2, h3, h4, fun x hx => (List.not_mem_nil hx).elim⟩
  · refine ⟨a, m, c, h1, .inr ⟨hn, b, o, ha, hlt, fun i x hi => ?_⟩, h2, h3, h4, fun x hx => ?_⟩
    · obtain ⟨cs', k1, k2, k3, _⟩ := h5 i x hi
      rw [k3] at k2
      exact ⟨k2 0 (by decide), k2 1 (by decide)⟩
    · obtain ⟨i, hi, rfl⟩ := List.mem_iff_getElem.1 hx
      obtain ⟨cs', _, _, _, w1, w2⟩ := h5 i _ (List.getElem?_eq_getElem hi)
      exact ⟨w1, wf_i64 w2⟩
theorem idxs_of {W : World} {cs : List Value} {xs : List Idx} (h : RL 2 RIdx W cs xs) : ∃ a m c, cs = [.slice a m c] ∧ IdxsM W a xs ∧ xs.length = m ∧ m ≤ c ∧ c ≤ maxLen ∧ ∀ x ∈ xs, I64s x.ps := by
  obtain ⟨a, m, c, h1, h2, h3, h4, h5⟩ := h
  rcases h5 with rfl | ⟨hn, b, o, ha, hlt, h5⟩
  · exact ⟨a, m, c, h1, .inl rfl, h2, h3, h4, fun x hx => (List.not_mem_nil hx).elim⟩
  · refine ⟨a, m, c, h1, .inr ⟨hn, b, o, ha, hlt, fun i x hi => ?_⟩, h2, h3, h4, fun x hx => ?_⟩
    · obtain ⟨cs', k1, k2, k3, k4, k5, k6, k7, _⟩ := h5 i x hi
      rw [k3] at k2
      exact ⟨⟨k2 0 (by decide), k2 1 (by decide)⟩, k4, k5, k6, Nat.le_trans k6 k7⟩
    · obtain ⟨i, hi, rfl⟩ := List.mem_iff_getElem.1 hx
      obtain ⟨cs', _, _, _, _, _, _, _, w2⟩ := h5 i _ (List.getElem?_eq_getElem hi)
      exact w2
theorem trod_struct6 {H : Type} {enc : TypeId × Value → H} {P : Program} {w : World} {base : Nat} {spare : Nat → Bool} {held : Bool} {t : TypeId} {f0 f1 f2 f3 f4 f5 : Field} {fuel : Nat} {cs : List Value} {x : DataW H × List MemPlace} (ht : P.underlying t = some (.struct #[f0, f1, f2, f3, f4, f5])) (h : DataW.trod enc P w base spare held fuel t cs = some x) :
    ∃ y0 y1 y2 y3 y4 y5 n, cs.length = P.cellsOf t ∧ DataW.trod enc P w base spare held n f0.type ((cs.drop f0.offset).take (P.cellsOf f0.type)) = some y0 ∧ DataW.trod enc P w base spare held n f1.type ((cs.drop f1.offset).take (P.cellsOf f1.type)) = some y1 ∧ DataW.trod enc P w base spare held n f2.type ((cs.drop f2.offset).take (P.cellsOf f2.type)) = some y2 ∧ DataW.trod enc P w base spare held n f3.type ((cs.drop f3.offset).take (P.cellsOf f3.type)) = some y3 ∧ DataW.trod enc P w base spare held n f4.type ((cs.drop f4.offset).take (P.cellsOf f4.type)) = some y4 ∧ DataW.trod enc P w base spare held n f5.type ((cs.drop f5.offset).take (P.cellsOf f5.type)) = some y5 := by
  obtain ⟨xs, n, _, rfl, hl, hlen, hf⟩ := DataW.trod_struct ht h
  match xs, hlen with
  | [y0, y1, y2, y3, y4, y5], _ => exact ⟨y0, y1, y2, y3, y4, y5, n, hl, by simpa using hf 0 f0 rfl, by simpa using hf 1 f1 rfl, by simpa using hf 2 f2 rfl, by simpa using hf 3 f3 rfl, by simpa using hf 4 f4 rfl, by simpa using hf 5 f5 rfl⟩
theorem six_cells {cs : List Value} (h : cs.length = 6) : ∃ x0 x1 x2 x3 x4 x5, cs = [x0, x1, x2, x3, x4, x5] := by
  match cs, h with
  | [x0, x1, x2, x3, x4, x5], _ => exact ⟨x0, x1, x2, x3, x4, x5, rfl⟩
set_option maxRecDepth 100000 in
theorem rd_sch {H : Type} {enc : TypeId × Value → H} {W : World} {base : Nat} {v : Value} {d : DataW H} {p : List MemPlace} (hv : Value.okWide Try.prog W .any base 25 v) (h : DataW.Trod enc Try.prog W 0 (fun _ => true) true 25 v d p) :
    ∃ S, SArg W v S := by
  obtain ⟨fuel, hf⟩ := h
  obtain ⟨y0, y1, y2, y3, y4, y5, n, hl, h0, h1, h2, h3, h4, h5⟩ := trod_struct6 Try.underlying25 hf
  obtain ⟨arr, rfl, hsz⟩ := okWide_struct Try.underlying25 hv
  obtain ⟨l⟩ := arr
  have hl6 : l.length = 6 := by
    have : Try.prog.cellsOf 25 = 6 := by kernel_rfl
    rw [this] at hl
    simpa [Value.cells] using hl
  obtain ⟨x0, x1, x2, x3, x4, x5, rfl⟩ := six_cells hl6
  have c0 : Try.prog.cellsOf 9 = 1 := by kernel_rfl
  have c1 : Try.prog.cellsOf 22 = 1 := by kernel_rfl
  have c2 : Try.prog.cellsOf 23 = 1 := by kernel_rfl
  have c3 : Try.prog.cellsOf 3 = 1 := by kernel_rfl
  simp only [Value.cells, c0, c1, c2, c3, List.drop, List.take] at h0 h1 h2 h3 h4 h5
  obtain ⟨z0, e0, w0⟩ := op_str Try.underlying9 _ _ _ h0
  obtain ⟨z1, e1⟩ := op_list (sz := 2) Try.underlying22 (by kernel_rfl) (by decide) op_col _ _ _ h1
  obtain ⟨z2, e2⟩ := op_list (sz := 2) Try.underlying23 (by kernel_rfl) (by decide) op_idx _ _ _ h2
  obtain ⟨z3, e3, w3⟩ := op_int Try.underlying3 _ _ _ h3
  obtain ⟨z4, e4, w4⟩ := op_int Try.underlying3 _ _ _ h4
  obtain ⟨z5, e5, w5⟩ := op_int Try.underlying3 _ _ _ h5
  obtain ⟨a1, m1, k1, q1, r1, r2, r3, r4, r5⟩ := cols_of e1
  obtain ⟨a2, m2, k2, q2, s1, s2, s3, s4, s5⟩ := idxs_of e2
  refine ⟨⟨z0, a1, m1, k1, z1, a2, m2, k2, z2, z3, z4, z5⟩, ?_, ⟨⟨r1, r2, r3, Nat.le_trans r3 r4⟩, ⟨s1, s2, s3, Nat.le_trans s3 s4⟩⟩, w0, r5, s5, wf_i64 w3, wf_i64 w4, wf_i64 w5⟩
  simp only [List.cons.injEq, and_true] at e0 e3 e4 e5 q1 q2
  simp only [schCells, e0, e3, e4, e5, q1, q2]
end Go.Proofs.Ytapnkbamilkpoaa
