/- An argument that is a schema. -/
import Derived.Test.YtapnkbamilkpoaaSGreat
import Derived.Test.YtapnkbamilkpoaaRdVal
import Derived.Test.YtapnkbamilkpoaaRdInts
namespace Go.Proofs.Ytapnkbamilkpoaa
open Go.RowKit Go.ChangeShapes Go.WideShapes Go.ChangeAt
def i64r (z : Int) : Prop := -9223372036854775808 ≤ z ∧ z ≤ 9223372036854775807
def SchOk (S : Sch) : Prop := S.name.size ≤ maxLen ∧ (∀ x ∈ S.cs, x.1.size ≤ maxLen ∧ i64r x.2) ∧ (∀ x ∈ S.xs, I64s x.ps) ∧ i64r S.limit ∧ i64r S.parts ∧ i64r S.place
/-- A schema, as an argument. -/
def SArg (W : World) (v : Value) (S : Sch) : Prop := v = .agg (schCells S) ∧ SchAtM W S ∧ SchOk S
def RCol : Rdr Col := fun _ cs x => cs = [.string x.1, .int .i64 x.2] ∧ x.1.size ≤ maxLen ∧ (Lit.int .i64 x.2).wf = true
def RIdx : Rdr Idx := fun W cs x => cs = [.slice x.a x.n x.c, .bool x.u] ∧ Ints .i64 W x.a x.ps ∧ x.ps.length = x.n ∧ x.n ≤ x.c ∧ x.c ≤ maxLen ∧ I64s x.ps
section
variable {H : Type} {enc : TypeId × Value → H} {W : World}
theorem op_col : Op enc Try.prog W 29 RCol := by
  intro fuel cs x h
  obtain ⟨v, ⟨h1, w1⟩, h2, w2⟩ := op_2 (n := 1) Try.underlying29 rfl (by kernel_rfl) rfl (by kernel_rfl) (op_str (enc := enc) (W := W) Try.underlying9) (op_int Try.underlying3) fuel cs x h
  refine ⟨v, ?_, w1, w2⟩
  rw [← List.take_append_drop 1 cs, h1, h2]
  rfl
theorem op_idx : Op enc Try.prog W 34 RIdx := by
  intro fuel cs x h
  obtain ⟨v, h1, h2⟩ := op_2 (n := 1) Try.underlying34 rfl (by kernel_rfl) rfl (by kernel_rfl) (op_list (sz := 1) Try.underlying32 (by kernel_rfl) (by decide) (op_int (enc := enc) (W := W) Try.underlying3)) (op_bool Try.underlying4) fuel cs x h
  obtain ⟨a, n, c, k1, k2, k3, k4, k5, k6⟩ := ints_of_RL h1
  refine ⟨⟨a, n, c, v.1, v.2⟩, ?_, k5, k2, k3, k4, fun z hz => wf_i64 (k6 z hz)⟩
  rw [← List.take_append_drop 1 cs, k1, h2]
  rfl
end
theorem cols_of {W : World} {cs : List Value} {xs : List Col} (h : RL 2 RCol W cs xs) : ∃ a m c, cs = [.slice a m c] ∧ Cols W a xs ∧ xs.length = m ∧ m ≤ c ∧ c ≤ maxLen ∧ ∀ x ∈ xs, x.1.size ≤ maxLen ∧ i64r x.2 := by
  obtain ⟨a, m, c, h1, h2, h3, h4, h5⟩ := h
  rcases h5 with rfl | ⟨hn, b, o, ha, hlt, h5⟩
  · exact ⟨a, m, c, h1, .inl rfl, h2, h3, h4, fun x hx => (List.not_mem_nil hx).elim⟩
  · refine ⟨a, m, c, h1, .inr ⟨hn, b, o, ha, hlt, fun i x hi => ?_⟩, h2, h3, h4, fun x hx => ?_⟩
    · obtain ⟨cs', k1, k2, k3, _⟩ := h5 i x hi
      rw [k3] at k2
      exact ⟨k2 0 (by decide), k2 1 (by decide)⟩
    · obtain ⟨i, hi, rfl⟩ := List.mem_iff_getElem.1 hx
      obtain ⟨cs', _, _, _, w1, w2⟩ := h5 i _ (List.getElem?_eq_getElem hi)
      exact ⟨w1, wf_i64 w2⟩
theorem idxs_of {W : World} {cs : List Value} {xs : List Idx} (h : RL 2 RIdx W cs xs) : ∃ a m c, cs = [.slice a m c] ∧ IdxsM W a xs ∧ xs.length = m ∧ m ≤ c ∧ c ≤ maxLen ∧ ∀ x ∈ xs, I64s x.ps := by
  obtain ⟨a, m, c, h1, h2, h3, h4, h5⟩ := h
  rcases h5 with rfl | ⟨hn, b, o, ha, hlt, h5⟩
  · exact ⟨a, m, c, h1, .inl rfl, h2, h3, h4, fun x hx => (List.not_mem_nil hx).elim⟩
  · refine ⟨a, m, c, h1, .inr ⟨hn, b, o, ha, hlt, fun i x hi => ?_⟩, h2, h3, h4, fun x hx => ?_⟩
    · obtain ⟨cs', k1, k2, k3, k4, k5, k6, k7, _⟩ := h5 i x hi
      rw [k3] at k2
      exact ⟨⟨k2 0 (by decide), k2 1 (by decide)⟩, k4, k5, k6, Nat.le_trans k6 k7⟩
    · obtain ⟨i, hi, rfl⟩ := List.mem_iff_getElem.1 hx
      obtain ⟨cs', _, _, _, _, _, _, _, w2⟩ := h5 i _ (List.getElem?_eq_getElem hi)
      exact w2
theorem trod_struct6 {H : Type} {enc : TypeId × Value → H} {P : Program} {w : World} {base : Nat} {spare : Nat → Bool} {held : Bool} {t : TypeId} {f0 f1 f2 f3 f4 f5 : Field} {fuel : Nat} {cs : List Value} {x : DataW H × List MemPlace} (ht : P.underlying t = some (.struct #[f0, f1, f2, f3, f4, f5])) (h : DataW.trod enc P w base spare held fuel t cs = some x) :
    ∃ y0 y1 y2 y3 y4 y5 n, cs.length = P.cellsOf t ∧ DataW.trod enc P w base spare held n f0.type ((cs.drop f0.offset).take (P.cellsOf f0.type)) = some y0 ∧ DataW.trod enc P w base spare held n f1.type ((cs.drop f1.offset).take (P.cellsOf f1.type)) = some y1 ∧ DataW.trod enc P w base spare held n f2.type ((cs.drop f2.offset).take (P.cellsOf f2.type)) = some y2 ∧ DataW.trod enc P w base spare held n f3.type ((cs.drop f3.offset).take (P.cellsOf f3.type)) = some y3 ∧ DataW.trod enc P w base spare held n f4.type ((cs.drop f4.offset).take (P.cellsOf f4.type)) = some y4 ∧ DataW.trod enc P w base spare held n f5.type ((cs.drop f5.offset).take (P.cellsOf f5.type)) = some y5 := by
  obtain ⟨xs, n, _, rfl, hl, hlen, hf⟩ := DataW.trod_struct ht h
  match xs, hlen with
  | [y0, y1, y2, y3, y4, y5], _ => exact ⟨y0, y1, y2, y3, y4, y5, n, hl, by simpa using hf 0 f0 rfl, by simpa using hf 1 f1 rfl, by simpa using hf 2 f2 rfl, by simpa using hf 3 f3 rfl, by simpa using hf 4 f4 rfl, by simpa using hf 5 f5 rfl⟩
theorem six_cells {cs : List Value} (h : cs.length = 6) : ∃ x0 x1 x2 x3 x4 x5, cs = [x0, x1, x2, x3, x4, x5] := by
  match cs, h with
  | [x0, x1, x2, x3, x4, x5], _ => exact ⟨x0, x1, x2, x3, x4, x5, rfl⟩
set_option maxRecDepth 100000 in
theorem rd_sch {H : Type} {enc : TypeId × Value → H} {W : World} {base : Nat} {v : Value} {d : DataW H} {p : List MemPlace} (hv : Value.okWide Try.prog W .any base 25 v) (h : DataW.Trod enc Try.prog W 0 (fun _ => true) true 25 v d p) :
    ∃ S, SArg W v S := by
  obtain ⟨fuel, hf⟩ := h
  obtain ⟨y0, y1, y2, y3, y4, y5, n, hl, h0, h1, h2, h3, h4, h5⟩ := trod_struct6 Try.underlying25 hf
  obtain ⟨arr, rfl, hsz⟩ := okWide_struct Try.underlying25 hv
  obtain ⟨l⟩ := arr
  have hl6 : l.length = 6 := by
    have : Try.prog.cellsOf 25 = 6 := by kernel_rfl
    rw [this] at hl
    simpa [Value.cells] using hl
  obtain ⟨x0, x1, x2, x3, x4, x5, rfl⟩ := six_cells hl6
  have c0 : Try.prog.cellsOf 9 = 1 := by kernel_rfl
  have c1 : Try.prog.cellsOf 22 = 1 := by kernel_rfl
  have c2 : Try.prog.cellsOf 23 = 1 := by kernel_rfl
  have c3 : Try.prog.cellsOf 3 = 1 := by kernel_rfl
  simp only [Value.cells, c0, c1, c2, c3, List.drop, List.take] at h0 h1 h2 h3 h4 h5
  obtain ⟨z0, e0, w0⟩ := op_str Try.underlying9 _ _ _ h0
  obtain ⟨z1, e1⟩ := op_list (sz := 2) Try.underlying22 (by kernel_rfl) (by decide) op_col _ _ _ h1
  obtain ⟨z2, e2⟩ := op_list (sz := 2) Try.underlying23 (by kernel_rfl) (by decide) op_idx _ _ _ h2
  obtain ⟨z3, e3, w3⟩ := op_int Try.underlying3 _ _ _ h3
  obtain ⟨z4, e4, w4⟩ := op_int Try.underlying3 _ _ _ h4
  obtain ⟨z5, e5, w5⟩ := op_int Try.underlying3 _ _ _ h5
  obtain ⟨a1, m1, k1, q1, r1, r2, r3, r4, r5⟩ := cols_of e1
  obtain ⟨a2, m2, k2, q2, s1, s2, s3, s4, s5⟩ := idxs_of e2
  refine ⟨⟨z0, a1, m1, k1, z1, a2, m2, k2, z2, z3, z4, z5⟩, ?_, ⟨⟨r1, r2, r3, Nat.le_trans r3 r4⟩, ⟨s1, s2, s3, Nat.le_trans s3 s4⟩⟩, w0, r5, s5, wf_i64 w3, wf_i64 w4, wf_i64 w5⟩
  simp only [List.cons.injEq, and_true] at e0 e3 e4 e5 q1 q2
  simp only [schCells, e0, e3, e4, e5, q1, q2]
end Go.Proofs.Ytapnkbamilkpoaa
