/- An argument that is a value. -/
import Derived.Test.YtapnkbamilkpoaaVals
import Derived.Test.YtapnkbamilkpoaaRead
namespace Go.Proofs.Ytapnkbamilkpoaa
open Go.RowKit Go.ChangeShapes Go.WideShapes Go.ChangeAt
theorem rd_agg {P : Program} {W : World} {base : Nat} {t : TypeId} {fs : Array Field} {v : Value} {x : Val} (ht : P.underlying t = some (.struct fs)) (hv : Value.okWide P W .any base t v) (hx : RVal W v.cells.toList x) : v = vagg x := by
  obtain ⟨cs, rfl, hsz⟩ := okWide_struct ht hv
  obtain ⟨l⟩ := cs
  have : l = [.int .i64 x.1, .int .i64 x.2.1, .string x.2.2] := by simpa [Value.cells] using hx.1
  rw [this]; rfl
set_option maxRecDepth 100000 in
theorem rd_val {H : Type} {enc : TypeId × Value → H} {W : World} {base : Nat} {v : Value} {d : DataW H} {p : List MemPlace} (hv : Value.okWide Try.prog W .any base 55 v) (h : DataW.Trod enc Try.prog W 0 (fun _ => true) true 55 v d p) :
    ∃ x : Val, v = vagg x ∧ ((-9223372036854775808 ≤ x.1 ∧ x.1 ≤ 9223372036854775807) ∧ (-9223372036854775808 ≤ x.2.1 ∧ x.2.1 ≤ 9223372036854775807) ∧ x.2.2.size ≤ maxLen) := by
  obtain ⟨x, hx⟩ := rd_of (op_val H enc W) h
  exact ⟨x, rd_agg Try.underlying55 hv hx, wf_i64 hx.2.1, wf_i64 hx.2.2.1, hx.2.2.2⟩
/-- A row of values, as an argument. -/
def VArg (W : World) (v : Value) (vs : List Val) : Prop := ∃ a m c, v = .slice a m c ∧ vs.length = m ∧ m ≤ c ∧ c ≤ maxLen ∧ Vals W a vs ∧ ValsOk vs
set_option maxRecDepth 100000 in
theorem rd_vals {H : Type} {enc : TypeId × Value → H} {W : World} {base : Nat} {v : Value} {d : DataW H} {p : List MemPlace} (hv : Value.okWide Try.prog W .any base 35 v) (h : DataW.Trod enc Try.prog W 0 (fun _ => true) true 35 v d p) :
    ∃ vs, VArg W v vs := by
  obtain ⟨vs, hx⟩ := rd_list Try.underlying35 (op_list (sz := 3) Try.underlying35 (by kernel_rfl) (by decide) (op_val H enc W)) hv h
  exact ⟨vs, vals_of hx⟩
end Go.Proofs.Ytapnkbamilkpoaa
