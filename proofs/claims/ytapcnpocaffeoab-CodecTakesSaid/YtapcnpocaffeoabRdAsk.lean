/- An argument that is an Ask. -/
import Derived.Test.YtapcnpocaffeoabRdVal
import Derived.Test.YtapcnpocaffeoabLawNone
namespace Go.Proofs.Ytapcnpocaffeoab
open Go.RowKit Go.ChangeShapes Go.WideShapes Go.ChangeAt
abbrev Ask3 := Int × Int × Int
def RAsk : Rdr Ask3 := fun _ cs v => cs = [.int .i64 v.1, .int .i64 v.2.1, .int .i64 v.2.2] ∧ (Lit.int .i64 v.1).wf = true ∧ (Lit.int .i64 v.2.1).wf = true ∧ (Lit.int .i64 v.2.2).wf = true
theorem op_ask (H : Type) (enc : TypeId × Value → H) (W : World) : Op enc Try.prog W 61 RAsk := by
  intro fuel cs x h
  obtain ⟨v, ⟨h1, w1⟩, ⟨h2, w2⟩, h3, w3⟩ := op_3 (n := 1) (m := 1) Try.underlying61 rfl (by kernel_rfl) rfl (by kernel_rfl) rfl (by kernel_rfl) (op_int (enc := enc) (W := W) Try.underlying3) (op_int Try.underlying3) (op_int Try.underlying3) fuel cs x h
  refine ⟨v, ?_, w1, w2, w3⟩
  have e1 : cs = cs.take 1 ++ ((cs.drop 1).take 1 ++ cs.drop (1 + 1)) := by
    rw [show cs.drop (1 + 1) = (cs.drop 1).drop 1 by rw [List.drop_drop], List.take_append_drop, List.take_append_drop]
  rw [e1, h1, h2, h3]
  rfl
set_option maxRecDepth 100000 in
theorem rd_ask {H : Type} {enc : TypeId × Value → H} {W : World} {base : Nat} {v : Value} {d : DataW H} {p : List MemPlace} (hv : Value.okWide Try.prog W .any base 61 v) (h : DataW.Trod enc Try.prog W 0 (fun _ => true) true 61 v d p) :
    ∃ x : Ask3, AskArg v x := by
  obtain ⟨x, hx⟩ := rd_of (op_ask H enc W) h
  obtain ⟨cs, rfl, hsz⟩ := okWide_struct Try.underlying61 hv
  obtain ⟨l⟩ := cs
  have : l = [.int .i64 x.1, .int .i64 x.2.1, .int .i64 x.2.2] := by simpa [Value.cells] using hx.1
  refine ⟨x, by rw [this]; rfl, wf_i64 hx.2.1, wf_i64 hx.2.2.1, wf_i64 hx.2.2.2⟩
end Go.Proofs.Ytapcnpocaffeoab
