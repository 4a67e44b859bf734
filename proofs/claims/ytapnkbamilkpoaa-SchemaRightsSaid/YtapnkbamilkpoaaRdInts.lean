/- Arguments that are lists of numbers. -/
import Derived.Test.YtapnkbamilkpoaaRead
import Derived.Test.YtapnkbamilkpoaaRows
namespace Go.Proofs.Ytapnkbamilkpoaa
open Go.RowKit Go.ChangeShapes Go.WideShapes Go.ChangeAt
/-- A list of numbers, as an argument. -/
def IArg (W : World) (v : Value) (zs : List Int) : Prop := ∃ a m c, v = .slice a m c ∧ zs.length = m ∧ Ints .i64 W a zs ∧ I64s zs
theorem iarg_of {W : World} {v : Value} {zs : List Int} (h : RL 1 (RI .i64) W [v] zs) : IArg W v zs := by
  obtain ⟨a, n, c, h1, h2, h3, h4, h5, h6⟩ := ints_of_RL h
  exact ⟨a, n, c, by simpa using h1, h2, h5, fun z hz => wf_i64 (h6 z hz)⟩
set_option maxRecDepth 100000 in
theorem rd_iints {H : Type} {enc : TypeId × Value → H} {W : World} {base : Nat} {v : Value} {d : DataW H} {p : List MemPlace} (hv : Value.okWide Try.prog W .any base 32 v) (h : DataW.Trod enc Try.prog W 0 (fun _ => true) true 32 v d p) :
    ∃ zs, IArg W v zs := by
  obtain ⟨zs, hx⟩ := rd_list Try.underlying32 (op_list (sz := 1) Try.underlying32 (by kernel_rfl) (by decide) (op_int (enc := enc) (W := W) Try.underlying3)) hv h
  exact ⟨zs, iarg_of hx⟩
theorem ints_lt {k : IntKind} {w : World} {a : Option Addr} {zs : List Int} (h : Ints k w a zs) (hn : zs ≠ []) (y : Addr) (hy : a = some y) : y.block < w.heap.size := by
  rcases h with h | ⟨_, b, o, he, hb, _⟩
  · exact absurd h hn
  · rw [hy] at he; injection he with he; rw [he]; exact hb
end Go.Proofs.Ytapnkbamilkpoaa
