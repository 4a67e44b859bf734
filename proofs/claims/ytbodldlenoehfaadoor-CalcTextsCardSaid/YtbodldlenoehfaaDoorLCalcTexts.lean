/- CalcTexts: for every input it returns true, and every argument reads as before. No condition. -/
import Derived.Test.YtbodldlenoehfaaDoorCards
import Derived.Test.YtbodldlenoehfaaDoorTie
import Derived.Test.YtbodldlenoehfaaDoorTextC
import Derived.Test.YtbodldlenoehfaaDoorDoor
import Derived.Test.YtbodldlenoehfaaDoorRead
namespace Go.Proofs.YtbodldlenoehfaaDoor.calcTexts
open Go.ChangeShapes Go.WideShapes Go.ChangeAt Go.RowKit
set_option linter.unusedVariables false
theorem own : ownKnob Tryd.prog.godebug = none := by kernel_rfl
theorem laidOut : laidOutB Tryd.prog = true := by kernel_rfl
set_option maxRecDepth 100000 in
theorem table {W : World} (h : laidMet Tryd.prog Rows.calcTextsRow.laid W) : Lib.TabIs Tryd.prog W "internal/strconv.uint64pow10" .u64 Lib.pow10Tab := by
  have hr : Lib.VarReads Tryd.prog W "internal/strconv.uint64pow10" (Lib.tabData .u64 Lib.pow10Tab) := Lib.laidMet.reads h (.tail _ (.tail _ (List.mem_cons.2 (.inl (by kernel_rfl)))))
  exact tab_of_reads (g := 2) (t := 147) (e := 60) (n := 20) (by kernel_rfl) (by kernel_rfl) Tryd.underlying147 Tryd.underlying60 (by kernel_rfl) (by kernel_rfl) hr
set_option maxRecDepth 100000 in
theorem errVar {W : World} (h : laidMet Tryd.prog Rows.calcTextsRow.laid W) : ErrCell W 1 := by
  have hr : Lib.VarReads Tryd.prog W "strconv.ErrRange" Rows.laid_strconv_ErrRange := Lib.laidMet.reads h (.tail _ (.tail _ (.tail _ (List.mem_cons.2 (.inl (by kernel_rfl))))))
  exact err_of_reads (g := 1) (t := 62) (by kernel_rfl) (by kernel_rfl) Tryd.underlying62 hr
/-- A world for the witness: the settled one, with the tables' and the errors' cells. -/
noncomputable def laidWorld (os : Os) : World :=
  let N := (World.settled Tryd.prog os).heap.size
  let w0 := World.holding Tryd.prog os ⟨#[.cells (textOf Rows.laid_strconv_ErrSyntax) 158, .cells (textOf Rows.laid_strconv_ErrRange) 158], #[], []⟩
  let h1 := putCells w0.heap 6 (litsOf Rows.laid_math_bits_deBruijn32tab)
  let h2 := putCells h1 7 (litsOf Rows.laid_math_bits_deBruijn64tab)
  let h3 := putCells h2 2 (litsOf Rows.laid_internal_strconv_uint64pow10)
  let h4 := putCells h3 1 (#[.iface 156 (.pointer (some ⟨N + 1, 0, none⟩))])
  let h5 := putCells h4 0 (#[.iface 156 (.pointer (some ⟨N, 0, none⟩))])
  { w0 with heap := h5 }
set_option maxRecDepth 100000 in
theorem laid_met (os : Os) : laidMet Tryd.prog Rows.calcTextsRow.laid ((laidWorld os).forCall (fun _ _ => 0) ⟨#[], #[.string ⟨#[]⟩, .int .i64 0], []⟩).memory :=
  laidMet_of_run' 8 (by kernel_rfl) (by kernel_rfl)
end Go.Proofs.YtbodldlenoehfaaDoor.calcTexts
