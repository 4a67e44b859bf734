/- SealSums: for every input it returns true, and every argument reads as before. No condition. -/
import Derived.Test.YtfoejfneggcncaaDoorCards
import Derived.Test.YtfoejfneggcncaaDoorTie
import Derived.Test.YtfoejfneggcncaaDoorLawSeal
import Derived.Test.YtfoejfneggcncaaDoorDoor
import Derived.Test.YtfoejfneggcncaaDoorRead
namespace Go.Proofs.YtfoejfneggcncaaDoor.sealSums
open Go.ChangeShapes Go.WideShapes Go.ChangeAt Go.RowKit
set_option linter.unusedVariables false
theorem own : ownKnob Tryd.prog.godebug = none := by kernel_rfl
theorem laidOut : laidOutB Tryd.prog = true := by kernel_rfl
set_option maxRecDepth 100000 in
theorem nibTab {W : World} (h : laidMet Tryd.prog Rows.sealSumsRow.laid W) : Nibs W := by
  have hr : Lib.VarReads Tryd.prog W "afflux/seal.nibbles" (Lib.tabData .u64 nibs) := Lib.laidMet.reads h (List.mem_cons.2 (.inl (by kernel_rfl)))
  have ht : Lib.TabIs Tryd.prog W "afflux/seal.nibbles" .u64 nibs := tab_of_reads (g := 0) (t := 91) (e := 35) (n := 16) (by kernel_rfl) (by kernel_rfl) Tryd.underlying91 Tryd.underlying35 (by kernel_rfl) (by kernel_rfl) hr
  exact nibs_of ht (by kernel_rfl)
/-- A world for the witness: the settled one, with the tables' and the errors' cells. -/
noncomputable def laidWorld (os : Os) : World :=
  let N := (World.settled Tryd.prog os).heap.size
  let w0 := World.holding Tryd.prog os ⟨#[], #[], []⟩
  let h1 := putCells w0.heap 0 (litsOf Rows.laid_afflux_seal_nibbles)
  { w0 with heap := h1 }
set_option maxRecDepth 100000 in
theorem laid_met (os : Os) : laidMet Tryd.prog Rows.sealSumsRow.laid ((laidWorld os).forCall (fun _ _ => 0) ⟨#[], #[.slice none 0 0], []⟩).memory :=
  laidMet_of_run' 8 (by kernel_rfl) (by kernel_rfl)
theorem reads (os : Os) {H : Type} (enc : TypeId × Value → H) : ∃ places, DataW.whole enc Tryd.prog ((laidWorld os).forCall (fun _ _ => 0) ⟨#[], #[.slice none 0 0], []⟩).memory Tryd.f4.params.toList Rows.sealSumsSpec.vars false (#[.slice none 0 0] : Array Value).toList 8 = some ([.nil], [], places) :=
  ⟨[], by kernel_rfl⟩
theorem plain (f : FuncId) (fn : Func) (hf : Tryd.pinned.checked.prog.funcNamed "afflux/affluxlaw05.SealSums" = some f) (hfn : Tryd.pinned.checked.prog.funcs[f]? = some fn) :
    false = Tryd.pinned.checked.prog.looks [] ∧ ∀ (j : Nat) t, fn.params[j]? = some t → Tryd.pinned.checked.prog.wantsStandIn t = false := by
  obtain rfl : f = 4 := Option.some.inj ((show Tryd.prog.funcNamed "afflux/affluxlaw05.SealSums" = some 4 by kernel_rfl).symm.trans hf) |>.symm
  obtain rfl : fn = Tryd.f4 := (Option.some.inj (Tryd.func4.symm.trans hfn)).symm
  refine ⟨by kernel_rfl, fun j t ht => ?_⟩
  rw [Tryd.params4] at ht
  have hm := Array.mem_of_getElem? ht
  simp only [List.mem_toArray, List.mem_cons, List.not_mem_nil, or_false] at hm
  subst hm
  exact (show Tryd.prog.wantsStandIn 31 = false by kernel_rfl)
end Go.Proofs.YtfoejfneggcncaaDoor.sealSums
