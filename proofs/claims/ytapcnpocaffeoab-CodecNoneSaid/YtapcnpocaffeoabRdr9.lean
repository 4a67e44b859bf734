/- Contracts of codec's readers: rows of none. -/
import Derived.Test.YtapcnpocaffeoabRdr8
namespace Go.Proofs.Ytapcnpocaffeoab
open Go.RowKit
set_option maxHeartbeats 1000000 in
theorem rlist2_nil (most : Int) (h1 : most ≤ 9223372036854775807) (f : Value) (w : World) : Calls Try.prog 57 #[.pointer none, .int .i64 most, f] w fun e w' => e = .returned (.slice none 0 0) ∧ w = w' := by
  have HS := Lib.hid (rsize_nil most h1 w)
  have HG := Lib.hid (good_nil w)
  go_enter Try.func57, Try.ntmps57
  go_wp2_with fail
  refine HS.out.mono ?_
  rintro e w1 ⟨rfl, rfl⟩
  go_wp2
  refine wp_loop_rounds 1 ?_
  rw [rounds_succ]
  go_wp2_with fail
  refine HG.out.mono ?_
  rintro e w1 ⟨rfl, rfl⟩
  go_wp2_with fail
  refine HG.out.mono ?_
  rintro e w1 ⟨rfl, rfl⟩
  go_wp2
  go_ret
  exact ⟨rfl, rfl⟩
set_option maxRecDepth 100000 in
set_option maxHeartbeats 1000000 in
theorem rrows_nil (most cols : Int) (h1 : most ≤ 9223372036854775807) (w : World) : Calls Try.prog 32 #[.pointer none, .int .i64 most, .int .i64 cols] w fun e w' => e = .returned (.slice none 0 0) ∧ Below w.heap.size w w' := by
  have HL := Lib.hid (fun f W => rlist2_nil most h1 f W)
  have hA : Below w.heap.size w ((w.alloc (.cells #[.pointer none] 54)).alloc (.cells #[.int .i64 cols] 3)) := ((Below.refl _ _).alloc (Nat.le_refl _) _).alloc (by simp) _
  have HA := Lib.hid hA
  clear hA
  go_enter Try.func32, Try.ntmps32
  go_wp2_with fail
  refine (HL.out _ _).mono ?_
  rintro e w1 ⟨rfl, hE⟩
  subst hE
  go_wp2
  go_ret
  exact ⟨rfl, HA.out⟩
end Go.Proofs.Ytapcnpocaffeoab
