/- Contracts of schema: Fits, check. -/
import Derived.Test.YtapnkbamilkpoaaFits
namespace Go.Proofs.Ytapnkbamilkpoaa
open Go.RowKit
set_option maxRecDepth 100000 in
set_option maxHeartbeats 1000000 in
theorem Fits_any (S : Sch) (a : Option Addr) (m c : Nat) (vs : List Val) (w : World) (hS : SchAt w S) (hl : vs.length = m) (hv : Vals w a vs) :
    Calls Try.prog 23 #[.agg (schCells S), .slice a m c] w fun e w' => e = .returned (.bool (srightB S && fitsB S.cs vs)) ∧ Below w.heap.size w w' := by
  have hR := fun W (hb : Below w.heap.size w W) => sright_any S W (hS.below hb)
  have hF := fun W (hb : Below w.heap.size w W) => fits_any S a m c vs W (hS.below hb) hl (hv.below hb)
  generalize srightB S = r at hR ⊢
  generalize fitsB S.cs vs = f at hF ⊢
  obtain ⟨name, ca, cn, cc, cs, ia, iN, ic, xs, limit, parts, place⟩ := S
  simp only [schCells] at hR hF ⊢
  have hA1 : Below w.heap.size w (w.alloc (.cells #[.string name, .slice ca cn cc, .slice ia iN ic, .int .i64 limit, .int .i64 parts, .int .i64 place] 25)) := (Below.refl _ _).alloc (Nat.le_refl _) _
  obtain ⟨W1, hW1⟩ : ∃ W1, W1 = w.alloc (.cells #[.string name, .slice ca cn cc, .slice ia iN ic, .int .i64 limit, .int .i64 parts, .int .i64 place] 25) := ⟨_, rfl⟩
  have hk1 : W1.heap[w.heap.size]? = some (.cells #[.string name, .slice ca cn cc, .slice ia iN ic, .int .i64 limit, .int .i64 parts, .int .i64 place] 25 (0, 0)) := by rw [hW1]; exact Array.getElem?_push_size
  rw [← hW1] at hA1
  have hs1 : w.heap.size < W1.heap.size := by rw [hW1]; simp
  obtain ⟨e0, e1, e2, e3, e4, e5⟩ := six_at hk1
  have HR := Lib.hid (hR W1 hA1)
  have HF := Lib.hid hF
  have HK := Lib.hid hk1
  have HA := Lib.hid hA1
  have HW1 := Lib.hid hW1.symm
  clear hR hF hk1 hA1 hW1 hv hS hl
  go_enter Try.func23, Try.ntmps23
  go_upto_region 1 with fail
  rw [HW1.out]
  go_wp2_with fail
  refine HR.out.mono ?_
  rintro e w2 ⟨rfl, hb2⟩
  obtain ⟨g0, g1, g2, g3, g4, g5⟩ := six_at ((hb2.block w.heap.size hs1).trans HK.out)
  have HB2 := Lib.hid (Below.thenB HA.out HA.out.size hb2)
  clear hb2 e0 e1 e2 e3 e4 e5
  cases r with
  | false =>
    go_wp2
    go_ret
    exact ⟨rfl, HB2.out⟩
  | true =>
    go_wp2_with fail
    refine (HF.out _ HB2.out).mono ?_
    rintro e w3 ⟨rfl, hb3⟩
    have hB := Below.thenB HB2.out HB2.out.size hb3
    go_wp2
    go_ret
    exact ⟨by simp, hB⟩
set_option maxRecDepth 100000 in
set_option maxHeartbeats 1000000 in
theorem check_any (S : Sch) (a : Option Addr) (m c : Nat) (vs : List Val) (w : World) (hS : SchAt w S) (hl : vs.length = m) (hv : Vals w a vs) :
    Calls Try.prog 47 #[.agg (schCells S), .slice a m c] w fun e w' => e = .returned (.int .i64 (if srightB S = true then (if fitsB S.cs vs = true then 0 else 13) else 1)) ∧ Below w.heap.size w w' := by
  have hR := fun W (hb : Below w.heap.size w W) => sright_any S W (hS.below hb)
  have hF := fun W (hb : Below w.heap.size w W) => fits_any S a m c vs W (hS.below hb) hl (hv.below hb)
  generalize srightB S = r at hR ⊢
  generalize fitsB S.cs vs = f at hF ⊢
  obtain ⟨name, ca, cn, cc, cs, ia, iN, ic, xs, limit, parts, place⟩ := S
  simp only [schCells] at hR hF ⊢
  have hA1 : Below w.heap.size w (w.alloc (.cells #[.string name, .slice ca cn cc, .slice ia iN ic, .int .i64 limit, .int .i64 parts, .int .i64 place] 25)) := (Below.refl _ _).alloc (Nat.le_refl _) _
  obtain ⟨W1, hW1⟩ : ∃ W1, W1 = w.alloc (.cells #[.string name, .slice ca cn cc, .slice ia iN ic, .int .i64 limit, .int .i64 parts, .int .i64 place] 25) := ⟨_, rfl⟩
  have hk1 : W1.heap[w.heap.size]? = some (.cells #[.string name, .slice ca cn cc, .slice ia iN ic, .int .i64 limit, .int .i64 parts, .int .i64 place] 25 (0, 0)) := by rw [hW1]; exact Array.getElem?_push_size
  rw [← hW1] at hA1
  have hs1 : w.heap.size < W1.heap.size := by rw [hW1]; simp
  obtain ⟨e0, e1, e2, e3, e4, e5⟩ := six_at hk1
  have HR := Lib.hid (hR W1 hA1)
  have HF := Lib.hid hF
  have HK := Lib.hid hk1
  have HA := Lib.hid hA1
  have HW1 := Lib.hid hW1.symm
  clear hR hF hk1 hA1 hW1 hv hS hl
  go_enter Try.func47, Try.ntmps47
  go_upto_region 1 with fail
  rw [HW1.out]
  go_wp2_with fail
  refine HR.out.mono ?_
  rintro e w2 ⟨rfl, hb2⟩
  obtain ⟨g0, g1, g2, g3, g4, g5⟩ := six_at ((hb2.block w.heap.size hs1).trans HK.out)
  have HB2 := Lib.hid (Below.thenB HA.out HA.out.size hb2)
  clear hb2 e0 e1 e2 e3 e4 e5
  cases r with
  | false =>
    go_wp2
    go_ret
    exact ⟨rfl, HB2.out⟩
  | true =>
    go_wp2_with fail
    refine (HF.out _ HB2.out).mono ?_
    rintro e w3 ⟨rfl, hb3⟩
    have hB := Below.thenB HB2.out HB2.out.size hb3
    cases f with
    | false =>
      go_wp2
      go_ret
      exact ⟨rfl, hB⟩
    | true =>
      go_wp2
      go_ret
      exact ⟨rfl, hB⟩
end Go.Proofs.Ytapnkbamilkpoaa
