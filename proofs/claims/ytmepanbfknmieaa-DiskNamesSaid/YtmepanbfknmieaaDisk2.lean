/- Contracts of disk: use of the power, arming and restoring it. -/
import Derived.Test.YtmepanbfknmieaaDisk1
import Derived.Deep.Cut
namespace Go.Proofs.Ytmepanbfknmieaa
open Go.RowKit Go.Maps
/-- A use: is it one? -/
def useD (D : Dk) : Dk × Bool :=
  if D.on = false then (D, false)
  else if D.armed = false then ({ D with uses := wrap64 (D.uses + 1) }, true)
  else ({ D with uses := wrap64 (D.uses + 1), on := decide (0 < D.left), left := wrap64 (D.left - 1) }, decide (0 < D.left))
theorem six_sets {B : Nat} {T : TypeId} (f : Nat → Value) {u0 u1 u2 u3 u4 u5 : Value} {w' : World} (h' : w'.rowIs B T 6 f) (e0 : f 0 = u0) (e1 : f 1 = u1) (e2 : f 2 = u2) (e3 : f 3 = u3) (e4 : f 4 = u4) (e5 : f 5 = u5) : w'.rowIs B T 6 (six6 u0 u1 u2 u3 u4 u5) :=
  h'.congr (fun i hi => by rcases (by omega : i = 0 ∨ i = 1 ∨ i = 2 ∨ i = 3 ∨ i = 4 ∨ i = 5) with rfl | rfl | rfl | rfl | rfl | rfl <;> assumption)
set_option maxRecDepth 100000 in
set_option maxHeartbeats 1000000 in
theorem puse_any (b : Nat) (D : Dk) (w : World) (h : DAt w b D) : Calls Try.prog 51 #[.pointer (some ⟨b, 0, none⟩)] w fun e w' => e = .returned (.bool (useD D).2) ∧ DAt w' b (useD D).1 ∧ Chg (· = b) w w' := by
  obtain ⟨on, uses, armed, left, room, mb⟩ := D
  obtain ⟨⟨c0, c1, c2, c3, c4, c5⟩, f0, f1, f2, f3, f4, f5⟩ := six6_cells h
  simp only [] at c0 c1 c2 c3 c4 c5
  have H := Lib.hid h
  cases on with
  | false =>
    go_enter Try.func51, Try.ntmps51
    go_wp2
    go_ret
    exact ⟨rfl, H.out, Chg.refl _ _⟩
  | true =>
    have h1 := h.set 1 (.int .i64 (wrap64 (uses + 1)))
    have hc1 : Chg (· = b) w (w.setCell ⟨b, 1, none⟩ (.int .i64 (wrap64 (uses + 1)))) := (Chg.refl (· = b) w).setCell (p := ⟨b, 1, none⟩) (.inr rfl) _
    obtain ⟨w1, hw1⟩ : ∃ W, W = w.setCell ⟨b, 1, none⟩ (.int .i64 (wrap64 (uses + 1))) := ⟨_, rfl⟩
    rw [← hw1] at h1 hc1
    have r1 : DAt w1 b ⟨true, wrap64 (uses + 1), armed, left, room, mb⟩ := six_sets _ h1 rfl rfl rfl rfl rfl rfl
    obtain ⟨⟨d0, d1, d2, d3, d4, d5⟩, g0, g1, g2, g3, g4, g5⟩ := six6_cells r1
    simp only [] at d0 d1 d2 d3 d4 d5
    have R1 := Lib.hid r1
    have HC1 := Lib.hid hc1
    have HW1 := Lib.hid hw1.symm
    clear h1 hc1 r1 hw1
    cases armed with
    | false =>
      go_enter Try.func51, Try.ntmps51
      go_upto_region 4 with fail
      rw [HW1.out]
      go_wp2
      go_ret
      exact ⟨rfl, R1.out, HC1.out⟩
    | true =>
      have h2 := R1.out.set 0 (.bool (decide (0 < left)))
      have hc2 := HC1.out.setCell (p := ⟨b, 0, none⟩) (.inr rfl) (.bool (decide (0 < left)))
      obtain ⟨w2, hw2⟩ : ∃ W, W = w1.setCell ⟨b, 0, none⟩ (.bool (decide (0 < left))) := ⟨_, rfl⟩
      rw [← hw2] at h2 hc2
      have r2 : DAt w2 b ⟨decide (0 < left), wrap64 (uses + 1), true, left, room, mb⟩ := six_sets _ h2 rfl rfl rfl rfl rfl rfl
      obtain ⟨⟨k0, k1, k2, k3, k4, k5⟩, j0, j1, j2, j3, j4, j5⟩ := six6_cells r2
      simp only [] at k0 k1 k2 k3 k4 k5
      have h3 := r2.set 3 (.int .i64 (wrap64 (left - 1)))
      have hc3 := hc2.setCell (p := ⟨b, 3, none⟩) (.inr rfl) (.int .i64 (wrap64 (left - 1)))
      obtain ⟨w3, hw3⟩ : ∃ W, W = w2.setCell ⟨b, 3, none⟩ (.int .i64 (wrap64 (left - 1))) := ⟨_, rfl⟩
      rw [← hw3] at h3 hc3
      have r3 : DAt w3 b ⟨decide (0 < left), wrap64 (uses + 1), true, wrap64 (left - 1), room, mb⟩ := six_sets _ h3 rfl rfl rfl rfl rfl rfl
      obtain ⟨⟨m0, m1, m2, m3, m4, m5⟩, _⟩ := six6_cells r3
      simp only [] at m0 m1 m2 m3 m4 m5
      have R3 := Lib.hid r3
      have HC3 := Lib.hid hc3
      have HW2 := Lib.hid hw2.symm
      have HW3 := Lib.hid hw3.symm
      clear h2 hc2 r2 hw2 h3 hc3 r3 hw3
      go_enter Try.func51, Try.ntmps51
      go_upto_region 4 with fail
      rw [HW1.out]
      go_upto_region 6 with fail
      rw [HW2.out]
      go_upto_region 7 with fail
      rw [HW3.out]
      go_wp2
      go_ret
      exact ⟨rfl, R3.out, HC3.out⟩
end Go.Proofs.Ytmepanbfknmieaa
