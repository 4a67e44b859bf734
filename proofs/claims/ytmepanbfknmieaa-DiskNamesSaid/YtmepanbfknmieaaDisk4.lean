/- Contracts of disk: lay, whatever there is; New; Uses; restore; Arm. -/
import Derived.Test.YtmepanbfknmieaaDisk3
namespace Go.Proofs.Ytmepanbfknmieaa
open Go.RowKit Go.Maps
attribute [local go_sem ↓] Go.wp_at_zero Go.wp_at_succ
set_option maxRecDepth 100000 in
set_option maxHeartbeats 1000000 in
theorem New_some (r : Int) (h0 : 0 ≤ r) (h1 : r ≤ 16777216) (w : World) : Calls Try.prog 10 #[.int .i64 r] w fun e w' => e = .returned (.pointer (some ⟨w.heap.size, 0, none⟩)) ∧ DAt w' w.heap.size ⟨true, 0, false, 0, r, none⟩ ∧ Below w.heap.size w w' := by
  have d0 : decide (r < 0) = false := decide_eq_false (by omega)
  have d1 : decide (16777216 < r) = false := decide_eq_false (by omega)
  have HD := Lib.hid (six6_new w (.bool true) (.int .i64 0) (.bool false) (.int .i64 0) (.int .i64 r) (.map none) 67)
  have HB : Below w.heap.size w (w.alloc (.cells #[.bool true, .int .i64 0, .bool false, .int .i64 0, .int .i64 r, .map none] 67)) := (Below.refl _ _).alloc (Nat.le_refl _) _
  have HBB := Lib.hid HB
  clear HB
  go_enter Try.func10, Try.ntmps10
  go_wp2
  go_ret
  exact ⟨rfl, HD.out, HBB.out⟩
theorem New_none (r : Int) (h : r < 0 ∨ 16777216 < r) (w : World) : Calls Try.prog 10 #[.int .i64 r] w fun e w' => e = .returned (.pointer none) ∧ w = w' := by
  by_cases h0 : r < 0
  · have d0 : decide (r < 0) = true := decide_eq_true h0
    clear h
    go_enter Try.func10, Try.ntmps10
    go_wp2
    go_ret
    exact ⟨rfl, rfl⟩
  · have d0 : decide (r < 0) = false := decide_eq_false h0
    have d1 : decide (16777216 < r) = true := decide_eq_true (by omega)
    clear h
    go_enter Try.func10, Try.ntmps10
    go_wp2
    go_ret
    exact ⟨rfl, rfl⟩
theorem puses_any (b : Nat) (D : Dk) (w : World) (h : DAt w b D) : Calls Try.prog 34 #[.pointer (some ⟨b, 0, none⟩)] w fun e w' => e = .returned (.int .i64 D.uses) ∧ w = w' := by
  obtain ⟨on, uses, armed, left, room, mb⟩ := D
  obtain ⟨⟨c0, c1, c2, c3, c4, c5⟩, _⟩ := six6_cells h
  simp only [] at c0 c1 c2 c3 c4 c5
  clear h
  go_enter Try.func34, Try.ntmps34
  go_wp2
  go_ret
  exact ⟨rfl, rfl⟩
theorem duses_any (b : Nat) (D : Dk) (w : World) (h : DAt w b D) : Calls Try.prog 30 #[.pointer (some ⟨b, 0, none⟩)] w fun e w' => e = .returned (.int .i64 D.uses) ∧ w = w' := by
  have HP := Lib.hid (puses_any b D w h)
  generalize D.uses = r at HP ⊢
  clear h
  go_enter Try.func30, Try.ntmps30
  go_wp2_with fail
  refine HP.out.mono ?_
  rintro e w1 ⟨rfl, hE⟩
  subst hE
  go_wp2
  go_ret
  exact ⟨rfl, rfl⟩
set_option maxRecDepth 100000 in
set_option maxHeartbeats 1000000 in
theorem restore_any (b : Nat) (D : Dk) (w : World) (h : DAt w b D) : Calls Try.prog 48 #[.pointer (some ⟨b, 0, none⟩)] w fun e w' => e = .returned (.tuple #[]) ∧ DAt w' b { D with on := true, armed := false } ∧ Chg (· = b) w w' := by
  obtain ⟨on, uses, armed, left, room, mb⟩ := D
  obtain ⟨⟨c0, c1, c2, c3, c4, c5⟩, f0, f1, f2, f3, f4, f5⟩ := six6_cells h
  simp only [] at c0 c1 c2 c3 c4 c5
  have h1 := (h.set 0 (.bool true)).set 2 (.bool false)
  have hc := ((Chg.refl (· = b) w).setCell (p := ⟨b, 0, none⟩) (.inr rfl) (.bool true)).setCell (p := ⟨b, 2, none⟩) (.inr rfl) (.bool false)
  have h2 := h.set 0 (.bool true)
  have j2 : (w.setCell ⟨b, 0, none⟩ (.bool true)).cell? ⟨b, 2, none⟩ = some (.bool armed) := h2.cell (i := 2) (by decide)
  have j3 := h2.frozen 2
  have r1 : DAt ((w.setCell ⟨b, 0, none⟩ (.bool true)).setCell ⟨b, 2, none⟩ (.bool false)) b ⟨true, uses, false, left, room, mb⟩ := six_sets _ h1 rfl rfl rfl rfl rfl rfl
  have R := Lib.hid r1
  have HC := Lib.hid hc
  clear h h1 h2 hc r1
  go_enter Try.func48, Try.ntmps48
  go_wp2
  exact bodyPost_end (v := .tuple #[]) (by simp [results, Try.results48, go_sem]) rfl ⟨rfl, R.out, HC.out⟩
end Go.Proofs.Ytmepanbfknmieaa
