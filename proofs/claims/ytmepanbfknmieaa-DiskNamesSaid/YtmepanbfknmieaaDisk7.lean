/- Contracts of disk: Used, whatever there is; Free. -/
import Derived.Test.YtmepanbfknmieaaDisk6
import Derived.Deep.RegionHeld3
namespace Go.Proofs.Ytmepanbfknmieaa
open Go.RowKit Go.Maps Go.ChangeMaps Go.WideMaps
set_option maxRecDepth 100000 in
set_option maxHeartbeats 1000000 in
theorem used_none (b : Nat) (D : Dk) (w : World) (h : DAt w b D) (hm : D.mb = none) :
    Calls Try.prog 26 #[.pointer (some ⟨b, 0, none⟩)] w fun e w' => e = .returned (.int .i64 0) ∧ Below w.heap.size w w' := by
  obtain ⟨on, uses, armed, left, room, mb⟩ := D
  simp only at hm
  subst hm
  obtain ⟨⟨c0, c1, c2, c3, c4, c5⟩, _⟩ := six6_cells h
  simp only [] at c0 c1 c2 c3 c4 c5
  clear h
  have hrg := run_range_nilMap (P := Try.prog) w 65 9 72 Try.underlying65
  have hnx : ∀ ty, (Instr.next (.pointer (some ⟨w.heap.size, 0, none⟩)) false ty).run Try.prog (w.alloc (.mapIter none 0 #[] 0)) = _ := fun ty => run_next_nilMap w ty 0 0 #[]
  have HB := Lib.hid (show Below w.heap.size w (w.alloc (.mapIter none 0 #[] 0)) from (Below.refl _ _).alloc (Nat.le_refl _) _)
  go_enter Try.func26, Try.ntmps26
  go_wp2
  refine wp_loop_rounds 1 ?_
  rw [rounds_succ]
  go_wp2
  go_ret
  exact ⟨rfl, HB.out⟩
theorem Used_any (b : Nat) (D : Dk) (fs : List FEnt) (w : World) (h : DAt w b D) (hf : FilesAt w D.mb fs) (hnd : (fs.map (·.1)).Nodup) (hu : usedF fs ≤ 281474976710656) :
    Calls Try.prog 26 #[.pointer (some ⟨b, 0, none⟩)] w fun e w' => e = .returned (.int .i64 (usedF fs)) ∧ Below w.heap.size w w' := by
  rcases hf with ⟨hm, rfl⟩ | ⟨m, hm, hown⟩
  · exact used_none b D w h hm
  · exact used_some b m D fs w h hm hown hnd hu
set_option maxRecDepth 100000 in
set_option maxHeartbeats 1000000 in
theorem Free_any (b : Nat) (D : Dk) (fs : List FEnt) (w : World) (h : DAt w b D) (hf : FilesAt w D.mb fs) (hnd : (fs.map (·.1)).Nodup) (hu : 0 ≤ usedF fs ∧ usedF fs ≤ 281474976710656) (hr : 0 ≤ D.room ∧ D.room ≤ 16777216) :
    Calls Try.prog 31 #[.pointer (some ⟨b, 0, none⟩)] w fun e w' => e = .returned (.int .i64 (D.room - usedF fs)) ∧ Below w.heap.size w w' := by
  have hU := Used_any b D fs w.drew h (by
    rcases hf with hf | ⟨m, hm, hown⟩
    · exact .inl hf
    · exact .inr ⟨m, hm, hown.drew⟩) hnd hu.2
  have hbl := h.lt
  obtain ⟨on, uses, armed, left, room, mb⟩ := D
  obtain ⟨⟨c0, c1, c2, c3, c4, c5⟩, _⟩ := six6_cells h
  simp only [] at c0 c1 c2 c3 c4 c5 hr
  generalize usedF fs = u at hU hu ⊢
  have hw : IntKind.i64.wrap (room - u) = room - u := by simp [IntKind.wrap, IntKind.bits, IntKind.signed]; omega
  have HU := Lib.hid hU
  clear h hf hnd hU
  go_enter Try.func31, Try.ntmps31
  go_wp2_with fail
  go_region_held3 (fun W => W.cell? ⟨b, 4, none⟩ = some (.int .i64 room))
    (first | (with_reducible exact q4) | go_keep)
    ((go_at_call 26; refine HU.out.mono ?_; rintro e w1 ⟨rfl, hb1⟩; obtain ⟨hc1, hf1⟩ := bcell hb1; have q4 := (hc1 b 4 (by exact hbl)).trans (by exact c4); clear hc1 hf1))
  have hB := Below.thenB (Below.refl w.heap.size w).drew (Nat.le_refl _) hb1
  go_wp2
  go_ret
  exact ⟨rfl, hB⟩
end Go.Proofs.Ytmepanbfknmieaa
