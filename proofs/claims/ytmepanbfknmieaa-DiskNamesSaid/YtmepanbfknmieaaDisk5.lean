/- Contracts of disk: lay where there is no map; lay. -/
import Derived.Test.YtmepanbfknmieaaDisk4
import Derived.Carry
namespace Go.Proofs.Ytmepanbfknmieaa
open Go.RowKit Go.Maps
attribute [local go_sem ↓] Go.wp_at_zero Go.wp_at_succ
set_option maxRecDepth 100000 in
set_option maxHeartbeats 1000000 in
theorem lay_none (b : Nat) (D : Dk) (s : ByteArray) (f : FRaw) (w : World) (hs : s.size ≤ maxLen) (h : DAt w b D) (hm : D.mb = none) :
    Calls Try.prog 44 #[.pointer (some ⟨b, 0, none⟩), .string s, fileV f] w fun e w' => e = .returned (.tuple #[]) ∧ DAt w' b { D with mb := some (w.heap.size + 1) } ∧ w'.ownsMap Try.prog 9 fileR (w.heap.size + 1) (fput [] s.data.toList f).length (toD (fput [] s.data.toList f)) ∧ Chg (· = b) w w' := by
  obtain ⟨on, uses, armed, left, room, mb⟩ := D
  simp only at hm
  subst hm
  obtain ⟨fa, fn, fc, fk⟩ := f
  have hbl : b < w.heap.size := h.lt
  obtain ⟨W1, hW1⟩ : ∃ W, W = w.alloc (.cells #[.slice fa fn fc, .int .i64 fk] 72) := ⟨_, rfl⟩
  have hA : Below w.heap.size w W1 := by rw [hW1]; exact (Below.refl _ _).alloc (Nat.le_refl _) _
  have hs1 : W1.heap.size = w.heap.size + 1 := by rw [hW1]; simp
  have h1 : W1.rowIs b 67 6 (six6 (.bool on) (.int .i64 uses) (.bool armed) (.int .i64 left) (.int .i64 room) (.map none)) := World.rowIs.of_block h (hA.block b h.lt)
  have hk1 : W1.heap[w.heap.size]? = some (.cells #[.slice fa fn fc, .int .i64 fk] 72 (0, 0)) := by rw [hW1]; exact Array.getElem?_push_size
  have hV2 : Below W1.heap.size W1 (W1.alloc (.map #[] 0)) := (Below.refl _ _).alloc (Nat.le_refl _) _
  have v2 : (W1.alloc (.map #[] 0)).rowIs b 67 6 (six6 (.bool on) (.int .i64 uses) (.bool armed) (.int .i64 left) (.int .i64 room) (.map none)) := World.rowIs.of_block h1 (hV2.block b h1.lt)
  obtain ⟨W2, hW2⟩ : ∃ W, W = W1.setCell ⟨b, 5, none⟩ (.map (some (w.heap.size + 1))) := ⟨_, rfl⟩
  have h2s := h1.set 5 (.map (some (w.heap.size + 1)))
  rw [← hW2] at h2s
  have h2 : DAt W2 b ⟨on, uses, armed, left, room, some (w.heap.size + 1)⟩ := six_sets _ h2s rfl rfl rfl rfl rfl rfl
  have k2 : ∀ g, g ≠ b → W2.heap[g]? = W1.heap[g]? := fun g hg => by rw [hW2]; exact Below.heap_setCell _ _ _ _ hg
  have hs2 : W2.heap.size = w.heap.size + 1 := by rw [hW2]; simp [hs1]
  have hk2 := (k2 w.heap.size (by omega)).trans hk1
  obtain ⟨W3, hW3⟩ : ∃ W, W = W2.alloc (.map #[] 0) := ⟨_, rfl⟩
  have hA3 : Below W2.heap.size W2 W3 := by rw [hW3]; exact (Below.refl _ _).alloc (Nat.le_refl _) _
  have h3 : DAt W3 b ⟨on, uses, armed, left, room, some (w.heap.size + 1)⟩ := World.rowIs.of_block h2 (hA3.block b (by omega))
  have hk3 := (hA3.block w.heap.size (by omega)).trans hk2
  have hown3 : W3.ownsMap Try.prog 9 fileR (w.heap.size + 1) 0 (toD []) := by rw [hW3, ← hs2]; exact World.ownsMap_made _ _ _ _
  have x0 := Lib.cell_of_heap hk3 0
  have x1 := Lib.cell_of_heap hk3 1
  obtain ⟨⟨c0, c1, c2, c3, c4, c5⟩, _⟩ := six6_cells h1
  obtain ⟨⟨e0, e1, e2, e3, e4, e5⟩, g0, g1, g2, g3, g4, g5⟩ := six6_cells v2
  obtain ⟨⟨d0, d1, d2, d3, d4, d5⟩, _⟩ := six6_cells h3
  simp only [] at d0 d1 d2 d3 d4 d5
  obtain ⟨w4, hrun, r1, r2⟩ := hown3.drew.update str_law Try.underlying65 (by decide) (key_str s hs) (fileR_mk (fa, fn, fc, fk))
  rw [toD_put] at r1
  have r3 := own_tight r1
  rw [toD_size] at r3
  have hs3 : W3.heap.size = w.heap.size + 2 := by rw [hW3]; simp [hs2]
  have hd4 : DAt w4 b ⟨on, uses, armed, left, room, some (w.heap.size + 1)⟩ := World.rowIs.of_block h3 (r2.block b (by show b < W3.heap.size; omega) (fun e => by injection e with e; omega))
  have hc4 : Chg (· = b) w w4 := by
    have t1 : Chg (· = b) w W2 := by rw [hW2]; exact (Chg.ofBelow (S := (· = b)) hA).setCell (p := ⟨b, 5, none⟩) (.inr rfl) _
    have t2 : Chg (· = b) w W3 := t1.thenB hA3
    have t3 : Chg (· = b) w W3.drew := ⟨t2.os, t2.tape, t2.output, t2.size, t2.block⟩
    exact t3.grown r2 (fun k hk => .inl (by injection hk with hk; omega))
  simp only [fileV] at hrun ⊢
  have hmn := fun w => map_is_nil none w
  simp only [Option.isNone_none] at hmn
  have hmm := @run_makeMap Try.prog
  have HD := Lib.hid hd4
  have HR := Lib.hid r3
  have HC := Lib.hid hc4
  have HW1 := Lib.hid hW1.symm
  have HW2 := Lib.hid hW2.symm
  have HW3 := Lib.hid hW3.symm
  clear h hown3 r1 r2 r3 hd4 hc4 hA hA3 hV2 hW1 hW2 hW3 hk1 hk2 hk3 h1 h2 h3 h2s k2 v2
  go_enter Try.func44, Try.ntmps44
  go_upto_region 1 with fail
  rw [HW1.out]
  go_wp2_with fail
  rw [HW2.out, HW3.out]
  go_region_with (fail)
  all_goals
    go_wp2
    exact bodyPost_end (v := .tuple #[]) (by simp [results, Try.results44, go_sem]) rfl ⟨rfl, HD.out, HR.out, HC.out⟩
end Go.Proofs.Ytmepanbfknmieaa
