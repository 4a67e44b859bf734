/- Contract of disk's lay. -/
import Derived.Test.YtmepanbfknmieaaDisk2
import Derived.Deep.RegionWith
import Derived.Deep.DrawnRows
namespace Go.Proofs.Ytmepanbfknmieaa
open Go.RowKit Go.Maps
attribute [local go_sem ↓] Go.wp_at_zero Go.wp_at_succ
set_option maxRecDepth 100000 in
theorem map_is_nil (x : Option Nat) (w : World) : (binOp .eql 65 (.map x) (.map none)).run Try.prog w = .ok (.bool x.isNone) w := by cases x <;> rfl
set_option maxRecDepth 100000 in
set_option maxHeartbeats 1000000 in
theorem lay_some (b m : Nat) (D : Dk) (fs : List FEnt) (s : ByteArray) (f : FRaw) (w : World) (hs : s.size ≤ maxLen) (h : DAt w b D) (hm : D.mb = some m) (hown : w.ownsMap Try.prog 9 fileR m fs.length (toD fs)) (hl : fs.length < maxLen) :
    Calls Try.prog 44 #[.pointer (some ⟨b, 0, none⟩), .string s, fileV f] w fun e w' => e = .returned (.tuple #[]) ∧ DAt w' b D ∧ w'.ownsMap Try.prog 9 fileR m (fput fs s.data.toList f).length (toD (fput fs s.data.toList f)) ∧ Chg (· = m) w w' := by
  obtain ⟨on, uses, armed, left, room, mb⟩ := D
  simp only at hm
  subst hm
  obtain ⟨fa, fn, fc, fk⟩ := f
  obtain ⟨W1, hW1⟩ : ∃ W, W = w.alloc (.cells #[.slice fa fn fc, .int .i64 fk] 72) := ⟨_, rfl⟩
  have hA : Below w.heap.size w W1 := by rw [hW1]; exact (Below.refl _ _).alloc (Nat.le_refl _) _
  have h1 : W1.rowIs b 67 6 (six6 (.bool on) (.int .i64 uses) (.bool armed) (.int .i64 left) (.int .i64 room) (.map (some m))) := World.rowIs.of_block h (hA.block b h.lt)
  have hk1 : W1.heap[w.heap.size]? = some (.cells #[.slice fa fn fc, .int .i64 fk] 72 (0, 0)) := by rw [hW1]; exact Array.getElem?_push_size
  have x0 := Lib.cell_of_heap hk1 0
  have x1 := Lib.cell_of_heap hk1 1
  obtain ⟨⟨c0, c1, c2, c3, c4, c5⟩, _⟩ := six6_cells h1
  have hown1 : W1.drew.ownsMap Try.prog 9 fileR m fs.length (toD fs) := by rw [hW1]; exact (hown.alloc _).drew
  obtain ⟨w2, hrun, r1, r2⟩ := hown1.update str_law Try.underlying65 hl (key_str s hs) (fileR_mk (fa, fn, fc, fk))
  rw [toD_put] at r1
  have r3 := own_tight r1
  rw [toD_size] at r3
  have hbm : b ≠ m := fun e => by
    obtain ⟨cs, hcs, _⟩ := h
    obtain ⟨es, clock, hes, _⟩ := hown
    rw [e, hes] at hcs
    cases hcs
  have hd2 : w2.rowIs b 67 6 (six6 (.bool on) (.int .i64 uses) (.bool armed) (.int .i64 left) (.int .i64 room) (.map (some m))) := World.rowIs.of_block h1 (r2.block b h1.lt (fun e => hbm (by injection e)))
  have hc2 : Chg (· = m) w w2 := by
    have h0 : Chg (· = m) w W1.drew := Chg.ofBelow hA.drew
    exact h0.grown r2 (fun k hk => .inr (by injection hk with hk; exact hk.symm))
  simp only [fileV] at hrun ⊢
  have hmn := fun w => map_is_nil (some m) w
  simp only [Option.isNone_some] at hmn
  have HD := Lib.hid hd2
  have HR := Lib.hid r3
  have HC := Lib.hid hc2
  have HW1 := Lib.hid hW1.symm
  clear h hown hown1 r1 r2 r3 hd2 hc2 hA hW1 hk1 h1
  go_enter Try.func44, Try.ntmps44
  go_upto_region 1 with fail
  rw [HW1.out]
  go_wp2_with fail
  go_region_with (fail)
  all_goals
    go_wp2
    exact bodyPost_end (v := .tuple #[]) (by simp [results, Try.results44, go_sem]) rfl ⟨rfl, HD.out, HR.out, HC.out⟩
end Go.Proofs.Ytmepanbfknmieaa
