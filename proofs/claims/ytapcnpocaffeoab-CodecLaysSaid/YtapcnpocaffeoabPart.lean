/- Contracts of the document's own reader: of one that is bad. -/
import Derived.Test.YtapcnpocaffeoabRdr7
namespace Go.Proofs.Ytapcnpocaffeoab
open Go.RowKit
/-- A part at block p: what is left, is it bad? -/
def PAt (w : World) (p : Nat) (s : ByteArray) (bad : Bool) : Prop := p < w.heap.size ∧ w.heap[p]? = some (.cells #[.string s, .bool bad] 58 (0, 0))
theorem PAt.below {w w' : World} {p : Nat} {s : ByteArray} {bad : Bool} (h : PAt w p s bad) (hb : Below w.heap.size w w') : PAt w' p s bad :=
  ⟨Nat.lt_of_lt_of_le h.1 hb.size, (hb.block p h.1).trans h.2⟩
theorem PAt.set {w : World} {p : Nat} {s : ByteArray} {bad : Bool} (h : PAt w p s bad) (t : ByteArray) : PAt (w.setCell ⟨p, 0, none⟩ (.string t)) p t bad :=
  ⟨by simpa using h.1, Lib.heap_setCell_same (i := 0) h.2 (.string t)⟩
theorem PAt.bad {w : World} {p : Nat} {s : ByteArray} {bad : Bool} (h : PAt w p s bad) : PAt (w.setCell ⟨p, 1, none⟩ (.bool true)) p s true :=
  ⟨by simpa using h.1, Lib.heap_setCell_same (i := 1) h.2 (.bool true)⟩
set_option maxHeartbeats 1000000 in
theorem pcut_bad (p : Nat) (s : ByteArray) (n : Int) (w : World) (h : PAt w p s true) : Calls Try.prog 64 #[.pointer (some ⟨p, 0, none⟩), .int .i64 n] w fun e w' => e = .returned (.string ⟨#[]⟩) ∧ PAt w' p s true ∧ Chg (· = p) w w' := by
  obtain ⟨⟨c0, c1⟩, f0, f1⟩ := two_at h.2
  have HP := Lib.hid h.bad
  have HC := Lib.hid ((Chg.refl (· = p) w).setCell (p := ⟨p, 1, none⟩) (.inr rfl) (.bool true))
  clear h
  go_enter Try.func64, Try.ntmps64
  go_wp2
  go_ret
  exact ⟨rfl, HP.out, HC.out⟩
set_option maxRecDepth 100000 in
set_option maxHeartbeats 1000000 in
theorem pnumber_bad (p : Nat) (s : ByteArray) (w : World) (h : PAt w p s true) : Calls Try.prog 63 #[.pointer (some ⟨p, 0, none⟩)] w fun e w' => e = .returned (.int .u64 0) ∧ PAt w' p s true ∧ Chg (· = p) w w' := by
  have HB := Lib.hid (pcut_bad p s 1 w h)
  clear h
  go_enter Try.func63, Try.ntmps63
  go_wp2_with fail
  refine HB.out.mono ?_
  rintro e w1 ⟨rfl, h1, hC1⟩
  obtain ⟨⟨c0, c1⟩, f0, f1⟩ := two_at h1.2
  have HP := Lib.hid h1.bad
  have HC := Lib.hid (hC1.setCell (p := ⟨p, 1, none⟩) (.inr rfl) (.bool true))
  clear h1 hC1 HB
  go_wp2
  go_ret
  exact ⟨rfl, HP.out, HC.out⟩
set_option maxRecDepth 100000 in
set_option maxHeartbeats 1000000 in
theorem psize_bad (p : Nat) (s : ByteArray) (most : Int) (w : World) (h : PAt w p s true) : Calls Try.prog 44 #[.pointer (some ⟨p, 0, none⟩), .int .i64 most] w fun e w' => e = .returned (.int .i64 0) ∧ PAt w' p s true ∧ Chg (· = p) w w' := by
  have HB := Lib.hid (pnumber_bad p s w h)
  clear h
  by_cases hm : most < 0
  · have hd : decide (most < 0) = true := decide_eq_true hm
    go_enter Try.func44, Try.ntmps44
    go_wp2_with fail
    refine HB.out.mono ?_
    rintro e w1 ⟨rfl, h1, hC1⟩
    obtain ⟨⟨c0, c1⟩, f0, f1⟩ := two_at h1.2
    have hb2 := h1.bad
    obtain ⟨⟨d0, d1⟩, _⟩ := two_at hb2.2
    have HP := Lib.hid hb2
    have HC := Lib.hid (hC1.setCell (p := ⟨p, 1, none⟩) (.inr rfl) (.bool true))
    clear h1 hC1 HB hb2
    go_wp2
    go_ret
    exact ⟨rfl, HP.out, HC.out⟩
  · obtain ⟨m, rfl⟩ : ∃ m : Nat, most = (m : Int) := ⟨most.toNat, by omega⟩
    have hd : decide ((m : Int) < 0) = false := decide_eq_false hm
    go_enter Try.func44, Try.ntmps44
    go_wp2_with fail
    refine HB.out.mono ?_
    rintro e w1 ⟨rfl, h1, hC1⟩
    obtain ⟨⟨c0, c1⟩, f0, f1⟩ := two_at h1.2
    have HP := Lib.hid h1
    have HC := Lib.hid hC1
    clear h1 hC1 HB
    go_wp2
    go_ret
    exact ⟨rfl, HP.out, HC.out⟩
set_option maxHeartbeats 1000000 in
theorem psigned_bad (p : Nat) (s : ByteArray) (w : World) (h : PAt w p s true) : Calls Try.prog 45 #[.pointer (some ⟨p, 0, none⟩)] w fun e w' => e = .returned (.int .i64 0) ∧ PAt w' p s true ∧ Chg (· = p) w w' := by
  have HB := Lib.hid (pnumber_bad p s w h)
  clear h
  go_enter Try.func45, Try.ntmps45
  go_wp2_with fail
  refine HB.out.mono ?_
  rintro e w1 ⟨rfl, h1, hC1⟩
  have HP := Lib.hid h1
  have HC := Lib.hid hC1
  clear h1 hC1 HB
  go_wp2
  go_ret
  exact ⟨rfl, HP.out, HC.out⟩
set_option maxHeartbeats 1000000 in
theorem ptext_bad (p : Nat) (s : ByteArray) (most : Int) (w : World) (h : PAt w p s true) : Calls Try.prog 46 #[.pointer (some ⟨p, 0, none⟩), .int .i64 most] w fun e w' => e = .returned (.string ⟨#[]⟩) ∧ PAt w' p s true ∧ Chg (· = p) w w' := by
  have HB := Lib.hid (psize_bad p s most w h)
  clear h
  go_enter Try.func46, Try.ntmps46
  go_wp2_with fail
  refine HB.out.mono ?_
  rintro e w1 ⟨rfl, h1, hC1⟩
  have HT := Lib.hid (pcut_bad p s 0 w1 h1)
  have HC := Lib.hid hC1
  clear h1 hC1 HB
  go_wp2_with fail
  refine HT.out.mono ?_
  rintro e w2 ⟨rfl, h2, hC2⟩
  have HP := Lib.hid h2
  have HC2 := Lib.hid (HC.out.trans hC2)
  clear h2 hC2 HT HC
  go_wp2
  go_ret
  exact ⟨rfl, HP.out, HC2.out⟩
set_option maxHeartbeats 1000000 in
theorem prow_bad (p : Nat) (s : ByteArray) (most : Int) (w : World) (h : PAt w p s true) : Calls Try.prog 50 #[.pointer (some ⟨p, 0, none⟩), .int .i64 most] w fun e w' => e = .returned (.slice none 0 0) ∧ PAt w' p s true ∧ Chg (· = p) w w' := by
  have HB := Lib.hid (psize_bad p s most w h)
  clear h
  go_enter Try.func50, Try.ntmps50
  go_wp2_with fail
  refine HB.out.mono ?_
  rintro e w1 ⟨rfl, h1, hC1⟩
  obtain ⟨⟨c0, c1⟩, f0, f1⟩ := two_at h1.2
  have HP := Lib.hid h1
  have HC := Lib.hid hC1
  clear h1 hC1 HB
  go_wp2
  refine wp_loop_rounds 1 ?_
  rw [rounds_succ]
  go_wp2
  go_ret
  exact ⟨rfl, HP.out, HC.out⟩
set_option maxHeartbeats 1000000 in
theorem prows_bad (p : Nat) (s : ByteArray) (most cols : Int) (w : World) (h : PAt w p s true) : Calls Try.prog 51 #[.pointer (some ⟨p, 0, none⟩), .int .i64 most, .int .i64 cols] w fun e w' => e = .returned (.slice none 0 0) ∧ PAt w' p s true ∧ Chg (· = p) w w' := by
  have HB := Lib.hid (psize_bad p s most w h)
  clear h
  go_enter Try.func51, Try.ntmps51
  go_wp2_with fail
  refine HB.out.mono ?_
  rintro e w1 ⟨rfl, h1, hC1⟩
  obtain ⟨⟨c0, c1⟩, f0, f1⟩ := two_at h1.2
  have HP := Lib.hid h1
  have HC := Lib.hid hC1
  clear h1 hC1 HB
  go_wp2
  refine wp_loop_rounds 1 ?_
  rw [rounds_succ]
  go_wp2
  go_ret
  exact ⟨rfl, HP.out, HC.out⟩
theorem PAt.far3 {w : World} {p B : Nat} {s : ByteArray} {bad : Bool} (h : PAt w p s bad) (hne : B ≠ p) (u v q : Value) : PAt (((w.setCell ⟨B, 0, none⟩ u).setCell ⟨B, 1, none⟩ v).setCell ⟨B, 2, none⟩ q) p s bad :=
  ⟨by simpa using h.1, by
    rw [Below.heap_setCell _ _ _ _ (Ne.symm hne), Below.heap_setCell _ _ _ _ (Ne.symm hne), Below.heap_setCell _ _ _ _ (Ne.symm hne)]
    exact h.2⟩
set_option maxRecDepth 100000 in
set_option maxHeartbeats 2000000 in
theorem pvalue_bad (p : Nat) (s : ByteArray) (w : World) (h : PAt w p s true) : Calls Try.prog 48 #[.pointer (some ⟨p, 0, none⟩)] w fun e w' => e = .returned (.agg #[.int .i64 0, .int .i64 0, .string ⟨#[]⟩]) ∧ PAt w' p s true ∧ Chg (· = p) w w' := by
  obtain ⟨W1, hW1⟩ : ∃ W1, W1 = w.alloc (.cells #[.int .i64 0, .int .i64 0, .string ⟨#[]⟩] 35) := ⟨_, rfl⟩
  have hA : Below w.heap.size w W1 := by rw [hW1]; exact (Below.refl _ _).alloc (Nat.le_refl _) _
  have hblk : W1.heap[w.heap.size]? = some (.cells #[.int .i64 0, .int .i64 0, .string ⟨#[]⟩] 35 (0, 0)) := by rw [hW1]; exact Array.getElem?_push_size
  have hz1 : w.heap.size < W1.heap.size := by rw [hW1]; simp
  have hp0 := h.1
  have HV := Lib.hid (pcut_bad p s 1 W1 (h.below hA))
  have HBK := Lib.hid hblk
  have HC0 := Lib.hid (Chg.ofBelow (S := (· = p)) hA)
  have HWE := Lib.hid hW1.symm
  clear hA hblk hW1 h
  go_enter Try.func48, Try.ntmps48
  go_upto_region 1 with fail
  rw [HWE.out]
  go_wp2_with fail
  refine HV.out.mono ?_
  rintro e w2 ⟨rfl, h2, hC2⟩
  have hz2 : w.heap.size < w2.heap.size := Nat.lt_of_lt_of_le hz1 hC2.size
  have hBK2 := (hC2.block w.heap.size hz1 (by omega)).trans HBK.out
  have hC2' := HC0.out.trans hC2
  obtain ⟨W3, hW3⟩ : ∃ W3, W3 = w2.alloc (.cells #[.int .i64 0, .int .i64 0, .string ⟨#[]⟩] 35) := ⟨_, rfl⟩
  have hA3 : Below w2.heap.size w2 W3 := by rw [hW3]; exact (Below.refl _ _).alloc (Nat.le_refl _) _
  have hB3 : W3.heap[w2.heap.size]? = some (.cells #[.int .i64 0, .int .i64 0, .string ⟨#[]⟩] 35 (0, 0)) := by rw [hW3]; exact Array.getElem?_push_size
  have hZ3 := (hA3.block w.heap.size hz2).trans hBK2
  have h3 := h2.below hA3
  have hC3 := hC2'.thenB hA3
  have h4 := h3.bad
  have hC4 := hC3.setCell (p := ⟨p, 1, none⟩) (.inr rfl) (.bool true)
  have hZ4 : (W3.setCell ⟨p, 1, none⟩ (.bool true)).heap[w.heap.size]? = some (.cells #[.int .i64 0, .int .i64 0, .string ⟨#[]⟩] 35 (0, 0)) := by
    rw [Below.heap_setCell _ _ _ _ (by simp only [ne_eq]; omega)]; exact hZ3
  have hpz : p ≠ w.heap.size := by omega
  have HW3 := Lib.hid hW3.symm
  have H3 := Lib.hid h3
  have H4 := Lib.hid h4
  have HC4 := Lib.hid hC4
  have HZ4 := Lib.hid hZ4
  have HB3 := Lib.hid hB3
  clear h2 hC2 hBK2 hC2' hA3 hW3 hB3 hZ3 h3 hC3 h4 hC4 hZ4 HV HBK HC0 HWE
  go_upto_region 3 with fail
  rw [HW3.out]
  obtain ⟨⟨a0, a1⟩, g0, g1⟩ := two_at H3.out.2
  obtain ⟨⟨b0, b1, b2⟩, _⟩ := val_at HB3.out
  obtain ⟨⟨c0, c1, c2⟩, f0, f1, f2⟩ := val_at HZ4.out
  have HS8 := Lib.hid (vset3 HZ4.out (.int .i64 0) (.int .i64 0) (.string ⟨#[]⟩))
  have HP8 := Lib.hid (H4.out.far3 (Ne.symm hpz) (.int .i64 0) (.int .i64 0) (.string ⟨#[]⟩))
  have HC8 := Lib.hid (HC4.out.set3 (B := w.heap.size) (Nat.le_refl _) (.int .i64 0) (.int .i64 0) (.string ⟨#[]⟩))
  clear H3 H4 HC4 HZ4 HB3 HW3
  go_wp2
  generalize (((W3.setCell ⟨p, 1, none⟩ (.bool true)).setCell ⟨w.heap.size, 0, none⟩ (.int .i64 0)).setCell ⟨w.heap.size, 1, none⟩ (.int .i64 0)).setCell ⟨w.heap.size, 2, none⟩ (.string ⟨#[]⟩) = w9 at HS8 HP8 HC8 ⊢
  obtain ⟨⟨d0, d1, d2⟩, _⟩ := val_at HS8.out
  simp [bodyPost, results, Try.results48, go_sem, d0, d1, d2]
  exact ⟨HP8.out, HC8.out⟩
end Go.Proofs.Ytapcnpocaffeoab
