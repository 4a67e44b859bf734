/- Contracts of codec's readers: Value. -/
import Derived.Test.YtapcnpocaffeoabRdr3
namespace Go.Proofs.Ytapcnpocaffeoab
open Go.RowKit
set_option maxRecDepth 100000 in
set_option maxHeartbeats 2000000 in
theorem rvalue_any (b : Nat) (l : List UInt8) (bad : Bool) (w : World) (h : RAt w b l bad) :
    Calls Try.prog 47 #[.pointer (some ⟨b, 0, none⟩)] w fun e w' => e = .returned (vagg (valS l bad).1) ∧ RAt w' b (valS l bad).2.1 (valS l bad).2.2 ∧ Chg (· = b) w w' := by
  have hA : Below w.heap.size w (w.alloc (.cells #[.int .i64 0, .int .i64 0, .string ⟨#[]⟩] 35)) := (Below.refl _ _).alloc (Nat.le_refl _) _
  have hb0 : b < w.heap.size := h.1
  obtain ⟨W1, hW1⟩ : ∃ W1, W1 = w.alloc (.cells #[.int .i64 0, .int .i64 0, .string ⟨#[]⟩] 35) := ⟨_, rfl⟩
  have hblk : W1.heap[w.heap.size]? = some (.cells #[.int .i64 0, .int .i64 0, .string ⟨#[]⟩] 35 (0, 0)) := by rw [hW1]; exact Array.getElem?_push_size
  have hz1 : w.heap.size < W1.heap.size := by rw [hW1]; simp
  rw [← hW1] at hA
  have hv := rvalue0_any b l bad W1 (h.below hA)
  obtain ⟨S, hS⟩ : ∃ S, S = valS l bad := ⟨_, rfl⟩
  rw [← hS]
  unfold valS at hS
  obtain ⟨⟨⟨k, n, s⟩, l1, b1⟩, hp⟩ : ∃ p, p = valueS l bad := ⟨_, rfl⟩
  rw [← hp] at hv hS
  simp only [vagg] at hv
  simp only at hS
  have HS := Lib.hid hS
  have HV := Lib.hid hv
  have HBK := Lib.hid hblk
  have HWE := Lib.hid hW1.symm
  have HC0 := Lib.hid (Chg.ofBelow (S := (· = b)) hA)
  clear hA hW1 hblk hv hS hp h
  go_enter Try.func47, Try.ntmps47
  go_upto_region 1 with fail
  rw [HWE.out]
  go_wp2_with fail
  refine HV.out.mono ?_
  rintro e w2 ⟨rfl, hR2, hC2⟩
  have hBK2 := (hC2.block w.heap.size hz1 (by omega)).trans HBK.out
  have hC2' := HC0.out.trans hC2
  have hz2 : w.heap.size < w2.heap.size := Nat.lt_of_lt_of_le hz1 hC2.size
  obtain ⟨W3, hW3⟩ : ∃ W3, W3 = w2.alloc (.cells #[.int .i64 k, .int .i64 n, .string s] 35) := ⟨_, rfl⟩
  obtain ⟨W4, hW4⟩ : ∃ W4, W4 = W3.alloc (.cells #[.int .i64 k, .int .i64 n, .string s] 35) := ⟨_, rfl⟩
  have hA3 : Below w2.heap.size w2 W3 := by rw [hW3]; exact (Below.refl _ _).alloc (Nat.le_refl _) _
  have hA4 : Below W3.heap.size W3 W4 := by rw [hW4]; exact (Below.refl _ _).alloc (Nat.le_refl _) _
  have hs3 : W3.heap.size = w2.heap.size + 1 := by rw [hW3]; simp
  have hs4 : W4.heap.size = w2.heap.size + 2 := by rw [hW4]; simp [hs3]
  have hB3 : W3.heap[w2.heap.size]? = some (.cells #[.int .i64 k, .int .i64 n, .string s] 35 (0, 0)) := by rw [hW3]; exact Array.getElem?_push_size
  have hB4 := (hA4.block w2.heap.size (by omega)).trans hB3
  have hZ4 := (hA4.block w.heap.size (by omega)).trans ((hA3.block w.heap.size hz2).trans hBK2)
  have hR4 := (hR2.below hA3).below hA4
  have hC4 := (hC2'.thenB hA3).thenB hA4
  have hr := right_all (some ⟨W3.heap.size, 0, none⟩) 1 1 [(k, n, s)] W4 rfl (by omega) (by rw [hW4]; exact one_val W3 k n s)
  rw [hs3, show [(k, n, s)].all vright = vright (k, n, s) by simp] at hr
  rw [hW3] at hW4
  have HR4 := Lib.hid hR4
  have HC4 := Lib.hid hC4
  have HB4 := Lib.hid hB4
  have HZ4 := Lib.hid hZ4
  have HW4 := Lib.hid hW4
  have HRI := Lib.hid hr
  clear hR2 hC2 hBK2 hC2' hA3 hA4 hB3 hR4 hC4 hB4 hZ4 hW3 hW4 hr hs3 HV HBK HC0 HWE
  go_wp2_with fail
  rw [← HW4.out]
  refine HRI.out.mono ?_
  rintro e w5 ⟨rfl, hb5⟩
  have HR5 := Lib.hid (HR4.out.below hb5)
  have HC5 := Lib.hid (HC4.out.thenB hb5)
  have HB5 := Lib.hid ((hb5.block w2.heap.size (by omega)).trans HB4.out)
  have HZ5 := Lib.hid ((hb5.block w.heap.size (by omega)).trans HZ4.out)
  have hs5 : w2.heap.size + 2 ≤ w5.heap.size := by have := hb5.size; omega
  clear hb5 HR4 HC4 HB4 HZ4 HW4 HRI
  cases hri : vright (k, n, s) with
  | false =>
    have HS1 : Hid (S = ((0, 0, ⟨#[]⟩), [], true)) := by rw [HS.out, hri]; exact rfl
    have HF := Lib.hid (fail_any b l1 b1 w5 HR5.out)
    clear HS hri
    go_wp2_with fail
    refine HF.out.mono ?_
    rintro e w6 ⟨rfl, hR6, hC6⟩
    have HR6 := Lib.hid hR6
    have HC6 := Lib.hid (HC5.out.trans hC6)
    have hZ6 := (hC6.block w.heap.size (by omega) (by omega)).trans HZ5.out
    have HZ6 := Lib.hid hZ6
    have hs6 : w2.heap.size + 2 ≤ w6.heap.size := by have := hC6.size; omega
    have HG := Lib.hid (good_any b [] true w6 hR6)
    clear hR6 hC6 hZ6 HF HR5 HC5 HB5 HZ5
    go_wp2_with fail
    refine HG.out.mono ?_
    rintro e w7 ⟨rfl, hE⟩
    have hb7 : Below w6.heap.size w6 w7 := by rw [← hE]; exact Below.refl _ _
    clear hE
    have hR7 := HR6.out.below hb7
    have hZ7 := (hb7.block w.heap.size (by omega)).trans HZ6.out
    have hC7 := HC6.out.thenB hb7
    obtain ⟨⟨c0, c1, c2⟩, f0, f1, f2⟩ := val_at hZ7
    have hs8 := vset3 hZ7 (.int .i64 0) (.int .i64 0) (.string ⟨#[]⟩)
    have hR8 := hR7.far3 hZ7 (by omega) (.int .i64 0) (.int .i64 0) (.string ⟨#[]⟩)
    have hC8 := hC7.set3 (B := w.heap.size) (Nat.le_refl _) (.int .i64 0) (.int .i64 0) (.string ⟨#[]⟩)
    have HS8 := Lib.hid hs8
    have HR8 := Lib.hid hR8
    have HC8 := Lib.hid hC8
    clear hb7 hR7 hZ7 hC7 hs8 hR8 hC8 HR6 HC6 HZ6 HG
    go_wp2
    generalize ((w7.setCell ⟨w.heap.size, 0, none⟩ (.int .i64 0)).setCell ⟨w.heap.size, 1, none⟩ (.int .i64 0)).setCell ⟨w.heap.size, 2, none⟩ (.string ⟨#[]⟩) = w9 at HS8 HR8 HC8 ⊢
    obtain ⟨⟨d0, d1, d2⟩, _⟩ := val_at HS8.out
    have hSS := HS1.out
    simp [bodyPost, results, Try.results47, go_sem, d0, d1, d2, hSS, vagg]
    exact ⟨HR8.out, HC8.out⟩
  | true =>
    have HG := Lib.hid (good_any b l1 b1 w5 HR5.out)
    cases hb1 : b1 with
    | true =>
      have HS1 : Hid (S = ((0, 0, ⟨#[]⟩), l1, true)) := by rw [HS.out, hri, hb1]; exact rfl
      subst hb1
      clear HS hri
      go_wp2_with fail
      refine HG.out.mono ?_
      rintro e w7 ⟨rfl, hE⟩
      have hb7 : Below w5.heap.size w5 w7 := by rw [← hE]; exact Below.refl _ _
      clear hE
      have hR7 := HR5.out.below hb7
      have hZ7 := (hb7.block w.heap.size (by omega)).trans HZ5.out
      have hC7 := HC5.out.thenB hb7
      obtain ⟨⟨c0, c1, c2⟩, f0, f1, f2⟩ := val_at hZ7
      have hs8 := vset3 hZ7 (.int .i64 0) (.int .i64 0) (.string ⟨#[]⟩)
      have hR8 := hR7.far3 hZ7 (by omega) (.int .i64 0) (.int .i64 0) (.string ⟨#[]⟩)
      have hC8 := hC7.set3 (B := w.heap.size) (Nat.le_refl _) (.int .i64 0) (.int .i64 0) (.string ⟨#[]⟩)
      have HS8 := Lib.hid hs8
      have HR8 := Lib.hid hR8
      have HC8 := Lib.hid hC8
      clear hb7 hR7 hZ7 hC7 hs8 hR8 hC8 HR5 HC5 HZ5 HB5 HG
      go_wp2
      generalize ((w7.setCell ⟨w.heap.size, 0, none⟩ (.int .i64 0)).setCell ⟨w.heap.size, 1, none⟩ (.int .i64 0)).setCell ⟨w.heap.size, 2, none⟩ (.string ⟨#[]⟩) = w9 at HS8 HR8 HC8 ⊢
      obtain ⟨⟨d0, d1, d2⟩, _⟩ := val_at HS8.out
      have hSS := HS1.out
      simp [bodyPost, results, Try.results47, go_sem, d0, d1, d2, hSS, vagg]
      exact ⟨HR8.out, HC8.out⟩
    | false =>
      have HS1 : Hid (S = ((k, n, s), l1, false)) := by rw [HS.out, hri, hb1]; exact rfl
      subst hb1
      clear HS hri
      go_wp2_with fail
      refine HG.out.mono ?_
      rintro e w7 ⟨rfl, hE⟩
      have hb7 : Below w5.heap.size w5 w7 := by rw [← hE]; exact Below.refl _ _
      clear hE
      have hR7 := HR5.out.below hb7
      have hZ7 := (hb7.block w.heap.size (by omega)).trans HZ5.out
      have hB7 := (hb7.block w2.heap.size (by omega)).trans HB5.out
      have hC7 := HC5.out.thenB hb7
      obtain ⟨⟨c0, c1, c2⟩, f0, f1, f2⟩ := val_at hZ7
      obtain ⟨⟨x0, x1, x2⟩, _⟩ := val_at hB7
      have hs8 := vset3 hZ7 (.int .i64 k) (.int .i64 n) (.string s)
      have hR8 := hR7.far3 hZ7 (by omega) (.int .i64 k) (.int .i64 n) (.string s)
      have hC8 := hC7.set3 (B := w.heap.size) (Nat.le_refl _) (.int .i64 k) (.int .i64 n) (.string s)
      have HS8 := Lib.hid hs8
      have HR8 := Lib.hid hR8
      have HC8 := Lib.hid hC8
      clear hb7 hR7 hZ7 hB7 hC7 hs8 hR8 hC8 HR5 HC5 HZ5 HB5 HG
      go_wp2
      generalize ((w7.setCell ⟨w.heap.size, 0, none⟩ (.int .i64 k)).setCell ⟨w.heap.size, 1, none⟩ (.int .i64 n)).setCell ⟨w.heap.size, 2, none⟩ (.string s) = w9 at HS8 HR8 HC8 ⊢
      obtain ⟨⟨d0, d1, d2⟩, _⟩ := val_at HS8.out
      have hSS := HS1.out
      simp [bodyPost, results, Try.results47, go_sem, d0, d1, d2, hSS, vagg]
      exact ⟨HR8.out, HC8.out⟩
end Go.Proofs.Ytapcnpocaffeoab
