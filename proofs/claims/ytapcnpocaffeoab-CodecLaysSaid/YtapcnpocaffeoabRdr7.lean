/- Contracts of codec's readers: of none. -/
import Derived.Test.YtapcnpocaffeoabRdr6
namespace Go.Proofs.Ytapcnpocaffeoab
open Go.RowKit
theorem byte_nil (w : World) : Calls Try.prog 66 #[.pointer none] w fun e w' => e = .returned (.int .u8 0) ∧ w = w' := by
  have HT := Lib.hid (rtake_nil 1 w)
  go_enter Try.func66, Try.ntmps66
  go_wp2_with fail
  refine HT.out.mono ?_
  rintro e w1 ⟨rfl, rfl⟩
  go_wp2
  go_ret
  exact ⟨rfl, rfl⟩
set_option maxHeartbeats 1000000 in
theorem number_nil' (most : Nat) (w : World) : Calls Try.prog 55 #[.pointer none, .int .u64 (most : Int)] w fun e w' => e = .returned (.int .u64 0) ∧ w = w' := by
  have HB := Lib.hid (byte_nil w)
  have HT := Lib.hid (rtake_nil 0 w)
  have hw := width_any 0 (by omega) w
  have hd : decide ((most : Int) < 0) = false := decide_eq_false (by omega)
  rw [show (digs 8 0).length = 0 by rfl] at hw
  have HW := Lib.hid hw
  clear hw
  go_enter Try.func55, Try.ntmps55
  go_wp2_with fail
  refine HB.out.mono ?_
  rintro e w1 ⟨rfl, rfl⟩
  go_wp2_with fail
  refine HT.out.mono ?_
  rintro e w1 ⟨rfl, rfl⟩
  go_wp2
  refine wp_loop_rounds 1 ?_
  rw [rounds_succ]
  go_wp2_with fail
  refine HW.out.mono ?_
  rintro e w1 ⟨rfl, rfl⟩
  go_wp2
  go_ret
  exact ⟨rfl, rfl⟩
set_option maxHeartbeats 1000000 in
theorem rsize_nil (most : Int) (h1 : most ≤ 9223372036854775807) (w : World) : Calls Try.prog 35 #[.pointer none, .int .i64 most] w fun e w' => e = .returned (.int .i64 0) ∧ w = w' := by
  by_cases hm : most < 0
  · have hd : decide (most < 0) = true := decide_eq_true hm
    have HF := Lib.hid (fail_nil w)
    go_enter Try.func35, Try.ntmps35
    go_wp2_with fail
    refine HF.out.mono ?_
    rintro e w1 ⟨rfl, rfl⟩
    go_wp2
    go_ret
    exact ⟨rfl, rfl⟩
  · obtain ⟨m, rfl⟩ : ∃ m : Nat, most = (m : Int) := ⟨most.toNat, by omega⟩
    have hd : decide ((m : Int) < 0) = false := decide_eq_false hm
    have HN := Lib.hid (number_nil' m w)
    go_enter Try.func35, Try.ntmps35
    go_wp2_with fail
    refine HN.out.mono ?_
    rintro e w1 ⟨rfl, rfl⟩
    go_wp2
    go_ret
    exact ⟨rfl, rfl⟩
set_option maxHeartbeats 1000000 in
theorem rsigned_nil (w : World) : Calls Try.prog 29 #[.pointer none] w fun e w' => e = .returned (.int .i64 0) ∧ w = w' := by
  have HN := Lib.hid (number_nil' 18446744073709551615 w)
  have HU := Lib.hid (unfold_any 0 (by omega) w)
  go_enter Try.func29, Try.ntmps29
  go_wp2_with fail
  refine HN.out.mono ?_
  rintro e w1 ⟨rfl, rfl⟩
  go_wp2_with fail
  refine HU.out.mono ?_
  rintro e w1 ⟨rfl, rfl⟩
  go_wp2
  go_ret
  exact ⟨rfl, rfl⟩
set_option maxHeartbeats 1000000 in
theorem rtext_nil (most : Int) (h1 : most ≤ 9223372036854775807) (w : World) : Calls Try.prog 30 #[.pointer none, .int .i64 most] w fun e w' => e = .returned (.string ⟨#[]⟩) ∧ w = w' := by
  have HS := Lib.hid (rsize_nil most h1 w)
  have HT := Lib.hid (rtake_nil 0 w)
  have hcv := conv_in (w := w) (a := none) (out := []) (b := 0) (.inl rfl) 0
  rw [List.length_nil] at hcv
  go_enter Try.func30, Try.ntmps30
  go_wp2_with fail
  refine HS.out.mono ?_
  rintro e w1 ⟨rfl, rfl⟩
  go_wp2_with fail
  refine HT.out.mono ?_
  rintro e w1 ⟨rfl, rfl⟩
  go_wp2
  go_ret
  exact ⟨rfl, rfl⟩
theorem rstring_nil (w : World) : Calls Try.prog 33 #[.pointer none] w fun e w' => e = .returned (.string ⟨#[]⟩) ∧ w = w' := by
  go_enter Try.func33, Try.ntmps33
  go_wp2
  go_ret
  exact ⟨rfl, rfl⟩
theorem rend_nil (w : World) : Calls Try.prog 37 #[.pointer none] w fun e w' => e = .returned (.bool false) ∧ w = w' := by
  have HG := Lib.hid (good_nil w)
  go_enter Try.func37, Try.ntmps37
  go_wp2_with fail
  refine HG.out.mono ?_
  rintro e w1 ⟨rfl, rfl⟩
  go_wp2
  go_ret
  exact ⟨rfl, rfl⟩
set_option maxRecDepth 100000 in
set_option maxHeartbeats 1000000 in
theorem rvalue0_nil (w : World) : Calls Try.prog 65 #[.pointer none] w fun e w' => e = .returned (.agg #[.int .i64 0, .int .i64 0, .string ⟨#[]⟩]) ∧ Below w.heap.size w w' := by
  have hA : Below w.heap.size w (w.alloc (.cells #[.int .i64 0, .int .i64 0, .string ⟨#[]⟩] 35)) := (Below.refl _ _).alloc (Nat.le_refl _) _
  have HA := Lib.hid hA
  have HB := Lib.hid (byte_nil (w.alloc (.cells #[.int .i64 0, .int .i64 0, .string ⟨#[]⟩] 35)))
  clear hA
  go_enter Try.func65, Try.ntmps65
  go_wp2_with fail
  refine HB.out.mono ?_
  rintro e w1 ⟨rfl, rfl⟩
  go_wp2
  simp [bodyPost, results, Try.results65, go_sem]
  exact HA.out
set_option maxRecDepth 100000 in
set_option maxHeartbeats 1000000 in
theorem rvalue_nil (w : World) : Calls Try.prog 47 #[.pointer none] w fun e w' => e = .returned (.agg #[.int .i64 0, .int .i64 0, .string ⟨#[]⟩]) ∧ Below w.heap.size w w' := by
  obtain ⟨W1, hW1⟩ : ∃ W1, W1 = w.alloc (.cells #[.int .i64 0, .int .i64 0, .string ⟨#[]⟩] 35) := ⟨_, rfl⟩
  have hA : Below w.heap.size w W1 := by rw [hW1]; exact (Below.refl _ _).alloc (Nat.le_refl _) _
  have hblk : W1.heap[w.heap.size]? = some (.cells #[.int .i64 0, .int .i64 0, .string ⟨#[]⟩] 35 (0, 0)) := by rw [hW1]; exact Array.getElem?_push_size
  have hz1 : w.heap.size < W1.heap.size := by rw [hW1]; simp
  have HV := Lib.hid (rvalue0_nil W1)
  have HBK := Lib.hid hblk
  have HA := Lib.hid hA
  have HWE := Lib.hid hW1.symm
  clear hA hblk hW1
  go_enter Try.func47, Try.ntmps47
  go_upto_region 1 with fail
  rw [HWE.out]
  go_wp2_with fail
  refine HV.out.mono ?_
  rintro e w2 ⟨rfl, hb2⟩
  have hz2 : w.heap.size < w2.heap.size := Nat.lt_of_lt_of_le hz1 hb2.size
  have hBK2 := (hb2.block w.heap.size hz1).trans HBK.out
  have hC2 := Below.thenB HA.out (Nat.le_of_lt hz1) hb2
  obtain ⟨W3, hW3⟩ : ∃ W3, W3 = w2.alloc (.cells #[.int .i64 0, .int .i64 0, .string ⟨#[]⟩] 35) := ⟨_, rfl⟩
  obtain ⟨W4, hW4⟩ : ∃ W4, W4 = W3.alloc (.cells #[.int .i64 0, .int .i64 0, .string ⟨#[]⟩] 35) := ⟨_, rfl⟩
  have hA3 : Below w2.heap.size w2 W3 := by rw [hW3]; exact (Below.refl _ _).alloc (Nat.le_refl _) _
  have hA4 : Below W3.heap.size W3 W4 := by rw [hW4]; exact (Below.refl _ _).alloc (Nat.le_refl _) _
  have hs3 : W3.heap.size = w2.heap.size + 1 := by rw [hW3]; simp
  have hs4 : W4.heap.size = w2.heap.size + 2 := by rw [hW4]; simp [hs3]
  have hZ4 := (hA4.block w.heap.size (by omega)).trans ((hA3.block w.heap.size hz2).trans hBK2)
  have hC4 := Below.thenB (Below.thenB hC2 (by omega) hA3) (by omega) hA4
  have hr := right_all (some ⟨W3.heap.size, 0, none⟩) 1 1 [(0, 0, ⟨#[]⟩)] W4 rfl (by omega) (by rw [hW4]; exact one_val W3 0 0 ⟨#[]⟩)
  rw [hs3, show [((0 : Int), (0 : Int), (⟨#[]⟩ : ByteArray))].all vright = false by rfl] at hr
  rw [hW3] at hW4
  have HC4 := Lib.hid hC4
  have HZ4 := Lib.hid hZ4
  have HW4 := Lib.hid hW4
  have HRI := Lib.hid hr
  clear hb2 hBK2 hC2 hA3 hA4 hC4 hZ4 hW3 hW4 hr hs3 HV HBK HA HWE
  go_wp2_with fail
  rw [← HW4.out]
  refine HRI.out.mono ?_
  rintro e w5 ⟨rfl, hb5⟩
  have HC5 := Lib.hid (Below.thenB HC4.out (by omega) hb5)
  have hZ5 := (hb5.block w.heap.size (by omega)).trans HZ4.out
  have HF := Lib.hid (fail_nil w5)
  have HG := Lib.hid (good_nil w5)
  obtain ⟨⟨c0, c1, c2⟩, f0, f1, f2⟩ := val_at hZ5
  have HS8 := Lib.hid (vset3 hZ5 (.int .i64 0) (.int .i64 0) (.string ⟨#[]⟩))
  have HC8 := Lib.hid ((((Chg.ofBelow (S := fun _ => False) HC5.out).setCell (p := ⟨w.heap.size, 0, none⟩) (.inl (Nat.le_refl _)) (.int .i64 0)).setCell (p := ⟨w.heap.size, 1, none⟩) (.inl (Nat.le_refl _)) (.int .i64 0)).setCell (p := ⟨w.heap.size, 2, none⟩) (.inl (Nat.le_refl _)) (.string ⟨#[]⟩))
  clear hb5 HC4 HZ4 HW4 HRI hZ5
  go_wp2_with fail
  refine HF.out.mono ?_
  rintro e w6 ⟨rfl, hE⟩
  subst hE
  go_wp2_with fail
  refine HG.out.mono ?_
  rintro e w6 ⟨rfl, hE⟩
  subst hE
  go_wp2
  generalize ((w5.setCell ⟨w.heap.size, 0, none⟩ (.int .i64 0)).setCell ⟨w.heap.size, 1, none⟩ (.int .i64 0)).setCell ⟨w.heap.size, 2, none⟩ (.string ⟨#[]⟩) = w9 at HS8 HC8 ⊢
  obtain ⟨⟨d0, d1, d2⟩, _⟩ := val_at HS8.out
  simp [bodyPost, results, Try.results47, go_sem, d0, d1, d2]
  exact ⟨HC8.out.os, HC8.out.tape, HC8.out.output, HC8.out.size, fun k hk => HC8.out.block k hk (fun h => h)⟩
set_option maxHeartbeats 1000000 in
theorem rlist_nil (most : Int) (h1 : most ≤ 9223372036854775807) (f : Value) (w : World) : Calls Try.prog 59 #[.pointer none, .int .i64 most, f] w fun e w' => e = .returned (.slice none 0 0) ∧ w = w' := by
  have HS := Lib.hid (rsize_nil most h1 w)
  have HG := Lib.hid (good_nil w)
  go_enter Try.func59, Try.ntmps59
  go_wp2_with fail
  refine HS.out.mono ?_
  rintro e w1 ⟨rfl, rfl⟩
  go_wp2
  refine wp_loop_rounds 1 ?_
  rw [rounds_succ]
  go_wp2_with fail
  refine HG.out.mono ?_
  rintro e w1 ⟨rfl, rfl⟩
  go_wp2_with fail
  refine HG.out.mono ?_
  rintro e w1 ⟨rfl, rfl⟩
  go_wp2
  go_ret
  exact ⟨rfl, rfl⟩
set_option maxHeartbeats 1000000 in
theorem rrow_nil (most : Int) (h1 : most ≤ 9223372036854775807) (w : World) : Calls Try.prog 36 #[.pointer none, .int .i64 most] w fun e w' => e = .returned (.slice none 0 0) ∧ w = w' := by
  have HL := Lib.hid (rlist_nil most h1 (.func (.func 47) #[.pointer none] #[]) w)
  go_enter Try.func36, Try.ntmps36
  go_wp2_with fail
  refine HL.out.mono ?_
  rintro e w1 ⟨rfl, rfl⟩
  go_wp2
  go_ret
  exact ⟨rfl, rfl⟩
set_option maxHeartbeats 1000000 in
theorem rlist2_nil (most : Int) (h1 : most ≤ 9223372036854775807) (f : Value) (w : World) : Calls Try.prog 57 #[.pointer none, .int .i64 most, f] w fun e w' => e = .returned (.slice none 0 0) ∧ w = w' := by
  have HS := Lib.hid (rsize_nil most h1 w)
  have HG := Lib.hid (good_nil w)
  go_enter Try.func57, Try.ntmps57
  go_wp2_with fail
  refine HS.out.mono ?_
  rintro e w1 ⟨rfl, rfl⟩
  go_wp2
  refine wp_loop_rounds 1 ?_
  rw [rounds_succ]
  go_wp2_with fail
  refine HG.out.mono ?_
  rintro e w1 ⟨rfl, rfl⟩
  go_wp2_with fail
  refine HG.out.mono ?_
  rintro e w1 ⟨rfl, rfl⟩
  go_wp2
  go_ret
  exact ⟨rfl, rfl⟩
set_option maxRecDepth 100000 in
set_option maxHeartbeats 1000000 in
theorem rrows_nil (most cols : Int) (h1 : most ≤ 9223372036854775807) (w : World) : Calls Try.prog 32 #[.pointer none, .int .i64 most, .int .i64 cols] w fun e w' => e = .returned (.slice none 0 0) ∧ Below w.heap.size w w' := by
  have HL := Lib.hid (fun f W => rlist2_nil most h1 f W)
  have hA : Below w.heap.size w ((w.alloc (.cells #[.pointer none] 54)).alloc (.cells #[.int .i64 cols] 3)) := ((Below.refl _ _).alloc (Nat.le_refl _) _).alloc (by simp) _
  have HA := Lib.hid hA
  clear hA
  go_enter Try.func32, Try.ntmps32
  go_wp2_with fail
  refine (HL.out _ _).mono ?_
  rintro e w1 ⟨rfl, hE⟩
  subst hE
  go_wp2
  go_ret
  exact ⟨rfl, HA.out⟩
end Go.Proofs.Ytapcnpocaffeoab
