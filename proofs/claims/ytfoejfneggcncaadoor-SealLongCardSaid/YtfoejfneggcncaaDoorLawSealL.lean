/- SealLong: as many bytes as may be are framed; more are not. -/
import Derived.Test.YtfoejfneggcncaaDoorLawSeal
import Derived.Laws.MakeOwn
namespace Go.Proofs.YtfoejfneggcncaaDoor
open Go.RowKit
theorem made_cell (n j : Nat) (hj : j < n) : (madeCells #[Value.int .u8 0] n)[j]? = some (.int .u8 0) := by
  unfold madeCells
  rw [Array.getElem?_map, Array.getElem?_range, if_pos hj]
  simp [Nat.mod_one]
theorem made_conv (W : World) (b n : Nat) (hb : W.heap[b]? = some (.cells (madeCells #[Value.int .u8 0] n) 5 (0, 0))) :
    (convert 45 9 (.slice (some ⟨b, 0, none⟩) n n)).run Tryd.prog W = .ok (.string ⟨(List.replicate n (0 : UInt8)).toArray⟩) W := by
  have h := conv_block W ⟨b, 0, none⟩ n (List.replicate n (0 : UInt8)) (fun j hj => by
    have hj' : j < n := by simpa using hj
    have hadd : (⟨b, 0, none⟩ : Addr).add j = ⟨b, j, none⟩ := by unfold Addr.add; split <;> simp_all
    rw [hadd, Lib.cell_of_heap hb j, made_cell n j hj']
    simp)
  rw [List.length_replicate] at h
  exact h
theorem make_bytes (W : World) (n : Nat) (hn : n ≤ 1000000) : (Instr.makeSlice 45 (.int .i64 (n : Int)) (.int .i64 (n : Int))).run Tryd.prog W = .ok (.slice (some ⟨W.heap.size, 0, none⟩) n n) (W.alloc (.cells (madeCells #[Value.int .u8 0] n) 5)) := by
  obtain ⟨i0, hi, hz0, hz1, hz2⟩ := info_parts info_b8
  have := run_make (P := Tryd.prog) W 45 5 i0 _ Tryd.underlying45 hi hz0 .i64 .i64 (n : Int) (n : Int) (by omega) (Int.le_refl _) (by rw [hz2]; omega) (by omega)
  rw [hz1] at this
  simpa [Value.cells] using this
set_option maxRecDepth 100000 in
set_option maxHeartbeats 4000000 in
theorem long_walk (v0 : Value) (z : Int) (w : World) (y0 : v0 = .int .u8 z ∧ (Lit.int .u8 z).wf = true) (hN : Nibs w) :
    Calls Tryd.prog 5 #[v0] w fun e w' => e = .returned (.bool true) ∧ Below w.heap.size w w' := by
  obtain ⟨rfl, hz⟩ := y0
  have hz' : 0 ≤ z ∧ z ≤ 255 := by simpa [Lit.wf, IntKind.min, IntKind.max, IntKind.signed, IntKind.bits] using hz
  obtain ⟨r, hr⟩ : ∃ r : Nat, r = (z % 12).toNat := ⟨_, rfl⟩
  have hr12 : r < 12 := by omega
  have hr1 : z % 12 = (r : Int) := by omega
  have hz0 : 0 ≤ z := hz'.1
  have hz1 : z ≤ 255 := hz'.2
  obtain ⟨Z1, hZ1⟩ : ∃ Z1 : ByteArray, Z1 = ⟨(List.replicate 65530 (0 : UInt8)).toArray⟩ := ⟨_, rfl⟩
  obtain ⟨Z2, hZ2⟩ : ∃ Z2 : ByteArray, Z2 = ⟨(List.replicate r (0 : UInt8)).toArray⟩ := ⟨_, rfl⟩
  have hs1 : Z1.size = 65530 := by rw [hZ1, ba_len, List.length_replicate]
  have hs2 : Z2.size = r := by rw [hZ2, ba_len, List.length_replicate]
  obtain ⟨C1, hC1⟩ : ∃ C1, C1 = madeCells #[Value.int .u8 0] 65530 := ⟨_, rfl⟩
  obtain ⟨C2, hC2⟩ : ∃ C2, C2 = madeCells #[Value.int .u8 0] r := ⟨_, rfl⟩
  have m1 : ∀ W : World, (Instr.makeSlice 45 (.int .i64 65530) (.int .i64 65530)).run Tryd.prog W = .ok (.slice (some ⟨W.heap.size, 0, none⟩) 65530 65530) (W.alloc (.cells C1 5)) := fun W => by rw [hC1]; exact make_bytes W 65530 (by omega)
  have m2 : ∀ W : World, (Instr.makeSlice 45 (.int .i64 (r : Int)) (.int .i64 (r : Int))).run Tryd.prog W = .ok (.slice (some ⟨W.heap.size, 0, none⟩) r r) (W.alloc (.cells C2 5)) := fun W => by rw [hC2]; exact make_bytes W r (by omega)
  have q1 : ∀ (W : World) (C : Array Value), (W.alloc (.cells C 5)).drew.heap[W.heap.size]? = some (.cells C 5 (0, 0)) := fun W C => Array.getElem?_push_size
  have q2 : ∀ (W : World) (C D : Array Value), ((W.alloc (.cells C 5)).alloc (.cells D 5)).drew.heap[W.heap.size]? = some (.cells C 5 (0, 0)) := fun W C D => by
    show ((W.heap.push _).push _)[W.heap.size]? = _
    rw [Array.getElem?_push_lt (by simp), Array.getElem_push_eq]
  have q3 : ∀ (W : World) (C D : Array Value), ((W.alloc (.cells C 5)).alloc (.cells D 5)).drew.heap[W.heap.size + 1]? = some (.cells D 5 (0, 0)) := fun W C D => by
    show ((W.heap.push _).push _)[W.heap.size + 1]? = _
    rw [show W.heap.size + 1 = (W.heap.push (.cells C 5 (0, 0))).size by simp]
    exact Array.getElem?_push_size
  have e1 := made_conv (w.alloc (.cells C1 5)).drew w.heap.size 65530 (by rw [hC1]; exact q1 _ _)
  have e2 := made_conv ((w.alloc (.cells C1 5)).alloc (.cells C2 5)).drew w.heap.size 65530 (by rw [hC1]; exact q2 _ _ _)
  have e3 := made_conv ((w.alloc (.cells C1 5)).alloc (.cells C2 5)).drew (w.heap.size + 1) r (by rw [hC2]; exact q3 _ _ _)
  have e4 := made_conv (w.alloc (.cells C2 5)).drew w.heap.size r (by rw [hC2]; exact q1 _ _)
  have e5 := made_conv ((w.alloc (.cells C2 5)).alloc (.cells C1 5)).drew w.heap.size r (by rw [hC2]; exact q2 _ _ _)
  have e6 := made_conv ((w.alloc (.cells C2 5)).alloc (.cells C1 5)).drew (w.heap.size + 1) 65530 (by rw [hC1]; exact q3 _ _ _)
  rw [← hZ1] at e1 e2 e6
  rw [← hZ2] at e3 e4 e5
  have hwr : IntKind.i64.wrap (r : Int) = (r : Int) := IntWalk.i64_in _ ⟨by omega, by omega⟩
  clear q1 q2 q3
  have hjl : (joinB [Z1, Z2]).length = 65530 + r := by
    have : joinB [Z1, Z2] = Z1.data.toList ++ Z2.data.toList := by simp [joinB]
    rw [this, List.length_append, ← Lib.size_eq, ← Lib.size_eq, hs1, hs2]
  have htt : ∀ C D : Array Value, Texts (((w.alloc (.cells C 5)).alloc (.cells D 5)).alloc (.cells #[.string Z1, .string Z2] 9)).drew (some ⟨w.heap.size + 1 + 1, 0, none⟩) [Z1, Z2] := by
    intro C D
    obtain ⟨W2, hW2⟩ : ∃ W2, W2 = (w.alloc (.cells C 5)).alloc (.cells D 5) := ⟨_, rfl⟩
    have hsz2 : W2.heap.size = w.heap.size + 1 + 1 := by rw [hW2]; simp
    have htt := two_texts W2 Z1 Z2
    rw [hsz2] at htt
    rw [← hW2]; exact htt
  have hbW3 : ∀ C D : Array Value, Below w.heap.size w (((w.alloc (.cells C 5)).alloc (.cells D 5)).alloc (.cells #[.string Z1, .string Z2] 9)).drew := by
    intro C D
    obtain ⟨W2, hW2⟩ : ∃ W2, W2 = (w.alloc (.cells C 5)).alloc (.cells D 5) := ⟨_, rfl⟩
    have hbW2 : Below w.heap.size w W2 := by rw [hW2]; exact ((Below.refl _ _).alloc (Nat.le_refl _) _).alloc (by simp) _
    rw [← hW2]
    exact (hbW2.alloc hbW2.size _).drew
  have HTT := Lib.hid htt
  have HB3 := Lib.hid hbW3
  have HJL := Lib.hid hjl
  have HN := Lib.hid hN
  have hrr : (65530 : Int) + (r : Int) - 65530 = (r : Int) := by omega
  have hzs : ∀ x ∈ [Z1, Z2], x.size ≤ maxLen := by
    intro x hx
    simp at hx
    rcases hx with rfl | rfl
    · unfold maxLen; omega
    · unfold maxLen; omega
  have HZS := Lib.hid hzs
  clear hz hz' hr hN hs1 hs2 hZ1 hZ2 hC1 hC2 hzs hjl htt hbW3
  by_cases h6 : 6 < r
  · have hd : decide ((65536 : Int) < 65530 + (r : Int)) = true := decide_eq_true (by omega)
    go_enter Tryd.func5, Tryd.ntmps5
    go_wp2_with fail
    go_region_with (go_at_call 18; refine (seal_frame_no _ 2 2 [Z1, Z2] _ rfl (by omega) HZS.out (by rw [HJL.out]; omega) (HTT.out _ _)).mono ?_; rintro e w1 ⟨rfl, rfl⟩)
    all_goals
      clear e1 e2 e3 e4 e5 e6 m1 m2
      go_wp2_with fail
      refine (awake5_any _ (HN.out.below (HB3.out _ _))).mono ?_
      rintro e w2 ⟨rfl, hb2⟩
      go_wp2
      go_ret
      exact ⟨rfl, Below.thenB (HB3.out _ _) (HB3.out _ _).size hb2⟩
  · have hd : decide ((65536 : Int) < 65530 + (r : Int)) = false := decide_eq_false (by omega)
    obtain ⟨F, hF⟩ : ∃ F : ByteArray, F = ⟨(frameB (joinB [Z1, Z2])).toArray⟩ := ⟨_, rfl⟩
    have hFs : F.size = 65530 + r + 12 := by rw [hF, ba_len, frame_len, HJL.out]
    have hfr := fun C D => seal_frame (some ⟨w.heap.size + 1 + 1, 0, none⟩) 2 2 [Z1, Z2] _ rfl (by omega) (Nat.le_refl _) (by rw [HJL.out]; omega) (HTT.out C D) (HN.out.below (HB3.out C D))
    rw [← hF] at hfr
    have hFs2 : (F.size : Int) = 65530 + (r : Int) + 12 := by omega
    have HFR := Lib.hid hfr
    clear hF hFs hfr
    go_enter Tryd.func5, Tryd.ntmps5
    go_wp2_with fail
    go_region_with (go_at_call 18; refine (HFR.out _ _).mono ?_; rintro e w1 ⟨rfl, hb1⟩)
    all_goals
      have hB1 := Below.thenB (HB3.out _ _) (HB3.out _ _).size hb1
      clear e1 e2 e3 e4 e5 e6 m1 m2
      go_wp2_with fail
      refine (awake5_any _ (HN.out.below hB1)).mono ?_
      rintro e w2 ⟨rfl, hb2⟩
      go_wp2
      go_ret
      exact ⟨rfl, Below.thenB hB1 hB1.size hb2⟩
end Go.Proofs.YtfoejfneggcncaaDoor
