/- Contracts of codec's readers: Read, String, End. -/
import Derived.Test.YtapcnpocaffeoabRdr5
import Derived.Lib.AtoiErrMem
namespace Go.Proofs.Ytapcnpocaffeoab
open Go.RowKit
set_option maxHeartbeats 1000000 in
theorem rstring_any (b : Nat) (l : List UInt8) (bad : Bool) (w : World) (h : RAt w b l bad) : Calls Try.prog 33 #[.pointer (some ⟨b, 0, none⟩)] w fun e w' => e = .returned (.string ⟨l.toArray⟩) ∧ w = w' := by
  obtain ⟨h0, h1, h2, a, c, h3, h4, h5⟩ := h
  obtain ⟨⟨c0, c1⟩, f0, f1⟩ := two_at h3
  have hcv := conv_in h5 c
  clear h3 h1 h5
  have hbs : Calls Try.prog 24 #[.pointer (some ⟨b, 0, none⟩)] w fun e w' => e = .returned (.string ⟨l.toArray⟩) ∧ w = w' := by
    go_enter Try.func24, Try.ntmps24
    go_wp2
    go_ret
    exact ⟨rfl, rfl⟩
  have HB := Lib.hid hbs
  clear hbs c0 c1 hcv
  go_enter Try.func33, Try.ntmps33
  go_wp2_with fail
  refine HB.out.mono ?_
  rintro e w1 ⟨rfl, rfl⟩
  go_wp2
  go_ret
  exact ⟨rfl, rfl⟩
set_option maxHeartbeats 1000000 in
theorem rend_any (b : Nat) (l : List UInt8) (bad : Bool) (w : World) (h : RAt w b l bad) : Calls Try.prog 37 #[.pointer (some ⟨b, 0, none⟩)] w fun e w' => e = .returned (.bool (!bad && l.isEmpty)) ∧ w = w' := by
  have HG := Lib.hid (good_any b l bad w h)
  have HL := Lib.hid (rlen_any b l bad w h)
  obtain ⟨r, hr⟩ : ∃ r, r = l.isEmpty := ⟨_, rfl⟩
  have hb : ((l.length : Int) == 0) = r := by rw [hr]; cases l <;> simp <;> omega
  rw [← hr]
  clear hr h
  cases bad with
  | true =>
    go_enter Try.func37, Try.ntmps37
    go_wp2_with fail
    refine HG.out.mono ?_
    rintro e w1 ⟨rfl, rfl⟩
    go_wp2
    go_ret
    exact ⟨rfl, rfl⟩
  | false =>
    go_enter Try.func37, Try.ntmps37
    go_wp2_with fail
    refine HG.out.mono ?_
    rintro e w1 ⟨rfl, rfl⟩
    go_wp2_with fail
    refine HL.out.mono ?_
    rintro e w1 ⟨rfl, rfl⟩
    go_wp2
    go_ret
    exact ⟨by simp, rfl⟩
def ReadRet (w : World) (l : List UInt8) (e : Ending) (w' : World) : Prop := ∃ b, e = .returned (.pointer (some ⟨b, 0, none⟩)) ∧ w.heap.size ≤ b ∧ RAt w' b l false
set_option maxHeartbeats 1000000 in
theorem read_any (s : ByteArray) (hs : s.size ≤ 1073741824) (w : World) : Calls Try.prog 26 #[.string s] w fun e w' => ReadRet w s.data.toList e w' ∧ Below w.heap.size w w' := by
  have hcv := Lib.run_convert_string_bytes w 9 39 5 s Try.underlying9 Try.underlying39 Try.underlying5
  obtain ⟨W1, hW1⟩ : ∃ W1, W1 = Lib.bytesWorld w 5 s := ⟨_, rfl⟩
  have hB : ∀ j, j < s.size → W1.cell? ⟨w.heap.size, j, none⟩ = some (.int .u8 (s.data.toList.getD j 0).toNat) := fun j hj => by rw [hW1]; exact Lib.bytesWorld_cell w 5 s j hj
  have hT : ∃ cs cl, W1.heap[w.heap.size]? = some (.cells cs 5 cl) := by rw [hW1]; exact ⟨_, _, Lib.bytesWorld_at_new w 5 s⟩
  have hbw : Below w.heap.size w W1 := by rw [hW1]; exact Lib.bytesWorld_below w 5 s
  have hWs : W1.heap.size = w.heap.size + 1 := by rw [hW1, Lib.bytesWorld_size]
  obtain ⟨c, hc⟩ : ∃ c, c = grownCap w s.size 0 5 := ⟨_, rfl⟩
  have hcg : s.size ≤ c := by rw [hc]; exact grownCap_ge _ _ _ _
  rw [← hW1, ← hc] at hcv
  have HB := Lib.hid hB
  have HT := Lib.hid hT
  clear hB hW1 hc hT
  have HSL := Lib.hid (Lib.size_eq s)
  go_enter Try.func26, Try.ntmps26
  go_wp2
  go_ret
  have hA : Below W1.heap.size W1 (W1.alloc (.cells #[.slice (some ⟨w.heap.size, 0, none⟩) s.size c, .bool false] 79)) := (Below.refl _ _).alloc (Nat.le_refl _) _
  refine ⟨⟨W1.heap.size, by rw [hWs]; rfl, by omega, ?_⟩, Below.thenB hbw (by omega) hA⟩
  refine ⟨by simp, fun h => (by cases h), by rw [← HSL.out]; exact hs, some ⟨w.heap.size, 0, none⟩, c, ?_, by rw [← HSL.out]; exact hcg, .inr ⟨w.heap.size, 0, rfl, by omega, ⟨by simp; omega, ?_⟩, fun j u hu => ?_⟩⟩
  · rw [← HSL.out]; exact Array.getElem?_push_size
  · obtain ⟨cs, cl, h⟩ := HT.out
    exact ⟨cs, cl, (hA.block w.heap.size (by omega)).trans h⟩
  · have hj : j < s.size := by rw [HSL.out]; exact (List.getElem?_eq_some_iff.1 hu).1
    rw [Nat.zero_add, World.cell?_of_block (hA.block w.heap.size (by omega)), HB.out j hj]
    simp [List.getD, hu]
end Go.Proofs.Ytapcnpocaffeoab
