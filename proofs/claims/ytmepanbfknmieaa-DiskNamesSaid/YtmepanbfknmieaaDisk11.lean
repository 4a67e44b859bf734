/- Contract of disk's refuses, whatever there is; how many bytes texts have. -/
import Derived.Test.YtmepanbfknmieaaDisk10
namespace Go.Proofs.Ytmepanbfknmieaa
open Go.RowKit Go.Maps Go.ChangeMaps Go.WideMaps
set_option maxRecDepth 100000 in
set_option maxHeartbeats 2000000 in
theorem refuses_none (b : Nat) (D : Dk) (s : ByteArray) (size : Int) (w : World) (hs : s.size ≤ maxLen) (h : DAt w b D) (hm : D.mb = none) (hr : 0 ≤ D.room ∧ D.room ≤ 16777216) (hz0 : 0 ≤ size ∧ size ≤ 281474976710656) :
    Calls Try.prog 42 #[.pointer (some ⟨b, 0, none⟩), .string s, .int .i64 size] w fun e w' => e = .returned (.int .i64 (refusesF [] D.room s.data.toList size)) ∧ Below w.heap.size w w' := by
  obtain ⟨R, hR⟩ : ∃ R, R = refusesF [] D.room s.data.toList size := ⟨_, rfl⟩
  rw [← hR]
  have hR' : R = if 1048576 < size then 5 else if D.room < size then 6 else 0 := by
    rw [hR]
    unfold refusesF
    simp [fget, flen, usedF]
  have hrun := look_files_ok (w := w) (mb := none) (fs := []) (.inl ⟨rfl, rfl⟩) s hs
  have hzv : fileV ((fget ([] : List FEnt) s.data.toList).getD zraw) = .agg #[.slice none 0 0, .int .i64 0] := rfl
  have hzi : (fget ([] : List FEnt) s.data.toList).isSome = false := rfl
  rw [hzv, hzi] at hrun
  obtain ⟨W1, hW1⟩ : ∃ W, W = w.alloc (.cells #[.slice none 0 0, .int .i64 0] 72) := ⟨_, rfl⟩
  have hA : Below w.heap.size w W1 := by rw [hW1]; exact (Below.refl _ _).alloc (Nat.le_refl _) _
  have h1 : DAt W1 b D := World.rowIs.of_block h (hA.block b h.lt)
  have hk1 : W1.heap[w.heap.size]? = some (.cells #[.slice none 0 0, .int .i64 0] 72 (0, 0)) := by rw [hW1]; exact Array.getElem?_push_size
  have hs1 : w.heap.size < W1.heap.size := by rw [hW1]; simp
  have hlen := fun ty => len_files (w := W1) (mb := none) (fs := []) (.inl ⟨rfl, rfl⟩) ty
  simp only [List.length_nil, Int.cast_ofNat_Int] at hlen
  have x0 := Lib.cell_of_heap hk1 0
  have x1 := Lib.cell_of_heap hk1 1
  have hF := Free_any b D [] W1.drew h1 (.inl ⟨hm, rfl⟩) (by simp) ⟨Int.le_refl _, by decide⟩ hr
  rw [show D.room - usedF [] = D.room by unfold usedF; simp] at hF
  have HF := Lib.hid hF
  obtain ⟨on, uses, armed, left, room, mb⟩ := D
  simp only at hm hr hR'
  subst hm
  obtain ⟨⟨c0, c1, c2, c3, c4, c5⟩, _⟩ := six6_cells h
  obtain ⟨⟨d0, d1, d2, d3, d4, d5⟩, _⟩ := six6_cells h1
  simp only [] at c0 c1 c2 c3 c4 c5 d0 d1 d2 d3 d4 d5
  have HW1 := Lib.hid hW1.symm
  have HA := Lib.hid hA
  have HR := Lib.hid hR'
  clear hF h h1 hW1 hA hk1 hR hR' hzv hzi
  go_enter Try.func42, Try.ntmps42
  go_upto_region 2 with fail
  rw [HW1.out]
  clear c0 c1 c2 c3 c4 c5 HW1
  by_cases k1 : 1048576 < size
  · have q1 : decide (1048576 < size) = true := decide_eq_true k1
    have HT := Lib.hid (show R = 5 by rw [HR.out, if_pos k1])
    go_wp2
    go_ret
    exact ⟨by rw [HT.out]; rfl, HA.out⟩
  have q1 : decide (1048576 < size) = false := decide_eq_false k1
  have hw : IntKind.i64.wrap size = size := by simp [IntKind.wrap, IntKind.bits, IntKind.signed]; omega
  have hA0 : w.heap.size ≤ W1.drew.heap.size := HA.out.size
  have hRR := Lib.hid (show R = if room < size then 6 else 0 by rw [HR.out, if_neg k1])
  by_cases k3 : room < size
  · have q3 : decide (room < size) = true := decide_eq_true k3
    have HT := Lib.hid (show R = 6 by rw [hRR.out, if_pos k3])
    clear k3
    go_wp2_with fail
    go_region_held3 (fun W => W.cell? ⟨w.heap.size, 0, none⟩ = some (.slice none 0 0))
      (first | (with_reducible exact t0) | go_keep)
      ((go_at_call 31; refine HF.out.mono ?_; rintro e w2 ⟨rfl, hb2⟩; obtain ⟨hc1, hf1⟩ := bcell hb2; have t0 := (hc1 w.heap.size 0 (by exact hs1)).trans (by exact x0); clear hc1 hf1))
    go_wp2
    go_ret
    exact ⟨by rw [HT.out]; rfl, Below.thenB HA.out.drew hA0 hb2⟩
  · have q3 : decide (room < size) = false := decide_eq_false k3
    have HT := Lib.hid (show R = 0 by rw [hRR.out, if_neg k3])
    clear k3
    go_wp2_with fail
    go_region_held3 (fun W => W.cell? ⟨w.heap.size, 0, none⟩ = some (.slice none 0 0))
      (first | (with_reducible exact t0) | go_keep)
      ((go_at_call 31; refine HF.out.mono ?_; rintro e w2 ⟨rfl, hb2⟩; obtain ⟨hc1, hf1⟩ := bcell hb2; have t0 := (hc1 w.heap.size 0 (by exact hs1)).trans (by exact x0); clear hc1 hf1))
    go_wp2
    go_ret
    exact ⟨by rw [HT.out]; rfl, Below.thenB HA.out.drew hA0 hb2⟩
def flenM : Option MF → Nat
  | some x => x.1.length
  | none => 0
/-- Why a file of that name can't have so many bytes. -/
def refusesM (fs : List (List UInt8 × MF)) (room : Int) (k : List UInt8) (size : Int) : Int :=
  if 1048576 < size ∨ (fget fs k = none ∧ 100 ≤ fs.length) then 5
  else if room - (totF fs : Int) < size - (flenM (fget fs k) : Int) then 6 else 0
theorem refusesM_eq (L : List (List UInt8 × FX)) (room : Int) (k : List UInt8) (size : Int) : refusesF (mapV FX.raw L) room k size = refusesM (mapV FX.mf L) room k size := by
  unfold refusesF refusesM
  rw [usedF_tot, mapV_get, mapV_get, mapV_len, mapV_len]
  cases fget L k <;> simp [flen, flenM] <;> first | rfl | congr
theorem DskIn.refuses {w : World} {b : Nat} {S : Nat → Prop} {M : DM} {mb : Option Nat} {L : List (List UInt8 × FX)} (h : DskIn w b S M mb L) (s : ByteArray) (hs : s.size ≤ maxLen) (size : Int) (hz0 : 0 ≤ size ∧ size ≤ 281474976710656) :
    Calls Try.prog 42 #[.pointer (some ⟨b, 0, none⟩), .string s, .int .i64 size] w fun e w' => e = .returned (.int .i64 (refusesM M.files M.room s.data.toList size)) ∧ Below w.heap.size w w' := by
  have ht := h.fine.tot
  rw [h.files, ← refusesM_eq]
  rcases h.map with ⟨hm, hL⟩ | ⟨m, hm, hown⟩
  · rw [hL]
    exact refuses_none b (M.dk mb) s size w hs h.at_ hm h.fine.2.2.2 hz0
  · exact refuses_some b m (M.dk mb) _ s size w hs h.at_ hm hown h.nodup (by rw [h.used]; omega) h.fine.2.2.2 hz0 (by
      intro x hx
      rw [mapV_get] at hx
      cases hg : fget L s.data.toList with
      | none => rw [hg] at hx; cases hx
      | some y =>
        rw [hg] at hx
        injection hx with hx
        subst hx
        have hmem := fget_mem hg
        have : (s.data.toList, y.mf) ∈ M.files := by rw [h.files]; exact List.mem_map.2 ⟨_, hmem, rfl⟩
        have := (h.fine.2.2.1 _ this).2.1
        show y.data.length ≤ _
        exact Nat.le_trans this (by decide))
end Go.Proofs.Ytmepanbfknmieaa
