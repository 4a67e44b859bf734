/- Contract of disk's refuses, where there are files. -/
import Derived.Test.YtmepanbfknmieaaDisk7
namespace Go.Proofs.Ytmepanbfknmieaa
open Go.RowKit Go.Maps Go.ChangeMaps Go.WideMaps
def flen : Option FRaw → Nat
  | some f => f.2.1
  | none => 0
theorem flen_getD (g : Option FRaw) : flen g = (g.getD (none, 0, 0, 0)).2.1 := by cases g <;> rfl
/-- Why a file of that name can't have so many bytes. -/
def refusesF (fs : List FEnt) (room : Int) (k : List UInt8) (size : Int) : Int :=
  if 1048576 < size ∨ (fget fs k = none ∧ 100 ≤ fs.length) then 5
  else if room - usedF fs < size - (flen (fget fs k) : Int) then 6 else 0
set_option maxRecDepth 100000 in
set_option maxHeartbeats 2000000 in
theorem refuses_some (b m : Nat) (D : Dk) (fs : List FEnt) (s : ByteArray) (size : Int) (w : World) (hs : s.size ≤ maxLen) (h : DAt w b D) (hm : D.mb = some m) (hown : w.ownsMap Try.prog 9 fileR m fs.length (toD fs)) (hnd : (fs.map (·.1)).Nodup) (hu : 0 ≤ usedF fs ∧ usedF fs ≤ 281474976710656) (hr : 0 ≤ D.room ∧ D.room ≤ 16777216) (hz0 : 0 ≤ size ∧ size ≤ 281474976710656) (hfl : ∀ f, fget fs s.data.toList = some f → f.2.1 ≤ 281474976710656) :
    Calls Try.prog 42 #[.pointer (some ⟨b, 0, none⟩), .string s, .int .i64 size] w fun e w' => e = .returned (.int .i64 (refusesF fs D.room s.data.toList size)) ∧ Below w.heap.size w w' := by
  obtain ⟨v, ps, hrun, hv⟩ := hown.look_ok str_law Try.underlying65 (zero_file w) (fileR_mk (none, 0, 0, 0)) (key_str s hs)
  rw [toD_at] at hv
  rw [toD_has] at hrun
  obtain ⟨f, rfl, hfe⟩ := fileR_inv hv
  have hf2 : (fget fs s.data.toList).getD (none, 0, 0, 0) = f := by
    have := congrArg Prod.fst hfe
    injection this
  obtain ⟨R, hR⟩ : ∃ R, R = refusesF fs D.room s.data.toList size := ⟨_, rfl⟩
  rw [← hR]
  unfold refusesF at hR
  obtain ⟨g, hg⟩ : ∃ g, g = fget fs s.data.toList := ⟨_, rfl⟩
  rw [← hg] at hrun hf2 hR hfl
  obtain ⟨fa, fn, fc, fk⟩ := f
  have hln : flen g = fn := by rw [flen_getD, hf2]
  rw [hln] at hR
  have hfn : fn ≤ 281474976710656 := by
    rw [← hln]
    cases g with
    | none => exact Nat.zero_le _
    | some x => exact hfl x rfl
  have hFR := fun W (hb : Below w.heap.size w W) => Free_any b D fs W (World.rowIs.of_block h (hb.block b h.lt)) (.inr ⟨m, hm, by
    obtain ⟨es, clock, hbk, rest⟩ := hown
    exact ⟨es, clock, (hb.block m (Array.getElem?_eq_some_iff.1 hbk).1).trans hbk, rest⟩⟩) hnd hu hr
  obtain ⟨W1, hW1⟩ : ∃ W, W = w.alloc (.cells #[.slice fa fn fc, .int .i64 fk] 72) := ⟨_, rfl⟩
  have hA : Below w.heap.size w W1 := by rw [hW1]; exact (Below.refl _ _).alloc (Nat.le_refl _) _
  have h1 : DAt W1 b D := World.rowIs.of_block h (hA.block b h.lt)
  have hk1 : W1.heap[w.heap.size]? = some (.cells #[.slice fa fn fc, .int .i64 fk] 72 (0, 0)) := by rw [hW1]; exact Array.getElem?_push_size
  have hs1 : w.heap.size < W1.heap.size := by rw [hW1]; simp
  have hlen := fun ty => (show W1.ownsMap Try.prog 9 fileR m fs.length (toD fs) by rw [hW1]; exact hown.alloc _).len Try.underlying65 ty
  rw [toD_size] at hlen
  have x0 := Lib.cell_of_heap hk1 0
  have x1 := Lib.cell_of_heap hk1 1
  have HF := Lib.hid (hFR W1.drew hA.drew)
  obtain ⟨on, uses, armed, left, room, mb⟩ := D
  simp only at hm hr
  subst hm
  obtain ⟨⟨c0, c1, c2, c3, c4, c5⟩, _⟩ := six6_cells h
  obtain ⟨⟨d0, d1, d2, d3, d4, d5⟩, _⟩ := six6_cells h1
  simp only [] at c0 c1 c2 c3 c4 c5 d0 d1 d2 d3 d4 d5
  simp only [fileV] at hrun
  have HW1 := Lib.hid hW1.symm
  have HA := Lib.hid hA
  have HR := Lib.hid hR
  clear hFR h h1 hown hv hfe hf2 hln hW1 hA hk1 hR hnd hfl hg
  go_enter Try.func42, Try.ntmps42
  go_upto_region 2 with fail
  rw [HW1.out]
  clear c0 c1 c2 c3 c4 c5 HW1
  by_cases k1 : 1048576 < size
  · have q1 : decide (1048576 < size) = true := decide_eq_true k1
    have HT := Lib.hid (show R = 5 by rw [HR.out, if_pos (.inl k1)])
    go_wp2
    go_ret
    exact ⟨by rw [HT.out]; rfl, HA.out⟩
  have q1 : decide (1048576 < size) = false := decide_eq_false k1
  have hw : IntKind.i64.wrap (size - (fn : Int)) = size - (fn : Int) := by simp [IntKind.wrap, IntKind.bits, IntKind.signed]; omega
  have hA0 : w.heap.size ≤ W1.drew.heap.size := HA.out.size
  by_cases k2 : 100 ≤ fs.length
  · have q2 : decide ((100 : Int) ≤ (fs.length : Int)) = true := decide_eq_true (by omega)
    cases g with
    | none =>
      have HT := Lib.hid (show R = 5 by rw [HR.out, if_pos (.inr ⟨rfl, k2⟩)])
      go_wp2
      go_ret
      exact ⟨by rw [HT.out]; rfl, HA.out⟩
    | some x =>
      have hno : ¬ (1048576 < size ∨ ((some x : Option FRaw) = none ∧ 100 ≤ fs.length)) := fun h => by
        rcases h with h | ⟨h, _⟩
        · exact k1 h
        · cases h
      have hRR := Lib.hid (show R = if room - usedF fs < size - (fn : Int) then 6 else 0 by rw [HR.out, if_neg hno])
      clear hno
      by_cases k3 : room - usedF fs < size - (fn : Int)
      · have q3 : decide (room - usedF fs < size - (fn : Int)) = true := decide_eq_true k3
        have HT := Lib.hid (show R = 6 by rw [hRR.out, if_pos k3])
        clear k3
        go_wp2_with fail
        go_region_held3 (fun W => W.cell? ⟨w.heap.size, 0, none⟩ = some (.slice fa fn fc))
          (first | (with_reducible exact t0) | go_keep)
          ((go_at_call 31; refine HF.out.mono ?_; rintro e w2 ⟨rfl, hb2⟩; obtain ⟨hc1, hf1⟩ := bcell hb2; have t0 := (hc1 w.heap.size 0 (by exact hs1)).trans (by exact x0); clear hc1 hf1))
        go_wp2
        go_ret
        exact ⟨by rw [HT.out]; rfl, Below.thenB HA.out.drew hA0 hb2⟩
      · have q3 : decide (room - usedF fs < size - (fn : Int)) = false := decide_eq_false k3
        have HT := Lib.hid (show R = 0 by rw [hRR.out, if_neg k3])
        clear k3
        go_wp2_with fail
        go_region_held3 (fun W => W.cell? ⟨w.heap.size, 0, none⟩ = some (.slice fa fn fc))
          (first | (with_reducible exact t0) | go_keep)
          ((go_at_call 31; refine HF.out.mono ?_; rintro e w2 ⟨rfl, hb2⟩; obtain ⟨hc1, hf1⟩ := bcell hb2; have t0 := (hc1 w.heap.size 0 (by exact hs1)).trans (by exact x0); clear hc1 hf1))
        go_wp2
        go_ret
        exact ⟨by rw [HT.out]; rfl, Below.thenB HA.out.drew hA0 hb2⟩

  · have q2 : decide ((100 : Int) ≤ (fs.length : Int)) = false := decide_eq_false (by omega)
    have hno : ¬ (1048576 < size ∨ (g = none ∧ 100 ≤ fs.length)) := fun h => by
      rcases h with h | ⟨_, h⟩
      · exact k1 h
      · exact k2 h
    cases g with
    | none =>
      have hRR := Lib.hid (show R = if room - usedF fs < size - (fn : Int) then 6 else 0 by rw [HR.out, if_neg hno])
      clear hno
      by_cases k3 : room - usedF fs < size - (fn : Int)
      · have q3 : decide (room - usedF fs < size - (fn : Int)) = true := decide_eq_true k3
        have HT := Lib.hid (show R = 6 by rw [hRR.out, if_pos k3])
        clear k3
        go_wp2_with fail
        go_region_held3 (fun W => W.cell? ⟨w.heap.size, 0, none⟩ = some (.slice fa fn fc))
          (first | (with_reducible exact t0) | go_keep)
          ((go_at_call 31; refine HF.out.mono ?_; rintro e w2 ⟨rfl, hb2⟩; obtain ⟨hc1, hf1⟩ := bcell hb2; have t0 := (hc1 w.heap.size 0 (by exact hs1)).trans (by exact x0); clear hc1 hf1))
        go_wp2
        go_ret
        exact ⟨by rw [HT.out]; rfl, Below.thenB HA.out.drew hA0 hb2⟩
      · have q3 : decide (room - usedF fs < size - (fn : Int)) = false := decide_eq_false k3
        have HT := Lib.hid (show R = 0 by rw [hRR.out, if_neg k3])
        clear k3
        go_wp2_with fail
        go_region_held3 (fun W => W.cell? ⟨w.heap.size, 0, none⟩ = some (.slice fa fn fc))
          (first | (with_reducible exact t0) | go_keep)
          ((go_at_call 31; refine HF.out.mono ?_; rintro e w2 ⟨rfl, hb2⟩; obtain ⟨hc1, hf1⟩ := bcell hb2; have t0 := (hc1 w.heap.size 0 (by exact hs1)).trans (by exact x0); clear hc1 hf1))
        go_wp2
        go_ret
        exact ⟨by rw [HT.out]; rfl, Below.thenB HA.out.drew hA0 hb2⟩

    | some x =>
      have hRR := Lib.hid (show R = if room - usedF fs < size - (fn : Int) then 6 else 0 by rw [HR.out, if_neg hno])
      clear hno
      by_cases k3 : room - usedF fs < size - (fn : Int)
      · have q3 : decide (room - usedF fs < size - (fn : Int)) = true := decide_eq_true k3
        have HT := Lib.hid (show R = 6 by rw [hRR.out, if_pos k3])
        clear k3
        go_wp2_with fail
        go_region_held3 (fun W => W.cell? ⟨w.heap.size, 0, none⟩ = some (.slice fa fn fc))
          (first | (with_reducible exact t0) | go_keep)
          ((go_at_call 31; refine HF.out.mono ?_; rintro e w2 ⟨rfl, hb2⟩; obtain ⟨hc1, hf1⟩ := bcell hb2; have t0 := (hc1 w.heap.size 0 (by exact hs1)).trans (by exact x0); clear hc1 hf1))
        go_wp2
        go_ret
        exact ⟨by rw [HT.out]; rfl, Below.thenB HA.out.drew hA0 hb2⟩
      · have q3 : decide (room - usedF fs < size - (fn : Int)) = false := decide_eq_false k3
        have HT := Lib.hid (show R = 0 by rw [hRR.out, if_neg k3])
        clear k3
        go_wp2_with fail
        go_region_held3 (fun W => W.cell? ⟨w.heap.size, 0, none⟩ = some (.slice fa fn fc))
          (first | (with_reducible exact t0) | go_keep)
          ((go_at_call 31; refine HF.out.mono ?_; rintro e w2 ⟨rfl, hb2⟩; obtain ⟨hc1, hf1⟩ := bcell hb2; have t0 := (hc1 w.heap.size 0 (by exact hs1)).trans (by exact x0); clear hc1 hf1))
        go_wp2
        go_ret
        exact ⟨by rw [HT.out]; rfl, Below.thenB HA.out.drew hA0 hb2⟩
end Go.Proofs.Ytmepanbfknmieaa
