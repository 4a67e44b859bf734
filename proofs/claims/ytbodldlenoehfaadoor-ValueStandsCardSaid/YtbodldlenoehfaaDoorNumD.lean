/- Contracts of the document's numbers: Small, and what is told of a number; sums. -/
import Derived.Test.YtbodldlenoehfaaDoorNumC
import Derived.Test.YtbodldlenoehfaaDoorCalcA
namespace Go.Proofs.YtbodldlenoehfaaDoor
open Go.RowKit
theorem drop_getD (l : List Int) (k : Nat) (h : k < l.length) : dval (l.drop k) = l.getD k 0 + 10 * dval (l.drop (k + 1)) := by
  rw [List.drop_eq_getElem_cons h, dval, List.getD_eq_getElem?_getD, List.getElem?_eq_getElem h]; rfl
theorem drop_le {l : List Int} (hd : Digs l) (k : Nat) : 0 ≤ dval (l.drop k) ∧ dval (l.drop k) ≤ dval l := by
  have h1 : Digs (l.drop k) := fun x hx => hd x (List.mem_of_mem_drop hx)
  have h2 := dval_nonneg h1
  have h3 := dval_append (l.take k) (l.drop k)
  rw [List.take_append_drop] at h3
  have h4 := dval_nonneg (hd.take k)
  have h5 : 1 * dval (l.drop k) ≤ pw (l.take k).length * dval (l.drop k) := Int.mul_le_mul_of_nonneg_right (pw_pos _) h2
  omega
/-- Whether a number is an int64. -/
def inB (V : Int) : Bool := decide (-9223372036854775808 ≤ V ∧ V ≤ 9223372036854775807)
theorem canon_n20 {ds : List Int} (h : Canon ds) (hv : dval ds ≤ 9223372036854775808) : ds.length ≤ 19 := canon_len h (by rw [pw19]; omega)
set_option maxHeartbeats 2000000 in
theorem small_pos (a : Option Addr) (n c : Nat) (V : Int) (w : World) (h : NumP w false a n c V) (hl : n ≤ 900000) :
    Calls Tryd.prog 46 #[.agg #[.bool false, .slice a n c]] w fun e w' => e = .returned (.tuple #[.int .i64 (okN V), .bool (inB V)]) ∧ Below w.heap.size w w' := by
  obtain ⟨hx, ds, hn, hc, hz, hcn, hv⟩ := h
  have hV : ¬ V < 0 := by simpa using hx.symm
  have hW : Below w.heap.size w (w.alloc (.cells #[.bool false, .slice a n c] 68)) := (Below.refl _ _).alloc (Nat.le_refl _) _
  have hz1 := hz.below hW
  clear hx hz
  go_enter Tryd.func46, Tryd.ntmps46
  go_wp2_with fail
  refine (of_any 9223372036854775807 _ (by decide) (by decide)).mono ?_
  rintro e w1 ⟨x1, a1, n1, c1, rfl, ⟨hx1, ds1, hn1, hc1, hz1', hcn1, hv1⟩, hb1, _⟩
  simp at hv1 hx1
  subst hx1
  have hl1 := canon_n20 hcn1 (by omega)
  have hz2 := hz1.below hb1
  obtain ⟨hcc, hff⟩ := bcell hb1
  have j0 : w1.cell? ⟨w.heap.size, 0, none⟩ = some (.bool false) := by rw [hcc _ _ (by simp)]; go_simp
  have j1 : w1.cell? ⟨w.heap.size, 1, none⟩ = some (.slice a n c) := by rw [hcc _ _ (by simp)]; go_simp
  have hs1 := hb1.size
  simp at hs1
  have hne1 : w.heap.size ≠ w1.heap.size := by omega
  have hne2 : w.heap.size < w1.heap.size := by omega
  have j2 : ∀ o, (w1.alloc o).cell? ⟨w.heap.size, 0, none⟩ = some (.bool false) := fun o => (World.cell?_of_block (Below.heap_alloc _ _ _ hne2)).trans j0
  have j3 : ∀ o, (w1.alloc o).cell? ⟨w.heap.size, 1, none⟩ = some (.slice a n c) := fun o => (World.cell?_of_block (Below.heap_alloc _ _ _ hne2)).trans j1
  have hW2 : ∀ o, Below w1.heap.size w1 (w1.alloc o) := fun o => (Below.refl _ _).alloc (Nat.le_refl _) o
  clear hcc hff hz1
  go_wp2_with fail
  refine (less_dig a1 a n1 n c1 c ds1 ds _ hn1 hn (hz1'.below (hW2 _)) (hz2.below (hW2 _)) hcn1 hcn (by omega) (by omega)).mono ?_
  rintro e w2 ⟨rfl, hb2⟩
  have hz3 := (hz2.below (hW2 _)).below hb2
  obtain ⟨hcc, hff⟩ := bcell hb2
  have k0 := (hcc w.heap.size 0 (by simp; omega)).trans (j2 _)
  have k1 := (hcc w.heap.size 1 (by simp; omega)).trans (j3 _)
  have hBB : Below w.heap.size w w2 := Below.thenB (Below.thenB hW (by simp) hb1 |>.alloc (by omega) _) (by simp; omega) hb2
  clear hcc hff j2 j3 j0 j1 hW2
  by_cases hbig : 9223372036854775807 < V
  · have d1 : decide (dval ds1 < dval ds) = true := by simp; omega
    have e1 : okN V = 0 := (ok_out (.inr hbig)).1
    have e2 : inB V = false := by unfold inB; simp; omega
    have E1 := Lib.hid e1
    have E2 := Lib.hid e2
    clear e1 e2
    go_wp2
    go_ret2
    exact ⟨by rw [E1.out, E2.out]; rfl, hBB⟩
  · have d1 : decide (dval ds1 < dval ds) = false := by simp; omega
    have e1 : okN V = V := (ok_in ⟨by omega, by omega⟩).1
    have e2 : inB V = true := by unfold inB; simp; omega
    have E1 := Lib.hid e1
    have E2 := Lib.hid e2
    have hnn : n ≤ 19 := by rw [← hn]; exact canon_n20 hcn (by omega)
    have HV : dval ds ≤ 9223372036854775807 := by omega
    have HVV := Lib.hid hv
    subst hn
    clear e1 e2 hv hz2 hz1' hb2
    go_wp2
    go_loop [5, 6] (fun u i => ∃ k : Nat, k ≤ ds.length ∧ i = .int .i64 ((k : Int) - 1) ∧ u = .int .u64 (dval (ds.drop k))) (fun _ i => (intOf i + 1).toNat)
    case atStart => exact ⟨ds.length, Nat.le_refl _, rfl, by simp [dval]⟩
    case round =>
      obtain ⟨k, hk, rfl, rfl⟩ := hrel
      obtain ⟨hd0, hd1⟩ := drop_le hcn.1 k
      rcases k with _ | k
      · have hw : wrap64 (dval ds) = dval ds := by unfold wrap64; omega
        rw [List.drop_zero] at hd0 hd1 ⊢
        go_wp2
        go_ret2
        exact ⟨by rw [E1.out, E2.out, HVV.out, Int.natAbs_of_nonneg (by omega)]; rfl, hBB⟩
      · have hlt : k < ds.length := by omega
        rcases hz3 with rfl | ⟨_, b, o, rfl, hb, hz⟩
        · simp at hlt
        have hzk := hz k hlt
        have hdg := Digs.at hcn.1 k
        have hdr := drop_getD ds k hlt
        obtain ⟨hd2, hd3⟩ := drop_le hcn.1 k
        generalize ds.getD k 0 = d at *
        obtain ⟨g0, g1⟩ := hdg
        rw [hdr] at hd2 hd3
        have HDR := Lib.hid hdr
        clear hdr hz
        generalize dval (ds.drop (k + 1)) = U at *
        have hm : IntKind.u64.wrap (10 * U) = 10 * U := by simp [IntKind.wrap, IntKind.bits, IntKind.signed]; omega
        have hd : IntKind.u64.wrap d = d := by simp [IntKind.wrap, IntKind.bits, IntKind.signed]; omega
        have ha : IntKind.u64.wrap (10 * U + d) = d + 10 * U := by simp [IntKind.wrap, IntKind.bits, IntKind.signed]; omega
        have i0 : (0 : Int) ≤ (k : Int) := by omega
        have i1 : (k : Int) < (ds.length : Int) := by omega
        go_wp2
        refine ⟨⟨k, by omega, rfl, by rw [HDR.out]⟩, by simp [intOf]⟩
set_option maxHeartbeats 2000000 in
theorem small_neg (a : Option Addr) (n c : Nat) (V : Int) (w : World) (h : NumP w true a n c V) (hl : n ≤ 900000) :
    Calls Tryd.prog 46 #[.agg #[.bool true, .slice a n c]] w fun e w' => e = .returned (.tuple #[.int .i64 (okN V), .bool (inB V)]) ∧ Below w.heap.size w w' := by
  obtain ⟨hx, ds, hn, hc, hz, hcn, hv⟩ := h
  have hV : V < 0 := by simpa using hx.symm
  have hW : Below w.heap.size w (w.alloc (.cells #[.bool true, .slice a n c] 68)) := (Below.refl _ _).alloc (Nat.le_refl _) _
  have hz1 := hz.below hW
  clear hx hz
  go_enter Tryd.func46, Tryd.ntmps46
  go_wp2_with fail
  refine (of_any 9223372036854775807 _ (by decide) (by decide)).mono ?_
  rintro e w1 ⟨x1, a1, n1, c1, rfl, ⟨hx1, ds1, hn1, hc1, hz1', hcn1, hv1⟩, hb1, _⟩
  simp at hv1 hx1
  subst hx1
  have hl1 := canon_n20 hcn1 (by omega)
  have hz2 := hz1.below hb1
  obtain ⟨hcc, hff⟩ := bcell hb1
  have j0 : w1.cell? ⟨w.heap.size, 0, none⟩ = some (.bool true) := by rw [hcc _ _ (by simp)]; go_simp
  have j1 : w1.cell? ⟨w.heap.size, 1, none⟩ = some (.slice a n c) := by rw [hcc _ _ (by simp)]; go_simp
  have hs1 := hb1.size
  simp at hs1
  have hne1 : w.heap.size ≠ w1.heap.size := by omega
  have hne2 : w.heap.size < w1.heap.size := by omega
  have j2 : ∀ o, (w1.alloc o).cell? ⟨w.heap.size, 0, none⟩ = some (.bool true) := fun o => (World.cell?_of_block (Below.heap_alloc _ _ _ hne2)).trans j0
  have j3 : ∀ o, (w1.alloc o).cell? ⟨w.heap.size, 1, none⟩ = some (.slice a n c) := fun o => (World.cell?_of_block (Below.heap_alloc _ _ _ hne2)).trans j1
  have hW2 : ∀ o, Below w1.heap.size w1 (w1.alloc o) := fun o => (Below.refl _ _).alloc (Nat.le_refl _) o
  clear hcc hff hz1
  go_wp2_with fail
  refine (of_any (-9223372036854775808) _ (by decide) (by decide)).mono ?_
  rintro e w1' ⟨x1', a1', n1', c1', rfl, ⟨hx1', ds1', hn1', hc1', hzz', hcn1', hv1'⟩, hb1', _⟩
  simp at hv1' hx1'
  subst hx1'
  have hl1' := canon_n20 hcn1' (by omega)
  obtain ⟨hcc, hff⟩ := bcell hb1'
  have i0 := (hcc w.heap.size 0 (by simp; omega)).trans (j2 _)
  have i1 := (hcc w.heap.size 1 (by simp; omega)).trans (j3 _)
  have B0 : w1'.cell? ⟨w1.heap.size, 0, none⟩ = some (.bool false) := by rw [hcc _ _ (by simp)]; go_simp
  have B1 : w1'.cell? ⟨w1.heap.size, 1, none⟩ = some (.slice a1 n1 c1) := by rw [hcc _ _ (by simp)]; go_simp
  have B2 : w1'.frozen? ⟨w1.heap.size, 0, none⟩ = false := by rw [hff _ _ (by simp)]; go_simp
  have B3 : w1'.frozen? ⟨w1.heap.size, 1, none⟩ = false := by rw [hff _ _ (by simp)]; go_simp
  have hs2 := hb1'.size
  simp at hs2
  have hz2' := (hz2.below (hW2 _)).below hb1'
  have hblk : w1'.heap[w1.heap.size]? = some (.cells #[.bool false, .slice a1 n1 c1] 68) := (hb1'.block w1.heap.size (by simp)).trans (MapKept.heap_alloc w1 _).1
  clear hcc hff j2 j3 j0 j1
  go_wp2_with fail
  refine (less_dig a1' a n1' n c1' c ds1' ds _ hn1' hn ((hzz'.chg (S := (· = w1.heap.size)) (((Chg.refl (· = w1.heap.size) _).setCell (.inr rfl) _).setCell (.inr rfl) _) (ints_ne hblk hzz'))) ((hz2'.chg (S := (· = w1.heap.size)) (((Chg.refl (· = w1.heap.size) _).setCell (.inr rfl) _).setCell (.inr rfl) _) (ints_ne hblk hz2'))) hcn1' hcn (by omega) (by omega)).mono ?_
  rintro e w2 ⟨rfl, hb2⟩
  have hz3 := ((hz2'.chg (S := (· = w1.heap.size)) (((Chg.refl (· = w1.heap.size) w1').setCell (p := ⟨w1.heap.size, 0, none⟩) (.inr rfl) (.bool true)).setCell (p := ⟨w1.heap.size, 1, none⟩) (.inr rfl) (.slice a1' n1' c1')) (ints_ne hblk hz2'))).below hb2
  obtain ⟨hcc, hff⟩ := bcell hb2
  have k0 := (hcc w.heap.size 0 (by simp; omega)).trans ((cell_set2 hne1).trans i0)
  have k1 := (hcc w.heap.size 1 (by simp; omega)).trans ((cell_set2 hne1).trans i1)
  have hBB : Below w.heap.size w w2 := Below.thenB (((Below.thenB (Below.thenB hW (by simp) hb1 |>.alloc (by omega) _) (by simp; omega) hb1').setCell (by simp; omega) _).setCell (by simp; omega) _) (by simp; omega) hb2
  clear hcc hff hW2 i0 i1 B0 B1 B2 B3 hblk
  by_cases hbig : V < -9223372036854775808
  · have d1 : decide (dval ds1' < dval ds) = true := by simp; omega
    have e1 : okN V = 0 := (ok_out (.inl hbig)).1
    have e2 : inB V = false := by unfold inB; simp; omega
    have E1 := Lib.hid e1
    have E2 := Lib.hid e2
    clear e1 e2
    go_wp2
    go_ret2
    exact ⟨by rw [E1.out, E2.out]; rfl, hBB⟩
  · have d1 : decide (dval ds1' < dval ds) = false := by simp; omega
    have e1 : okN V = V := (ok_in ⟨by omega, by omega⟩).1
    have e2 : inB V = true := by unfold inB; simp; omega
    have E1 := Lib.hid e1
    have E2 := Lib.hid e2
    have hnn : n ≤ 19 := by rw [← hn]; exact canon_n20 hcn (by omega)
    have HV : dval ds ≤ 9223372036854775808 := by omega
    have HVV := Lib.hid hv
    subst hn
    clear e1 e2 hv hz2 hz1' hb2 hzz' hz2'
    go_wp2
    go_loop [5, 6] (fun u i => ∃ k : Nat, k ≤ ds.length ∧ i = .int .i64 ((k : Int) - 1) ∧ u = .int .u64 (dval (ds.drop k))) (fun _ i => (intOf i + 1).toNat)
    case atStart => exact ⟨ds.length, Nat.le_refl _, rfl, by simp [dval]⟩
    case round =>
      obtain ⟨k, hk, rfl, rfl⟩ := hrel
      obtain ⟨hd0, hd1⟩ := drop_le hcn.1 k
      rcases k with _ | k
      · have hw : wrap64 (IntKind.u64.wrap (-dval ds)) = V := by
          have := HVV.out
          rw [List.drop_zero] at hd0 hd1
          unfold wrap64; simp [IntKind.wrap, IntKind.bits, IntKind.signed]; omega
        rw [List.drop_zero] at hd0 hd1 ⊢
        go_wp2
        go_ret2
        exact ⟨by rw [E1.out, E2.out]; rfl, hBB⟩
      · have hlt : k < ds.length := by omega
        rcases hz3 with rfl | ⟨_, b, o, rfl, hb, hz⟩
        · simp at hlt
        have hzk := hz k hlt
        have hdg := Digs.at hcn.1 k
        have hdr := drop_getD ds k hlt
        obtain ⟨hd2, hd3⟩ := drop_le hcn.1 k
        generalize ds.getD k 0 = d at *
        obtain ⟨g0, g1⟩ := hdg
        rw [hdr] at hd2 hd3
        have HDR := Lib.hid hdr
        clear hdr hz
        generalize dval (ds.drop (k + 1)) = U at *
        have hm : IntKind.u64.wrap (10 * U) = 10 * U := by simp [IntKind.wrap, IntKind.bits, IntKind.signed]; omega
        have hd : IntKind.u64.wrap d = d := by simp [IntKind.wrap, IntKind.bits, IntKind.signed]; omega
        have ha : IntKind.u64.wrap (10 * U + d) = d + 10 * U := by simp [IntKind.wrap, IntKind.bits, IntKind.signed]; omega
        have i0 : (0 : Int) ≤ (k : Int) := by omega
        have i1 : (k : Int) < (ds.length : Int) := by omega
        go_wp2
        refine ⟨⟨k, by omega, rfl, by rw [HDR.out]⟩, by simp [intOf]⟩
theorem small_any (x : Bool) (a : Option Addr) (n c : Nat) (V : Int) (w : World) (h : NumP w x a n c V) (hl : n ≤ 900000) :
    Calls Tryd.prog 46 #[.agg #[.bool x, .slice a n c]] w fun e w' => e = .returned (.tuple #[.int .i64 (okN V), .bool (inB V)]) ∧ Below w.heap.size w w' := by
  cases x
  · exact small_pos a n c V w h hl
  · exact small_neg a n c V w h hl
theorem er_in (V : Int) : erN V = if inB V then 0 else 2 := by
  unfold erN inB
  by_cases h : -9223372036854775808 ≤ V ∧ V ≤ 9223372036854775807 <;> simp [h]
end Go.Proofs.YtbodldlenoehfaaDoor
