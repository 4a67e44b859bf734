/- The walk of layer 3's example. -/
import Derived.Test.YtapnkbamilkpoaaSKey2
namespace Go.Proofs.Ytapnkbamilkpoaa
open Go.RowKit
/-- The example's schema, by where it lies. -/
def schA (p0 p1 p2 p3 : Option Addr) : Sch := ⟨⟨#[116]⟩, p0, 2, 2, [(⟨#[97]⟩, 1), (⟨#[98]⟩, 2)], p3, 2, 2, [⟨p1, 1, 1, [0], true⟩, ⟨p2, 1, 1, [1], false⟩], 5, 1, 0⟩
def rowA : List Val := [(1, 1, ⟨#[]⟩), (2, 0, ⟨#[120]⟩)]
theorem schA_right (p0 p1 p2 p3 : Option Addr) : srightB (schA p0 p1 p2 p3) = true := by rfl
theorem schA_fits (p0 p1 p2 p3 : Option Addr) : fitsB (schA p0 p1 p2 p3).cs rowA = true := by rfl
theorem schA_key (p0 p1 p2 p3 : Option Addr) (x : Idx) (hx : (schA p0 p1 p2 p3).xs[1]? = some x) : keyS (schA p0 p1 p2 p3) x rowA = [2, 120, 0, 1, 1, 128, 0, 0, 0, 0, 0, 0, 1] := by
  have : x = ⟨p2, 1, 1, [1], false⟩ := by
    unfold schA at hx
    simp at hx
    exact hx.symm
  subst this
  rfl
theorem ints_new1 (w : World) (z : Int) (t : TypeId) : Ints .i64 (w.alloc (.cells #[.int .i64 z] t)) (some ⟨w.heap.size, 0, none⟩) [z] := by
  refine .inr ⟨by simp, w.heap.size, 0, rfl, by simp, fun i hi => ?_⟩
  cases i with
  | zero => go_simp
  | succ i => simp at hi
set_option maxRecDepth 100000 in
set_option maxHeartbeats 4000000 in
theorem awake3 (w : World) : Calls Try.prog 8 #[] w fun e w' => e = .returned (.bool true) ∧ Below w.heap.size w w' := by
  obtain ⟨W0, hW0⟩ : ∃ W0, W0 = w.alloc (.cells #[.string ⟨#[97]⟩, .int .i64 1, .string ⟨#[98]⟩, .int .i64 2] 29) := ⟨_, rfl⟩
  obtain ⟨W1, hW1⟩ : ∃ W1, W1 = W0.alloc (.cells #[.int .i64 0] 3) := ⟨_, rfl⟩
  obtain ⟨W2, hW2⟩ : ∃ W2, W2 = W1.alloc (.cells #[.int .i64 1] 3) := ⟨_, rfl⟩
  have s0 : W0.heap.size = w.heap.size + 1 := by rw [hW0]; simp
  have s1 : W1.heap.size = w.heap.size + 1 + 1 := by rw [hW1]; simp [s0]
  have s2 : W2.heap.size = w.heap.size + 1 + 1 + 1 := by rw [hW2]; simp [s1]
  obtain ⟨W3, hW3⟩ : ∃ W3, W3 = W2.alloc (.cells #[.slice (some ⟨w.heap.size + 1, 0, none⟩) 1 1, .bool true, .slice (some ⟨w.heap.size + 1 + 1, 0, none⟩) 1 1, .bool false] 34) := ⟨_, rfl⟩
  have s3 : W3.heap.size = w.heap.size + 1 + 1 + 1 + 1 := by rw [hW3]; simp [s2]
  obtain ⟨W4, hW4⟩ : ∃ W4, W4 = W3.alloc (.cells #[.string ⟨#[116]⟩, .slice (some ⟨w.heap.size, 0, none⟩) 2 2, .slice (some ⟨w.heap.size + 1 + 1 + 1, 0, none⟩) 2 2, .int .i64 5, .int .i64 1, .int .i64 0] 25) := ⟨_, rfl⟩
  have s4 : W4.heap.size = w.heap.size + 1 + 1 + 1 + 1 + 1 := by rw [hW4]; simp [s3]
  obtain ⟨W5, hW5⟩ : ∃ W5, W5 = W4.alloc (.cells #[.int .i64 1, .int .i64 1, .string ⟨#[]⟩, .int .i64 2, .int .i64 0, .string ⟨#[120]⟩] 55) := ⟨_, rfl⟩
  have b0 : Below w.heap.size w W0 := by rw [hW0]; exact (Below.refl _ _).alloc (Nat.le_refl _) _
  have b1 : Below W0.heap.size W0 W1 := by rw [hW1]; exact (Below.refl _ _).alloc (Nat.le_refl _) _
  have b2 : Below W1.heap.size W1 W2 := by rw [hW2]; exact (Below.refl _ _).alloc (Nat.le_refl _) _
  have b3 : Below W2.heap.size W2 W3 := by rw [hW3]; exact (Below.refl _ _).alloc (Nat.le_refl _) _
  have b4 : Below W3.heap.size W3 W4 := by rw [hW4]; exact (Below.refl _ _).alloc (Nat.le_refl _) _
  have b5 : Below W4.heap.size W4 W5 := by rw [hW5]; exact (Below.refl _ _).alloc (Nat.le_refl _) _
  have hcols : Cols W0 (some ⟨w.heap.size, 0, none⟩) [(⟨#[97]⟩, 1), (⟨#[98]⟩, 2)] := by
    refine .inr ⟨by simp, w.heap.size, 0, rfl, by omega, fun i x hi => ?_⟩
    rw [hW0]
    rcases i with _ | _ | i
    · simp at hi; subst hi; exact ⟨by go_simp, by go_simp⟩
    · simp at hi; subst hi; exact ⟨by go_simp, by go_simp⟩
    · simp at hi
  have hi0 : Ints .i64 W1 (some ⟨w.heap.size + 1, 0, none⟩) [0] := by rw [hW1, ← s0]; exact ints_new1 W0 0 _
  have hi1 : Ints .i64 W2 (some ⟨w.heap.size + 1 + 1, 0, none⟩) [1] := by rw [hW2, ← s1]; exact ints_new1 W1 1 _
  have hidx : Idxs W3 (some ⟨w.heap.size + 1 + 1 + 1, 0, none⟩) [⟨some ⟨w.heap.size + 1, 0, none⟩, 1, 1, [0], true⟩, ⟨some ⟨w.heap.size + 1 + 1, 0, none⟩, 1, 1, [1], false⟩] := by
    refine .inr ⟨by simp, w.heap.size + 1 + 1 + 1, 0, rfl, by omega, fun i x hi => ?_⟩
    have hkb : W3.heap[w.heap.size + 1 + 1 + 1]? = some (.cells #[.slice (some ⟨w.heap.size + 1, 0, none⟩) 1 1, .bool true, .slice (some ⟨w.heap.size + 1 + 1, 0, none⟩) 1 1, .bool false] 34 (0, 0)) := by rw [hW3, ← s2]; exact Array.getElem?_push_size
    rcases i with _ | _ | i
    · simp at hi; subst hi
      exact ⟨⟨Lib.cell_of_heap hkb 0, Lib.cell_of_heap hkb 1⟩, (hi0.below b2).below b3, rfl, Nat.le_refl _, by show (1 : Nat) ≤ 281474976710656; omega⟩
    · simp at hi; subst hi
      exact ⟨⟨Lib.cell_of_heap hkb 2, Lib.cell_of_heap hkb 3⟩, hi1.below b3, rfl, Nat.le_refl _, by show (1 : Nat) ≤ 281474976710656; omega⟩
    · simp at hi
  have hsch3 : SchAt W3 (schA (some ⟨w.heap.size, 0, none⟩) (some ⟨w.heap.size + 1, 0, none⟩) (some ⟨w.heap.size + 1 + 1, 0, none⟩) (some ⟨w.heap.size + 1 + 1 + 1, 0, none⟩)) :=
    ⟨⟨((hcols.below b1).below b2).below b3, rfl, Nat.le_refl _, by show 2 ≤ _; omega⟩, ⟨hidx, rfl, Nat.le_refl _, by show 2 ≤ _; omega⟩⟩
  have hrow : Vals W5 (some ⟨W4.heap.size, 0, none⟩) rowA := by
    have hkb : W5.heap[W4.heap.size]? = some (.cells #[.int .i64 1, .int .i64 1, .string ⟨#[]⟩, .int .i64 2, .int .i64 0, .string ⟨#[120]⟩] 55 (0, 0)) := by rw [hW5]; exact Array.getElem?_push_size
    refine .inr ⟨by decide, W4.heap.size, 0, rfl, (Array.getElem?_eq_some_iff.1 hkb).1, fun i v hi => ?_⟩
    rcases i with _ | _ | i
    · simp [rowA] at hi; subst hi; exact ⟨Lib.cell_of_heap hkb 0, Lib.cell_of_heap hkb 1, Lib.cell_of_heap hkb 2⟩
    · simp [rowA] at hi; subst hi; exact ⟨Lib.cell_of_heap hkb 3, Lib.cell_of_heap hkb 4, Lib.cell_of_heap hkb 5⟩
    · simp [rowA] at hi
  have hk4 : W4.heap[w.heap.size + 1 + 1 + 1 + 1]? = some (.cells #[.string ⟨#[116]⟩, .slice (some ⟨w.heap.size, 0, none⟩) 2 2, .slice (some ⟨w.heap.size + 1 + 1 + 1, 0, none⟩) 2 2, .int .i64 5, .int .i64 1, .int .i64 0] 25 (0, 0)) := by rw [hW4, ← s3]; exact Array.getElem?_push_size
  have hk5 := (b5.block (w.heap.size + 1 + 1 + 1 + 1) (by omega)).trans hk4
  have hsch5 := (hsch3.below b4).below b5
  have hok : ValsOk rowA := by
    intro v hv
    simp [rowA] at hv
    rcases hv with rfl | rfl <;> exact ⟨by decide, by decide, by decide⟩
  have hkey := Key_any _ 1 _ 2 2 rowA W5 rfl (by omega) hrow hok hsch5
  have hB5 : Below w.heap.size w W5 := Below.thenB (Below.thenB (Below.thenB (Below.thenB (Below.thenB b0 (by omega) b1) (by omega) b2) (by omega) b3) (by omega) b4) (by omega) b5
  have HRT := Lib.hid (fun W (hb : Below W5.heap.size W5 W) => show Calls Try.prog 15 _ W fun e w' => e = .returned (.bool true) ∧ Below W.heap.size W w' from schA_right (some ⟨w.heap.size, 0, none⟩) (some ⟨w.heap.size + 1, 0, none⟩) (some ⟨w.heap.size + 1 + 1, 0, none⟩) (some ⟨w.heap.size + 1 + 1 + 1, 0, none⟩) ▸ sright_any _ W (hsch5.below hb))
  change Calls _ _ #[.agg #[.string ⟨#[116]⟩, .slice (some ⟨w.heap.size, 0, none⟩) 2 2, .slice (some ⟨w.heap.size + 1 + 1 + 1, 0, none⟩) 2 2, .int .i64 5, .int .i64 1, .int .i64 0], _, _] _ _ at hkey
  simp only [schA, schCells] at HRT
  rw [s4] at hkey
  obtain ⟨g0, g1, g2, g3, g4, g5⟩ := six_at hk4
  have HKEY := Lib.hid hkey
  have HK5 := Lib.hid hk5
  have hz5 : w.heap.size + 1 + 1 + 1 + 1 < W5.heap.size := (Array.getElem?_eq_some_iff.1 hk5).1
  have HB5 := Lib.hid hB5
  have H0 := Lib.hid hW0.symm
  have H1 := Lib.hid hW1.symm
  have H2 := Lib.hid hW2.symm
  have H3 := Lib.hid hW3.symm
  have H4 := Lib.hid hW4.symm
  have H5 := Lib.hid hW5.symm
  clear hkey hk4 hk5 hB5 hW0 hW1 hW2 hW3 hW4 hW5 b0 b1 b2 b3 b4 b5 hcols hi0 hi1 hidx hsch3 hsch5 hrow hok s0 s1 s2 s3
  go_enter Try.func8, Try.ntmps8
  go_upto_region 2 with fail
  rw [H0.out, H1.out, H2.out, H3.out, H4.out]
  go_wp2_with fail
  rw [H5.out]
  refine HKEY.out.mono ?_
  rintro e w6 ⟨hret, hb6⟩
  rcases hret with ⟨hx, _⟩ | ⟨hx, _⟩ | ⟨x, ⟨_, _, hx, _⟩, rfl⟩
  · exfalso
    rcases hx with hx | hx
    · cases ((schA_right (some ⟨w.heap.size, 0, none⟩) (some ⟨w.heap.size + 1, 0, none⟩) (some ⟨w.heap.size + 1 + 1, 0, none⟩) (some ⟨w.heap.size + 1 + 1 + 1, 0, none⟩)).symm.trans hx)
    · exact hx ⟨by decide, by show (1 : Int) < 2; decide⟩
  · exfalso
    cases ((schA_fits (some ⟨w.heap.size, 0, none⟩) (some ⟨w.heap.size + 1, 0, none⟩) (some ⟨w.heap.size + 1 + 1, 0, none⟩) (some ⟨w.heap.size + 1 + 1 + 1, 0, none⟩)).symm.trans hx.2.2)
  rw [schA_key (some ⟨w.heap.size, 0, none⟩) (some ⟨w.heap.size + 1, 0, none⟩) (some ⟨w.heap.size + 1 + 1, 0, none⟩) (some ⟨w.heap.size + 1 + 1 + 1, 0, none⟩) x hx]
  obtain ⟨k0, k1, k2, k3, k4, k5⟩ := six_at ((hb6.block (w.heap.size + 1 + 1 + 1 + 1) (by omega)).trans HK5.out)
  have HRT2 := Lib.hid (HRT.out w6 hb6)
  have HB6 := Lib.hid (Below.thenB HB5.out HB5.out.size hb6)
  clear hb6 hx HKEY HRT HK5 H0 H1 H2 H3 H4 H5
  go_wp2_with fail
  refine HRT2.out.mono ?_
  rintro e w7 ⟨rfl, hb7⟩
  have hB := Below.thenB HB6.out HB6.out.size hb7
  go_wp2
  go_ret
  exact ⟨rfl, hB⟩
end Go.Proofs.Ytapnkbamilkpoaa
