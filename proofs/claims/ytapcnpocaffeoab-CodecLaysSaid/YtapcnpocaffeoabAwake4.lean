/- The walk of layer 4's examples. -/
import Derived.Test.YtapcnpocaffeoabPart
import Derived.Test.YtapcnpocaffeoabWrR
namespace Go.Proofs.Ytapcnpocaffeoab
open Go.RowKit
def laidA : List UInt8 := [2, 1, 44, 1, 1, 1, 2, 1, 1, 2, 3, 1]
theorem laidA_is : (([] ++ sizesB [300]) ++ signedsB [-1]) ++ rowB [(1, 1, ⟨#[]⟩), (3, 1, ⟨#[]⟩)] = laidA := by decide
theorem wat_new (w : World) (T : TypeId) : WAt (w.alloc (.cells #[.slice none 0 0] T)) w.heap.size [] := by
  have hb : (w.alloc (.cells #[.slice none 0 0] T)).heap[w.heap.size]? = some (.cells #[.slice none 0 0] T (0, 0)) := Array.getElem?_push_size
  exact ⟨by simp, Lib.frozen_of_heap hb 0, none, 0, Lib.cell_of_heap hb 0, World.ownsRow_nil _ _ _ _⟩
theorem two_vals (w : World) (u v : Val) : Vals (w.alloc (.cells #[.int .i64 u.1, .int .i64 u.2.1, .string u.2.2, .int .i64 v.1, .int .i64 v.2.1, .string v.2.2] 35)) (some ⟨w.heap.size, 0, none⟩) [u, v] := by
  refine .inr ⟨by simp, w.heap.size, 0, rfl, by simp, fun i x hi => ?_⟩
  rcases i with _ | _ | i
  · simp at hi; subst hi; exact ⟨by go_simp, by go_simp, by go_simp⟩
  · simp at hi; subst hi; exact ⟨by go_simp, by go_simp, by go_simp⟩
  · simp at hi
theorem takesA : sizeS 300 laidA false = (300, [1, 1, 1, 2, 1, 1, 2, 3, 1], false) ∧ signedS [1, 1, 1, 2, 1, 1, 2, 3, 1] false = (-1, [1, 2, 1, 1, 2, 3, 1], false) ∧ rowS 2 [1, 2, 1, 1, 2, 3, 1] false = ([(1, 1, ⟨#[]⟩), (3, 1, ⟨#[]⟩)], [], false) := by
  decide
theorem wrow_new (w : World) (T : TypeId) : WRow (w.alloc (.cells #[.slice none 0 0] T)) w.heap.size = none := by
  have hb : (w.alloc (.cells #[.slice none 0 0] T)).heap[w.heap.size]? = some (.cells #[.slice none 0 0] T (0, 0)) := Array.getElem?_push_size
  unfold WRow
  rw [Lib.cell_of_heap hb 0]; rfl
theorem below_all {w W0 w6 w8 w11 : World} {b2 : Nat} (h0 : Below w.heap.size w W0) (hr : WRow W0 w.heap.size = none) (h6 : WChg w.heap.size W0 w6) (h8 : Below w6.heap.size w6 w8) (hb2 : w.heap.size ≤ b2) (h11 : Chg (· = b2) w8 w11) : Below w.heap.size w w11 := by
  have c : Chg (fun k => w.heap.size ≤ k) w w11 :=
    (((Chg.ofBelow h0).trans (h6.1.mono (fun k _ hk => by
      rcases hk with hk | hk
      · exact Nat.le_of_eq hk.symm
      · rw [hr] at hk; cases hk))).trans (Chg.ofBelow h8)).trans (h11.mono (fun k _ hk => by
      have e : k = b2 := hk
      omega))
  exact ⟨c.os, c.tape, c.output, c.size, fun k hk => c.block k hk (by show ¬ (w.heap.size ≤ k); omega)⟩
set_option maxRecDepth 100000 in
set_option maxHeartbeats 4000000 in
theorem awake4 (w : World) : Calls Try.prog 9 #[] w fun e w' => e = .returned (.bool true) ∧ Below w.heap.size w w' := by
  obtain ⟨W0, hW0⟩ : ∃ W0, W0 = w.alloc (.cells #[.slice none 0 0] 43) := ⟨_, rfl⟩
  have hA0 : Below w.heap.size w W0 := by rw [hW0]; exact (Below.refl _ _).alloc (Nat.le_refl _) _
  have hw0 : WAt W0 w.heap.size [] := by rw [hW0]; exact wat_new w _
  obtain ⟨W1, hW1⟩ : ∃ W1, W1 = W0.alloc (.cells #[.int .i64 300] 3) := ⟨_, rfl⟩
  have hA1 : Below W0.heap.size W0 W1 := by rw [hW1]; exact (Below.refl _ _).alloc (Nat.le_refl _) _
  have hsz := wsize_any w.heap.size [] (some ⟨W0.heap.size, 0, none⟩) 1 1 [300] W1 rfl (by decide) (by decide) (fun z hz => by simp at hz; subst hz; omega) (hw0.below hA1) (by rw [hW1]; exact one_int W0 300 3) (fun _ x hx => by injection hx with hx; subst hx; rw [hW1]; exact apart_new hw0 _)
  have hs0 : W0.heap.size = w.heap.size + 1 := by rw [hW0]; simp
  rw [hs0] at hsz
  have HR0 := Lib.hid (show WRow W0 w.heap.size = none by rw [hW0]; exact wrow_new w _)
  have hC1 : WChg w.heap.size W0 W1 := (WChg.refl _ _).thenB hw0.1 hA1
  have HSZ := Lib.hid hsz
  have HC1 := Lib.hid hC1
  have HA0 := Lib.hid hA0
  have HW1 := Lib.hid (show w.alloc (.cells #[.slice none 0 0] 43) = W0 from hW0.symm)
  have HW2 := Lib.hid hW1.symm
  clear hsz hC1 hA0 hA1 hW0 hW1 hw0
  go_enter Try.func9, Try.ntmps9
  go_wp2_with fail
  rw [HW1.out, HW2.out]
  refine HSZ.out.mono ?_
  rintro e w2 ⟨rfl, hw2, hC2⟩
  have hC12 := HC1.out.trans hC2
  obtain ⟨W3, hW3⟩ : ∃ W3, W3 = w2.alloc (.cells #[.int .i64 (-1)] 2) := ⟨_, rfl⟩
  have hA3 : Below w2.heap.size w2 W3 := by rw [hW3]; exact (Below.refl _ _).alloc (Nat.le_refl _) _
  have hsg := wsigned_any w.heap.size ([] ++ sizesB [300]) (some ⟨w2.heap.size, 0, none⟩) 1 1 [-1] W3 rfl (by decide) (by decide) (fun z hz => by simp at hz; subst hz; omega) (hw2.below hA3) (by rw [hW3]; exact one_int w2 (-1) 2) (fun _ x hx => by injection hx with hx; subst hx; rw [hW3]; exact apart_new hw2 _)
  have hC3 := hC12.thenB (by omega) hA3
  have HSG := Lib.hid hsg
  have HC3 := Lib.hid hC3
  have HW3 := Lib.hid hW3.symm
  clear hsg hC3 hA3 hW3 hw2 hC2 hC12 HSZ HC1 HW1 HW2
  go_wp2_with fail
  rw [HW3.out]
  refine HSG.out.mono ?_
  rintro e w4 ⟨rfl, hw4, hC4⟩
  have hC14 := HC3.out.trans hC4
  obtain ⟨W5, hW5⟩ : ∃ W5, W5 = w4.alloc (.cells #[.int .i64 1, .int .i64 1, .string ⟨#[]⟩, .int .i64 3, .int .i64 1, .string ⟨#[]⟩] 35) := ⟨_, rfl⟩
  have hA5 : Below w4.heap.size w4 W5 := by rw [hW5]; exact (Below.refl _ _).alloc (Nat.le_refl _) _
  have hrw := wrow_any w.heap.size (([] ++ sizesB [300]) ++ signedsB [-1]) (some ⟨w4.heap.size, 0, none⟩) 2 2 [(1, 1, ⟨#[]⟩), (3, 1, ⟨#[]⟩)] W5 rfl (by decide) (by decide) (fun v hv => by simp at hv; rcases hv with rfl | rfl <;> exact ⟨by decide, by decide, by decide⟩) (hw4.below hA5) (by rw [hW5]; exact two_vals w4 (1, 1, ⟨#[]⟩) (3, 1, ⟨#[]⟩)) (fun _ x hx => by injection hx with hx; subst hx; rw [hW5]; exact apart_new hw4 _)
  rw [laidA_is] at hrw
  have HRW := Lib.hid hrw
  have HC5 := Lib.hid (hC14.thenB (by omega) hA5)
  have HW5 := Lib.hid hW5.symm
  clear hrw hA5 hW5 hw4 hC4 hC14 HSG HC3 HW3
  go_wp2_with fail
  rw [HW5.out]
  refine HRW.out.mono ?_
  rintro e w6 ⟨rfl, hw6, hC6⟩
  have HC6 := Lib.hid (HC5.out.trans hC6)
  have HS6 := Lib.hid (wstring_any w.heap.size laidA w6 hw6)
  have HW6 := Lib.hid hw6
  have HRD := Lib.hid (read_any ⟨laidA.toArray⟩ (by decide) w6)
  clear hw6 hC6 HRW HC5 HW5
  go_wp2_with fail
  refine HS6.out.mono ?_
  rintro e w7 ⟨rfl, hE⟩
  subst hE
  go_wp2_with fail
  refine HRD.out.mono ?_
  rintro e w8 ⟨⟨b2, rfl, hb2, hR8⟩, hb8⟩
  have hw8 := HW6.out.below hb8
  have hst := wstring_any w.heap.size laidA w8 hw8
  have hln := wlen_any w.heap.size laidA w8 hw8
  have hR8' : RAt w8 b2 laidA false := hR8
  have hsz := rsize_any b2 300 (by decide) laidA false w8 hR8'
  obtain ⟨t1, t2, t3⟩ := takesA
  rw [t1] at hsz
  rw [show laidA.toArray = #[2, 1, 44, 1, 1, 1, 2, 1, 1, 2, 3, 1] from rfl] at hst
  rw [show (laidA.length : Int) = 12 from rfl] at hln
  have hz6 : w.heap.size < w6.heap.size := HW6.out.1
  have HST := Lib.hid hst
  have HLN := Lib.hid hln
  have HSZ := Lib.hid hsz
  have HT2 := Lib.hid t2
  have HT3 := Lib.hid t3
  have HB8 := Lib.hid hb8
  clear hw8 hst hln hR8 hR8' hsz t1 t2 t3 hb8 HW6 HS6 HRD
  go_wp2_with fail
  refine HST.out.mono ?_
  rintro e w9 ⟨rfl, hE⟩
  subst hE
  go_wp2_with fail
  refine HLN.out.mono ?_
  rintro e w9 ⟨rfl, hE⟩
  subst hE
  go_wp2_with fail
  refine HSZ.out.mono ?_
  rintro e w9 ⟨rfl, hR9, hC9⟩
  have hsg := rsigned_any b2 [1, 1, 1, 2, 1, 1, 2, 3, 1] false w9 hR9
  rw [HT2.out] at hsg
  have HSG := Lib.hid hsg
  have HC9 := Lib.hid hC9
  clear hR9 hC9 hsg HST HLN HSZ HT2
  go_wp2_with fail
  refine HSG.out.mono ?_
  rintro e w10 ⟨rfl, hR10, hC10⟩
  have hrw := rrow_any b2 2 (by decide) [1, 2, 1, 1, 2, 3, 1] false w10 hR10
  rw [HT3.out] at hrw
  have HRW := Lib.hid hrw
  have HC10 := Lib.hid (HC9.out.trans hC10)
  clear hR10 hC10 hrw HSG HC9 HT3
  go_wp2_with fail
  refine HRW.out.mono ?_
  rintro e w11 ⟨⟨a, c, rfl, hv⟩, hR11, hC11⟩
  have hen := rend_any b2 [] false w11 hR11
  have HEN := Lib.hid hen
  have HC11 := Lib.hid (HC10.out.trans hC11)
  clear hv hR11 hC11 hen HRW HC10
  go_wp2_with fail
  refine HEN.out.mono ?_
  rintro e w12 ⟨rfl, hE⟩
  subst hE
  go_wp2
  go_ret
  exact ⟨rfl, below_all HA0.out HR0.out HC6.out HB8.out (by omega) HC11.out⟩
end Go.Proofs.Ytapcnpocaffeoab
