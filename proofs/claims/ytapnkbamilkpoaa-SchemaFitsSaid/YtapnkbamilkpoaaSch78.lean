/- Contracts of schema: Fits, check. -/
import Derived.Test.YtapnkbamilkpoaaFits
import Derived.Test.YtapnkbamilkpoaaSpread
import Derived.Deep.RegionWith
import Derived.Deep.DrawnRows
namespace Go.Proofs.Ytapnkbamilkpoaa
open Go.RowKit
set_option maxRecDepth 100000 in
set_option maxHeartbeats 1000000 in
theorem Fits_any (S : Sch) (a : Option Addr) (m c : Nat) (vs : List Val) (w : World) (hS : SchAt w S) (hl : vs.length = m) (hv : Vals w a vs) :
    Calls Try.prog 23 #[.agg (schCells S), .slice a m c] w fun e w' => e = .returned (.bool (srightB S && fitsB S.cs vs)) ∧ Below w.heap.size w w' := by
  have hR := fun W (hb : Below w.heap.size w W) => sright_any S W (hS.below hb)
  have hF := fun W (hb : Below w.heap.size w W) => fits_any S a m c vs W (hS.below hb) hl (hv.below hb)
  generalize srightB S = r at hR ⊢
  generalize fitsB S.cs vs = f at hF ⊢
  obtain ⟨name, ca, cn, cc, cs, ia, iN, ic, xs, limit, parts, place⟩ := S
  simp only [schCells] at hR hF ⊢
  have hA1 : Below w.heap.size w (w.alloc (.cells #[.string name, .slice ca cn cc, .slice ia iN ic, .int .i64 limit, .int .i64 parts, .int .i64 place] 25)) := (Below.refl _ _).alloc (Nat.le_refl _) _
  obtain ⟨W1, hW1⟩ : ∃ W1, W1 = w.alloc (.cells #[.string name, .slice ca cn cc, .slice ia iN ic, .int .i64 limit, .int .i64 parts, .int .i64 place] 25) := ⟨_, rfl⟩
  have hk1 : W1.heap[w.heap.size]? = some (.cells #[.string name, .slice ca cn cc, .slice ia iN ic, .int .i64 limit, .int .i64 parts, .int .i64 place] 25 (0, 0)) := by rw [hW1]; exact Array.getElem?_push_size
  rw [← hW1] at hA1
  have hs1 : w.heap.size < W1.heap.size := by rw [hW1]; simp
  obtain ⟨e0, e1, e2, e3, e4, e5⟩ := six_at hk1
  have HR := Lib.hid (hR W1 hA1)
  have HF := Lib.hid hF
  have HK := Lib.hid hk1
  have HA := Lib.hid hA1
  have HW1 := Lib.hid hW1.symm
  clear hR hF hk1 hA1 hW1 hv hS hl
  go_enter Try.func23, Try.ntmps23
  go_upto_region 1 with fail
  rw [HW1.out]
  go_wp2_with fail
  refine HR.out.mono ?_
  rintro e w2 ⟨rfl, hb2⟩
  obtain ⟨g0, g1, g2, g3, g4, g5⟩ := six_at ((hb2.block w.heap.size hs1).trans HK.out)
  have HB2 := Lib.hid (Below.thenB HA.out HA.out.size hb2)
  clear hb2 e0 e1 e2 e3 e4 e5
  cases r with
  | false =>
    go_wp2
    go_ret
    exact ⟨rfl, HB2.out⟩
  | true =>
    go_wp2_with fail
    refine (HF.out _ HB2.out).mono ?_
    rintro e w3 ⟨rfl, hb3⟩
    have hB := Below.thenB HB2.out HB2.out.size hb3
    go_wp2
    go_ret
    exact ⟨by simp, hB⟩
set_option maxRecDepth 100000 in
set_option maxHeartbeats 1000000 in
theorem check_any (S : Sch) (a : Option Addr) (m c : Nat) (vs : List Val) (w : World) (hS : SchAt w S) (hl : vs.length = m) (hv : Vals w a vs) :
    Calls Try.prog 47 #[.agg (schCells S), .slice a m c] w fun e w' => e = .returned (.int .i64 (if srightB S = true then (if fitsB S.cs vs = true then 0 else 13) else 1)) ∧ Below w.heap.size w w' := by
  have hR := fun W (hb : Below w.heap.size w W) => sright_any S W (hS.below hb)
  have hF := fun W (hb : Below w.heap.size w W) => fits_any S a m c vs W (hS.below hb) hl (hv.below hb)
  generalize srightB S = r at hR ⊢
  generalize fitsB S.cs vs = f at hF ⊢
  obtain ⟨name, ca, cn, cc, cs, ia, iN, ic, xs, limit, parts, place⟩ := S
  simp only [schCells] at hR hF ⊢
  have hA1 : Below w.heap.size w (w.alloc (.cells #[.string name, .slice ca cn cc, .slice ia iN ic, .int .i64 limit, .int .i64 parts, .int .i64 place] 25)) := (Below.refl _ _).alloc (Nat.le_refl _) _
  obtain ⟨W1, hW1⟩ : ∃ W1, W1 = w.alloc (.cells #[.string name, .slice ca cn cc, .slice ia iN ic, .int .i64 limit, .int .i64 parts, .int .i64 place] 25) := ⟨_, rfl⟩
  have hk1 : W1.heap[w.heap.size]? = some (.cells #[.string name, .slice ca cn cc, .slice ia iN ic, .int .i64 limit, .int .i64 parts, .int .i64 place] 25 (0, 0)) := by rw [hW1]; exact Array.getElem?_push_size
  rw [← hW1] at hA1
  have hs1 : w.heap.size < W1.heap.size := by rw [hW1]; simp
  obtain ⟨e0, e1, e2, e3, e4, e5⟩ := six_at hk1
  have HR := Lib.hid (hR W1 hA1)
  have HF := Lib.hid hF
  have HK := Lib.hid hk1
  have HA := Lib.hid hA1
  have HW1 := Lib.hid hW1.symm
  clear hR hF hk1 hA1 hW1 hv hS hl
  go_enter Try.func47, Try.ntmps47
  go_upto_region 1 with fail
  rw [HW1.out]
  go_wp2_with fail
  refine HR.out.mono ?_
  rintro e w2 ⟨rfl, hb2⟩
  obtain ⟨g0, g1, g2, g3, g4, g5⟩ := six_at ((hb2.block w.heap.size hs1).trans HK.out)
  have HB2 := Lib.hid (Below.thenB HA.out HA.out.size hb2)
  clear hb2 e0 e1 e2 e3 e4 e5
  cases r with
  | false =>
    go_wp2
    go_ret
    exact ⟨rfl, HB2.out⟩
  | true =>
    go_wp2_with fail
    refine (HF.out _ HB2.out).mono ?_
    rintro e w3 ⟨rfl, hb3⟩
    have hB := Below.thenB HB2.out HB2.out.size hb3
    cases f with
    | false =>
      go_wp2
      go_ret
      exact ⟨rfl, hB⟩
    | true =>
      go_wp2
      go_ret
      exact ⟨rfl, hB⟩
attribute [local go_sem ↓] Go.wp_at_zero Go.wp_at_succ
theorem fits_right {cs : List Col} {vs : List Val} (h : fitsB cs vs = true) {k : Nat} {v : Val} (hv : vs[k]? = some v) : vright v = true := by
  unfold fitsB at h
  simp only [Bool.and_eq_true, decide_eq_true_eq, List.all_eq_true] at h
  obtain ⟨h1, h2⟩ := h
  have hk : k < vs.length := (List.getElem?_eq_some_iff.mp hv).1
  have h3 : (cs.zip vs)[k]? = some (cs[k]'(by omega), v) := by
    rw [List.getElem?_zip_eq_some]
    exact ⟨List.getElem?_eq_getElem (by omega), hv⟩
  have h4 := h2 _ (List.mem_of_getElem? h3)
  unfold fit1 at h4
  simp only [Bool.and_eq_true] at h4
  exact h4.2
theorem right_place {S : Sch} (h : srightB S = true) : (1 ≤ S.parts ∧ S.parts ≤ 8) ∧ 0 ≤ S.place ∧ S.place ≤ (S.cs.length : Int) - 1 := by
  unfold srightB at h
  simp only [Bool.and_eq_true, decide_eq_true_eq] at h
  exact ⟨h.2.2.2.2.1, h.2.2.2.2.2⟩
def PartRet (S : Sch) (vs : List Val) (e : Ending) : Prop :=
  srightB S = false ∧ e = .returned (.tuple #[.int .i64 0, .int .i64 1]) ∨
  (srightB S = true ∧ fitsB S.cs vs = false) ∧ e = .returned (.tuple #[.int .i64 0, .int .i64 13]) ∨
  ∃ v, (srightB S = true ∧ fitsB S.cs vs = true ∧ vs[S.place.toNat]? = some v) ∧ e = .returned (.tuple #[.int .i64 (vsum v % S.parts), .int .i64 0])
set_option maxRecDepth 100000 in
set_option maxHeartbeats 4000000 in
theorem Part_any (S : Sch) (a : Option Addr) (m c : Nat) (vs : List Val) (w : World) (hS : SchAt w S) (hl : vs.length = m) (hv : Vals w a vs) :
    Calls Try.prog 22 #[.agg (schCells S), .slice a m c] w fun e w' => PartRet S vs e ∧ Below w.heap.size w w' := by
  have hC := fun W (hb : Below w.heap.size w W) => check_any S a m c vs W (hS.below hb) hl (hv.below hb)
  have hlen : srightB S = true → fitsB S.cs vs = true → S.place < (m : Int) := fun h1 h2 => by
    have := (right_place h1).2.2
    unfold fitsB at h2
    simp only [Bool.and_eq_true, decide_eq_true_eq] at h2
    have := h2.1
    omega
  have hpl := fun h : srightB S = true => right_place h
  obtain ⟨r, hr⟩ : ∃ r, r = srightB S := ⟨_, rfl⟩
  obtain ⟨f, hf⟩ : ∃ f, f = fitsB S.cs vs := ⟨_, rfl⟩
  rw [← hr, ← hf] at hC
  obtain ⟨name, ca, cn, cc, cs, ia, iN, ic, xs, limit, parts, place⟩ := S
  simp only [schCells] at hC ⊢
  simp only [] at hlen hpl hf
  obtain ⟨W1, hW1⟩ : ∃ W1, W1 = w.alloc (.cells #[.string name, .slice ca cn cc, .slice ia iN ic, .int .i64 limit, .int .i64 parts, .int .i64 place] 25) := ⟨_, rfl⟩
  have hA1 : Below w.heap.size w W1 := by rw [hW1]; exact (Below.refl _ _).alloc (Nat.le_refl _) _
  have hk1 : W1.heap[w.heap.size]? = some (.cells #[.string name, .slice ca cn cc, .slice ia iN ic, .int .i64 limit, .int .i64 parts, .int .i64 place] 25 (0, 0)) := by rw [hW1]; exact Array.getElem?_push_size
  have hs1 : w.heap.size < W1.heap.size := by rw [hW1]; simp
  have HC := Lib.hid (hC W1 hA1)
  have HK1 := Lib.hid hk1
  have HA1 := Lib.hid hA1
  have HW1 := Lib.hid hW1.symm
  have HRR := Lib.hid hr
  have HFF := Lib.hid hf
  have HV := Lib.hid hv
  have HL := Lib.hid hl
  obtain ⟨e0, e1, e2, e3, e4, e5⟩ := six_at hk1
  clear hC hk1 hA1 hW1 hv hl hS
  cases r with
  | false =>
    clear hlen hpl hr hf
    have HC' := HC.out
    simp only [Bool.false_eq_true, ↓reduceIte] at HC'
    replace HC := Lib.hid HC'
    clear HC'
    go_enter Try.func22, Try.ntmps22
    go_upto_region 1 with fail
    rw [HW1.out]
    go_wp2_with fail
    refine HC.out.mono ?_
    rintro e w2 ⟨rfl, hb2⟩
    have hB := Below.thenB HA1.out HA1.out.size hb2
    go_wp2
    go_ret2
    exact ⟨.inl ⟨HRR.out.symm, rfl⟩, hB⟩
  | true =>
    cases f with
    | false =>
      clear hlen hpl hr hf
      have HC' := HC.out
      simp only [Bool.false_eq_true, ↓reduceIte] at HC'
      replace HC := Lib.hid HC'
      clear HC'
      go_enter Try.func22, Try.ntmps22
      go_upto_region 1 with fail
      rw [HW1.out]
      go_wp2_with fail
      refine HC.out.mono ?_
      rintro e w2 ⟨rfl, hb2⟩
      have hB := Below.thenB HA1.out HA1.out.size hb2
      go_wp2
      go_ret2
      exact ⟨.inr (.inl ⟨⟨HRR.out.symm, HFF.out.symm⟩, rfl⟩), hB⟩
    | true =>
      obtain ⟨⟨hp1, hp2⟩, hp3, hp4⟩ := hpl hr.symm
      have hpm := hlen hr.symm hf.symm
      clear hlen hpl hr hf hp4
      obtain ⟨q, rfl⟩ : ∃ q : Nat, place = (q : Int) := ⟨place.toNat, by omega⟩
      obtain ⟨n, rfl⟩ : ∃ n : Nat, parts = (n : Int) := ⟨parts.toNat, by omega⟩
      have hq : q < m := by omega
      have HC' := HC.out
      simp only [↓reduceIte] at HC'
      replace HC := Lib.hid HC'
      clear HC'
      go_enter Try.func22, Try.ntmps22
      go_upto_region 1 with fail
      rw [HW1.out]
      go_wp2_with fail
      refine HC.out.mono ?_
      rintro e w2 ⟨rfl, hb2⟩
      have hb2' := Below.thenB HA1.out HA1.out.size hb2
      obtain ⟨k0, k1, k2, k3, k4, k5⟩ := six_at ((hb2.block w.heap.size hs1).trans HK1.out)
      obtain ⟨bv, ov, v, hae, hbv, hvk, q0, q1, q2⟩ := Vals.at3 HV.out HL.out hq hb2'
      subst hae
      have hsp := fun W => spread_any v (fits_right HFF.out.symm hvk) n (by omega) (by omega) W
      have HSP := Lib.hid hsp
      have HVK := Lib.hid hvk
      have HB2 := Lib.hid hb2'
      have hs2 : w.heap.size < w2.heap.size := by have := hb2.size; omega
      obtain ⟨vk, vn, vt⟩ := v
      simp only [] at q0 q1 q2
      simp only [vagg] at HSP
      clear hsp hvk hb2 hb2' e0 e1 e2 e3 e4 e5 HC HW1
      obtain ⟨R, hR⟩ : ∃ R, R = vsum (vk, vn, vt) % (n : Int) := ⟨_, rfl⟩
      rw [← hR] at HSP
      have HRE := Lib.hid hR
      clear hR
      go_wp2_with fail
      go_region_with (go_at_call 48; refine (HSP.out _).mono ?_; rintro e w5 ⟨rfl, hb5⟩)
      all_goals
        have hB5 := Below.thenB HB2.out.drew (by show w.heap.size ≤ w2.heap.size; omega) hb5
        go_wp2
        go_ret2
        refine ⟨.inr (.inr ⟨(vk, vn, vt), ⟨HRR.out.symm, HFF.out.symm, by rw [Int.toNat_natCast]; exact HVK.out⟩, ?_⟩), hB5⟩
        rw [← HRE.out]
        rfl
end Go.Proofs.Ytapnkbamilkpoaa
