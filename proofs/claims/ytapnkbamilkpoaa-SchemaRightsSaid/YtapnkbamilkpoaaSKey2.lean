/- Contract of schema's Key. -/
import Derived.Test.YtapnkbamilkpoaaSKey
import Derived.Deep.RegionWith
namespace Go.Proofs.Ytapnkbamilkpoaa
open Go.RowKit
attribute [local go_sem ↓] Go.wp_at_zero Go.wp_at_succ
theorem right_parts {S : Sch} (h : srightB S = true) : colsB S.cs = true ∧ idxsB (S.cs.length : Int) S.xs = true := by
  unfold srightB at h
  simp only [Bool.and_eq_true] at h
  exact ⟨h.2.1, h.2.2.1⟩
theorem idxs_parts {n : Int} {xs : List Idx} (h : idxsB n xs = true) : 1 ≤ xs.length ∧ xs.length ≤ 4 ∧ headU xs = true ∧ (∀ x ∈ xs, x.ps.length ≤ 8) := by
  unfold idxsB at h
  simp only [Bool.and_eq_true, decide_eq_true_eq, List.all_eq_true] at h
  refine ⟨h.1.1.1.1, h.1.1.1.2, h.1.1.2, fun x hx => ?_⟩
  have h2 := h.1.2 x hx
  unfold placesB at h2
  simp only [Bool.and_eq_true, decide_eq_true_eq] at h2
  exact h2.1.1.2
/-- A row's key by an index that there is. -/
def keyS (S : Sch) (x : Idx) (vs : List Val) : List UInt8 := rowKey (pickS vs x.ps) ++ (if x.u = true then [] else match S.xs with | z :: _ => rowKey (pickS vs z.ps) | [] => [])
/-- What Key answers. -/
def KeyRet (S : Sch) (i : Int) (vs : List Val) (e : Ending) : Prop :=
  (srightB S = false ∨ ¬ (0 ≤ i ∧ i < (S.xs.length : Int))) ∧ e = .returned (.tuple #[.string ⟨#[]⟩, .int .i64 1]) ∨
  (srightB S = true ∧ (0 ≤ i ∧ i < (S.xs.length : Int)) ∧ fitsB S.cs vs = false) ∧ e = .returned (.tuple #[.string ⟨#[]⟩, .int .i64 13]) ∨
  ∃ x, (srightB S = true ∧ 0 ≤ i ∧ S.xs[i.toNat]? = some x ∧ fitsB S.cs vs = true) ∧ e = .returned (.tuple #[.string ⟨(keyS S x vs).toArray⟩, .int .i64 0])
set_option maxRecDepth 100000 in
set_option maxHeartbeats 4000000 in
theorem Key_any (S : Sch) (i : Int) (a : Option Addr) (m c : Nat) (vs : List Val) (w : World) (hl : vs.length = m) (hm : m ≤ 281474976710656) (hv : Vals w a vs) (hok : ValsOk vs) (hS : SchAt w S) :
    Calls Try.prog 20 #[.agg (schCells S), .int .i64 i, .slice a m c] w fun e w' => KeyRet S i vs e ∧ Below w.heap.size w w' := by
  have hR := fun W (hb : Below w.heap.size w W) => sright_any S W (hS.below hb)
  have hF := fun W (hb : Below w.heap.size w W) => fits_any S a m c vs W (hS.below hb) hl (hv.below hb)
  have hI := hS.2
  obtain ⟨r, hr⟩ : ∃ r, r = srightB S := ⟨_, rfl⟩
  rw [← hr] at hR
  obtain ⟨f, hf⟩ : ∃ f, f = fitsB S.cs vs := ⟨_, rfl⟩
  rw [← hf] at hF
  have hKS := fun (x : Idx) W (hb : Below w.heap.size w W) (hx : Ints .i64 W x.a x.ps ∧ x.ps.length = x.n ∧ x.n ≤ 2000) (hright : srightB S = true) => show Calls Try.prog 46 #[.agg (schCells S), .agg #[.slice x.a x.n x.c, .bool x.u], .slice a m c] W fun e w' => e = .returned (.string ⟨(keyS S x vs).toArray⟩) ∧ Below W.heap.size W w' from by
    obtain ⟨k1, k2, k3, k4⟩ := idxs_parts (right_parts hright).2
    cases hxs : S.xs with
    | nil => rw [hxs] at k1; simp at k1
    | cons z rest =>
      have hz : S.xs[0]? = some z := by rw [hxs]; rfl
      have hzu : z.u = true := by rw [hxs] at k3; exact k3
      have hzn : z.n ≤ 2000 := by
        have h8 := k4 z (List.mem_of_getElem? hz)
        obtain ⟨hi1, hi2, _⟩ := hI
        rcases hi1 with h0 | ⟨_, b, o, _, _, hall⟩
        · rw [h0] at hxs; cases hxs
        · have := (hall 0 z hz).2.2.1; omega
      unfold keyS
      rw [hxs]
      cases hu : x.u with
      | true =>
        rw [if_pos rfl, List.append_nil]
        have := key1_any S x a m c vs W hu hl hm (hv.below hb) hok hx
        rw [hu] at this
        exact this
      | false =>
        rw [if_neg (by decide)]
        have := key2_any S x z a m c vs W hu hl hm (hv.below hb) hok hx (hS.below hb) hz hzu hzn
        rw [hu] at this
        exact this
  obtain ⟨name, ca, cn, cc, cs, ia, iN, ic, xs, limit, parts, place⟩ := S
  simp only [] at hI hr hf
  obtain ⟨hI1, hI2, hI3, hI4⟩ := hI
  simp only [schCells] at hR hF hKS ⊢
  obtain ⟨W1, hW1⟩ : ∃ W1, W1 = w.alloc (.cells #[.string name, .slice ca cn cc, .slice ia iN ic, .int .i64 limit, .int .i64 parts, .int .i64 place] 25) := ⟨_, rfl⟩
  have hA1 : Below w.heap.size w W1 := by rw [hW1]; exact (Below.refl _ _).alloc (Nat.le_refl _) _
  have hk1 : W1.heap[w.heap.size]? = some (.cells #[.string name, .slice ca cn cc, .slice ia iN ic, .int .i64 limit, .int .i64 parts, .int .i64 place] 25 (0, 0)) := by rw [hW1]; exact Array.getElem?_push_size
  have hs1 : W1.heap.size = w.heap.size + 1 := by rw [hW1]; simp
  have hw1 : IntKind.i64.wrap ((iN : Int) - 1) = (iN : Int) - 1 := by simp [IntKind.wrap, IntKind.bits, IntKind.signed]; omega
  have HR1 := Lib.hid (hR W1 hA1)
  have HF := Lib.hid hF
  have HKS := Lib.hid hKS
  have HK1 := Lib.hid hk1
  have HA1 := Lib.hid hA1
  have HW1 := Lib.hid hW1.symm
  have HRR := Lib.hid hr
  have HFF := Lib.hid hf
  have HI := Lib.hid hI1
  have HIL := Lib.hid hI2
  have HBT := Lib.hid (fun W => between_any 0 i ((iN : Int) - 1) W)
  obtain ⟨e0, e1, e2, e3, e4, e5⟩ := six_at hk1
  clear hR hF hKS hk1 hA1 hW1 hr hf hI1 hI2 hv hok hS hl
  cases r with
  | false =>
    go_enter Try.func20, Try.ntmps20
    go_upto_region 1 with fail
    rw [HW1.out]
    go_wp2_with fail
    refine HR1.out.mono ?_
    rintro e w2 ⟨rfl, hb2⟩
    have hB := Below.thenB HA1.out HA1.out.size hb2
    go_wp2
    go_ret2
    exact ⟨.inl ⟨.inl HRR.out.symm, rfl⟩, hB⟩
  | true =>
  by_cases hin : 0 ≤ i ∧ i < (iN : Int)
  · rw [decide_eq_true hin.1, decide_eq_true (by omega : i ≤ (iN : Int) - 1)] at HBT
    simp only [Bool.and_true] at HBT
    cases f with
    | false =>
      go_enter Try.func20, Try.ntmps20
      go_upto_region 1 with fail
      rw [HW1.out]
      go_wp2_with fail
      refine HR1.out.mono ?_
      rintro e w2 ⟨rfl, hb2⟩
      have HB2 := Lib.hid (Below.thenB HA1.out HA1.out.size hb2)
      obtain ⟨g0, g1, g2, g3, g4, g5⟩ := six_at ((hb2.block w.heap.size (by omega)).trans HK1.out)
      clear hb2 e0 e1 e2 e3 e4 e5
      go_wp2_with fail
      refine (HBT.out _).mono ?_
      rintro e w3 ⟨rfl, hE⟩
      subst hE
      go_wp2_with fail
      refine (HF.out _ HB2.out).mono ?_
      rintro e w3 ⟨rfl, hb3⟩
      have hB := Below.thenB HB2.out HB2.out.size hb3
      go_wp2
      go_ret2
      exact ⟨.inr (.inl ⟨⟨HRR.out.symm, by rw [HIL.out]; exact hin, HFF.out.symm⟩, rfl⟩), hB⟩
    | true =>
      obtain ⟨q, rfl⟩ : ∃ q : Nat, i = (q : Int) := ⟨i.toNat, by omega⟩
      have hq : q < iN := by omega
      have hq0 : (0 : Int) ≤ (q : Int) := by omega
      have hq1 : (q : Int) < (iN : Int) := by omega
      go_enter Try.func20, Try.ntmps20
      go_upto_region 1 with fail
      rw [HW1.out]
      go_wp2_with fail
      refine HR1.out.mono ?_
      rintro e w2 ⟨rfl, hb2⟩
      have HB2 := Lib.hid (Below.thenB HA1.out HA1.out.size hb2)
      have HK2 := Lib.hid ((hb2.block w.heap.size (by omega)).trans HK1.out)
      have hs2 : w.heap.size < w2.heap.size := by have := hb2.size; omega
      obtain ⟨g0, g1, g2, g3, g4, g5⟩ := six_at HK2.out
      clear hb2 e0 e1 e2 e3 e4 e5 HR1 HW1
      go_wp2_with fail
      refine (HBT.out _).mono ?_
      rintro e w3 ⟨rfl, hE⟩
      subst hE
      go_wp2_with fail
      refine (HF.out _ HB2.out).mono ?_
      rintro e w3 ⟨rfl, hb3⟩
      have hb3' := Below.thenB HB2.out HB2.out.size hb3
      obtain ⟨k0, k1, k2, k3, k4, k5⟩ := six_at ((hb3.block w.heap.size hs2).trans HK2.out)
      obtain ⟨bI, oI, z, hae, hbI, hzk, q0, q1, hzi, hzl, _, _⟩ := Idxs.at HI.out HIL.out hq hb3'
      subst hae
      have hright := HRR.out.symm
      obtain ⟨_, _, _, p4⟩ := idxs_parts (right_parts hright).2
      have h8 := p4 z (List.mem_of_getElem? hzk)
      have hn : z.n ≤ 2000 := by rw [← hzl]; exact Nat.le_trans h8 (by omega)
      have hkc := HKS.out z w3.drew hb3'.drew ⟨hzi.below (bdrewN (Below.refl _ _) 1), hzl, hn⟩ hright
      have HKC := Lib.hid hkc
      have HZK := Lib.hid hzk
      have HB3 := Lib.hid hb3'
      have hz3 : w.heap.size < w3.heap.size := by have := hb3.size; omega
      obtain ⟨za, zn, zc, zp, zu⟩ := z
      simp only [] at q0 q1 HKC
      clear hzi hzl hkc hzk hb3 hb3' p4 h8 hright g0 g1 g2 g3 g4 g5 HI HKS HF HBT
      obtain ⟨KB, hKB⟩ : ∃ KB, KB = keyS ⟨name, ca, cn, cc, cs, some ⟨bI, oI, none⟩, iN, ic, xs, limit, parts, place⟩ ⟨za, zn, zc, zp, zu⟩ vs := ⟨_, rfl⟩
      rw [← hKB] at HKC
      have HKB := Lib.hid hKB
      clear hKB
      go_wp2_with fail
      go_region_with (go_at_call 46; refine HKC.out.mono ?_; rintro e w5 ⟨rfl, hb5⟩)
      all_goals
        have hB5 := Below.thenB HB3.out.drew (by show w.heap.size ≤ w3.heap.size; omega) hb5
        go_wp2
        go_ret2
        refine ⟨.inr (.inr ⟨⟨za, zn, zc, zp, zu⟩, ⟨HRR.out.symm, by omega, by rw [Int.toNat_natCast]; exact HZK.out, HFF.out.symm⟩, ?_⟩), hB5⟩
        rw [← HKB.out]
        rfl
  · have hbf : (decide (0 ≤ i) && decide (i ≤ (iN : Int) - 1)) = false := by
      rcases (by omega : ¬ 0 ≤ i ∨ ¬ i ≤ (iN : Int) - 1) with h | h
      · rw [decide_eq_false h]; simp
      · rw [decide_eq_false h]; simp
    rw [hbf] at HBT
    go_enter Try.func20, Try.ntmps20
    go_upto_region 1 with fail
    rw [HW1.out]
    go_wp2_with fail
    refine HR1.out.mono ?_
    rintro e w2 ⟨rfl, hb2⟩
    have HB2 := Lib.hid (Below.thenB HA1.out HA1.out.size hb2)
    obtain ⟨g0, g1, g2, g3, g4, g5⟩ := six_at ((hb2.block w.heap.size (by omega)).trans HK1.out)
    clear hb2 e0 e1 e2 e3 e4 e5
    go_wp2_with fail
    refine (HBT.out _).mono ?_
    rintro e w3 ⟨rfl, hE⟩
    subst hE
    go_wp2
    go_ret2
    exact ⟨.inl ⟨.inr (by rw [HIL.out]; exact hin), rfl⟩, HB2.out⟩
end Go.Proofs.Ytapnkbamilkpoaa
