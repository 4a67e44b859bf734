/- Contracts of the document's own reader: Value. -/
import Derived.Test.YtapcnpocaffeoabPg
import Derived.Test.YtapcnpocaffeoabRV
import Derived.Deep.DeepCutAuto
import Derived.Deep.RegionHeld3
namespace Go.Proofs.Ytapcnpocaffeoab
open Go.RowKit
theorem valS_bad0 {l : List UInt8} {bd : Bool} (h : (valueS l bd).2.2 = true) : (valS l bd).1 = (0, 0, ⟨#[]⟩) ∧ (valS l bd).2.2 = true := by
  unfold valS
  simp only
  split
  · exact ⟨rfl, h⟩
  · exact ⟨rfl, rfl⟩
theorem valS_wrong {l : List UInt8} {bd : Bool} (h : vright (valueS l bd).1 = false) : (valS l bd).1 = (0, 0, ⟨#[]⟩) ∧ (valS l bd).2.2 = true := by
  unfold valS
  simp only
  rw [if_neg (by rw [h]; decide)]
  exact ⟨rfl, rfl⟩
theorem valS_right {l l' : List UInt8} {bd : Bool} {v : Val} (h : valueS l bd = (v, l', false)) (hv : vright v = true) : valS l bd = (v, l', false) := by
  unfold valS
  simp only [h]
  rw [if_pos hv]
  rfl
/-- What a value's answer is, by what was taken: kind, number, text, what is left, is it bad? -/
def ValEnd (R : Val × List UInt8 × Bool) (v : Val) (l' : List UInt8) (b' : Bool) : Prop :=
  (b' = true → R.1 = (0, 0, ⟨#[]⟩) ∧ R.2.2 = true) ∧ (b' = false → vright v = false → R.1 = (0, 0, ⟨#[]⟩) ∧ R.2.2 = true) ∧ (b' = false → vright v = true → R = (v, l', false))
theorem valEnd_of {l l' : List UInt8} {bd b' : Bool} {v : Val} (h : valueS l bd = (v, l', b')) : ValEnd (valS l bd) v l' b' :=
  ⟨fun hb => valS_bad0 (by rw [h]; exact hb), fun _ hv => valS_wrong (by rw [h]; exact hv), fun hb hv => by subst hb; exact valS_right h hv⟩
theorem valueS_1 {l l1 : List UInt8} {bd : Bool} {c : UInt8} (h : takeS 1 l bd = ([c], l1, false)) (hc : c.toNat = 1) : valueS l bd = ((1, (signedS l1 false).1, ⟨#[]⟩), (signedS l1 false).2) := by
  have e : c = 1 := by apply UInt8.toNat_inj.1; rw [hc]; rfl
  subst e
  unfold valueS; simp only [byteS_of h]; rfl
theorem valueS_2 {l l1 : List UInt8} {bd : Bool} {c : UInt8} (h : takeS 1 l bd = ([c], l1, false)) (hc : c.toNat = 2) : valueS l bd = ((2, 0, ⟨(textS 200 l1 false).1.toArray⟩), (textS 200 l1 false).2) := by
  have e : c = 2 := by apply UInt8.toNat_inj.1; rw [hc]; rfl
  subst e
  unfold valueS; simp only [byteS_of h]; rfl
theorem valueS_3 {l l1 : List UInt8} {bd : Bool} {c : UInt8} (h : takeS 1 l bd = ([c], l1, false)) (hc : c.toNat = 3) : valueS l bd = ((3, ((byteS l1 false).1.toNat : Int), ⟨#[]⟩), (byteS l1 false).2) := by
  have e : c = 3 := by apply UInt8.toNat_inj.1; rw [hc]; rfl
  subst e
  unfold valueS; simp only [byteS_of h]; rfl
theorem valueS_0 {l l1 : List UInt8} {bd : Bool} {c : UInt8} (h : takeS 1 l bd = ([c], l1, false)) (h1 : c.toNat ≠ 1) (h2 : c.toNat ≠ 2) (h3 : c.toNat ≠ 3) : valueS l bd = ((0, 0, ⟨#[]⟩), l1, false) := by
  have e1 : ¬ c = 1 := by rintro rfl; exact h1 rfl
  have e2 : ¬ c = 2 := by rintro rfl; exact h2 rfl
  have e3 : ¬ c = 3 := by rintro rfl; exact h3 rfl
  unfold valueS; simp only [byteS_of h]
  rw [if_neg e1, if_neg e2, if_neg e3]
theorem valS_0 {l l1 : List UInt8} {bd : Bool} {c : UInt8} (h : takeS 1 l bd = ([c], l1, false)) (h1 : c.toNat ≠ 1) (h2 : c.toNat ≠ 2) (h3 : c.toNat ≠ 3) : (valS l bd).1 = (0, 0, ⟨#[]⟩) ∧ (valS l bd).2.2 = true :=
  valS_wrong (by rw [valueS_0 h h1 h2 h3]; rfl)
theorem valS_none {l : List UInt8} {bd : Bool} (h : (takeS 1 l bd).2.2 = true) : (valS l bd).1 = (0, 0, ⟨#[]⟩) ∧ (valS l bd).2.2 = true := by
  obtain ⟨h1, h2⟩ := byteS_bad h
  refine valS_wrong ?_
  unfold valueS
  simp only [h1]
  rfl
theorem PSt.set3 {w : World} {p B : Nat} {l : List UInt8} {bd : Bool} (h : PSt w p l bd) (hne : B ≠ p) (u v q : Value) : PSt (((w.setCell ⟨B, 0, none⟩ u).setCell ⟨B, 1, none⟩ v).setCell ⟨B, 2, none⟩ q) p l bd := h.imp fun _ h => ⟨h.1.far3 hne u v q, h.2⟩
theorem PSt.set1 {w : World} {p B o : Nat} {l : List UInt8} {bd : Bool} (h : PSt w p l bd) (hne : B ≠ p) (u : Value) : PSt (w.setCell ⟨B, o, none⟩ u) p l bd :=
  h.imp fun _ h => ⟨⟨by simpa using h.1.1, by rw [Below.heap_setCell _ _ _ _ (Ne.symm hne)]; exact h.1.2⟩, h.2⟩
set_option maxRecDepth 100000 in
set_option maxHeartbeats 8000000 in
theorem pvalue_any (p : Nat) (l : List UInt8) (bd : Bool) (w : World) (h : PSt w p l bd) :
    Calls Try.prog 48 #[.pointer (some ⟨p, 0, none⟩)] w fun e w' => e = .returned (vagg (valS l bd).1) ∧ PSt w' p (valS l bd).2.1 (valS l bd).2.2 ∧ Chg (· = p) w w' := by
  obtain ⟨R, hR⟩ : ∃ R, R = valS l bd := ⟨_, rfl⟩
  rw [← hR]
  unfold vagg
  obtain ⟨W1, hW1⟩ : ∃ W1, W1 = w.alloc (.cells #[.int .i64 0, .int .i64 0, .string ⟨#[]⟩] 35) := ⟨_, rfl⟩
  have hA : Below w.heap.size w W1 := by rw [hW1]; exact (Below.refl _ _).alloc (Nat.le_refl _) _
  have hblk : W1.heap[w.heap.size]? = some (.cells #[.int .i64 0, .int .i64 0, .string ⟨#[]⟩] 35 (0, 0)) := by rw [hW1]; exact Array.getElem?_push_size
  have hz1 : w.heap.size < W1.heap.size := by rw [hW1]; simp
  have hp0 := h.lt
  have H1 := pcut_any p 1 l bd W1 (h.below hA)
  have HBK := Lib.hid hblk
  have HC0 := Lib.hid (Chg.ofBelow (S := (· = p)) hA)
  have HWE := Lib.hid hW1.symm
  clear hA hblk hW1 h
  rcases take1 l bd with hb | ⟨c, l1, hT⟩
  · have hv0 := valS_none hb
    rw [← hR] at hv0
    rw [hb] at H1
    have E1 := Lib.hid hv0.1
    have E2 := Lib.hid hv0.2
    generalize (⟨(takeS 1 l bd).1.toArray⟩ : ByteArray) = X at H1
    have HV := Lib.hid H1
    clear H1 hb hR hv0
    go_enter Try.func48, Try.ntmps48
    go_upto_region 1 with fail
    rw [HWE.out]
    go_wp2_with fail
    refine HV.out.mono ?_
    rintro e w2 ⟨rfl, h2, hC2⟩
    have hz2 : w.heap.size < w2.heap.size := Nat.lt_of_lt_of_le hz1 hC2.size
    have hBK2 := (hC2.block w.heap.size hz1 (by omega)).trans HBK.out
    obtain ⟨W3, hW3⟩ : ∃ W3, W3 = w2.alloc (.cells #[.int .i64 0, .int .i64 0, .string ⟨#[]⟩] 35) := ⟨_, rfl⟩
    have hA3 : Below w2.heap.size w2 W3 := by rw [hW3]; exact (Below.refl _ _).alloc (Nat.le_refl _) _
    have hB3 : W3.heap[w2.heap.size]? = some (.cells #[.int .i64 0, .int .i64 0, .string ⟨#[]⟩] 35 (0, 0)) := by rw [hW3]; exact Array.getElem?_push_size
    have hs3 : w2.heap.size < W3.heap.size := by rw [hW3]; simp
    have hpB : p ≠ w2.heap.size := by omega
    have hBp : w2.heap.size ≠ p := Ne.symm hpB
    have hpz : p ≠ w.heap.size := by omega
    have hzp : w.heap.size ≠ p := Ne.symm hpz
    have HZ3 := Lib.hid ((hA3.block w.heap.size hz2).trans hBK2)
    have HP3 := Lib.hid (h2.below hA3)
    have HC3 := Lib.hid ((HC0.out.trans hC2).thenB hA3)
    have HW3 := Lib.hid hW3.symm
    have HB3 := Lib.hid hB3
    clear h2 hC2 hBK2 hA3 hW3 hB3 HV HBK HC0 HWE
    go_upto_region 3 with fail
    rw [HW3.out]
    obtain ⟨⟨e0, e1, e2⟩, k0, k1, k2⟩ := val_at HB3.out
    obtain ⟨st, ppt, _⟩ := HP3.out
    have hplt := ppt.1
    obtain ⟨⟨a0t, a1t⟩, g0t, g1t⟩ := two_at ppt.2
    have h4t := ppt.bad
    have hC4t := HC3.out.setCell (p := ⟨p, 1, none⟩) (.inr rfl) (.bool true)
    have hZ4t : (W3.setCell ⟨p, 1, none⟩ (.bool true)).heap[w.heap.size]? = some (.cells #[.int .i64 0, .int .i64 0, .string ⟨#[]⟩] 35 (0, 0)) := by rw [Below.heap_setCell _ _ _ _ (by simp only [ne_eq]; omega)]; exact HZ3.out
    obtain ⟨⟨c0t, c1t, c2t⟩, f0t, f1t, f2t⟩ := val_at hZ4t
    have HS8 := Lib.hid (vset3 hZ4t (.int .i64 0) (.int .i64 0) (.string ⟨#[]⟩))
    have HP8 := Lib.hid (h4t.far3 hzp (.int .i64 0) (.int .i64 0) (.string ⟨#[]⟩))
    have HC8 := Lib.hid (hC4t.set3 (B := w.heap.size) (Nat.le_refl _) (.int .i64 0) (.int .i64 0) (.string ⟨#[]⟩))
    clear h4t hC4t hZ4t
    clear ppt HP3 HC3 HZ3 HB3 HW3
    go_wp2
    generalize (((W3.setCell ⟨p, 1, none⟩ (.bool true)).setCell ⟨w.heap.size, 0, none⟩ (.int .i64 0)).setCell ⟨w.heap.size, 1, none⟩ (.int .i64 0)).setCell ⟨w.heap.size, 2, none⟩ (.string ⟨#[]⟩) = w9 at HS8 HP8 HC8 ⊢
    obtain ⟨⟨d0, d1, d2⟩, _⟩ := val_at HS8.out
    simp [bodyPost, results, Try.results48, go_sem, d0, d1, d2]
    exact ⟨by rw [E1.out]; exact ⟨rfl, rfl, rfl⟩, pst_of_bad _ HP8.out E2.out, HC8.out⟩
  · rw [hT] at H1
    simp only [] at H1
    rw [show ([c] : List UInt8).toArray = #[c] from rfl] at H1
    have G1 := Lib.hid (fun hc : c.toNat = 1 => valEnd_of (valueS_1 hT hc))
    have G2 := Lib.hid (fun hc : c.toNat = 2 => valEnd_of (valueS_2 hT hc))
    have G3 := Lib.hid (fun hc : c.toNat = 3 => valEnd_of (valueS_3 hT hc))
    have G0 := Lib.hid (fun h1 h2 h3 => valS_0 hT h1 h2 h3)
    rw [← hR] at G1 G2 G3 G0
    obtain ⟨C, hC0, hC1, rfl, hCe⟩ : ∃ C : ByteArray, ∃ h : 0 < C.size, C.size = 1 ∧ c = C[0] ∧ (⟨#[c]⟩ : ByteArray) = C := ⟨⟨#[c]⟩, Nat.zero_lt_one, rfl, rfl, rfl⟩
    rw [hCe] at H1
    have hzw : IntKind.i64.wrap (C[0].toNat : Int) = (C[0].toNat : Int) := by have := C[0].toNat_lt; simp [IntKind.wrap, IntKind.bits, IntKind.signed]; omega
    have HV := Lib.hid H1
    clear H1 hR hT hCe
    go_enter Try.func48, Try.ntmps48
    go_upto_region 1 with fail
    rw [HWE.out]
    go_wp2_with fail
    refine HV.out.mono ?_
    rintro e w2 ⟨rfl, h2, hC2⟩
    have hz2 : w.heap.size < w2.heap.size := Nat.lt_of_lt_of_le hz1 hC2.size
    have hBK2 := (hC2.block w.heap.size hz1 (by omega)).trans HBK.out
    obtain ⟨W3, hW3⟩ : ∃ W3, W3 = w2.alloc (.cells #[.int .i64 0, .int .i64 0, .string ⟨#[]⟩] 35) := ⟨_, rfl⟩
    have hA3 : Below w2.heap.size w2 W3 := by rw [hW3]; exact (Below.refl _ _).alloc (Nat.le_refl _) _
    have hB3 : W3.heap[w2.heap.size]? = some (.cells #[.int .i64 0, .int .i64 0, .string ⟨#[]⟩] 35 (0, 0)) := by rw [hW3]; exact Array.getElem?_push_size
    have hs3 : w2.heap.size < W3.heap.size := by rw [hW3]; simp
    have hpB : p ≠ w2.heap.size := by omega
    have hBp : w2.heap.size ≠ p := Ne.symm hpB
    have hpz : p ≠ w.heap.size := by omega
    have hzp : w.heap.size ≠ p := Ne.symm hpz
    have HZ3 := Lib.hid ((hA3.block w.heap.size hz2).trans hBK2)
    have HP3 := Lib.hid (h2.below hA3)
    have HC3 := Lib.hid ((HC0.out.trans hC2).thenB hA3)
    have HW3 := Lib.hid hW3.symm
    have HB3 := Lib.hid hB3
    clear h2 hC2 hBK2 hA3 hW3 hB3 HV HBK HC0 HWE
    go_upto_region 3 with fail
    rw [HW3.out]
    obtain ⟨s3, pp3, hl3⟩ := HP3.out
    have hplt := pp3.1
    obtain ⟨⟨a0, a1⟩, g0, g1⟩ := two_at pp3.2
    obtain ⟨⟨e0, e1, e2⟩, k0, k1, k2⟩ := val_at HB3.out
    obtain ⟨W4, hW4⟩ : ∃ W4, W4 = W3.setCell ⟨w2.heap.size, 0, none⟩ (.int .i64 (C[0].toNat : Int)) := ⟨_, rfl⟩
    have hB4 : W4.heap[w2.heap.size]? = some (.cells #[.int .i64 (C[0].toNat : Int), .int .i64 0, .string ⟨#[]⟩] 35 (0, 0)) := by rw [hW4]; exact Lib.heap_setCell_same (i := 0) HB3.out (.int .i64 (C[0].toNat : Int))
    have hZ4 : W4.heap[w.heap.size]? = some (.cells #[.int .i64 0, .int .i64 0, .string ⟨#[]⟩] 35 (0, 0)) := by rw [hW4, Below.heap_setCell _ _ _ _ (by simp only [ne_eq]; omega)]; exact HZ3.out
    have hP4 : PSt W4 p l1 false := by rw [hW4]; exact HP3.out.set1 hBp _
    have hC4 : Chg (· = p) w W4 := by rw [hW4]; exact HC3.out.setCell (.inl (Nat.le_of_lt hz2)) _
    have hs4 : w2.heap.size < W4.heap.size := by rw [hW4]; simpa using hs3
    have HB4 := Lib.hid hB4
    have HZ4 := Lib.hid hZ4
    have HP4 := Lib.hid hP4
    have HC4 := Lib.hid hC4
    have HW4 := Lib.hid hW4.symm
    have HV1 := Lib.hid (psigned_any p l1 false W4 hP4)
    have HV2 := Lib.hid (ptext_any p 200 (by omega) l1 false W4 hP4)
    have HV3 := Lib.hid (pcut_any p 1 l1 false W4 hP4)
    obtain ⟨⟨x0, x1, x2⟩, y0, y1, y2⟩ := val_at hB4
    clear hB4 hZ4 hP4 hC4 hW4 pp3 hl3 HP3 HC3 HZ3 HB3 HW3
    go_upto_region 5 with fail
    rw [HW4.out]
    clear HW4
    iterate 14 (first | (with_reducible show Code.wp _ (Code.block _ _) _ _ _) | go_step)
    go_cut [19] (fun _ wx => ∃ (k n : Int) (s : ByteArray) (l' : List UInt8) (b' : Bool), wx.heap[w2.heap.size]? = some (.cells #[.int .i64 k, .int .i64 n, .string s] 35 (0, 0)) ∧ wx.heap[w.heap.size]? = some (.cells #[.int .i64 0, .int .i64 0, .string ⟨#[]⟩] 35 (0, 0)) ∧ PSt wx p l' b' ∧ Chg (· = p) w wx ∧ w2.heap.size < wx.heap.size ∧ ValEnd R (k, n, s) l' b')
    case first =>
      by_cases hk1 : C[0].toNat = 1
      · have hki : (C[0].toNat : Int) = 1 := by omega
        have g : ValEnd R (1, (signedS l1 false).1, ⟨#[]⟩) (signedS l1 false).2.1 (signedS l1 false).2.2 := G1.out hk1
        rw [hki] at x0 HB4 ⊢
        generalize signedS l1 false = q at HV1 g
        obtain ⟨q1, q2, q3⟩ := q
        simp only [] at HV1 g
        skip
        clear G1 G2 G3 G0
        go_wp2_with fail
        refine HV1.out.mono ?_
        rintro e w5 ⟨rfl, hP5, hC5⟩
        have hz5 := hC5.size
        have hB5 := (hC5.block w2.heap.size hs4 hBp).trans HB4.out
        have hZ5 := (hC5.block w.heap.size (Nat.lt_trans hz2 hs4) hzp).trans HZ4.out
        obtain ⟨⟨m0, m1, m2⟩, n0, n1, n2⟩ := val_at hB5
        have hB6 := Lib.heap_setCell_same (i := 1) hB5 (.int .i64 q1)
        have hZ6 : (w5.setCell ⟨w2.heap.size, 1, none⟩ (.int .i64 q1)).heap[w.heap.size]? = some (.cells #[.int .i64 0, .int .i64 0, .string ⟨#[]⟩] 35 (0, 0)) := by rw [Below.heap_setCell _ _ _ _ (by simp only [ne_eq]; omega)]; exact hZ5
        have hP6 := hP5.set1 (o := 1) hBp (.int .i64 q1)
        have hC6 := (HC4.out.trans hC5).setCell (p := ⟨w2.heap.size, 1, none⟩) (.inl (Nat.le_of_lt hz2)) (.int .i64 q1)
        go_wp2_with fail
        go_meet
        exact ⟨_, _, _, _, _, hB6, hZ6, hP6, hC6, by simpa using Nat.lt_of_lt_of_le hs4 hz5, g⟩
      by_cases hk2 : C[0].toNat = 2
      · have hki : (C[0].toNat : Int) = 2 := by omega
        have g : ValEnd R (2, 0, ⟨((textS 200 l1 false).1).toArray⟩) (textS 200 l1 false).2.1 (textS 200 l1 false).2.2 := G2.out hk2
        rw [hki] at x0 HB4 ⊢
        generalize textS 200 l1 false = q at HV2 g
        obtain ⟨q1, q2, q3⟩ := q
        simp only [] at HV2 g
        generalize (⟨q1.toArray⟩ : ByteArray) = Q at HV2 g
        clear G1 G2 G3 G0
        go_wp2_with fail
        refine HV2.out.mono ?_
        rintro e w5 ⟨rfl, hP5, hC5⟩
        have hz5 := hC5.size
        have hB5 := (hC5.block w2.heap.size hs4 hBp).trans HB4.out
        have hZ5 := (hC5.block w.heap.size (Nat.lt_trans hz2 hs4) hzp).trans HZ4.out
        obtain ⟨⟨m0, m1, m2⟩, n0, n1, n2⟩ := val_at hB5
        have hB6 := Lib.heap_setCell_same (i := 2) hB5 (.string Q)
        have hZ6 : (w5.setCell ⟨w2.heap.size, 2, none⟩ (.string Q)).heap[w.heap.size]? = some (.cells #[.int .i64 0, .int .i64 0, .string ⟨#[]⟩] 35 (0, 0)) := by rw [Below.heap_setCell _ _ _ _ (by simp only [ne_eq]; omega)]; exact hZ5
        have hP6 := hP5.set1 (o := 2) hBp (.string Q)
        have hC6 := (HC4.out.trans hC5).setCell (p := ⟨w2.heap.size, 2, none⟩) (.inl (Nat.le_of_lt hz2)) (.string Q)
        go_wp2_with fail
        go_meet
        exact ⟨_, _, _, _, _, hB6, hZ6, hP6, hC6, by simpa using Nat.lt_of_lt_of_le hs4 hz5, g⟩
      by_cases hk3 : C[0].toNat = 3
      · have hki : (C[0].toNat : Int) = 3 := by omega
        have g : ValEnd R (3, ((byteS l1 false).1.toNat : Int), ⟨#[]⟩) (byteS l1 false).2.1 (byteS l1 false).2.2 := G3.out hk3
        rw [hki] at x0 HB4 ⊢
        rcases take1 l1 false with hb | ⟨c2, l3, hT2⟩
        · have g' : ValEnd R (3, 0, ⟨#[]⟩) l1 true := ⟨fun _ => g.1 (byteS_bad hb).2, fun h => (by cases h), fun h => (by cases h)⟩
          rw [hb] at HV3
          generalize (⟨(takeS 1 l1 false).1.toArray⟩ : ByteArray) = X at HV3
          clear G1 G2 G3 G0 g hb
          go_wp2_with fail
          refine HV3.out.mono ?_
          rintro e w5 ⟨rfl, ⟨s5, pp5, _⟩, hC5⟩
          have hz5 := hC5.size
          have hB5 := (hC5.block w2.heap.size hs4 hBp).trans HB4.out
          have hZ5 := (hC5.block w.heap.size (Nat.lt_trans hz2 hs4) hzp).trans HZ4.out
          obtain ⟨⟨m0, m1⟩, n0, n1⟩ := two_at pp5.2
          have hC6 := HC4.out.trans hC5
          go_wp2_with fail
          go_meet
          exact ⟨_, _, _, l1, true, hB5, hZ5, pst_of_bad _ pp5 rfl, hC6, Nat.lt_of_lt_of_le hs4 hz5, g'⟩
        · rw [byteS_of hT2] at g
          rw [hT2] at HV3
          simp only [] at HV3 g
          rw [show ([c2] : List UInt8).toArray = #[c2] from rfl] at HV3
          obtain ⟨D, hD0, hD1, rfl, hDe⟩ : ∃ D : ByteArray, ∃ h : 0 < D.size, D.size = 1 ∧ c2 = D[0] ∧ (⟨#[c2]⟩ : ByteArray) = D := ⟨⟨#[c2]⟩, Nat.zero_lt_one, rfl, rfl, rfl⟩
          rw [hDe] at HV3
          have hdw : IntKind.i64.wrap (D[0].toNat : Int) = (D[0].toNat : Int) := by have := D[0].toNat_lt; simp [IntKind.wrap, IntKind.bits, IntKind.signed]; omega
          clear G1 G2 G3 G0 hT2 hDe
          go_wp2_with fail
          refine HV3.out.mono ?_
          rintro e w5 ⟨rfl, hP5, hC5⟩
          obtain ⟨s5, pp5, _⟩ := id hP5
          have hp5 := pp5.1
          have hz5 := hC5.size
          have hB5 := (hC5.block w2.heap.size hs4 hBp).trans HB4.out
          have hZ5 := (hC5.block w.heap.size (Nat.lt_trans hz2 hs4) hzp).trans HZ4.out
          obtain ⟨⟨m0, m1⟩, n0, n1⟩ := two_at pp5.2
          obtain ⟨⟨i0, i1, i2⟩, j0, j1, j2⟩ := val_at hB5
          have hB6 := Lib.heap_setCell_same (i := 1) hB5 (.int .i64 (D[0].toNat : Int))
          have hZ6 : (w5.setCell ⟨w2.heap.size, 1, none⟩ (.int .i64 (D[0].toNat : Int))).heap[w.heap.size]? = some (.cells #[.int .i64 0, .int .i64 0, .string ⟨#[]⟩] 35 (0, 0)) := by rw [Below.heap_setCell _ _ _ _ (by simp only [ne_eq]; omega)]; exact hZ5
          have hP6 := hP5.set1 (o := 1) hBp (.int .i64 (D[0].toNat : Int))
          have hC6 := (HC4.out.trans hC5).setCell (p := ⟨w2.heap.size, 1, none⟩) (.inl (Nat.le_of_lt hz2)) (.int .i64 (D[0].toNat : Int))
          clear hP5 pp5
          go_wp2_with fail
          go_meet
          exact ⟨_, _, _, _, _, hB6, hZ6, hP6, hC6, by simpa using Nat.lt_of_lt_of_le hs4 hz5, g⟩
      · have g' : ValEnd R ((C[0].toNat : Int), 0, ⟨#[]⟩) l1 false := ⟨fun h => (by cases h), fun _ _ => G0.out hk1 hk2 hk3, fun _ hv => by
          unfold vright at hv
          simp only at hv
          rw [if_neg (by omega), if_neg (by omega), if_neg (by omega)] at hv
          cases hv⟩
        have t1 : ((C[0].toNat : Int) == 1) = false := beq_false_of_ne (by omega)
        have t2 : ((C[0].toNat : Int) == 2) = false := beq_false_of_ne (by omega)
        have t3 : ((C[0].toNat : Int) == 3) = false := beq_false_of_ne (by omega)
        have u1 : ¬ (C[0].toNat : Int) = 1 := by omega
        have u2 : ¬ (C[0].toNat : Int) = 2 := by omega
        have u3 : ¬ (C[0].toNat : Int) = 3 := by omega
        clear G1 G2 G3 G0
        go_wp2_with fail
        go_meet
        exact ⟨_, _, _, _, _, HB4.out, HZ4.out, HP4.out, HC4.out, hs4, g'⟩
    case rest =>
    obtain ⟨k, n, s, l', b', hB, hZ, hP, hC, hs, hE⟩ := hcut
    obtain ⟨hE1, hE2, hE3⟩ := hE
    clear G1 G2 G3 G0 HV1 HV2 HV3 HB4 HZ4 HP4 HC4 x0 x1 x2 y0 y1 y2 a0 a1 g0 g1
    have hplt := hP.lt
    have HBc := Lib.hid hB
    have HZc := Lib.hid hZ
    have HPc := Lib.hid hP
    have HCc := Lib.hid hC
    obtain ⟨⟨e0', e1', e2'⟩, k0', k1', k2'⟩ := val_at hB
    cases b' with
    | true =>
      have E1 := Lib.hid (hE1 rfl).1
      have E2 := Lib.hid (hE1 rfl).2
      clear hE1 hE2 hE3 hB hZ hP hC
      obtain ⟨st, ppt, _⟩ := HPc.out
      have hplt := ppt.1
      obtain ⟨⟨a0t, a1t⟩, g0t, g1t⟩ := two_at ppt.2
      have h4t := ppt.bad
      have hC4t := HCc.out.setCell (p := ⟨p, 1, none⟩) (.inr rfl) (.bool true)
      have hZ4t : (wc.setCell ⟨p, 1, none⟩ (.bool true)).heap[w.heap.size]? = some (.cells #[.int .i64 0, .int .i64 0, .string ⟨#[]⟩] 35 (0, 0)) := by rw [Below.heap_setCell _ _ _ _ (by simp only [ne_eq]; omega)]; exact HZc.out
      obtain ⟨⟨c0t, c1t, c2t⟩, f0t, f1t, f2t⟩ := val_at hZ4t
      have HS8 := Lib.hid (vset3 hZ4t (.int .i64 0) (.int .i64 0) (.string ⟨#[]⟩))
      have HP8 := Lib.hid (h4t.far3 hzp (.int .i64 0) (.int .i64 0) (.string ⟨#[]⟩))
      have HC8 := Lib.hid (hC4t.set3 (B := w.heap.size) (Nat.le_refl _) (.int .i64 0) (.int .i64 0) (.string ⟨#[]⟩))
      clear h4t hC4t hZ4t
      clear ppt HPc HCc HZc HBc
      go_wp2
      generalize (((wc.setCell ⟨p, 1, none⟩ (.bool true)).setCell ⟨w.heap.size, 0, none⟩ (.int .i64 0)).setCell ⟨w.heap.size, 1, none⟩ (.int .i64 0)).setCell ⟨w.heap.size, 2, none⟩ (.string ⟨#[]⟩) = w9 at HS8 HP8 HC8 ⊢
      obtain ⟨⟨d0, d1, d2⟩, _⟩ := val_at HS8.out
      simp [bodyPost, results, Try.results48, go_sem, d0, d1, d2]
      exact ⟨by rw [E1.out]; exact ⟨rfl, rfl, rfl⟩, pst_of_bad _ HP8.out E2.out, HC8.out⟩
    | false =>
      obtain ⟨sr, ppr, hlr⟩ := hP
      obtain ⟨⟨a0r, a1r⟩, g0r, g1r⟩ := two_at ppr.2
      have hri := rright_any (k, n, s) wc
      unfold vagg at hri
      simp only [] at hri
      cases hv : vright (k, n, s) with
      | false =>
        have E1 := Lib.hid (hE2 rfl hv).1
        have E2 := Lib.hid (hE2 rfl hv).2
        rw [hv] at hri
        have HRI := Lib.hid hri
        clear hE1 hE2 hE3 hB hZ hC hri hv ppr hlr
        go_wp2_with fail
        refine HRI.out.mono ?_
        rintro e w5 ⟨rfl, hb5⟩
        have HP5 := Lib.hid (HPc.out.below hb5)
        have HC5 := Lib.hid (HCc.out.thenB hb5)
        have HZ5 := Lib.hid ((hb5.block w.heap.size (by omega)).trans HZc.out)
        have hs5 := hb5.size
        clear hb5 HPc HCc HZc HBc HRI
        obtain ⟨st, ppt, _⟩ := HP5.out
        have hplt := ppt.1
        obtain ⟨⟨a0t, a1t⟩, g0t, g1t⟩ := two_at ppt.2
        have h4t := ppt.bad
        have hC4t := HC5.out.setCell (p := ⟨p, 1, none⟩) (.inr rfl) (.bool true)
        have hZ4t : (w5.setCell ⟨p, 1, none⟩ (.bool true)).heap[w.heap.size]? = some (.cells #[.int .i64 0, .int .i64 0, .string ⟨#[]⟩] 35 (0, 0)) := by rw [Below.heap_setCell _ _ _ _ (by simp only [ne_eq]; omega)]; exact HZ5.out
        obtain ⟨⟨c0t, c1t, c2t⟩, f0t, f1t, f2t⟩ := val_at hZ4t
        have HS8 := Lib.hid (vset3 hZ4t (.int .i64 0) (.int .i64 0) (.string ⟨#[]⟩))
        have HP8 := Lib.hid (h4t.far3 hzp (.int .i64 0) (.int .i64 0) (.string ⟨#[]⟩))
        have HC8 := Lib.hid (hC4t.set3 (B := w.heap.size) (Nat.le_refl _) (.int .i64 0) (.int .i64 0) (.string ⟨#[]⟩))
        clear h4t hC4t hZ4t
        clear ppt HP5 HC5 HZ5
        go_wp2
        generalize (((w5.setCell ⟨p, 1, none⟩ (.bool true)).setCell ⟨w.heap.size, 0, none⟩ (.int .i64 0)).setCell ⟨w.heap.size, 1, none⟩ (.int .i64 0)).setCell ⟨w.heap.size, 2, none⟩ (.string ⟨#[]⟩) = w9 at HS8 HP8 HC8 ⊢
        obtain ⟨⟨d0, d1, d2⟩, _⟩ := val_at HS8.out
        simp [bodyPost, results, Try.results48, go_sem, d0, d1, d2]
        exact ⟨by rw [E1.out]; exact ⟨rfl, rfl, rfl⟩, pst_of_bad _ HP8.out E2.out, HC8.out⟩
      | true =>
        have E3 := Lib.hid (hE3 rfl hv)
        rw [hv] at hri
        have HRI := Lib.hid hri
        clear hE1 hE2 hE3 hB hZ hC hri hv ppr hlr
        go_wp2_with fail
        refine HRI.out.mono ?_
        rintro e w5 ⟨rfl, hb5⟩
        have HP5 := Lib.hid (HPc.out.below hb5)
        have HC5 := Lib.hid (HCc.out.thenB hb5)
        have hZ5 := (hb5.block w.heap.size (by omega)).trans HZc.out
        have hB5 := (hb5.block w2.heap.size (by omega)).trans HBc.out
        have hs5 := hb5.size
        obtain ⟨⟨c0t, c1t, c2t⟩, f0t, f1t, f2t⟩ := val_at hZ5
        obtain ⟨⟨b0t, b1t, b2t⟩, _⟩ := val_at hB5
        have HS8 := Lib.hid (vset3 hZ5 (.int .i64 k) (.int .i64 n) (.string s))
        have HP8 := Lib.hid (HP5.out.set3 hzp (.int .i64 k) (.int .i64 n) (.string s))
        have HC8 := Lib.hid (HC5.out.set3 (B := w.heap.size) (Nat.le_refl _) (.int .i64 k) (.int .i64 n) (.string s))
        clear hb5 HPc HCc HZc HBc HRI hZ5 hB5 HP5 HC5
        go_wp2
        generalize ((w5.setCell ⟨w.heap.size, 0, none⟩ (.int .i64 k)).setCell ⟨w.heap.size, 1, none⟩ (.int .i64 n)).setCell ⟨w.heap.size, 2, none⟩ (.string s) = w9 at HS8 HP8 HC8 ⊢
        obtain ⟨⟨d0, d1, d2⟩, _⟩ := val_at HS8.out
        simp [bodyPost, results, Try.results48, go_sem, d0, d1, d2]
        exact ⟨by rw [E3.out]; exact ⟨rfl, rfl, rfl⟩, by rw [E3.out]; exact HP8.out, HC8.out⟩
end Go.Proofs.Ytapcnpocaffeoab
