/- Contracts of the document's own reader: Row. How many values bytes can have. -/
import Derived.Test.YtapcnpocaffeoabPg5
namespace Go.Proofs.Ytapcnpocaffeoab
open Go.RowKit
theorem valsS_len : ∀ (n : Nat) (l : List UInt8) (bd : Bool), (valsS n l bd).2.2 = false → (valsS n l bd).1.length + (valsS n l bd).2.1.length ≤ l.length ∧ (valsS n l bd).1.length = n
  | 0, l, bd, _ => by simp [valsS]
  | n + 1, l, true, h => by rw [valsS_bad] at h; cases h
  | n + 1, l, false, h => by
    rw [valsS_good] at h ⊢
    simp only at h ⊢
    have hb : (valS l false).2.2 = false := by
      cases hb : (valS l false).2.2 with
      | false => rfl
      | true => rw [hb, valsS_bad] at h; cases h
    have h1 := (valS_len l false).2 hb
    obtain ⟨h2, h3⟩ := valsS_len n _ _ h
    simp only [List.length_cons]
    omega
theorem rowS_len (most : Int) (l : List UInt8) (bd : Bool) : (rowS most l bd).1.length ≤ l.length := by
  unfold rowS
  simp only
  have h0 : (sizeS most l bd).2.1.length ≤ l.length := by
    unfold sizeS
    split
    · simp
    · exact (numberS_len _ l bd).1
  split
  · exact Nat.zero_le _
  · rename_i h
    have h' : (valsS (sizeS most l bd).1 (sizeS most l bd).2.1 (sizeS most l bd).2.2).2.2 = false := by simpa using h
    have := (valsS_len _ _ _ h').1
    omega
theorem PSt.grown {w w' : World} {p : Nat} {l : List UInt8} {bd : Bool} {row : Option Nat} (h : PSt w p l bd) (hg : w.grownBy w' row) (hb : row ≠ some p) : PSt w' p l bd :=
  h.imp fun _ h => ⟨⟨Nat.lt_of_lt_of_le h.1.1 hg.size, (hg.block p h.1.1 (Ne.symm hb)).trans h.1.2⟩, h.2⟩
set_option maxRecDepth 100000 in
set_option maxHeartbeats 2000000 in
theorem prow_any (p : Nat) (most : Int) (h1 : most ≤ 9223372036854775807) (l : List UInt8) (hl30 : l.length ≤ 1073741824) (bd : Bool) (w : World) (h : PSt w p l bd) :
    Calls Try.prog 50 #[.pointer (some ⟨p, 0, none⟩), .int .i64 most] w fun e w' =>
      FreshVals w.heap.size (rowS most l bd).1 e w' ∧ PSt w' p (rowS most l bd).2.1 (rowS most l bd).2.2 ∧ Chg (· = p) w w' := by
  obtain ⟨i0, hi, iz0, iz1, iz2⟩ := info_parts info3_val
  have hb0 : p < w.heap.size := h.lt
  have hsz := psize_any p most h1 l bd w h
  obtain ⟨S, hS⟩ : ∃ S, S = rowS most l bd := ⟨_, rfl⟩
  rw [← hS]
  unfold rowS at hS
  have hn := sizeS_le most h1 l bd
  have hln : (sizeS most l bd).2.1.length ≤ l.length := by
    unfold sizeS
    split
    · simp
    · exact (numberS_len _ l bd).1
  obtain ⟨⟨N, l1, b1⟩, hp⟩ : ∃ p, p = sizeS most l bd := ⟨_, rfl⟩
  rw [← hp] at hsz hS hn hln
  simp only at hsz hS hn hln
  obtain ⟨T, hT⟩ : ∃ T, T = valsS N l1 b1 := ⟨_, rfl⟩
  rw [← hT] at hS
  have HS := Lib.hid hS
  have HT := Lib.hid hT
  have HSZ := Lib.hid hsz
  clear hS hT hsz hp h
  go_enter Try.func50, Try.ntmps50
  go_wp2_with fail
  refine HSZ.out.mono ?_
  rintro e w2 ⟨rfl, hR2, hC2⟩
  have HR2 := Lib.hid hR2
  have HC2 := Lib.hid hC2
  clear hR2 hC2 HSZ
  go_wp2
  go_loopw [6, 7] (fun sl iv wr => ∃ (done : List Val) (a : Option Addr) (c : Nat) (l2 : List UInt8) (b2 : Bool), sl = .slice a done.length c ∧ iv = .int .i64 (done.length : Int) ∧ wr.ownsRow w.heap.size 35 3 (.slice a done.length c) done.length (rowcs done) ∧ PSt wr p l2 b2 ∧ Chg (· = p) w wr ∧ done.length ≤ N ∧ done.length ≤ 1073741825 ∧ (b2 = false → done.length + l2.length ≤ 1073741824) ∧ Hid (T = (done ++ (valsS (N - done.length) l2 b2).1, (valsS (N - done.length) l2 b2).2))) (fun sl _ _ => N - lenOf sl)
  case atStart => exact ⟨[], none, 0, l1, b1, rfl, rfl, World.ownsRow_nil _ _ _ _, HR2.out, HC2.out, Nat.zero_le _, by simp, fun _ => by simp; omega, HT⟩
  case round =>
    obtain ⟨done, a, c, l2, b2, rfl, rfl, hown, hR, hC, hdN, hd1, hd2, hTT⟩ := hrel
    obtain ⟨sp, pp, hlp⟩ := id hR
    have hplt := pp.1
    obtain ⟨⟨c0, c1⟩, f0, f1⟩ := two_at pp.2
    have HO := Lib.hid hown
    have HRR := Lib.hid hR
    have HCC := Lib.hid hC
    have HD2 := Lib.hid hd2
    clear hown hR hC hd2 pp hlp
    by_cases hlt : done.length < N
    · have hlt' : decide ((done.length : Int) < (N : Int)) = true := decide_eq_true (by omega)
      cases hb2 : b2 with
      | true =>
        subst hb2
        have HS1 : Hid (S = ([], l2, true)) := by
          have := hTT.out
          rw [valsS_bad] at this
          rw [HS.out, this]; rfl
        clear hTT HS HD2
        go_wp2
        go_ret
        rw [HS1.out]
        exact ⟨⟨none, 0, rfl, .inl rfl, fun h => absurd rfl h⟩, HRR.out, HCC.out⟩
      | false =>
        subst hb2
        have hval := pvalue_any p l2 false wr HRR.out
        have hvl := valS_len l2 false
        have hTn := hTT.out
        rw [show N - done.length = (N - (done.length + 1)) + 1 by omega, valsS_good] at hTn
        obtain ⟨⟨⟨k, n, s⟩, l3, b3⟩, hp⟩ : ∃ p, p = valS l2 false := ⟨_, rfl⟩
        rw [← hp] at hval hvl hTn
        simp only [vagg] at hval hvl hTn
        have hd3 := HD2.out rfl
        have HTN : Hid (T = ((done ++ [(k, n, s)]) ++ (valsS (N - (done.length + 1)) l3 b3).1, (valsS (N - (done.length + 1)) l3 b3).2)) := by
          rw [hTn]; simp [Hid]
        have HVL := Lib.hid hvl.2
        have hvl1 := hvl.1
        have HVV := Lib.hid hval
        clear hval hvl hTn hTT hp HD2
        go_wp2_with fail
        refine HVV.out.mono ?_
        rintro e w4 ⟨rfl, hR4, hC4⟩
        have hz4 := hC4.size
        have hzr := HCC.out.size
        have HO4 := Lib.hid (own3_chg HO.out hC4 hb0)
        have HR4 := Lib.hid hR4
        have HC4 := Lib.hid (HCC.out.trans hC4)
        have hlt4 := (HO4.out.lt)
        clear hR4 hC4 HO HRR HCC HVV
        go_wp2_with (at_builtin; refine wpList_append_lies _ rfl (.tmp 23) (.tmp 26) 25 rfl w.heap.size 35 i0 (.agg #[.int .i64 0, .int .i64 0, .string ⟨#[]⟩]) 3 32 Try.underlying25 hi iz0 iz1 iz2 rfl (by decide) _ done.length (rowcs done) rfl (HO4.out.alloc _) ⟨w4.heap.size, 0, none⟩ 1 1 [.int .i64 k, .int .i64 n, .string s] rfl rfl (three_new _ _ _ _ _) ?c1 (by decide) ?c2 ?c3 ?c4 (w4.heap.size + 1) ?c5 ?_)
        case c1 => simp [Value.oneCell']
        case c2 => unfold maxLen; omega
        case c3 => omega
        case c4 => simp; omega
        case c5 => simp
        intro g cap w5 hown5 hgrow hat hgl
        have hA4 : Below w4.heap.size w4 (w4.alloc (.cells #[.int .i64 k, .int .i64 n, .string s] 35)) := (Below.refl _ _).alloc (Nat.le_refl _) _
        have hC5 : Chg (· = p) w w5 := (HC4.out.thenB hA4).grown hgrow (fun k hk => .inl (hlt4 k hk).1)
        have hR5 : PSt w5 p l3 b3 := (HR4.out.below hA4).grown hgrow (fun e => by have := (hlt4 p e).1; omega)
        have HO5 := Lib.hid hown5
        have HR5 := Lib.hid hR5
        have HC5 := Lib.hid hC5
        clear hown5 hgrow hat hgl hA4 hC5 hR5 HO4 HR4 HC4 hlt4
        go_wp2
        go_roundw
        case rel =>
          refine ⟨done ++ [(k, n, s)], some ⟨g, 0, none⟩, cap, l3, b3, by rw [List.length_append]; rfl, by simp, ?_, HR5.out, HC5.out, ?_, ?_, ?_, ?_⟩
          · rw [rowcs_snoc, List.length_append]; exact HO5.out
          · rw [List.length_append]; exact hlt
          · simp; omega
          · intro hb3; have := HVL.out hb3; simp; omega
          · rw [List.length_append]; exact HTN
        case measure => simp [lenOf]; omega
    · have hlt' : decide ((done.length : Int) < (N : Int)) = false := decide_eq_false (by omega)
      have hTn := hTT.out
      rw [show N - done.length = 0 by omega] at hTn
      cases hb2 : b2 with
      | true =>
        subst hb2
        have HS1 : Hid (S = ([], l2, true)) := by rw [HS.out, hTn]; simp [valsS, Hid]
        clear hTT hTn HS HD2
        go_wp2
        go_ret
        rw [HS1.out]
        exact ⟨⟨none, 0, rfl, .inl rfl, fun h => absurd rfl h⟩, HRR.out, HCC.out⟩
      | false =>
        subst hb2
        have HS1 : Hid (S = (done, l2, false)) := by rw [HS.out, hTn]; simp [valsS, Hid]
        clear hTT hTn HS HD2
        go_wp2
        go_ret
        rw [HS1.out]
        exact ⟨⟨a, c, rfl, own3_vals HO.out, fun _ => own3_fresh HO.out⟩, HRR.out, HCC.out⟩
end Go.Proofs.Ytapcnpocaffeoab
