/- Contracts: rows of the reader, and of the document's own one. -/
import Derived.Test.YtapcnpocaffeoabRws
namespace Go.Proofs.Ytapcnpocaffeoab
open Go.RowKit
set_option maxHeartbeats 1000000 in
theorem rclo_any (b B1 B2 : Nat) (cols : Int) (h1 : cols ≤ 9223372036854775807) (l : List UInt8) (bad : Bool) (w : World) (h : RAt w b l bad) (c1 : w.heap[B1]? = some (.cells #[.pointer (some ⟨b, 0, none⟩)] 54 (0, 0))) (c2 : w.heap[B2]? = some (.cells #[.int .i64 cols] 3 (0, 0))) :
    Calls Try.prog 58 #[.pointer (some ⟨B1, 0, none⟩), .pointer (some ⟨B2, 0, none⟩)] w fun e w' =>
      RowRet w.heap.size (rowS cols l bad).1 e w' ∧ RAt w' b (rowS cols l bad).2.1 (rowS cols l bad).2.2 ∧ Chg (· = b) w w' := by
  have HL := Lib.hid (rrow_any b cols h1 l bad w h)
  have d1 := Lib.cell_of_heap c1 0
  have d2 := Lib.cell_of_heap c2 0
  clear c1 c2 h
  go_enter Try.func58, Try.ntmps58
  go_wp2_with fail
  refine HL.out.mono ?_
  rintro e w2 ⟨⟨a, c, rfl, hv⟩, hR, hC⟩
  have HV := Lib.hid hv
  have HR := Lib.hid hR
  have HC := Lib.hid hC
  clear hv hR hC HL
  go_wp2
  go_ret
  exact ⟨⟨a, c, rfl, HV.out⟩, HR.out, HC.out⟩
theorem own_row {w : World} {B k : Nat} {t : TypeId} {v : Value} {n : Nat} {xs : List Value} (h : w.ownsRow B t k v n xs) (g : Nat) (hk : v.ownBlock = some g) : ∃ cs, w.heap[g]? = some (.cells cs t (0, 0)) := by
  rcases h.2 with ⟨hv, _⟩ | ⟨g', cap, cur, hv, _, hg, _⟩
  · rw [hv] at hk; cases hk
  · rw [hv] at hk; injection hk with hk; subst hk; exact ⟨cur, hg⟩
set_option maxRecDepth 100000 in
set_option maxHeartbeats 2000000 in
theorem rlist2_any (b B1 B2 : Nat) (most cols : Int) (h1 : most ≤ 9223372036854775807) (h2 : cols ≤ 9223372036854775807) (l : List UInt8) (bd : Bool) (w : World) (h : RAt w b l bd) (q1 : w.heap[B1]? = some (.cells #[.pointer (some ⟨b, 0, none⟩)] 54 (0, 0))) (q2 : w.heap[B2]? = some (.cells #[.int .i64 cols] 3 (0, 0))) (hbB1 : B1 ≠ b) (hbB2 : B2 ≠ b) :
    Calls Try.prog 57 #[.pointer (some ⟨b, 0, none⟩), .int .i64 most, .func (.func 58) #[] #[.pointer (some ⟨B1, 0, none⟩), .pointer (some ⟨B2, 0, none⟩)]] w fun e w' =>
      FreshRows w.heap.size (rowsS most cols l bd).1 e w' ∧ RAt w' b (rowsS most cols l bd).2.1 (rowsS most cols l bd).2.2 ∧ Chg (· = b) w w' := by
  have hb0 : b < w.heap.size := h.1
  have hl30 := h.2.2.1
  have l1B : B1 < w.heap.size := (Array.getElem?_eq_some_iff.1 q1).1
  have l2B : B2 < w.heap.size := (Array.getElem?_eq_some_iff.1 q2).1
  have Q1 := Lib.hid q1
  have Q2 := Lib.hid q2
  have hsz := rsize_any b most h1 l bd w h
  clear q1 q2
  obtain ⟨i0, hi, iz0, iz1, iz2⟩ := info_parts info1_row
  obtain ⟨S, hS⟩ : ∃ S, S = rowsS most cols l bd := ⟨_, rfl⟩
  rw [← hS]
  unfold rowsS at hS
  have hn := sizeS_le most h1 l bd
  have hln : (sizeS most l bd).2.1.length ≤ l.length := by
    unfold sizeS
    split
    · simp
    · exact (numberS_len _ l bd).1
  obtain ⟨⟨N, l1, b1⟩, hp⟩ : ∃ p, p = sizeS most l bd := ⟨_, rfl⟩
  rw [← hp] at hsz hS hn hln
  simp only at hsz hS hn hln
  obtain ⟨T, hT⟩ : ∃ T, T = rowsLS cols N l1 b1 := ⟨_, rfl⟩
  rw [← hT] at hS
  have HS := Lib.hid hS
  have HT := Lib.hid hT
  have HSZ := Lib.hid hsz
  clear hS hT hsz hp h
  go_enter Try.func57, Try.ntmps57
  go_wp2_with fail
  refine HSZ.out.mono ?_
  rintro e w2 ⟨rfl, hR2, hC2⟩
  have HR2 := Lib.hid hR2
  have HC2 := Lib.hid hC2
  clear hR2 hC2 HSZ
  go_wp2
  go_loopw [8] (fun sl wr => ∃ (done : List (List Val)) (a : Option Addr) (c : Nat) (xs : List Value) (l2 : List UInt8) (b2 : Bool), sl = .slice a done.length c ∧ wr.ownsRow w.heap.size 25 1 (.slice a done.length c) done.length xs ∧ Inner w.heap.size wr a done xs ∧ RAt wr b l2 b2 ∧ Chg (· = b) w wr ∧ done.length ≤ N ∧ done.length ≤ 1073741825 ∧ (b2 = false → done.length + l2.length ≤ 1073741824) ∧ Hid (T = (done ++ (rowsLS cols (N - done.length) l2 b2).1, (rowsLS cols (N - done.length) l2 b2).2))) (fun sl _ => N - lenOf sl)
  case atStart => exact ⟨[], none, 0, [], l1, b1, rfl, World.ownsRow_nil _ _ _ _, (fun i vs h => by simp at h), HR2.out, HC2.out, Nat.zero_le _, by simp, fun _ => by simp; omega, HT⟩
  case round =>
    obtain ⟨done, a, c, xs, l2, b2, rfl, hown, hin, hR, hC, hdN, hd1, hd2, hTT⟩ := hrel
    have HG := Lib.hid (good_any b l2 b2 wr hR)
    have HO := Lib.hid hown
    have HI := Lib.hid hin
    have HRR := Lib.hid hR
    have HCC := Lib.hid hC
    have HD2 := Lib.hid hd2
    clear hown hin hR hC hd2
    cases hb2 : b2 with
    | true =>
        subst hb2
        have HS1 : Hid (S = ([], l2, true)) := by
          have := hTT.out
          rw [rowsLS_bad] at this
          rw [HS.out, this]; rfl
        clear hTT HS HD2
        go_wp2_with fail
        refine HG.out.mono ?_
        rintro e w3 ⟨rfl, hE⟩
        subst hE
        go_wp2_with fail
        refine HG.out.mono ?_
        rintro e w3 ⟨rfl, hE⟩
        subst hE
        go_wp2
        go_ret
        rw [HS1.out]
        exact ⟨⟨none, 0, rfl, .inl rfl⟩, HRR.out, HCC.out⟩
    | false =>
      subst hb2
      by_cases hlt : done.length < N
      · have hlt' : decide ((done.length : Int) < (N : Int)) = true := decide_eq_true (by omega)
        have hd3 := HD2.out rfl
        have hval := rclo_any b B1 B2 cols h2 l2 false wr HRR.out ((HCC.out.block B1 l1B hbB1).trans Q1.out) ((HCC.out.block B2 l2B hbB2).trans Q2.out)
        have hvl := rowS_lt cols l2
        have hTn := hTT.out
        rw [show N - done.length = (N - (done.length + 1)) + 1 by omega, rowsLS_good] at hTn
        obtain ⟨⟨vs, l3, b3⟩, hp⟩ : ∃ p, p = rowS cols l2 false := ⟨_, rfl⟩
        rw [← hp] at hval hvl hTn
        simp only at hval hvl hTn
        have HTN : Hid (T = ((done ++ [vs]) ++ (rowsLS cols (N - (done.length + 1)) l3 b3).1, (rowsLS cols (N - (done.length + 1)) l3 b3).2)) := by
          rw [hTn]; simp [Hid]
        have HVL := Lib.hid hvl.2
        have hvl1 := hvl.1
        have HVV := Lib.hid hval
        clear hval hvl hTn hTT hp HD2
        go_wp2_with fail
        refine HG.out.mono ?_
        rintro e w3 ⟨rfl, hE⟩
        subst hE
        go_wp2_with fail
        refine HVV.out.mono ?_
        rintro e w4 ⟨⟨ra, rc, rfl, hrv, hrf⟩, hR4, hC4⟩
        have hz4 := hC4.size
        have hzr := HCC.out.size
        have hO4 := own_chg HO.out hC4 hb0
        have hxl : xs.length = done.length := by have := hO4.1; simpa using this
        have hlt4 := hO4.lt
        have hltr := HO.out.lt
        have HO4 := Lib.hid hO4
        have HI4 := Lib.hid (HI.out.chg hC4 (fun k hk e => by have e' : k = b := e; omega))
        have HV4 := Lib.hid hrv
        have HF4 : Hid (vs ≠ [] → ∀ y, ra = some y → w.heap.size ≤ y.block ∧ ∀ z, a = some z → z.block ≠ y.block) := by
          intro hn y hy
          have := hrf hn y hy
          refine ⟨by omega, fun z hz e => ?_⟩
          subst hz
          have := (hltr z.block rfl).2
          omega
        have HR4 := Lib.hid hR4
        have HC4 := Lib.hid (HCC.out.trans hC4)
        clear hR4 hC4 HO HI HRR HCC HVV hrv hrf hO4 hltr HG
        go_wp2_with (at_builtin; refine wpList_append_lies _ rfl (.tmp 20) (.tmp 23) 26 rfl w.heap.size 25 i0 (.slice none 0 0) 1 24 Try.underlying26 hi iz0 iz1 iz2 rfl (by decide) _ done.length xs rfl (HO4.out.alloc _) ⟨w4.heap.size, 0, none⟩ 1 1 [.slice ra vs.length rc] rfl rfl (one_cell_new _ _ _) ?c1 (by decide) ?c2 ?c3 ?c4 (w4.heap.size + 1) ?c5 ?_)
        case c1 => simp [Value.oneCell']
        case c2 => unfold maxLen; omega
        case c3 => omega
        case c4 => simp; omega
        case c5 => simp
        intro g cap w5 hown5 hgrow hat hgl
        have hA4 : Below w4.heap.size w4 (w4.alloc (.cells #[.slice ra vs.length rc] 25)) := (Below.refl _ _).alloc (Nat.le_refl _) _
        have hC5 : Chg (· = b) w w5 := (HC4.out.thenB hA4).grown hgrow (fun k hk => .inl (hlt4 k hk).1)
        have hI5 := HI4.out.push (c' := rc) hxl HV4.out HF4.out hgrow hat
        have hR5 : RAt w5 b l3 b3 := by
          refine (HR4.out.below hA4).grown hgrow (fun e => by have := (hlt4 b e).1; omega) (fun k' hk' => ?_)
          obtain ⟨cs, hcs⟩ := own_row (HO4.out.alloc (.cells #[.slice ra vs.length rc] 25)) k' hk'
          exact ⟨cs, _, hcs, by decide⟩
        have HO5 := Lib.hid hown5
        have HI5 := Lib.hid hI5
        have HR5 := Lib.hid hR5
        have HC5 := Lib.hid hC5
        clear hown5 hgrow hat hgl hA4 hC5 hR5 HO4 HR4 HC4 hlt4 hI5 HI4 HV4 HF4
        go_wp2
        go_roundw
        case rel =>
          refine ⟨done ++ [vs], some ⟨g, 0, none⟩, cap, xs ++ [.slice ra vs.length rc], l3, b3, by rw [List.length_append]; rfl, ?_, HI5.out, HR5.out, HC5.out, ?_, ?_, ?_, ?_⟩
          · rw [List.length_append]; exact HO5.out
          · rw [List.length_append]; exact hlt
          · simp; omega
          · intro hb3; have := HVL.out hb3; simp; omega
          · rw [List.length_append]; exact HTN
        case measure => simp [lenOf]; omega
      · have hlt' : decide ((done.length : Int) < (N : Int)) = false := decide_eq_false (by omega)
        have hTn := hTT.out
        rw [show N - done.length = 0 by omega] at hTn
        have HS1 : Hid (S = (done, l2, false)) := by rw [HS.out, hTn]; simp [rowsLS, Hid]
        clear hTT hTn HS HD2
        go_wp2_with fail
        refine HG.out.mono ?_
        rintro e w3 ⟨rfl, hE⟩
        subst hE
        go_wp2_with fail
        refine HG.out.mono ?_
        rintro e w3 ⟨rfl, hE⟩
        subst hE
        go_wp2
        go_ret
        rw [HS1.out]
        exact ⟨⟨a, c, rfl, HI.out.rowsAt HO.out⟩, HRR.out, HCC.out⟩
set_option maxRecDepth 100000 in
set_option maxHeartbeats 1000000 in
theorem rrowss_any (b : Nat) (most cols : Int) (h1 : most ≤ 9223372036854775807) (h2 : cols ≤ 9223372036854775807) (l : List UInt8) (bd : Bool) (w : World) (h : RAt w b l bd) :
    Calls Try.prog 32 #[.pointer (some ⟨b, 0, none⟩), .int .i64 most, .int .i64 cols] w fun e w' =>
      FreshRows w.heap.size (rowsS most cols l bd).1 e w' ∧ RAt w' b (rowsS most cols l bd).2.1 (rowsS most cols l bd).2.2 ∧ Chg (· = b) w w' := by
  have hb0 : b < w.heap.size := h.1
  obtain ⟨W1, hW1⟩ : ∃ W1, W1 = w.alloc (.cells #[.pointer (some ⟨b, 0, none⟩)] 54) := ⟨_, rfl⟩
  obtain ⟨W2, hW2⟩ : ∃ W2, W2 = W1.alloc (.cells #[.int .i64 cols] 3) := ⟨_, rfl⟩
  have hs1 : W1.heap.size = w.heap.size + 1 := by rw [hW1]; simp
  have hs2 : W2.heap.size = w.heap.size + 2 := by rw [hW2]; simp [hs1]
  have hA1 : Below w.heap.size w W1 := by rw [hW1]; exact (Below.refl _ _).alloc (Nat.le_refl _) _
  have hA2 : Below W1.heap.size W1 W2 := by rw [hW2]; exact (Below.refl _ _).alloc (Nat.le_refl _) _
  have c1 : W1.heap[w.heap.size]? = some (.cells #[.pointer (some ⟨b, 0, none⟩)] 54 (0, 0)) := by rw [hW1]; exact Array.getElem?_push_size
  have c2 : W2.heap[w.heap.size + 1]? = some (.cells #[.int .i64 cols] 3 (0, 0)) := by rw [hW2, ← hs1]; exact Array.getElem?_push_size
  have c1' := (hA2.block w.heap.size (by omega)).trans c1
  have hR2 := (h.below hA1).below hA2
  have hL := rlist2_any b w.heap.size (w.heap.size + 1) most cols h1 h2 l bd W2 hR2 c1' c2 (by omega) (by omega)
  have d1 := Lib.cell_of_heap c1' 0
  have HL := Lib.hid hL
  have HA := Lib.hid (Below.thenB hA1 (by omega) hA2)
  have HW1 := Lib.hid hW1.symm
  have HW2 := Lib.hid hW2.symm
  clear hL c1 c2 c1' hA1 hA2 hR2 hW1 hW2 h
  go_enter Try.func32, Try.ntmps32
  go_upto_region 1 with fail
  rw [HW1.out, HW2.out]
  go_wp2_with fail
  refine HL.out.mono ?_
  rintro e w3 ⟨⟨a, c, rfl, hv⟩, hR, hC⟩
  have HV := Lib.hid (hv.mono (fun k hk => (by omega : w.heap.size ≤ k)))
  have HR := Lib.hid hR
  have HC := Lib.hid ((Chg.ofBelow HA.out).trans hC)
  clear hv hR hC HL
  go_wp2
  go_ret
  exact ⟨⟨a, c, rfl, HV.out⟩, HR.out, HC.out⟩
set_option maxRecDepth 100000 in
set_option maxHeartbeats 2000000 in
theorem prows_any (p : Nat) (most cols : Int) (h1 : most ≤ 9223372036854775807) (h2 : cols ≤ 9223372036854775807) (l : List UInt8) (hl30 : l.length ≤ 1073741824) (bd : Bool) (w : World) (h : PSt w p l bd) :
    Calls Try.prog 51 #[.pointer (some ⟨p, 0, none⟩), .int .i64 most, .int .i64 cols] w fun e w' =>
      FreshRows w.heap.size (rowsS most cols l bd).1 e w' ∧ PSt w' p (rowsS most cols l bd).2.1 (rowsS most cols l bd).2.2 ∧ Chg (· = p) w w' := by
  have hb0 : p < w.heap.size := h.lt
  have hsz := psize_any p most h1 l bd w h
  obtain ⟨i0, hi, iz0, iz1, iz2⟩ := info_parts info1_row
  obtain ⟨S, hS⟩ : ∃ S, S = rowsS most cols l bd := ⟨_, rfl⟩
  rw [← hS]
  unfold rowsS at hS
  have hn := sizeS_le most h1 l bd
  have hln : (sizeS most l bd).2.1.length ≤ l.length := by
    unfold sizeS
    split
    · simp
    · exact (numberS_len _ l bd).1
  obtain ⟨⟨N, l1, b1⟩, hp⟩ : ∃ p, p = sizeS most l bd := ⟨_, rfl⟩
  rw [← hp] at hsz hS hn hln
  simp only at hsz hS hn hln
  obtain ⟨T, hT⟩ : ∃ T, T = rowsLS cols N l1 b1 := ⟨_, rfl⟩
  rw [← hT] at hS
  have HS := Lib.hid hS
  have HT := Lib.hid hT
  have HSZ := Lib.hid hsz
  clear hS hT hsz hp h
  go_enter Try.func51, Try.ntmps51
  go_wp2_with fail
  refine HSZ.out.mono ?_
  rintro e w2 ⟨rfl, hR2, hC2⟩
  have HR2 := Lib.hid hR2
  have HC2 := Lib.hid hC2
  clear hR2 hC2 HSZ
  go_wp2
  go_loopw [8, 9] (fun sl iv wr => ∃ (done : List (List Val)) (a : Option Addr) (c : Nat) (xs : List Value) (l2 : List UInt8) (b2 : Bool), sl = .slice a done.length c ∧ iv = .int .i64 (done.length : Int) ∧ wr.ownsRow w.heap.size 25 1 (.slice a done.length c) done.length xs ∧ Inner w.heap.size wr a done xs ∧ PSt wr p l2 b2 ∧ Chg (· = p) w wr ∧ done.length ≤ N ∧ done.length ≤ 1073741825 ∧ (b2 = false → done.length + l2.length ≤ 1073741824) ∧ Hid (T = (done ++ (rowsLS cols (N - done.length) l2 b2).1, (rowsLS cols (N - done.length) l2 b2).2))) (fun sl _ _ => N - lenOf sl)
  case atStart => exact ⟨[], none, 0, [], l1, b1, rfl, rfl, World.ownsRow_nil _ _ _ _, (fun i vs h => by simp at h), HR2.out, HC2.out, Nat.zero_le _, by simp, fun _ => by simp; omega, HT⟩
  case round =>
    obtain ⟨done, a, c, xs, l2, b2, rfl, rfl, hown, hin, hR, hC, hdN, hd1, hd2, hTT⟩ := hrel
    obtain ⟨sp, pp, hlp⟩ := id hR
    have hplt := pp.1
    obtain ⟨⟨c0, c1⟩, f0, f1⟩ := two_at pp.2
    have HO := Lib.hid hown
    have HI := Lib.hid hin
    have HRR := Lib.hid hR
    have HCC := Lib.hid hC
    have HD2 := Lib.hid hd2
    clear hown hin hR hC hd2 pp hlp
    by_cases hlt : done.length < N
    · have hlt' : decide ((done.length : Int) < (N : Int)) = true := decide_eq_true (by omega)
      cases hb2 : b2 with
      | true =>
        subst hb2
        have HS1 : Hid (S = ([], l2, true)) := by
          have := hTT.out
          rw [rowsLS_bad] at this
          rw [HS.out, this]; rfl
        clear hTT HS HD2
        go_wp2
        go_ret
        rw [HS1.out]
        exact ⟨⟨none, 0, rfl, .inl rfl⟩, HRR.out, HCC.out⟩
      | false =>
        subst hb2
        have hd3 := HD2.out rfl
        have hval := prow_any p cols h2 l2 (by omega) false wr HRR.out
        have hvl := rowS_lt cols l2
        have hTn := hTT.out
        rw [show N - done.length = (N - (done.length + 1)) + 1 by omega, rowsLS_good] at hTn
        obtain ⟨⟨vs, l3, b3⟩, hp⟩ : ∃ p, p = rowS cols l2 false := ⟨_, rfl⟩
        rw [← hp] at hval hvl hTn
        simp only at hval hvl hTn
        have HTN : Hid (T = ((done ++ [vs]) ++ (rowsLS cols (N - (done.length + 1)) l3 b3).1, (rowsLS cols (N - (done.length + 1)) l3 b3).2)) := by
          rw [hTn]; simp [Hid]
        have HVL := Lib.hid hvl.2
        have hvl1 := hvl.1
        have HVV := Lib.hid hval
        clear hval hvl hTn hTT hp HD2
        go_wp2_with fail
        refine HVV.out.mono ?_
        rintro e w4 ⟨⟨ra, rc, rfl, hrv, hrf⟩, hR4, hC4⟩
        have hz4 := hC4.size
        have hzr := HCC.out.size
        have hO4 := own_chg HO.out hC4 hb0
        have hxl : xs.length = done.length := by have := hO4.1; simpa using this
        have hlt4 := hO4.lt
        have hltr := HO.out.lt
        have HO4 := Lib.hid hO4
        have HI4 := Lib.hid (HI.out.chg hC4 (fun k hk e => by have e' : k = p := e; omega))
        have HV4 := Lib.hid hrv
        have HF4 : Hid (vs ≠ [] → ∀ y, ra = some y → w.heap.size ≤ y.block ∧ ∀ z, a = some z → z.block ≠ y.block) := by
          intro hn y hy
          have := hrf hn y hy
          refine ⟨by omega, fun z hz e => ?_⟩
          subst hz
          have := (hltr z.block rfl).2
          omega
        have HR4 := Lib.hid hR4
        have HC4 := Lib.hid (HCC.out.trans hC4)
        clear hR4 hC4 HO HI HRR HCC HVV hrv hrf hO4 hltr
        go_wp2_with (at_builtin; refine wpList_append_lies _ rfl (.tmp 25) (.tmp 29) 26 rfl w.heap.size 25 i0 (.slice none 0 0) 1 24 Try.underlying26 hi iz0 iz1 iz2 rfl (by decide) _ done.length xs rfl (HO4.out.alloc _) ⟨w4.heap.size, 0, none⟩ 1 1 [.slice ra vs.length rc] rfl rfl (one_cell_new _ _ _) ?c1 (by decide) ?c2 ?c3 ?c4 (w4.heap.size + 1) ?c5 ?_)
        case c1 => simp [Value.oneCell']
        case c2 => unfold maxLen; omega
        case c3 => omega
        case c4 => simp; omega
        case c5 => simp
        intro g cap w5 hown5 hgrow hat hgl
        have hA4 : Below w4.heap.size w4 (w4.alloc (.cells #[.slice ra vs.length rc] 25)) := (Below.refl _ _).alloc (Nat.le_refl _) _
        have hC5 : Chg (· = p) w w5 := (HC4.out.thenB hA4).grown hgrow (fun k hk => .inl (hlt4 k hk).1)
        have hI5 := HI4.out.push (c' := rc) hxl HV4.out HF4.out hgrow hat
        have hR5 : PSt w5 p l3 b3 := (HR4.out.below hA4).grown hgrow (fun e => by have := (hlt4 p e).1; omega)
        have HO5 := Lib.hid hown5
        have HI5 := Lib.hid hI5
        have HR5 := Lib.hid hR5
        have HC5 := Lib.hid hC5
        clear hown5 hgrow hat hgl hA4 hC5 hR5 HO4 HR4 HC4 hlt4 hI5 HI4 HV4 HF4
        go_wp2
        go_roundw
        case rel =>
          refine ⟨done ++ [vs], some ⟨g, 0, none⟩, cap, xs ++ [.slice ra vs.length rc], l3, b3, by rw [List.length_append]; rfl, by simp, ?_, HI5.out, HR5.out, HC5.out, ?_, ?_, ?_, ?_⟩
          · rw [List.length_append]; exact HO5.out
          · rw [List.length_append]; exact hlt
          · simp; omega
          · intro hb3; have := HVL.out hb3; simp; omega
          · rw [List.length_append]; exact HTN
        case measure => simp [lenOf]; omega
    · have hlt' : decide ((done.length : Int) < (N : Int)) = false := decide_eq_false (by omega)
      have hTn := hTT.out
      rw [show N - done.length = 0 by omega] at hTn
      cases hb2 : b2 with
      | true =>
        subst hb2
        have HS1 : Hid (S = ([], l2, true)) := by rw [HS.out, hTn]; simp [rowsLS, Hid]
        clear hTT hTn HS HD2
        go_wp2
        go_ret
        rw [HS1.out]
        exact ⟨⟨none, 0, rfl, .inl rfl⟩, HRR.out, HCC.out⟩
      | false =>
        subst hb2
        have HS1 : Hid (S = (done, l2, false)) := by rw [HS.out, hTn]; simp [rowsLS, Hid]
        clear hTT hTn HS HD2
        go_wp2
        go_ret
        rw [HS1.out]
        exact ⟨⟨a, c, rfl, HI.out.rowsAt HO.out⟩, HRR.out, HCC.out⟩
end Go.Proofs.Ytapcnpocaffeoab
