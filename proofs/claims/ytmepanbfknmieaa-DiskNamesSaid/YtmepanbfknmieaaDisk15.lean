/- Contract of disk's Append. -/
import Derived.Test.YtmepanbfknmieaaDisk14
import Derived.Test.YtmepanbfknmieaaDApp
import Derived.Lib.BufferMore
namespace Go.Proofs.Ytmepanbfknmieaa
open Go.RowKit Go.Maps
attribute [local go_sem ↓] Go.wp_at_zero Go.wp_at_succ
/-- What Append makes of a disk, and what it answers. -/
def appM (M : DM) (s : ByteArray) (news : List UInt8) : DM × Int :=
  if askM M [s] = 0 then
    (let y := (fget M.files s.data.toList).getD ([], 0)
     let r := refusesM M.files M.room s.data.toList (((y.1.length + news.length : Nat)) : Int)
     if r = 0 then ({ (useM M).1 with files := fput M.files s.data.toList (y.1 ++ news, y.2) }, 0) else ((useM M).1, r))
  else ((useM M).1, askM M [s])
theorem refusesM_big (fs : List (List UInt8 × MF)) (room : Int) (k : List UInt8) (n t : Nat) (r : Int) (h1 : t ≤ 1048576 → r = (t : Int)) (h2 : 1048576 < t → 1048576 < r) : refusesM fs room k ((n : Int) + r) = refusesM fs room k (((n + t : Nat)) : Int) := by
  by_cases ht : t ≤ 1048576
  · rw [h1 ht]; simp
  · have hr := h2 (by omega)
    unfold refusesM
    rw [if_pos (.inl (by omega)), if_pos (.inl (by omega))]
theorem refusesM_ok {fs : List (List UInt8 × MF)} {room : Int} {k : List UInt8} {n : Nat} (h : refusesM fs room k (n : Int) = 0) : n ≤ 1048576 ∧ (fget fs k = none → fs.length < 100) := by
  unfold refusesM at h
  by_cases hc : 1048576 < (n : Int) ∨ fget fs k = none ∧ 100 ≤ fs.length
  · rw [if_pos hc] at h; cases h
  · refine ⟨?_, fun hn => ?_⟩
    · apply Classical.byContradiction
      intro hh
      exact hc (.inl (by omega))
    · apply Classical.byContradiction
      intro hh
      exact hc (.inr ⟨hn, by omega⟩)
theorem refusesM_range (fs : List (List UInt8 × MF)) (room : Int) (k : List UInt8) (n : Int) : refusesM fs room k n = 5 ∨ refusesM fs room k n = 6 ∨ refusesM fs room k n = 0 := by
  unfold refusesM
  split
  · exact .inl rfl
  · split
    · exact .inr (.inl rfl)
    · exact .inr (.inr rfl)
theorem askM_ok {M : DM} {s : ByteArray} (h : askM M [s] = 0) : mayB s = true := by
  unfold askM at h
  split at h
  · cases h
  · split at h
    · rename_i hm; simpa using hm
    · cases h
theorem mayB_le {s : ByteArray} (h : mayB s = true) : 0 < s.size ∧ s.size ≤ 20 := by
  unfold mayB at h
  simpa using h
theorem str_b8 (s : ByteArray) : Lib.strCells s = b8s s.data.toList := rfl
theorem b8_app (a b : List UInt8) : b8s (a ++ b) = b8s a ++ b8s b := by simp [b8s]
theorem b8_len (l : List UInt8) : (b8s l).length = l.length := by simp [b8s]
/-- Of no file: nothing. -/
def zfx : FX := ⟨none, 0, [], 0⟩
theorem getD_raw (L : List (List UInt8 × FX)) (k : List UInt8) : (fget (mapV FX.raw L) k).getD zraw = ((fget L k).getD zfx).raw := by
  rw [mapV_get]
  cases fget L k <;> rfl
theorem getD_mf (L : List (List UInt8 × FX)) (k : List UInt8) : (fget (mapV FX.mf L) k).getD ([], 0) = ((fget L k).getD zfx).mf := by
  rw [mapV_get]
  cases fget L k <;> rfl
theorem DskIn.getD_row {w : World} {b : Nat} {S : Nat → Prop} {M : DM} {mb : Option Nat} {L : List (List UInt8 × FX)} (h : DskIn w b S M mb L) (k : List UInt8) : FRow w ((fget L k).getD zfx) := by
  cases hg : fget L k with
  | none => exact RowS_nil _ _
  | some y => exact h.rows _ (fget_mem hg)
theorem DskIn.getD_own {w : World} {b : Nat} {S : Nat → Prop} {M : DM} {mb : Option Nat} {L : List (List UInt8 × FX)} (_ : DskIn w b S M mb L) {k : List UInt8} {g : Nat} (hg : ((fget L k).getD zfx).row.ownBlock = some g) : ∃ y, fget L k = some y ∧ y.row.ownBlock = some g := by
  cases hy : fget L k with
  | none => rw [hy] at hg; cases hg
  | some y => rw [hy] at hg; exact ⟨y, rfl, hg⟩
set_option maxRecDepth 100000 in
set_option maxHeartbeats 4000000 in
theorem DskIn.append {w : World} {b : Nat} {S : Nat → Prop} {M : DM} {mb : Option Nat} {L : List (List UInt8 × FX)} (h : DskIn w b S M mb L) (s : ByteArray) (hs : s.size ≤ 281474976710656) (a : Option Addr) (m c : Nat) (ss : List ByteArray) (hl : ss.length = m) (hm : m ≤ 1048576) (hsz : ∀ x ∈ ss, x.size ≤ 1073741824) (hz : Texts w a ss) (hab : ss ≠ [] → ∀ x, a = some x → ¬ S x.block) :
    Calls Try.prog 20 #[.pointer (some ⟨b, 0, none⟩), .string s, .slice a m c] w fun e w' => e = .returned (.int .i64 (appM M s (joinB ss)).2) ∧ DOut w w' b S (appM M s (joinB ss)).1 := by
  obtain ⟨i0, hi, hz0, hz1, hz2⟩ := info_parts info_b8
  obtain ⟨W1, hW1⟩ : ∃ W, W = w.alloc (.cells #[.string s] 9) := ⟨_, rfl⟩
  have hB1 : Below w.heap.size w W1 := by rw [hW1]; exact (Below.refl _ _).alloc (Nat.le_refl _) _
  have hbl := h.at_.lt
  have hA := (h.below hB1).ask (some ⟨w.heap.size, 0, none⟩) 1 1 [s] rfl (by omega) (by simpa using hs) (by rw [hW1]; exact one_text w s) (fun _ x hx => by injection hx with hx; subst hx; show w.heap.size ≠ b; omega)
  have hS := h.lt
  obtain ⟨R, hR⟩ : ∃ R, R = appM M s (joinB ss) := ⟨_, rfl⟩
  rw [← hR]
  unfold appM at hR
  have hrng := askM_le M [s]
  have hask := fun hh : askM M [s] = 0 => mayB_le (askM_ok hh)
  obtain ⟨q, hq⟩ : ∃ q, q = askM M [s] := ⟨_, rfl⟩
  rw [← hq] at hA hR hrng hask
  have HA := Lib.hid hA
  have HW1 := Lib.hid hW1.symm
  have HB1 := Lib.hid hB1
  have HS := Lib.hid hS
  have HZ := Lib.hid hz
  have HZ0 := Lib.hid hz
  have HL := Lib.hid hl
  have HSZ := Lib.hid hsz
  have HAB := Lib.hid hab
  have HH := Lib.hid h
  clear hA hW1 hB1 hS hz hl hsz hab h hq
  go_enter Try.func20, Try.ntmps20
  by_cases hq0 : q = 0
  · obtain ⟨_, hmy⟩ := hask hq0
    subst hq0
    rw [if_pos rfl] at hR
    clear hask
    go_wp2_with fail
    rw [HW1.out]
    refine HA.out.mono ?_
    rintro e w2 ⟨rfl, h2, hc2⟩
    have hc02 : Chg S w w2 := (Chg.ofBelow HB1.out).trans (hc2.mono (fun k _ e => by rw [e]; exact h2.sb))
    have hbl2 : b < w2.heap.size := h2.at_.lt
    have hlk := look_files h2.map s (by unfold maxLen; omega)
    rw [getD_raw] at hlk
    have hrow := h2.getD_row s.data.toList
    have hown := fun g => h2.getD_own (k := s.data.toList) (g := g)
    have hfs : (useM M).1.files = mapV FX.mf L := h2.files
    have hgm := getD_mf L s.data.toList
    rw [← HH.out.files] at hgm
    rw [hgm] at hR
    obtain ⟨y, hy⟩ : ∃ y, y = (fget L s.data.toList).getD zfx := ⟨_, rfl⟩
    rw [← hy] at hlk hrow hR
    have hown' : ∀ g, y.row.ownBlock = some g → ∃ y, fget L s.data.toList = some y ∧ y.row.ownBlock = some g := by rw [hy]; exact hown
    have hkd : y.kept ≤ y.data.length := by
      rw [hy]
      cases hg : fget L s.data.toList with
      | none => exact Nat.le_refl _
      | some z =>
        have hm := fget_mem hg
        have : (s.data.toList, z.mf) ∈ M.files := by rw [HH.out.files]; exact List.mem_map.2 ⟨_, hm, rfl⟩
        exact (HH.out.fine.2.2.1 _ this).2.2
    have hyl : y.data.length ≤ 1048576 := by
      rw [hy]
      cases hg : fget L s.data.toList with
      | none => exact Nat.zero_le _
      | some z =>
        have hm := fget_mem hg
        have : (s.data.toList, z.mf) ∈ M.files := by rw [HH.out.files]; exact List.mem_map.2 ⟨_, hm, rfl⟩
        exact (HH.out.fine.2.2.1 _ this).2.1
    have HY := Lib.hid hy
    clear hown hy hgm
    obtain ⟨⟨c0, c1, c2, c3, c4, c5⟩, _⟩ := six6_cells h2.at_
    simp only [DM.dk] at c0 c1 c2 c3 c4 c5
    obtain ⟨ya, yc, yd, yk⟩ := y
    simp only [FX.row, fileV] at hlk hrow hR hown' hkd hyl
    obtain ⟨n, hn⟩ : ∃ n, n = yd.length := ⟨_, rfl⟩
    obtain ⟨K, hK⟩ : ∃ K : Int, K = (yk : Int) := ⟨_, rfl⟩
    replace hrow : RowS w2 5 (.slice ya n yc) n (b8s yd) := by rw [hn]; exact hrow
    rw [← hn] at hlk hyl hR hkd hown'
    rw [← hK] at hlk
    obtain ⟨W3, hW3⟩ : ∃ W, W = w2.alloc (.cells #[.slice ya n yc, .int .i64 K] 72) := ⟨_, rfl⟩
    have hB3 : Below w2.heap.size w2 W3 := by rw [hW3]; exact (Below.refl _ _).alloc (Nat.le_refl _) _
    have hk3 : W3.heap[w2.heap.size]? = some (.cells #[.slice ya n yc, .int .i64 K] 72 (0, 0)) := by rw [hW3]; exact Array.getElem?_push_size
    have hs3 : w2.heap.size < W3.heap.size := by rw [hW3]; simp
    have x0 := Lib.cell_of_heap hk3 0
    have x1 := Lib.cell_of_heap hk3 1
    have hz3 : Texts W3.drew a ss := (HZ.out.chg hc02 HAB.out).below hB3.drew
    have hLN := length_any a m c ss W3.drew HL.out hm HSZ.out hz3
    have h3 : DskIn W3.drew b S (useM M).1 mb L := h2.below hB3.drew
    have hRF := fun (r : Int) (hr : 0 ≤ r ∧ r ≤ 1074790400) => h3.refuses s (by unfold maxLen; omega) ((n : Int) + r) (by omega)
    have hbig := fun r h1 h2 => refusesM_big (useM M).1.files (useM M).1.room s.data.toList n (joinB ss).length r h1 h2
    have hrr := refusesM_range M.files M.room s.data.toList (((n + (joinB ss).length : Nat)) : Int)
    have hrok := @refusesM_ok M.files M.room s.data.toList (n + (joinB ss).length)
    rw [(useM_files M).1, (useM_files M).2] at hbig hRF
    obtain ⟨rr, hrre⟩ : ∃ rr, rr = refusesM M.files M.room s.data.toList (((n + (joinB ss).length : Nat)) : Int) := ⟨_, rfl⟩
    rw [← hrre] at hbig hrr hrok
    rw [← hrre] at hR
    have hwr : ∀ r : Int, 0 ≤ r → r ≤ 1074790400 → IntKind.i64.wrap ((n : Int) + r) = (n : Int) + r := by intro r h0 h1; simp [IntKind.wrap, IntKind.bits, IntKind.signed]; omega
    have HLN := Lib.hid hLN
    have hRG := fun (r : Int) (hr : 0 ≤ r ∧ r ≤ 1074790400) h1 h2 => by
      have := hRF r hr
      rw [hbig r h1 h2] at this
      exact this
    have HRF := Lib.hid hRG
    clear hRG
    have HBIG := Lib.hid hbig
    have HROK := Lib.hid hrok
    have HWR := Lib.hid hwr
    have HW3 := Lib.hid hW3.symm
    have HB3 := Lib.hid hB3
    have HK3 := Lib.hid hk3
    have H2 := Lib.hid h2
    have HC := Lib.hid hc02
    have HROW := Lib.hid hrow
    have HOWN := Lib.hid hown'
    have HN := Lib.hid hn
    have HK := Lib.hid hK
    have HFS := Lib.hid hfs
    have HR := Lib.hid hR
    clear hLN hRF hbig hrok hwr hW3 hB3 hk3 h2 hc02 hrow hown' hn hK hfs hR h3 hz3 hc2 HA HW1 HZ hrre
    go_upto_region 5 with fail
    rw [HW3.out]
    go_wp2_with fail
    go_region_held3 (fun W => W.cell? ⟨w2.heap.size, 0, none⟩ = some (.slice ya n yc))
      (first | (with_reducible exact t0) | go_keep)
      (first
        | (go_at_call 42; refine (HRF.out r ⟨hr0, hr1⟩ hr2 hr3).mono ?_; rintro e w5 ⟨rfl, hb5⟩; have t0 := (hb5.cell (p := ⟨w2.heap.size, 0, none⟩) (by exact hs3)).trans (by exact x0))
        | (go_at_call 43; refine HLN.out.mono ?_; rintro e w4 ⟨⟨r, rfl, hr0, hr1, hr2, hr3⟩, hE⟩; subst hE; have hwq := HWR.out r hr0 hr1))
    have hb25 : Below w2.heap.size w2 w5 := Below.thenB HB3.out.drew HB3.out.size hb5
    have hb35 : Below W3.heap.size W3 w5 := Below.thenB ((Below.refl _ _).drew) (Nat.le_refl _) hb5
    have hs5 : w2.heap.size < w5.heap.size := Nat.lt_of_lt_of_le hs3 hb35.size
    have HB25 := Lib.hid hb25
    have HK5 := Lib.hid ((hb35.block w2.heap.size hs3).trans HK3.out)
    have H5 := Lib.hid (H2.out.below hb25)
    have HROW5 := Lib.hid (RowS.below HROW.out hb25)
    clear hb5 hb25 hb35 t0 HRF HLN hwq hr0 hr1 hr2 hr3
    by_cases hr0 : rr = 0
    · subst hr0
      have HR0 := Lib.hid (show R = ({ (useM M).1 with files := fput M.files s.data.toList (yd ++ joinB ss, yk) }, 0) by rw [HR.out, if_pos rfl])
      obtain ⟨hbig, hcnt⟩ := HROK.out rfl
      have HCNT := Lib.hid hcnt
      have hyS : ∀ g, (Value.slice ya n yc).ownBlock = some g → S g ∧ g ≠ b ∧ mb ≠ some g := by
        intro g hg
        obtain ⟨z, hz, hzg⟩ := HOWN.out g hg
        have hm := fget_mem hz
        exact ⟨H5.out.sr _ hm g hzg, fun e => H5.out.row_ne hm (by rw [hzg, e]), H5.out.row_mb hm hzg⟩
      have HYS := Lib.hid hyS
      have hSl : ∀ g, S g → g < w2.heap.size := H2.out.lt
      have HSL := Lib.hid hSl
      have htx : ∀ wr, Chg (fun g => g = w2.heap.size ∨ (Value.slice ya n yc).ownBlock = some g) w5 wr → Texts wr a ss := by
        intro wr hcr
        refine (((HZ0.out.chg HC.out HAB.out).below HB25.out).chg hcr ?_)
        rintro hn x rfl (hx | hx)
        · rcases HZ0.out with h0 | ⟨_, b', o', hx', hlt', _⟩
          · exact hn h0
          · injection hx' with hx'
            subst hx'
            have := HC.out.size
            have hx : b' = w2.heap.size := hx
            omega
        · exact HAB.out hn x rfl (hyS _ hx).1
      have HTX := Lib.hid htx
      clear hcnt hyS hSl htx HR HROK hrr HBIG HB3 HW3 HK3 x0 x1
      go_wp2
      go_loopw [39] (fun iv wr => ∃ (k : Nat) (a' : Option Addr) (n' c' : Nat), k ≤ m ∧ iv = .int .i64 (k : Int) ∧ Hid (n' = n + (joinB (ss.take k)).length) ∧ Hid (wr.heap[w2.heap.size]? = some (.cells #[.slice a' n' c', .int .i64 K] 72 (0, 0))) ∧ Hid (RowS wr 5 (.slice a' n' c') n' (b8s (yd ++ joinB (ss.take k)))) ∧ Hid (Chg (fun g => g = w2.heap.size ∨ (Value.slice ya n yc).ownBlock = some g) w5 wr) ∧ Hid (∀ g, (Value.slice a' n' c').ownBlock = some g → w5.heap.size ≤ g ∨ (Value.slice ya n yc).ownBlock = some g)) (fun iv _ => m - (intOf iv).toNat)
      case atStart => exact ⟨0, ya, n, yc, Nat.zero_le _, rfl, Lib.hid (by simp [joinB]), HK5, Lib.hid (by rw [List.take_zero]; simpa [joinB] using HROW5.out), Lib.hid (Chg.refl _ _), Lib.hid (fun g hg => .inr hg)⟩
      case round =>
        obtain ⟨k, a', n', c', hk, rfl, hn', hkr, hor, hcr, hwn⟩ := hrel
        have y0 := Lib.cell_of_heap hkr.out 0
        have y1 := Lib.cell_of_heap hkr.out 1
        have g0 := Lib.frozen_of_heap hkr.out 0
        have g1 := Lib.frozen_of_heap hkr.out 1
        have hsr := hcr.out.size
        have hnf : (Value.slice a' n' c').ownBlock ≠ some w2.heap.size := by
          intro e
          rcases hwn.out _ e with h1 | h1
          · omega
          · have := HSL.out _ (HYS.out _ h1).1
            omega
        have HNF := Lib.hid hnf
        clear hnf
        by_cases hlt : k < m
        · have hlt' : decide ((k : Int) < (m : Int)) = true := decide_eq_true (by omega)
          obtain ⟨bs, o, sk, rfl, hbs, hsk, s0⟩ := texts_at (HTX.out _ hcr.out) HL.out hlt (Below.refl _ _)
          have hj := joinB_take hsk
          have hle := joinB_take_le ss (k + 1)
          have hjl : (joinB (ss.take (k + 1))).length = (joinB (ss.take k)).length + sk.size := by rw [hj, List.length_append, blen]
          have hnk : n' + sk.size ≤ 1048576 := by rw [hn'.out]; omega
          have HN1 := Lib.hid (show n' + sk.size = n + (joinB (ss.take (k + 1))).length by rw [hn'.out, hjl]; omega)
          have HJ := Lib.hid (show b8s (yd ++ joinB (ss.take k)) ++ Lib.strCells sk = b8s (yd ++ joinB (ss.take (k + 1))) by rw [hj, str_b8, ← b8_app, List.append_assoc])
          clear hj hle hjl hsk
          go_wp2_with (at_builtin; refine wpList_append_str_new rfl (.tmp 44) (.tmp 45) 57 9 rfl 5 i0 Try.underlying57 Try.underlying9 hi hz0 hz1 hz2 _ _ _ rfl hor.out sk rfl ?c3 ?c4 ?_)
          case c3 => unfold maxLen; omega
          case c4 => omega
          intro v' w6 hown' hgr hnew
          rw [HJ.out] at hown'
          obtain ⟨a2, c2, rfl⟩ := RowS.form hown'
          have hlr : w2.heap.size < wr.heap.size := by omega
          have hk6 : w6.heap[w2.heap.size]? = some (.cells #[.slice a' n' c', .int .i64 K] 72 (0, 0)) := by
            rw [hgr.block w2.heap.size hlr (fun e => HNF.out e.symm)]; exact hkr.out
          have z0 := Lib.cell_of_heap hk6 0
          have z1 := Lib.cell_of_heap hk6 1
          have f0 := Lib.frozen_of_heap hk6 0
          have hk7 : (w6.setCell ⟨w2.heap.size, 0, none⟩ (.slice a2 (n' + sk.size) c2)).heap[w2.heap.size]? = some (.cells #[.slice a2 (n' + sk.size) c2, .int .i64 K] 72 (0, 0)) := by
            rw [Lib.heap_setCell_same hk6]; rfl
          have hc6 : Chg (fun g => g = w2.heap.size ∨ (Value.slice ya n yc).ownBlock = some g) w5 w6 := hcr.out.grown hgr (fun g hg => by
            rcases hwn.out g hg with h1 | h1
            · exact .inl h1
            · exact .inr (.inr h1))
          have hc7 := hc6.setCell (p := ⟨w2.heap.size, 0, none⟩) (.inr (.inl rfl)) (.slice a2 (n' + sk.size) c2)
          have hw7 : ∀ g, (Value.slice a2 (n' + sk.size) c2).ownBlock = some g → w5.heap.size ≤ g ∨ (Value.slice ya n yc).ownBlock = some g := by
            intro g hg
            rcases hnew with e | e
            · rw [e] at hg; exact hwn.out g hg
            · exact .inl (Nat.le_trans hsr (e g hg))
          have ho7 : RowS (w6.setCell ⟨w2.heap.size, 0, none⟩ (.slice a2 (n' + sk.size) c2)) 5 (.slice a2 (n' + sk.size) c2) (n' + sk.size) (b8s (yd ++ joinB (ss.take (k + 1)))) := by
            refine RowS.chg (T := (· = w2.heap.size)) hown' ((Chg.refl (· = w2.heap.size) w6).setCell (p := ⟨w2.heap.size, 0, none⟩) (.inr rfl) _) ?_
            rintro g e rfl
            rcases hw7 _ e with h1 | h1
            · omega
            · have := HSL.out _ (HYS.out _ h1).1
              omega
          have HK7 := Lib.hid hk7
          have HC7 := Lib.hid hc7
          have HW7 := Lib.hid hw7
          have HO7 := Lib.hid ho7
          clear hk6 hk7 hc6 hc7 hw7 ho7 hown' hgr hnew hn' hkr hor hcr hwn HJ HNF y0 y1 g0 g1 hsr
          go_wp2
          go_roundw
          case rel => exact ⟨k + 1, a2, n' + sk.size, c2, by omega, by go_num, HN1, HK7, HO7, HC7, HW7⟩
          case measure => simp [intOf]; omega
        · have hlt' : decide ((k : Int) < (m : Int)) = false := decide_eq_false (by omega)
          have hkm : ss.take k = ss := List.take_of_length_le (by rw [HL.out]; omega)
          rw [hkm] at hn' hor
          have hnT : ∀ g, S g → g ≠ w2.heap.size := fun g hg => by have := HSL.out g hg; omega
          have hda : DAt wr b ((useM M).1.dk mb) := dat_chg H5.out.at_ hcr.out (by
            rintro (h1 | h1)
            · exact hnT b H5.out.sb h1
            · exact (HYS.out _ h1).2.1 rfl)
          have hfa : FilesAt wr mb (mapV FX.raw L) := filesAt_chg H5.out.map hcr.out (by
            rintro g hg (h1 | h1)
            · exact hnT g (H5.out.sm g hg) h1
            · exact (HYS.out _ h1).2.2 hg)
          have hLAY := lay_any b ((useM M).1.dk mb) (mapV FX.raw L) s (a', n', c', K) wr (by unfold maxLen; omega) hda hfa (by
            rw [mapV_len]
            have := H5.out.fine.2.1
            rw [H5.out.files, mapV_len] at this
            unfold maxLen; omega)
          simp only [fileV] at hLAY
          have HLAY := Lib.hid hLAY
          clear hda hfa hLAY hkm hnT
          go_wp2_with fail
          refine HLAY.out.mono ?_
          rintro e w8 ⟨rfl, mb', hd8, hm8, hmb8, hc8⟩
          have hc28 : Chg (fun g => g = w2.heap.size ∨ (g = b ∨ mb = some g ∨ (Value.slice ya n yc).ownBlock = some g)) w2 w8 := by
            refine ((Chg.ofBelow HB25.out).trans (hcr.out.mono ?_)).trans (hc8.mono ?_)
            · rintro g _ (h1 | h1)
              · exact .inl h1
              · exact .inr (.inr (.inr h1))
            · rintro g _ (h1 | h1)
              · exact .inr (.inl h1)
              · exact .inr (.inr (.inl h1))
          have hlen8 : (yd ++ joinB ss).length = n' := by rw [List.length_append, ← HN.out, hn'.out]
          have hx8 : FRow w8 ⟨a', c', yd ++ joinB ss, yk⟩ := by
            unfold FRow
            simp only [FX.row]
            rw [hlen8]
            have hor8 := hor.out
            refine ⟨hor8.1, ?_⟩
            rcases hor8.2 with hv | ⟨g, cap, cur, fz, hv, hgg, rest⟩
            · exact .inl hv
            · refine .inr ⟨g, cap, cur, fz, hv, ?_, rest⟩
              rw [hc8.block g (Array.getElem?_eq_some_iff.1 hgg).1 ?_]
              · exact hgg
              · have hg := hwn.out g (by rw [hv]; rfl)
                rintro (h1 | h1)
                · rcases hg with h2 | h2
                  · have := HSL.out b H5.out.sb
                    omega
                  · exact (HYS.out _ h2).2.1 h1
                · rcases hg with h2 | h2
                  · have := HSL.out g (H5.out.sm g h1)
                    omega
                  · exact (HYS.out _ h2).2.2 h1
          have hlen8' : n' ≤ 1048576 := by rw [hn'.out]; exact hbig
          have hfin : DOut w2 w8 b S { (useM M).1 with files := fput M.files s.data.toList (yd ++ joinB ss, yk) } := by
            refine H2.out.put s.data.toList ⟨a', c', yd ++ joinB ss, yk⟩ hd8 ?_ ?_ ?_ hx8 ?_ ?_ ?_
            · show FilesAt w8 mb' (fput (mapV FX.raw L) s.data.toList (a', (yd ++ joinB ss).length, c', (yk : Int)))
              rw [hlen8, ← HK.out]
              exact hm8
            · rcases hmb8 with h1 | ⟨g, h1, h2, h3⟩
              · exact .inl h1
              · exact .inr ⟨g, h1, by have := HB25.out.size; have := hcr.out.size; omega, h3⟩
            · refine ⟨hc28.os, hc28.tape, hc28.output, hc28.size, fun g hg hT => hc28.block g hg ?_⟩
              rintro (h1 | h1 | h1 | h1)
              · omega
              · exact hT (.inl h1)
              · exact hT (.inr (.inl h1))
              · exact hT (.inr (.inr (HOWN.out g h1)))
            · intro g hg
              have hg : (Value.slice a' (yd ++ joinB ss).length c').ownBlock = some g := hg
              have hg' : (Value.slice a' n' c').ownBlock = some g := by
                rw [← hlen8]; exact hg
              rcases hwn.out g hg' with h1 | h1
              · exact .inl (by omega)
              · exact .inr (HOWN.out g h1)
            · show fput M.files s.data.toList (yd ++ joinB ss, yk) = fput (useM M).1.files s.data.toList (yd ++ joinB ss, yk)
              rw [(useM_files M).1]
            · have hfi := HH.out.fine
              have h1 : FineF (useM M).1.room M.files := by rw [(useM_files M).2]; exact hfi
              refine h1.put (by rw [blen]; exact hmy) ?_ ?_ HCNT.out
              · show (yd ++ joinB ss).length ≤ _
                rw [hlen8]; exact hlen8'
              · show yk ≤ (yd ++ joinB ss).length
                rw [hlen8, hn'.out]; omega
          have HFIN := Lib.hid (DOut.ahead HS.out HC.out hfin)
          clear hd8 hm8 hmb8 hc8 hc28 hx8 hfin
          go_wp2
          go_ret
          rw [HR0.out]
          exact ⟨rfl, HFIN.out⟩
    · have HR0 := Lib.hid (show R = ((useM M).1, rr) by rw [HR.out, if_neg hr0])
      have hq1 : (rr == 0) = false := beq_false_of_ne hr0
      have hq2 : (rr != 0) = true := bne_iff_ne.2 hr0
      have HFIN := Lib.hid (show DOut w w5 b S (useM M).1 from DOut.ahead HS.out HC.out (DOut.of ⟨mb, L, H2.out⟩ ⟨mb, L, H5.out⟩ (Chg.ofBelow HB25.out)))
      clear HR HROK
      go_wp2
      go_ret
      rw [HR0.out]
      exact ⟨rfl, HFIN.out⟩
  · rw [if_neg hq0] at hR
    subst hR
    have hq1 : (q == 0) = false := beq_false_of_ne hq0
    have hq2 : (q != 0) = true := bne_iff_ne.2 hq0
    clear hask
    go_wp2_with fail
    rw [HW1.out]
    refine HA.out.mono ?_
    rintro e w2 ⟨rfl, h2, hc2⟩
    have HC := Lib.hid (show DOut w w2 b S (useM M).1 from DOut.of ⟨mb, L, HH.out⟩ ⟨mb, L, h2⟩ ((Chg.ofBelow HB1.out).trans (hc2.mono (fun k _ e => by rw [e]; exact h2.sb))))
    clear h2 hc2
    go_wp2
    go_ret
    exact ⟨rfl, HC.out⟩
end Go.Proofs.Ytmepanbfknmieaa
