/- A file laid anew, or struck: one word for it. Contracts of disk's Delete, Rename. -/
import Derived.Test.YtmepanbfknmieaaDisk16
namespace Go.Proofs.Ytmepanbfknmieaa
open Go.RowKit Go.Maps
attribute [local go_sem ↓] Go.wp_at_zero Go.wp_at_succ
/-- A file was laid, in a row that no other one has. -/
theorem DskIn.putG {w w' : World} {b : Nat} {S : Nat → Prop} {M M' : DM} {mb mb' : Option Nat} {L : List (List UInt8 × FX)} (h : DskIn w b S M mb L) (k : List UInt8) (x : FX)
    (hd : DAt w' b (M'.dk mb')) (hm : FilesAt w' mb' (fput (mapV FX.raw L) k x.raw)) (hmb : mb' = mb ∨ ∃ m, mb' = some m ∧ w.heap.size ≤ m ∧ m < w'.heap.size)
    (hc : Chg (fun g => g = b ∨ mb = some g ∨ ∃ y, fget L k = some y ∧ y.row.ownBlock = some g) w w')
    (hx : FRow w' x) (hxs : ∀ g, x.row.ownBlock = some g → S g ∨ w.heap.size ≤ g) (hxa : ∀ p ∈ L, p.1 ≠ k → ∀ g, p.2.row.ownBlock = some g → x.row.ownBlock ≠ some g)
    (hf : M'.files = fput M.files k x.mf) (hfine : FineF M'.room M'.files) : DOut w w' b S M' := by
  have hS : ∀ g, (g = b ∨ mb = some g ∨ ∃ y, fget L k = some y ∧ y.row.ownBlock = some g) → S g := by
    rintro g (rfl | hg | ⟨y, hy, hg⟩)
    · exact h.sb
    · exact h.sm g hg
    · exact h.sr _ (fget_mem hy) g hg
  have hxl : ∀ g, x.row.ownBlock = some g → g < w'.heap.size := fun g hg => RowS.lt hx g hg
  refine ⟨⟨mb', fput L k x, ⟨hd, by rw [← mapV_put]; exact hm, by rw [hf, h.files, mapV_put FX.mf], hfine, ?_, ?_, .inl h.sb, ?_, ?_, gro_lt h.lt hc.size⟩⟩, hc.mono (fun g _ hg => hS g hg)⟩
  · intro p hp
    rcases mem_fput.1 hp with rfl | ⟨hp, hne⟩
    · exact hx
    · refine frow_chg (h.rows p hp) hc ?_
      rintro g hg (rfl | hmg | ⟨y, hy, hyg⟩)
      · exact h.row_ne hp hg
      · exact h.row_mb hp hg hmg
      · exact h.apart p hp _ (fget_mem hy) hne g hg hyg
  · intro p hp q hq hne g hpg
    rcases mem_fput.1 hp with rfl | ⟨hp, hpk⟩
    · rcases mem_fput.1 hq with rfl | ⟨hq, hqk⟩
      · exact absurd rfl hne
      · exact fun e => hxa q hq hqk g e hpg
    · rcases mem_fput.1 hq with rfl | ⟨hq, hqk⟩
      · exact hxa p hp hpk g hpg
      · exact h.apart p hp q hq hne g hpg
  · intro g hg
    rcases hmb with e | ⟨m, e, h1, h2⟩
    · exact .inl (h.sm g (by rw [← e]; exact hg))
    · rw [e] at hg
      injection hg with hg
      subst hg
      exact .inr ⟨h1, h2⟩
  · intro p hp g hg
    rcases mem_fput.1 hp with rfl | ⟨hp, _⟩
    · rcases hxs g hg with hn | hn
      · exact .inl hn
      · exact .inr ⟨hn, hxl g hg⟩
    · exact .inl (h.sr p hp g hg)
/-- A file was struck. -/
theorem DskIn.del {w w' : World} {b : Nat} {S : Nat → Prop} {M M' : DM} {mb : Option Nat} {L : List (List UInt8 × FX)} (h : DskIn w b S M mb L) (k : List UInt8)
    (hd : M'.dk mb = M.dk mb) (hm : FilesAt w' mb (fdel (mapV FX.raw L) k)) (hc : Chg (fun g => mb = some g) w w') (hf : M'.files = fdel M.files k) : DskIn w' b S M' mb (fdel L k) := by
  have hr : M'.room = M.room := congrArg Dk.room hd
  refine ⟨by rw [hd]; exact dat_chg h.at_ hc (fun e => h.mb_ne e), by rw [← mapV_del]; exact hm, by rw [hf, h.files, mapV_del], by rw [hr, hf]; exact h.fine.del k, ?_, ?_, h.sb, h.sm, ?_, fun g hg => Nat.lt_of_lt_of_le (h.lt g hg) hc.size⟩
  · intro p hp
    exact frow_chg (h.rows p (mem_fdel.1 hp).1) hc (fun g hg e => h.row_mb (mem_fdel.1 hp).1 hg e)
  · intro p hp q hq
    exact h.apart p (mem_fdel.1 hp).1 q (mem_fdel.1 hq).1
  · intro p hp
    exact h.sr p (mem_fdel.1 hp).1
/-- What Delete makes of a disk, and what it answers. -/
def delM (M : DM) (s : ByteArray) : DM × Int := if askOfM M [s] = 0 then ({ (useM M).1 with files := fdel M.files s.data.toList }, 0) else ((useM M).1, askOfM M [s])
theorem askOfM_ok {M : DM} {s : ByteArray} (h : askOfM M [s] = 0) : mayB s = true ∧ (fget M.files s.data.toList).isSome = true := by
  unfold askOfM at h
  by_cases h0 : askM M [s] = 0
  · rw [if_pos h0] at h
    refine ⟨askM_ok h0, ?_⟩
    cases ht : (fget M.files s.data.toList).isSome with
    | true => rfl
    | false => simp [ht] at h
  · rw [if_neg h0] at h
    exact absurd h h0
set_option maxRecDepth 100000 in
set_option maxHeartbeats 2000000 in
theorem DskIn.delete {w : World} {b : Nat} {S : Nat → Prop} {M : DM} {mb : Option Nat} {L : List (List UInt8 × FX)} (h : DskIn w b S M mb L) (s : ByteArray) (hs : s.size ≤ 281474976710656) :
    Calls Try.prog 35 #[.pointer (some ⟨b, 0, none⟩), .string s] w fun e w' => e = .returned (.int .i64 (delM M s).2) ∧ DOut w w' b S (delM M s).1 := by
  obtain ⟨W1, hW1⟩ : ∃ W, W = w.alloc (.cells #[.string s] 9) := ⟨_, rfl⟩
  have hB1 : Below w.heap.size w W1 := by rw [hW1]; exact (Below.refl _ _).alloc (Nat.le_refl _) _
  have hbl := h.at_.lt
  have hA := (h.below hB1).askOf (some ⟨w.heap.size, 0, none⟩) 1 1 [s] rfl (by omega) (by simpa using hs) (by rw [hW1]; exact one_text w s) (fun _ x hx => by injection hx with hx; subst hx; show w.heap.size ≠ b; omega)
  obtain ⟨R, hR⟩ : ∃ R, R = delM M s := ⟨_, rfl⟩
  rw [← hR]
  unfold delM at hR
  obtain ⟨q, hq⟩ : ∃ q, q = askOfM M [s] := ⟨_, rfl⟩
  rw [← hq] at hA hR
  have HA := Lib.hid hA
  have HW1 := Lib.hid hW1.symm
  have HB1 := Lib.hid hB1
  have HH := Lib.hid h
  have hs2 : s.size ≤ maxLen := by unfold maxLen; omega
  clear hA hW1 hB1 h hq
  go_enter Try.func35, Try.ntmps35
  by_cases hq0 : q = 0
  · subst hq0
    rw [if_pos rfl] at hR
    subst hR
    go_wp2_with fail
    rw [HW1.out]
    refine HA.out.mono ?_
    rintro e w2 ⟨rfl, h2, hc2⟩
    have hc02 : Chg S w w2 := (Chg.ofBelow HB1.out).trans (hc2.mono (fun k _ e => by rw [e]; exact h2.sb))
    obtain ⟨⟨c0, c1, c2, c3, c4, c5⟩, _⟩ := six6_cells h2.at_
    simp only [DM.dk] at c0 c1 c2 c3 c4 c5
    obtain ⟨w3, hrun, hm3, hc3⟩ : ∃ w3, (∀ ty, (Builtin.delete_ #[65, 9] ty #[.map mb, .string s]).run Try.prog w2 = .ok (.tuple #[]) w3) ∧ FilesAt w3 mb (fdel (mapV FX.raw L) s.data.toList) ∧ Chg (fun k => mb = some k) w2 w3 := by
      obtain ⟨w3, hrun, hm3, hc3⟩ := drop_files h2.map s hs2 0
      exact ⟨w3, fun ty => by rw [← hrun]; rfl, hm3, hc3⟩
    have h3 := h2.del (M' := { (useM M).1 with files := fdel M.files s.data.toList }) s.data.toList rfl hm3 hc3 (by
      show fdel M.files s.data.toList = fdel (useM M).1.files s.data.toList
      rw [(useM_files M).1])
    have hcS : Chg S w2 w3 := hc3.mono (fun g _ hg => h2.sm g hg)
    have HD := Lib.hid (show DOut w w3 b S { (useM M).1 with files := fdel M.files s.data.toList } from DOut.of ⟨mb, L, HH.out⟩ ⟨mb, _, h3⟩ (hc02.trans hcS))
    clear h2 hc2 hc02 hm3 hc3 h3 hcS
    go_wp2
    go_ret
    exact ⟨rfl, HD.out⟩
  · rw [if_neg hq0] at hR
    subst hR
    have hq1 : (q == 0) = false := beq_false_of_ne hq0
    have hq2 : (q != 0) = true := bne_iff_ne.2 hq0
    go_wp2_with fail
    rw [HW1.out]
    refine HA.out.mono ?_
    rintro e w2 ⟨rfl, h2, hc2⟩
    have HC := Lib.hid (show DOut w w2 b S (useM M).1 from DOut.of ⟨mb, L, HH.out⟩ ⟨mb, L, h2⟩ ((Chg.ofBelow HB1.out).trans (hc2.mono (fun k _ e => by rw [e]; exact h2.sb))))
    clear h2 hc2
    go_wp2
    go_ret
    exact ⟨rfl, HC.out⟩
/-- What Rename makes of a disk, and what it answers. -/
def renM (M : DM) (s t : ByteArray) : DM × Int :=
  if askM M [s, t] = 0 then (match fget M.files s.data.toList with
    | some x => ({ (useM M).1 with files := fput (fdel M.files s.data.toList) t.data.toList x }, 0)
    | none => ((useM M).1, 8))
  else ((useM M).1, askM M [s, t])
theorem askM_ok2 {M : DM} {s t : ByteArray} (h : askM M [s, t] = 0) : mayB s = true ∧ mayB t = true := by
  unfold askM at h
  split at h
  · cases h
  · split at h
    · rename_i hm; simpa using hm
    · cases h
theorem two_texts (w : World) (x y : ByteArray) : Texts (w.alloc (.cells #[.string x, .string y] 9)) (some ⟨w.heap.size, 0, none⟩) [x, y] := by
  refine .inr ⟨by simp, w.heap.size, 0, rfl, by simp, fun i s hi => ?_⟩
  have hb : (w.alloc (.cells #[.string x, .string y] 9)).heap[w.heap.size]? = some (.cells #[.string x, .string y] 9 (0, 0)) := Array.getElem?_push_size
  rw [Lib.cell_of_heap hb, Nat.zero_add]
  rcases i with _ | _ | i
  · simp at hi; subst hi; rfl
  · simp at hi; subst hi; rfl
  · simp at hi
set_option maxRecDepth 100000 in
set_option maxHeartbeats 4000000 in
theorem DskIn.rename {w : World} {b : Nat} {S : Nat → Prop} {M : DM} {mb : Option Nat} {L : List (List UInt8 × FX)} (h : DskIn w b S M mb L) (s t : ByteArray) (hs : s.size ≤ 281474976710656) (ht : t.size ≤ 281474976710656) :
    Calls Try.prog 27 #[.pointer (some ⟨b, 0, none⟩), .string s, .string t] w fun e w' => e = .returned (.int .i64 (renM M s t).2) ∧ DOut w w' b S (renM M s t).1 := by
  obtain ⟨W1, hW1⟩ : ∃ W, W = w.alloc (.cells #[.string s, .string t] 9) := ⟨_, rfl⟩
  have hB1 : Below w.heap.size w W1 := by rw [hW1]; exact (Below.refl _ _).alloc (Nat.le_refl _) _
  have hbl := h.at_.lt
  have hA := (h.below hB1).ask (some ⟨w.heap.size, 0, none⟩) 2 2 [s, t] rfl (by omega) (by intro x hx; simp at hx; rcases hx with rfl | rfl <;> assumption) (by rw [hW1]; exact two_texts w s t) (fun _ x hx => by injection hx with hx; subst hx; show w.heap.size ≠ b; omega)
  obtain ⟨R, hR⟩ : ∃ R, R = renM M s t := ⟨_, rfl⟩
  rw [← hR]
  unfold renM at hR
  have hmay := fun hh : askM M [s, t] = 0 => mayB_le (askM_ok2 hh).2
  obtain ⟨q, hq⟩ : ∃ q, q = askM M [s, t] := ⟨_, rfl⟩
  rw [← hq] at hA hR hmay
  have HA := Lib.hid hA
  have HMY := Lib.hid hmay
  have HW1 := Lib.hid hW1.symm
  have HB1 := Lib.hid hB1
  have HH := Lib.hid h
  have hs2 : s.size ≤ maxLen := by unfold maxLen; omega
  have ht2 : t.size ≤ maxLen := by unfold maxLen; omega
  clear hA hW1 hB1 h hq hmay
  go_enter Try.func27, Try.ntmps27
  by_cases hq0 : q = 0
  · subst hq0
    rw [if_pos rfl] at hR
    go_wp2_with fail
    rw [HW1.out]
    refine HA.out.mono ?_
    rintro e w2 ⟨rfl, h2, hc2⟩
    have hc02 : Chg S w w2 := (Chg.ofBelow HB1.out).trans (hc2.mono (fun k _ e => by rw [e]; exact h2.sb))
    obtain ⟨⟨c0, c1, c2, c3, c4, c5⟩, _⟩ := six6_cells h2.at_
    simp only [DM.dk] at c0 c1 c2 c3 c4 c5
    have hlk := look_files_ok h2.map s hs2
    rw [getD_raw, mapV_get, Option.isSome_map] at hlk
    rw [HH.out.files, mapV_get] at hR
    cases hg : fget L s.data.toList with
    | none =>
      rw [hg] at hlk hR
      replace hlk : (Instr.lookup 65 (.map mb) (.string s) true).run Try.prog w2 = .ok (.tuple #[.agg #[.slice none 0 0, .int .i64 0], .bool false]) w2 := hlk
      replace hR : R = ((useM M).1, 8) := hR
      subst hR
      have hb3 : Below w2.heap.size w2 (w2.alloc (.cells #[.slice none 0 0, .int .i64 0] 72)) := (Below.refl _ _).alloc (Nat.le_refl _) _
      have HD := Lib.hid (show DOut w (w2.alloc (.cells #[.slice none 0 0, .int .i64 0] 72)) b S (useM M).1 from DOut.of ⟨mb, L, HH.out⟩ ⟨mb, L, h2.below hb3⟩ (hc02.thenB hb3))
      clear h2 hc2 hc02 hg hb3
      go_wp2
      go_ret
      exact ⟨rfl, HD.out⟩
    | some y =>
      rw [hg] at hlk hR
      have hR2 : R = ({ (useM M).1 with files := fput (fdel M.files s.data.toList) t.data.toList y.mf }, 0) := by rw [hR, HH.out.files]; rfl
      clear hR
      subst hR2
      have hym := fget_mem hg
      obtain ⟨mm, rfl⟩ : ∃ mm, mb = some mm := by
        rcases h2.map with ⟨_, h0⟩ | ⟨mm, h0, _⟩
        · have : L = [] := by simpa [mapV] using h0
          rw [this] at hym; cases hym
        · exact ⟨mm, h0⟩
      obtain ⟨n, hn⟩ : ∃ n, n = y.data.length := ⟨_, rfl⟩
      obtain ⟨K, hK⟩ : ∃ K : Int, K = (y.kept : Int) := ⟨_, rfl⟩
      obtain ⟨ya, hya⟩ : ∃ a, a = y.adr := ⟨_, rfl⟩
      obtain ⟨yc, hyc⟩ : ∃ c, c = y.cap := ⟨_, rfl⟩
      replace hlk : (Instr.lookup 65 (.map (some mm)) (.string s) true).run Try.prog w2 = .ok (.tuple #[.agg #[.slice ya n yc, .int .i64 K], .bool true]) w2 := by rw [hya, hn, hyc, hK]; exact hlk
      obtain ⟨W3, hW3⟩ : ∃ W, W = w2.alloc (.cells #[.slice ya n yc, .int .i64 K] 72) := ⟨_, rfl⟩
      have hB3 : Below w2.heap.size w2 W3 := by rw [hW3]; exact (Below.refl _ _).alloc (Nat.le_refl _) _
      have hk3 : W3.heap[w2.heap.size]? = some (.cells #[.slice ya n yc, .int .i64 K] 72 (0, 0)) := by rw [hW3]; exact Array.getElem?_push_size
      have hs3 : w2.heap.size < W3.heap.size := by rw [hW3]; simp
      have h3 := h2.below hB3
      obtain ⟨w4, hrun4, hm4, hc4⟩ : ∃ w4, (∀ ty, (Builtin.delete_ #[65, 9] ty #[.map (some mm), .string s]).run Try.prog W3 = .ok (.tuple #[]) w4) ∧ FilesAt w4 (some mm) (fdel (mapV FX.raw L) s.data.toList) ∧ Chg (fun k => some mm = some k) W3 w4 := by
        obtain ⟨w4, hrun, hm4, hc4⟩ := drop_files h3.map s hs2 0
        exact ⟨w4, fun ty => by rw [← hrun]; rfl, hm4, hc4⟩
      have h4 := h3.del (M' := { (useM M).1 with files := fdel M.files s.data.toList }) s.data.toList rfl hm4 hc4 (by
        show fdel M.files s.data.toList = fdel (useM M).1.files s.data.toList
        rw [(useM_files M).1])
      have hmlt : ¬ (some mm = some w2.heap.size) := fun e => by
        have := h2.lt _ (h2.sm _ e)
        omega
      have hk4 : w4.heap[w2.heap.size]? = some (.cells #[.slice ya n yc, .int .i64 K] 72 (0, 0)) := (hc4.block _ hs3 hmlt).trans hk3
      have x0 := Lib.cell_of_heap hk4 0
      have x1 := Lib.cell_of_heap hk4 1
      obtain ⟨⟨d0, d1, d2, d3, d4, d5⟩, _⟩ := six6_cells h3.at_
      obtain ⟨⟨e0, e1, e2, e3, e4, e5⟩, _⟩ := six6_cells h4.at_
      simp only [DM.dk] at d0 d1 d2 d3 d4 d5 e0 e1 e2 e3 e4 e5
      have h4d := h4.below_drew
      have hml : (mapV FX.raw (fdel L s.data.toList)).length < maxLen := by
        rw [mapV_len]
        have := h4.fine.2.1
        rw [h4.files, mapV_len] at this
        unfold maxLen; omega
      obtain ⟨w5, hrun5, hm5, hc5⟩ := upd_files h4d.map hml t ht2 (ya, n, yc, K)
      simp only [fileV] at hrun5
      have hput : DOut w4.drew w5 b S { (useM M).1 with files := fput (fdel M.files s.data.toList) t.data.toList y.mf } := by
        refine h4d.putG t.data.toList ⟨ya, yc, y.data, y.kept⟩ (mb' := some mm) ?_ ?_ (.inl rfl) ?_ ?_ ?_ ?_ ?_ ?_
        · exact dat_chg h4d.at_ hc5 (fun e => h4d.mb_ne (by rw [e]))
        · show FilesAt w5 (some mm) (fput (mapV FX.raw (fdel L s.data.toList)) t.data.toList (ya, y.data.length, yc, (y.kept : Int)))
          rw [← hn, ← hK]; exact hm5
        · exact hc5.mono (fun g _ e => .inr (.inl (by rw [e])))
        · have hy4 : FRow w4 y := frow_chg (h3.rows _ hym) hc4 (fun g hg e => h3.row_mb hym hg e)
          have hy5 : FRow w5 y := frow_chg (w := w4.drew) (RowS.below hy4 ((Below.refl _ _).drew)) hc5 (fun g hg e => h3.row_mb hym hg (by rw [e]))
          show RowS w5 5 (.slice ya y.data.length yc) y.data.length (b8s y.data)
          rw [hya, hyc]; exact hy5
        · intro g hg
          refine .inl (h2.sr _ hym g ?_)
          have hg : (Value.slice ya y.data.length yc).ownBlock = some g := hg
          rw [hya, hyc] at hg; exact hg
        · intro p hp _ g hpg hg
          obtain ⟨hp1, hp2⟩ := mem_fdel.1 hp
          refine h2.apart p hp1 _ hym hp2 g hpg ?_
          have hg : (Value.slice ya y.data.length yc).ownBlock = some g := hg
          rw [hya, hyc] at hg; exact hg
        · rfl
        · have hym2 : (s.data.toList, y.mf) ∈ M.files := by rw [HH.out.files]; exact List.mem_map.2 ⟨_, hym, rfl⟩
          have hxf := HH.out.fine.2.2.1 _ hym2
          have hfd : FineF (useM M).1.room (fdel M.files s.data.toList) := by
            rw [(useM_files M).2]
            exact HH.out.fine.del _
          refine hfd.put (by rw [blen]; exact (HMY.out (by first | rfl | trivial)).2) hxf.2.1 hxf.2.2 (fun _ => ?_)
          have hgm : fget M.files s.data.toList = some y.mf := by rw [HH.out.files, mapV_get, hg]; rfl
          have := fdel_len_some HH.out.fine.1 hgm
          have := HH.out.fine.2.1
          omega
      have hcS : Chg S w w4.drew := ((hc02.thenB hB3).trans (hc4.mono (fun g _ e => h2.sm g e))).drew
      have HD := Lib.hid (DOut.ahead HH.out.lt hcS hput)
      have HW3 := Lib.hid hW3.symm
      clear h2 hc2 hc02 hg hym hn hK hya hyc hW3 hB3 hk3 hs3 h3 hm4 hc4 h4 hmlt hk4 h4d hml hm5 hc5 hput hcS
      go_upto_region 5 with fail
      rw [HW3.out]
      go_wp2_with fail
      go_region_with (fail)
      all_goals
        go_wp2
        go_ret
        exact ⟨rfl, HD.out⟩
  · rw [if_neg hq0] at hR
    subst hR
    have hq1 : (q == 0) = false := beq_false_of_ne hq0
    have hq2 : (q != 0) = true := bne_iff_ne.2 hq0
    go_wp2_with fail
    rw [HW1.out]
    refine HA.out.mono ?_
    rintro e w2 ⟨rfl, h2, hc2⟩
    have HC := Lib.hid (show DOut w w2 b S (useM M).1 from DOut.of ⟨mb, L, HH.out⟩ ⟨mb, L, h2⟩ ((Chg.ofBelow HB1.out).trans (hc2.mono (fun k _ e => by rw [e]; exact h2.sb))))
    clear h2 hc2
    go_wp2
    go_ret
    exact ⟨rfl, HC.out⟩
end Go.Proofs.Ytmepanbfknmieaa
