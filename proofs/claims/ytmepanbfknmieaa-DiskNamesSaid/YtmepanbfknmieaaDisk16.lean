/- Contract of disk's Sync. -/
import Derived.Test.YtmepanbfknmieaaDisk15
namespace Go.Proofs.Ytmepanbfknmieaa
open Go.RowKit Go.Maps
attribute [local go_sem ↓] Go.wp_at_zero Go.wp_at_succ
/-- All bytes of a file are kept. -/
def sync1 (fs : List (List UInt8 × MF)) (s : ByteArray) : List (List UInt8 × MF) := match fget fs s.data.toList with | some x => fput fs s.data.toList (x.1, x.1.length) | none => fs
def syncF (fs : List (List UInt8 × MF)) (ss : List ByteArray) : List (List UInt8 × MF) := ss.foldl sync1 fs
def syncM (M : DM) (ss : List ByteArray) : DM × Int := if askOfM M ss = 0 then ({ (useM M).1 with files := syncF M.files ss }, 0) else ((useM M).1, askOfM M ss)
theorem sync1_get {fs : List (List UInt8 × MF)} (hr : Rising fs) (s : ByteArray) (k : List UInt8) : (fget (sync1 fs s) k).isSome = (fget fs k).isSome := by
  unfold sync1
  cases hg : fget fs s.data.toList with
  | none => rfl
  | some x =>
    simp only
    rw [fput_get _ _ _ _ hr]
    by_cases h : k = s.data.toList
    · subst h; rw [if_pos rfl, hg]; rfl
    · rw [if_neg h]
theorem sync1_rising {fs : List (List UInt8 × MF)} (hr : Rising fs) (s : ByteArray) : Rising (sync1 fs s) := by
  unfold sync1
  cases fget fs s.data.toList with
  | none => exact hr
  | some x => exact fput_rising hr _ _
theorem sync1_fine {room : Int} {fs : List (List UInt8 × MF)} (h : FineF room fs) (s : ByteArray) : FineF room (sync1 fs s) := by
  unfold sync1
  cases hg : fget fs s.data.toList with
  | none => exact h
  | some x =>
    have hm := h.2.2.1 _ (fget_mem hg)
    exact h.put hm.1 hm.2.1 (Nat.le_refl _) (fun e => by rw [hg] at e; cases e)
theorem syncF_all {fs : List (List UInt8 × MF)} {room : Int} (h : FineF room fs) (ss : List ByteArray) : FineF room (syncF fs ss) ∧ ∀ k, (fget (syncF fs ss) k).isSome = (fget fs k).isSome := by
  unfold syncF
  induction ss generalizing fs with
  | nil => exact ⟨h, fun _ => rfl⟩
  | cons s r ih =>
    obtain ⟨h1, h2⟩ := ih (sync1_fine h s)
    exact ⟨h1, fun k => (h2 k).trans (sync1_get h.1 s k)⟩
theorem syncF_take {fs : List (List UInt8 × MF)} {ss : List ByteArray} {k : Nat} {s : ByteArray} (h : ss[k]? = some s) : syncF fs (ss.take (k + 1)) = sync1 (syncF fs (ss.take k)) s := by
  unfold syncF
  rw [List.take_add_one, h, Option.toList_some, List.foldl_append]
  rfl
set_option maxRecDepth 100000 in
set_option maxHeartbeats 4000000 in
theorem DskIn.sync {w : World} {b : Nat} {S : Nat → Prop} {M : DM} {mb : Option Nat} {L : List (List UInt8 × FX)} (h : DskIn w b S M mb L) (a : Option Addr) (m c : Nat) (ss : List ByteArray) (hl : ss.length = m) (hm : m ≤ 1048576) (hsz : ∀ x ∈ ss, x.size ≤ 281474976710656) (hz : Texts w a ss) (hab : ss ≠ [] → ∀ x, a = some x → ¬ S x.block) :
    Calls Try.prog 23 #[.pointer (some ⟨b, 0, none⟩), .slice a m c] w fun e w' => e = .returned (.int .i64 (syncM M ss).2) ∧ DOut w w' b S (syncM M ss).1 := by
  have HA := Lib.hid (h.askOf a m c ss hl hm hsz hz (fun hn x hx e => hab hn x hx (by rw [e]; exact h.sb)))
  obtain ⟨R, hR⟩ : ∃ R, R = syncM M ss := ⟨_, rfl⟩
  rw [← hR]
  unfold syncM at hR
  have hall := fun hh : askOfM M ss = 0 => show (ss.all fun s => (fget M.files s.data.toList).isSome) = true by
    unfold askOfM at hh
    by_cases h0 : askM M ss = 0
    · rw [if_pos h0] at hh
      cases ht : (ss.all fun s => (fget M.files s.data.toList).isSome) with
      | true => rfl
      | false => rw [ht] at hh; cases hh
    · rw [if_neg h0] at hh; exact absurd hh h0
  obtain ⟨q, hq⟩ : ∃ q, q = askOfM M ss := ⟨_, rfl⟩
  rw [← hq] at HA hR hall
  have HALL := Lib.hid hall
  have HZ := Lib.hid hz
  have HL := Lib.hid hl
  have HS := Lib.hid hsz
  have HAB := Lib.hid hab
  have HH := Lib.hid h
  clear hall hz hl hsz hab h hq
  go_enter Try.func23, Try.ntmps23
  by_cases hq0 : q = 0
  · subst hq0
    rw [if_pos rfl] at hR
    have HR := Lib.hid hR
    have HAL := Lib.hid (HALL.out rfl)
    clear hR HALL
    go_wp2_with fail
    refine HA.out.mono ?_
    rintro e w1 ⟨rfl, h1, hc1⟩
    have hc1S : Chg S w w1 := hc1.mono (fun k _ e => by rw [e]; exact h1.sb)
    have HD1 := Lib.hid (show DOut w w1 b S (useM M).1 from DOut.of ⟨mb, L, HH.out⟩ ⟨mb, L, h1⟩ hc1S)
    clear h1 hc1 hc1S
    go_wp2
    go_loopw [17] (fun iv wr => ∃ k : Nat, k ≤ m ∧ iv = .int .i64 (k : Int) ∧ Hid (DOut w wr b S { (useM M).1 with files := syncF M.files (ss.take k) })) (fun iv _ => m - (intOf iv).toNat)
    case atStart => exact ⟨0, Nat.zero_le _, rfl, Lib.hid (by
      have := HD1.out
      have e : ({ (useM M).1 with files := syncF M.files (ss.take 0) } : DM) = (useM M).1 := by
        rw [List.take_zero]
        show ({ (useM M).1 with files := M.files } : DM) = (useM M).1
        rw [← (useM_files M).1]
      rw [e]; exact this)⟩
    case round =>
      obtain ⟨k, hk, rfl, hdo⟩ := hrel
      by_cases hlt : k < m
      · have hlt' : decide ((k : Int) < (m : Int)) = true := decide_eq_true (by omega)
        obtain ⟨mbk, Lk, hdk⟩ := hdo.out.1
        obtain ⟨bs, o, s, rfl, hbs, hsk, s0⟩ := texts_at (HZ.out.chg hdo.out.2 HAB.out) HL.out hlt (Below.refl _ _)
        have hmem := List.mem_of_getElem? hsk
        have hsm : s.size ≤ maxLen := by have := HS.out s hmem; unfold maxLen; omega
        have hfine := (syncF_all HH.out.fine (ss.take k))
        have hsome : (fget M.files s.data.toList).isSome = true := by
          have := HAL.out
          rw [List.all_eq_true] at this
          exact this s hmem
        rw [← hfine.2] at hsome
        have hfk : ({ (useM M).1 with files := syncF M.files (ss.take k) } : DM).files = mapV FX.mf Lk := hdk.files
        simp only at hfk
        obtain ⟨y, hy⟩ : ∃ y, fget Lk s.data.toList = some y := by
          rw [hfk, mapV_get, Option.isSome_map] at hsome
          exact Option.isSome_iff_exists.1 hsome
        have hlk := look_files hdk.map s hsm
        rw [getD_raw, hy] at hlk
        obtain ⟨⟨c0, c1, c2, c3, c4, c5⟩, _⟩ := six6_cells hdk.at_
        simp only [DM.dk] at c0 c1 c2 c3 c4 c5
        obtain ⟨mm, rfl⟩ : ∃ mm, mbk = some mm := by
          rcases hdk.map with ⟨_, h0⟩ | ⟨mm, h0, _⟩
          · have : Lk = [] := by simpa [mapV] using h0
            rw [this] at hy; cases hy
          · exact ⟨mm, h0⟩
        have hym := fget_mem hy
        have hyl : y.data.length ≤ 1048576 := by
          have : (s.data.toList, y.mf) ∈ ({ (useM M).1 with files := syncF M.files (ss.take k) } : DM).files := by rw [hdk.files]; exact List.mem_map.2 ⟨_, hym, rfl⟩
          exact (hdk.fine.2.2.1 _ this).2.1
        obtain ⟨n, hn⟩ : ∃ n, n = y.data.length := ⟨_, rfl⟩
        obtain ⟨K, hK⟩ : ∃ K : Int, K = (y.kept : Int) := ⟨_, rfl⟩
        obtain ⟨ya, hya⟩ : ∃ a, a = y.adr := ⟨_, rfl⟩
        obtain ⟨yc, hyc⟩ : ∃ c, c = y.cap := ⟨_, rfl⟩
        have hlk' : (Instr.lookup 65 (.map (some mm)) (.string s) false).run Try.prog wr = .ok (.agg #[.slice ya n yc, .int .i64 K]) wr := by rw [hya, hn, hyc, hK]; exact hlk
        obtain ⟨W1, hW1⟩ : ∃ W, W = wr.alloc (.cells #[.slice ya n yc, .int .i64 K] 72) := ⟨_, rfl⟩
        have hB1 : Below wr.heap.size wr W1 := by rw [hW1]; exact (Below.refl _ _).alloc (Nat.le_refl _) _
        have hk1 : W1.heap[wr.heap.size]? = some (.cells #[.slice ya n yc, .int .i64 K] 72 (0, 0)) := by rw [hW1]; exact Array.getElem?_push_size
        obtain ⟨W2, hW2⟩ : ∃ W, W = W1.setCell ⟨wr.heap.size, 1, none⟩ (.int .i64 (n : Int)) := ⟨_, rfl⟩
        have hk2 : W2.heap[wr.heap.size]? = some (.cells #[.slice ya n yc, .int .i64 (n : Int)] 72 (0, 0)) := by rw [hW2, Lib.heap_setCell_same hk1]; rfl
        have hB2 : Below wr.heap.size wr W2 := by rw [hW2]; exact hB1.setCell (p := ⟨wr.heap.size, 1, none⟩) (Nat.le_refl _) _
        have hdk2 := hdk.below hB2.drew
        have x0 := Lib.cell_of_heap hk1 0
        have x1 := Lib.cell_of_heap hk1 1
        have g1 := Lib.frozen_of_heap hk1 1
        have z0 := Lib.cell_of_heap hk2 0
        have z1 := Lib.cell_of_heap hk2 1
        obtain ⟨⟨d0, d1, d2, d3, d4, d5⟩, _⟩ := six6_cells (hdk.below hB2).at_
        simp only [DM.dk] at d0 d1 d2 d3 d4 d5
        have hml : (mapV FX.raw Lk).length < maxLen := by
          rw [mapV_len]
          have := hdk.fine.2.1
          rw [hdk.files, mapV_len] at this
          unfold maxLen; omega
        obtain ⟨w3, hrun, hm3, hc3⟩ := upd_files hdk2.map hml s hsm (ya, n, yc, (n : Int))
        simp only [fileV] at hrun
        have hput : DOut wr w3 b (Gro S w wr) { (useM M).1 with files := syncF M.files (ss.take (k + 1)) } := by
          refine hdk.put s.data.toList ⟨ya, yc, y.data, n⟩ (mb' := some mm) ?_ ?_ (.inl rfl) ?_ ?_ ?_ ?_ ?_
          · have := dat_chg hdk2.at_ hc3 (fun e => hdk2.mb_ne (by rw [e]))
            exact this
          · show FilesAt w3 (some mm) (fput (mapV FX.raw Lk) s.data.toList (ya, y.data.length, yc, (n : Int)))
            rw [← hn]; exact hm3
          · refine (Chg.ofBelow hB2.drew).trans (hc3.mono ?_)
            rintro g _ rfl
            exact .inr (.inl rfl)
          · have h0 := frow_chg (hdk2.rows _ hym) hc3 (fun g hg e => hdk2.row_mb hym hg (by rw [e]))
            show RowS w3 5 (.slice ya y.data.length yc) y.data.length (b8s y.data)
            rw [hya, hyc]; exact h0
          · intro g hg
            refine .inr ⟨y, hy, ?_⟩
            have hg : (Value.slice ya y.data.length yc).ownBlock = some g := hg
            rw [hya, hyc] at hg; exact hg
          · show syncF M.files (ss.take (k + 1)) = fput (syncF M.files (ss.take k)) s.data.toList (y.data, n)
            rw [syncF_take hsk, sync1, hfk, mapV_get, hy, hn]
            rfl
          · show FineF (useM M).1.room (syncF M.files (ss.take (k + 1)))
            rw [(useM_files M).2]
            exact (syncF_all HH.out.fine _).1
        have HD := Lib.hid (DOut.trans HH.out.lt hdo.out hput)
        have HW1 := Lib.hid hW1.symm
        have HW2 := Lib.hid hW2.symm
        clear hdo hdk hsk hmem hfine hsome hfk hy hlk hym hn hK hya hyc hW1 hB1 hk1 hW2 hk2 hB2 hdk2 hml hm3 hc3 hput
        go_upto_region 8 with fail
        rw [HW1.out]
        go_upto_region 9 with fail
        rw [HW2.out]
        go_wp2_with fail
        go_region_with (fail)
        all_goals
          go_wp2
          go_roundw
          case rel => exact ⟨k + 1, by omega, by go_num, HD⟩
          case measure => simp [intOf]; omega
      · have hlt' : decide ((k : Int) < (m : Int)) = false := decide_eq_false (by omega)
        have hkm : ss.take k = ss := List.take_of_length_le (by rw [HL.out]; omega)
        rw [hkm] at hdo
        clear hkm
        go_wp2
        go_ret
        rw [HR.out]
        exact ⟨rfl, hdo.out⟩
  · rw [if_neg hq0] at hR
    have HR := Lib.hid hR
    have hq1 : (q == 0) = false := beq_false_of_ne hq0
    have hq2 : (q != 0) = true := bne_iff_ne.2 hq0
    clear hR HALL
    go_wp2_with fail
    refine HA.out.mono ?_
    rintro e w1 ⟨rfl, h1, hc1⟩
    have hc1S : Chg S w w1 := hc1.mono (fun k _ e => by rw [e]; exact h1.sb)
    have HD1 := Lib.hid (show DOut w w1 b S (useM M).1 from DOut.of ⟨mb, L, HH.out⟩ ⟨mb, L, h1⟩ hc1S)
    clear h1 hc1 hc1S
    go_wp2
    go_ret
    rw [HR.out]
    exact ⟨rfl, HD1.out⟩
end Go.Proofs.Ytmepanbfknmieaa
