/- Contract of disk's Crash. -/
import Derived.Test.YtmepanbfknmieaaDisk19
import Derived.Test.YtmepanbfknmieaaDisk16
namespace Go.Proofs.Ytmepanbfknmieaa
open Go.RowKit Go.Maps
attribute [local go_sem ↓] Go.wp_at_zero Go.wp_at_succ
/-- What a crash leaves of a file. -/
def crash1 (x : MF) (more : Int) : MF := (x.1.take (keepN x.1.length x.2 more), keepN x.1.length x.2 more)
def crashP (fs : List (List UInt8 × MF)) (keep : List Int) (j : Nat) : List (List UInt8 × MF) := fs.mapIdx fun i p => if i < j then (p.1, crash1 p.2 (keep.getD i 0)) else p
def crashF (fs : List (List UInt8 × MF)) (keep : List Int) : List (List UInt8 × MF) := fs.mapIdx fun i p => (p.1, crash1 p.2 (keep.getD i 0))
def crashM (M : DM) (keep : List Int) : DM := { M with on := true, armed := false, files := crashF M.files keep }
theorem crashP_zero (fs : List (List UInt8 × MF)) (keep : List Int) : crashP fs keep 0 = fs := by
  unfold crashP
  apply List.ext_getElem?
  intro i
  rw [List.getElem?_mapIdx]
  cases fs[i]? <;> simp
theorem crashP_all (fs : List (List UInt8 × MF)) (keep : List Int) : crashP fs keep fs.length = crashF fs keep := by
  unfold crashP crashF
  apply List.ext_getElem?
  intro i
  rw [List.getElem?_mapIdx, List.getElem?_mapIdx]
  by_cases h : i < fs.length
  · rw [List.getElem?_eq_getElem h]
    simp [h]
  · rw [List.getElem?_eq_none (by omega)]; rfl
theorem crashP_at {fs : List (List UInt8 × MF)} {keep : List Int} {j : Nat} {p : List UInt8 × MF} (h : fs[j]? = some p) : (crashP fs keep j)[j]? = some p := by
  unfold crashP
  rw [List.getElem?_mapIdx, h]
  simp
theorem crashP_step {fs : List (List UInt8 × MF)} {keep : List Int} {j : Nat} {k : List UInt8} {x : MF} (h : fs[j]? = some (k, x)) (hr : Rising (crashP fs keep j)) : crashP fs keep (j + 1) = fput (crashP fs keep j) k (crash1 x (keep.getD j 0)) := by
  rw [fput_set hr (crashP_at h)]
  apply List.ext_getElem?
  intro i
  rw [List.getElem?_set]
  have hj := (List.getElem?_eq_some_iff.1 h).1
  have hlen : (crashP fs keep j).length = fs.length := by unfold crashP; simp
  by_cases e : j = i
  · subst e
    rw [if_pos rfl, if_pos (by rw [hlen]; exact hj)]
    unfold crashP
    rw [List.getElem?_mapIdx, h]
    simp
  · rw [if_neg e]
    unfold crashP
    rw [List.getElem?_mapIdx, List.getElem?_mapIdx]
    cases fs[i]? with
    | none => rfl
    | some p =>
      simp only [Option.map_some]
      by_cases hi : i < j
      · rw [if_pos hi, if_pos (by omega)]
      · rw [if_neg hi, if_neg (by omega)]
theorem names_nil (fs : List (List UInt8 × MF)) : namesM fs [] = fs.map (·.1) := by
  unfold namesM
  rw [List.filter_eq_self]
  intro a _
  rfl
theorem crash1_fine {x : MF} (h : x.2 ≤ x.1.length) (more : Int) : (crash1 x more).1.length = keepN x.1.length x.2 more ∧ (crash1 x more).2 ≤ (crash1 x more).1.length := by
  have := keepN_le h more
  unfold crash1
  simp only [List.length_take]
  omega
set_option maxRecDepth 100000 in
set_option maxHeartbeats 4000000 in
theorem DskIn.crash {w : World} {b : Nat} {S : Nat → Prop} {M : DM} {mb : Option Nat} {L : List (List UInt8 × FX)} (h : DskIn w b S M mb L) (a : Option Addr) (m c : Nat) (keep : List Int) (hl : keep.length = m) (hmm : m ≤ 281474976710656) (hz : Ints .i64 w a keep) (hi64 : I64s keep) (hab : keep ≠ [] → ∀ x, a = some x → ¬ S x.block) :
    Calls Try.prog 24 #[.pointer (some ⟨b, 0, none⟩), .slice a m c] w fun e w' => e = .returned (.tuple #[]) ∧ DOut w w' b S (crashM M keep) := by
  have hRS := restore_any b (M.dk mb) w h.at_
  have HRS := Lib.hid hRS
  have HZ := Lib.hid hz
  have HL := Lib.hid hl
  have HI := Lib.hid hi64
  have HAB := Lib.hid hab
  have HH := Lib.hid h
  clear hRS h hz hl hi64 hab
  go_enter Try.func24, Try.ntmps24
  go_wp2_with fail
  refine HRS.out.mono ?_
  rintro e w1 ⟨rfl, hd1, hc1⟩
  have h1 : DskIn w1 b S { M with on := true, armed := false } mb L := HH.out.turn hd1 hc1 rfl rfl
  have hN := h1.names none 0 0 [] rfl (by omega) (.inl rfl)
  rw [names_nil] at hN
  have HN := Lib.hid hN
  have H1 := Lib.hid h1
  have HC1 := Lib.hid (show Chg S w w1 from hc1.mono (fun k _ e => by rw [e]; exact HH.out.sb))
  clear h1 hd1 hc1 hN HRS
  go_wp2_with fail
  refine HN.out.mono ?_
  rintro e w2 ⟨⟨na, nc, rfl, hnr⟩, hb2⟩
  have h2 : DskIn w2 b S { M with on := true, armed := false } mb L := H1.out.below hb2
  obtain ⟨htx, hna⟩ := own_names hnr
  have hNL : (M.files.map (·.1)).length = M.files.length := List.length_map _
  have hfl : M.files.length ≤ 100 := HH.out.fine.2.1
  obtain ⟨N, hNe⟩ : ∃ N, N = M.files.length := ⟨_, rfl⟩
  rw [hNL, ← hNe]
  have HTX := Lib.hid htx
  have HNA := Lib.hid hna
  have H2 := Lib.hid h2
  have HB2 := Lib.hid hb2
  have HNE := Lib.hid hNe
  have hlt1 : ∀ g, S g → g < w1.heap.size := H1.out.lt
  have HLT := Lib.hid hlt1
  have hz12 := hb2.size
  rw [← hNe] at hfl
  clear htx hna h2 hb2 hnr hNL hNe hlt1 HN
  go_wp2
  go_loopw [16] (fun iv wr => ∃ j : Nat, j ≤ N ∧ iv = .int .i64 (j : Int) ∧ Hid (DOut w2 wr b S { M with on := true, armed := false, files := crashP M.files keep j })) (fun iv _ => N - (intOf iv).toNat)
  case atStart => exact ⟨0, Nat.zero_le _, rfl, Lib.hid (by rw [crashP_zero]; exact DOut.of ⟨mb, L, H2.out⟩ ⟨mb, L, H2.out⟩ (Chg.refl _ _))⟩
  case round =>
    obtain ⟨j, hj, rfl, hdo⟩ := hrel
    by_cases hlt : j < N
    · have hlt' : decide ((j : Int) < (N : Int)) = true := decide_eq_true (by omega)
      obtain ⟨mbk, Lk, hdk⟩ := hdo.out.1
      have hcr := hdo.out.2
      have htw := HTX.out.chg hcr (by
        intro _ x hx hs
        have := HNA.out x hx
        have := HLT.out _ hs
        omega)
      obtain ⟨bs, o, s, hnae, hbs, hsk, s0⟩ := texts_at htw (by rw [List.length_map, List.length_map]; exact HNE.out.symm) hlt (Below.refl _ _)
      subst hnae
      obtain ⟨⟨k, x⟩, hkx⟩ : ∃ p, M.files[j]? = some p := ⟨_, List.getElem?_eq_getElem (by rw [← HNE.out]; exact hlt)⟩
      have hsl : s.data.toList = k := by
        rw [List.getElem?_map, List.getElem?_map, hkx] at hsk
        simp only [Option.map_some, Option.some.injEq] at hsk
        rw [← hsk]
      have hfk : crashP M.files keep j = mapV FX.mf Lk := hdk.files
      have hrk : Rising (crashP M.files keep j) := by rw [hfk]; exact rising_mapV.2 hdk.rising
      have hst := crashP_step hkx hrk
      have hmemk := List.mem_of_getElem? (crashP_at (keep := keep) hkx)
      obtain ⟨y, hy, hyx⟩ : ∃ y, fget Lk s.data.toList = some y ∧ y.mf = x := by
        have := fget_of_mem hrk hmemk
        rw [hfk, mapV_get] at this
        rw [hsl]
        cases hg : fget Lk k with
        | none => rw [hg] at this; cases this
        | some y => rw [hg] at this; injection this with this; exact ⟨y, rfl, this⟩
      have hxf := hdk.fine.2.2.1 _ hmemk
      have hsm : s.size ≤ maxLen := by
        have := hxf.1
        rw [← blen, hsl]
        simp only at this
        unfold maxLen; omega
      obtain ⟨mm, rfl⟩ : ∃ mm, mbk = some mm := by
        rcases hdk.map with ⟨_, h0⟩ | ⟨mm, h0, _⟩
        · have : Lk = [] := by simpa [mapV] using h0
          rw [this] at hy; cases hy
        · exact ⟨mm, h0⟩
      have hym := fget_mem hy
      have hyk : y.kept ≤ y.data.length := by rw [← hyx] at hxf; exact hxf.2.2
      have hyl : y.data.length ≤ 1048576 := by rw [← hyx] at hxf; exact hxf.2.1
      have hlk := look_files hdk.below_drew.map s hsm
      rw [getD_raw, hy] at hlk
      simp only [Option.getD_some, fileV] at hlk
      obtain ⟨⟨c0, c1, c2, c3, c4, c5⟩, _⟩ := six6_cells hdk.at_
      simp only [DM.dk] at c0 c1 c2 c3 c4 c5
      have hml : (mapV FX.raw Lk).length < maxLen := by
        rw [mapV_len]
        have := hdk.fine.2.1
        rw [hdk.files, mapV_len] at this
        unfold maxLen; omega
      have hcd := fun more => crashed_any (hdk.below_drew.rows _ hym) hyk hyl more
      obtain ⟨n, hn⟩ : ∃ n, n = y.data.length := ⟨_, rfl⟩
      obtain ⟨K, hK⟩ : ∃ K : Int, K = (y.kept : Int) := ⟨_, rfl⟩
      obtain ⟨ya, hya⟩ : ∃ a, a = y.adr := ⟨_, rfl⟩
      obtain ⟨yc, hyc⟩ : ∃ c, c = y.cap := ⟨_, rfl⟩
      obtain ⟨q, hq⟩ : ∃ q, q = keepN y.data.length y.kept (keep.getD j 0) := ⟨_, rfl⟩
      obtain ⟨more, hmo⟩ : ∃ z, z = keep.getD j 0 := ⟨_, rfl⟩
      have hcd1 := hcd more
      rw [hmo, ← hq, ← hmo] at hcd1
      simp only [FX.row] at hcd1
      rw [← hn, ← hK, ← hya, ← hyc] at hlk
      rw [← hn, ← hK, ← hya, ← hyc] at hcd1
      have hqn : q ≤ y.data.length := by rw [hq]; exact (keepN_le hyk _).1
      have hput : ∀ w3 w4, Below wr.drew.heap.size wr.drew w3 → FilesAt w4 (some mm) (fput (mapV FX.raw Lk) s.data.toList (ya, q, yc, (q : Int))) → Chg (· = mm) w3 w4 → DOut w2 w4 b S { M with on := true, armed := false, files := crashP M.files keep (j + 1) } := by
        intro w3 w4 hb3 hm4 hc4
        have hb3' : Below wr.heap.size wr w3 := Below.thenB ((Below.refl _ _).drew) (Nat.le_refl _) hb3
        have hdk3 := hdk.below hb3'
        have hql : (y.data.take q).length = q := by rw [List.length_take]; omega
        refine DOut.trans H2.out.lt hdo.out (hdk.put s.data.toList ⟨ya, yc, y.data.take q, q⟩ (mb' := some mm) ?_ ?_ (.inl rfl) ?_ ?_ ?_ ?_ ?_)
        · exact dat_chg hdk3.at_ hc4 (fun e => hdk3.mb_ne (by rw [e]))
        · show FilesAt w4 (some mm) (fput (mapV FX.raw Lk) s.data.toList (ya, (y.data.take q).length, yc, (q : Int)))
          rw [hql]; exact hm4
        · refine (Chg.ofBelow hb3').trans (hc4.mono ?_)
          rintro g _ rfl
          exact .inr (.inl rfl)
        · have h0 := frow_chg (hdk3.rows _ hym) hc4 (fun g hg e => hdk3.row_mb hym hg (by rw [e]))
          show RowS w4 5 (.slice ya (y.data.take q).length yc) (y.data.take q).length (b8s (y.data.take q))
          rw [hql, hya, hyc]
          exact frow_take h0 hqn
        · intro g hg
          refine .inr ⟨y, hy, ?_⟩
          have hg : (Value.slice ya (y.data.take q).length yc).ownBlock = some g := hg
          rw [hya, hyc] at hg
          exact own_len hg
        · show crashP M.files keep (j + 1) = fput (crashP M.files keep j) s.data.toList (y.data.take q, q)
          rw [hst, hsl, ← hyx, hq]
          rfl
        · show FineF M.room (crashP M.files keep (j + 1))
          rw [hst]
          have hx2 := crash1_fine hxf.2.2 (keep.getD j 0)
          have hk2 := keepN_le hxf.2.2 (keep.getD j 0)
          have hxl := hxf.2.1
          refine hdk.fine.put hxf.1 ?_ hx2.2 (fun e => absurd e (by
            show ¬ fget (crashP M.files keep j) k = none
            rw [fget_of_mem hrk hmemk]; simp))
          rw [hx2.1]
          exact Nat.le_trans hk2.1 hxl
      have HPUT := Lib.hid hput
      have HCD := Lib.hid hcd1
      have hdd := hdk.below_drew
      have hat3 := fun w3 (hb3 : Below wr.drew.heap.size wr.drew w3) => (hdd.below hb3)
      have HAT3 := Lib.hid hat3
      have HMO := Lib.hid hmo
      have hupd := fun w3 (hb3 : Below wr.drew.heap.size wr.drew w3) => upd_files (hat3 w3 hb3).map hml s hsm (ya, q, yc, (q : Int))
      simp only [fileV] at hupd
      have HUPD := Lib.hid hupd
      have HZR := Lib.hid hdo
      clear hdo hdk htw hsk hkx hsl hfk hrk hst hmemk hy hyx hxf hsm hym hyk hyl hml hcd hn hK hya hyc hq hmo hcd1 hqn hput hdd hat3 hupd
      by_cases hjm : j < m
      · have hjm' : decide ((j : Int) < (m : Int)) = true := decide_eq_true (by omega)
        obtain ⟨ka, hka, kc0⟩ : ∃ ka : Addr, a = some ka ∧ wr.cell? ⟨ka.block, ka.off + j, none⟩ = some (.int .i64 more) ∧ ka.spot = none := by
          have hne : keep ≠ [] := fun e => by have := HL.out; rw [e] at this; simp at this; omega
          have hzr : Ints .i64 wr a keep := (((HZ.out.chg HC1.out HAB.out).below HB2.out).chg hcr HAB.out)
          rcases hzr with h0 | ⟨_, kb, ko, ha, _, hcl⟩
          · exact absurd h0 hne
          · exact ⟨⟨kb, ko, none⟩, ha, by rw [HMO.out]; exact hcl j (by rw [HL.out]; exact hjm), rfl⟩
        obtain ⟨kb, ko, ks⟩ := ka
        obtain ⟨kc0, hks⟩ := kc0
        simp only at hks kc0
        subst hks
        subst hka
        clear hcr
        go_wp2_with fail
        go_region_with (go_at_call 49; refine HCD.out.mono ?_; rintro e w3 ⟨rfl, hb3⟩; obtain ⟨⟨e0, e1, e2, e3, e4, e5⟩, _⟩ := six6_cells (HAT3.out w3 hb3).at_; simp only [DM.dk] at e0 e1 e2 e3 e4 e5; obtain ⟨w4, hrun, hm4, hc4⟩ := HUPD.out w3 hb3)
        all_goals
          have HD := Lib.hid (HPUT.out w3 w4 hb3 hm4 hc4)
          clear hb3 hm4 hc4
          go_wp2
          go_roundw
          case rel => exact ⟨j + 1, by omega, by go_num, HD⟩
          case measure => simp [intOf]; omega
      · have hjm' : decide ((j : Int) < (m : Int)) = false := decide_eq_false (by omega)
        obtain rfl : more = 0 := by
          rw [HMO.out, List.getD_eq_getElem?_getD, List.getElem?_eq_none (by rw [HL.out]; omega)]; rfl
        clear hcr
        go_wp2_with fail
        go_region_with (go_at_call 49; refine HCD.out.mono ?_; rintro e w3 ⟨rfl, hb3⟩; obtain ⟨⟨e0, e1, e2, e3, e4, e5⟩, _⟩ := six6_cells (HAT3.out w3 hb3).at_; simp only [DM.dk] at e0 e1 e2 e3 e4 e5; obtain ⟨w4, hrun, hm4, hc4⟩ := HUPD.out w3 hb3)
        all_goals
          have HD := Lib.hid (HPUT.out w3 w4 hb3 hm4 hc4)
          clear hb3 hm4 hc4
          go_wp2
          go_roundw
          case rel => exact ⟨j + 1, by omega, by go_num, HD⟩
          case measure => simp [intOf]; omega
    · have hlt' : decide ((j : Int) < (N : Int)) = false := decide_eq_false (by omega)
      have hjN : j = M.files.length := by rw [← HNE.out]; omega
      have HFIN := Lib.hid (show DOut w w b S (crashM M keep) ∨ True from .inr trivial)
      have hd := hdo.out
      rw [hjN, crashP_all] at hd
      have HD := Lib.hid (DOut.ahead HH.out.lt (HC1.out.thenB HB2.out) hd)
      clear hdo hd hjN HFIN
      go_wp2
      exact bodyPost_end (v := .tuple #[]) (by simp [results, Try.results24, go_sem]) rfl ⟨rfl, HD.out⟩
end Go.Proofs.Ytmepanbfknmieaa
