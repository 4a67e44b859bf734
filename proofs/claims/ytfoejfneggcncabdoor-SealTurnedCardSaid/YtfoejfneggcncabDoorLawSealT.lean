/- SealTurned: a burst turns the sum; a frame in which one turned something behind its first four bytes isn't opened. -/
import Derived.Test.YtfoejfneggcncabDoorLawSealB
import Derived.Lib.ConvBytes
import Derived.Lib.AtoiErrMem
namespace Go.Proofs.YtfoejfneggcncabDoor
open Go.RowKit
/-- The bytes of a block. -/
def BytesAt (w : World) (b : Nat) (l : List UInt8) : Prop := ∀ (j : Nat) (c : UInt8), l[j]? = some c → w.cell? ⟨b, j, none⟩ = some (.int .u8 (c.toNat : Int)) ∧ w.frozen? ⟨b, j, none⟩ = false
theorem BytesAt.set {w : World} {b : Nat} {l : List UInt8} (h : BytesAt w b l) (q : Nat) (c d : UInt8) (hc : l[q]? = some c) : BytesAt (w.setCell ⟨b, q, none⟩ (.int .u8 (d.toNat : Int))) b (l.set q d) := by
  intro j x hx
  have hq : q < l.length := (List.getElem?_eq_some_iff.1 hc).1
  by_cases hj : j = q
  · subst hj
    have hxd : x = d := by rw [List.getElem?_set_self hq] at hx; exact (Option.some.inj hx).symm
    subst hxd
    obtain ⟨h1, h2⟩ := h j c hc
    exact ⟨World.cell?_setCell_same w _ _ h1, by rw [← h2]; go_simp⟩
  · rw [List.getElem?_set_ne (Ne.symm hj)] at hx
    obtain ⟨h1, h2⟩ := h j x hx
    refine ⟨(World.cell?_setCell_other w _ _ _ (by intro e; injection e with _ e; exact hj e.symm)).trans h1, by rw [← h2]; go_simp⟩
theorem BytesAt.drew {w : World} {b : Nat} {l : List UInt8} (h : BytesAt w b l) : BytesAt w.drew b l := h
def TurnRet (s : List UInt8) (p B : Nat) (e : Ending) : Prop := ∃ t : ByteArray, e = .returned (.string t) ∧ ∃ i, i ≤ 64 ∧ turnedBy p B i s t.data.toList
theorem u8_turn (c : UInt8) (r : Nat) (hr : r < 8) : bits .xor .u8 (c.toNat : Int) (2 ^ r % 256) = ((UInt8.ofNat (c.toNat ^^^ 2 ^ r)).toNat : Int) ∧ (UInt8.ofNat (c.toNat ^^^ 2 ^ r)).toNat = c.toNat ^^^ 2 ^ r := by
  have h2 : 2 ^ r < 256 := by
    have : 2 ^ r ≤ 2 ^ 7 := Nat.pow_le_pow_right (by omega) (by omega)
    omega
  have hc := c.toNat_lt
  have hx : c.toNat ^^^ 2 ^ r < 256 := Nat.xor_lt_two_pow (n := 8) (by omega) h2
  have h3 : (UInt8.ofNat (c.toNat ^^^ 2 ^ r)).toNat = c.toNat ^^^ 2 ^ r := by rw [UInt8.toNat_ofNat']; omega
  refine ⟨?_, h3⟩
  rw [h3]
  have e : (2 : Int) ^ r % 256 = ((2 ^ r : Nat) : Int) := by
    have hq : (2 : Int) ^ r = ((2 ^ r : Nat) : Int) := by simp
    rw [hq]
    generalize 2 ^ r = q at h2 ⊢
    omega
  rw [e]
  exact u8_xor_nat c.toNat (2 ^ r) (by omega) h2
set_option maxRecDepth 100000 in
set_option maxHeartbeats 2000000 in
theorem turned_any (s : ByteArray) (hs : s.size ≤ 4000) (p : Nat) (hp : p ≤ 8 * s.size) (B : Nat) (w : World) :
    Calls Tryd.prog 6 #[.string s, .int .i64 (p : Int), .int .u64 (B : Int)] w fun e w' => TurnRet s.data.toList p B e ∧ Below w.heap.size w w' := by
  have hcv := Lib.run_convert_string_bytes (P := Tryd.prog) w 9 38 5 s (u := .string) Tryd.underlying9 Tryd.underlying38 Tryd.underlying5
  obtain ⟨W1, hW1⟩ : ∃ W1, W1 = Lib.bytesWorld w 5 s := ⟨_, rfl⟩
  have hB0 : BytesAt W1 w.heap.size s.data.toList := by
    intro j c hj
    have hjs : j < s.size := by rw [Lib.size_eq]; exact (List.getElem?_eq_some_iff.1 hj).1
    refine ⟨?_, ?_⟩
    · have := Lib.bytesWorld_cell w 5 s j hjs
      rw [List.getD_eq_getElem?_getD, hj] at this
      rw [hW1]; exact this
    · have hnew := Lib.bytesWorld_at_new w 5 s
      have hsz : s.size ≤ (Lib.bytesCells w 5 s).size := by
        show s.data.size ≤ _
        unfold Lib.bytesCells
        rw [Array.size_append, Array.size_map]; omega
      rw [hW1]
      simp [World.frozen?, hnew]
      omega
  have hb0 : Below w.heap.size w W1 := by rw [hW1]; exact Lib.bytesWorld_below w 5 s
  have hW0 : w.heap.size < W1.heap.size := by rw [hW1, Lib.bytesWorld_size]; omega
  have H0 := Lib.hid hB0
  clear hB0
  rw [← hW1] at hcv
  clear hW1
  go_enter Tryd.func6, Tryd.ntmps6
  go_wp2
  clear hcv
  go_loopw [8] (fun i wr => ∃ (k : Nat) (L : List UInt8), k ≤ 64 ∧ i = .int .i64 (k : Int) ∧ turnedBy p B k s.data.toList L ∧ BytesAt wr w.heap.size L ∧ Below w.heap.size w wr ∧ w.heap.size < wr.heap.size) (fun i _ => 64 - (intOf i).toNat)
  case atStart => exact ⟨0, s.data.toList, by omega, rfl, turned_zero _ _ _, H0.out, hb0, hW0⟩
  case round =>
    obtain ⟨k, L, hk, rfl, hT, hBA, hbel, hWs⟩ := hrel
    have hLl : L.length = s.size := by rw [hT.1, ← Lib.size_eq]
    have HT := Lib.hid hT
    have HBA := Lib.hid hBA
    have HLL := Lib.hid hLl
    clear hT hBA hLl
    by_cases hlt : k < 64
    · have hlt' : decide ((k : Int) < 64) = true := decide_eq_true (by omega)
      by_cases hin : p + k < 8 * s.size
      · have hin' : decide ((p : Int) + (k : Int) < 8 * (s.size : Int)) = true := decide_eq_true (by omega)
        have e0 : ((B : Int) / 2 ^ k) = ((B / 2 ^ k : Nat) : Int) := by simp
        have e1 : ((B : Int) / 2 ^ k).tmod 2 = ((B / 2 ^ k % 2 : Nat) : Int) := by
          rw [e0, Int.tmod_eq_emod_of_nonneg (Int.natCast_nonneg _)]; omega
        by_cases hbt : B / 2 ^ k % 2 = 1
        · have hb : (((B : Int) / 2 ^ k).tmod 2 == 1) = true := by rw [e1, hbt]; rfl
          obtain ⟨q, hq⟩ : ∃ q, q = (p + k) / 8 := ⟨_, rfl⟩
          have hqs : q < s.size := by omega
          obtain ⟨c, hc⟩ : ∃ c, L[q]? = some c := ⟨_, List.getElem?_eq_getElem (by rw [HLL.out]; exact hqs)⟩
          obtain ⟨c1, c2⟩ := HBA.out q c hc
          have HC := Lib.hid hc
          have k1 : IntKind.i64.wrap ((p : Int) + (k : Int)) = (p : Int) + (k : Int) := IntWalk.i64_in _ ⟨by omega, by omega⟩
          have k2 : (((p : Int) + (k : Int)) / 8) = (q : Int) := by omega
          have k3 : (q : Int) < (s.size : Int) := by omega
          have k4 : (0 : Int) ≤ (p : Int) + (k : Int) := by omega
          have HBT := Lib.hid hbt
          have HQ := Lib.hid hq
          clear e0 e1 hbt hq hc
          obtain ⟨x1, x2⟩ := u8_turn c ((p + k) % 8) (by omega)
          have HX := Lib.hid x2
          clear x2
          generalize UInt8.ofNat (c.toNat ^^^ 2 ^ ((p + k) % 8)) = d at x1 HX
          go_wp2_with fail
          go_region
          all_goals
            clear x1 k1 k2 k3 k4
            go_wp2
            go_roundw
            case rel => exact ⟨k + 1, L.set q d, by omega, by go_num, by have := turned_yes HT.out HBT.out c d (by rw [← HQ.out]; exact HC.out) HX.out; rw [← HQ.out] at this; exact this, (HBA.out.set q c d HC.out).drew, (hbel.setCell (p := ⟨w.heap.size, q, none⟩) (Nat.le_refl _) _).drew, by simpa using hWs⟩
            case measure => simp [intOf]; omega
        · have hb : (((B : Int) / 2 ^ k).tmod 2 == 1) = false := by rw [e1]; exact beq_false_of_ne (by omega)
          have HBT := Lib.hid (show B / 2 ^ k % 2 = 0 by omega)
          clear e0 e1 hbt
          go_wp2
          go_roundw
          case rel => exact ⟨k + 1, L, by omega, by go_num, turned_no HT.out HBT.out, HBA.out, hbel, hWs⟩
          case measure => simp [intOf]; omega
      · have hin' : decide ((p : Int) + (k : Int) < 8 * (s.size : Int)) = false := decide_eq_false (by omega)
        obtain ⟨t, ht⟩ : ∃ t : ByteArray, t = ⟨L.toArray⟩ := ⟨_, rfl⟩
        have htl : t.data.toList = L := by rw [ht]
        have hcv2 := conv_block wr ⟨w.heap.size, 0, none⟩ (grownCap w s.size 0 5) L (fun j hj => by
          have := (HBA.out j L[j] (List.getElem?_eq_getElem hj)).1
          have hadd : (⟨w.heap.size, 0, none⟩ : Addr).add j = ⟨w.heap.size, j, none⟩ := by unfold Addr.add; split <;> simp_all
          rw [hadd]; exact this)
        rw [HLL.out, ← ht] at hcv2
        have HTL := Lib.hid htl
        clear ht htl
        go_wp2
        go_ret
        exact ⟨⟨t, rfl, k, by omega, by rw [HTL.out]; exact HT.out⟩, hbel⟩
    · have hlt' : decide ((k : Int) < 64) = false := decide_eq_false (by omega)
      obtain ⟨t, ht⟩ : ∃ t : ByteArray, t = ⟨L.toArray⟩ := ⟨_, rfl⟩
      have htl : t.data.toList = L := by rw [ht]
      have hcv2 := conv_block wr ⟨w.heap.size, 0, none⟩ (grownCap w s.size 0 5) L (fun j hj => by
        have := (HBA.out j L[j] (List.getElem?_eq_getElem hj)).1
        have hadd : (⟨w.heap.size, 0, none⟩ : Addr).add j = ⟨w.heap.size, j, none⟩ := by unfold Addr.add; split <;> simp_all
        rw [hadd]; exact this)
      rw [HLL.out, ← ht] at hcv2
      have HTL := Lib.hid htl
      clear ht htl
      go_wp2
      go_ret
      exact ⟨⟨t, rfl, k, by omega, by rw [HTL.out]; exact HT.out⟩, hbel⟩
theorem crc_inj {a b : List UInt8} (h : crc a = crc b) : thr 18446744073709551615 a = thr 18446744073709551615 b := by
  have h1 := thr_lt (R := 18446744073709551615) (by decide) a
  have h2 := thr_lt (R := 18446744073709551615) (by decide) b
  unfold crc inv at h
  omega
theorem told_take (l : List UInt8) (h : 4 ≤ l.length) : told l = told (l.take 4) := by
  match l, h with
  | a :: b :: c :: d :: r, _ => rfl
theorem turned_open (s g : List UInt8) (p B i : Nat) (hl : s.length ≤ 65536) (ht : turnedBy p B i (frameB s) g) (hi : i ≤ 64) (hp : 32 ≤ p) (hp2 : p ≤ 8 * (frameB s).length) :
    ∃ d n why, openB g = (d, n, why) ∧ (why = 0 ↔ g = frameB s) := by
  have hfl := frameB_len s
  have hgl : g.length = s.length + 12 := ht.1.trans hfl
  have htk := turned_take ht 4 (by omega)
  have hto : told g = s.length := by
    rw [told_take g (by omega), htk, ← told_take _ (by omega)]
    have := frameB_form s []
    rw [List.append_nil] at this
    rw [this, told_hd _ (by omega)]
  have hthr := turned_thr ht hi hp2 18446744073709551615
  have hwf : thr 18446744073709551615 (frameB s) = sh 64 18446744073709551615 := (whole_iff (hd4 s.length ++ s) (le8 (crc (hd4 s.length ++ s))) rfl).1 rfl
  have hwg : wholeB g s.length = true ↔ thr 18446744073709551615 g = sh 64 18446744073709551615 := by
    have h8 : (g.drop (4 + s.length)).length = 8 := by rw [List.length_drop]; omega
    have := whole_iff (g.take (4 + s.length)) (g.drop (4 + s.length)) h8
    rw [List.take_append_drop] at this
    rw [← this]
    unfold wholeB
    rw [List.take_of_length_le (by omega), decide_eq_true_eq]
  rw [← hwf, hthr] at hwg
  unfold openB
  rw [hto, hgl, if_neg (by omega), if_neg (by omega), if_neg (by omega)]
  by_cases hg : wholeB g s.length = true
  · rw [if_pos hg]; exact ⟨_, _, 0, rfl, by simp [hwg.1 hg]⟩
  · rw [if_neg hg]; exact ⟨_, _, 2, rfl, by constructor; intro h; cases h; intro h; exact absurd (hwg.2 h) hg⟩
theorem list_eq_ba {a b : ByteArray} (h : a.data.toList = b.data.toList) : a = b := by
  cases a; cases b
  congr 1
  exact Array.toList_inj.1 h
theorem uint_at (z : Int) (n : Nat) (hn : 0 < n) (hn2 : n ≤ 1000000) : ∃ K : Nat, wrap64 ((IntKind.u64.wrap z).tmod (n : Int)) = (K : Int) ∧ K < n := by
  have h0 : 0 ≤ IntKind.u64.wrap z := by rw [IntKind.wrap_u64]; omega
  have h1 := Int.emod_nonneg (IntKind.u64.wrap z) (show (n : Int) ≠ 0 by omega)
  have h2 := Int.emod_lt_of_pos (IntKind.u64.wrap z) (show (0 : Int) < (n : Int) by omega)
  rw [Int.tmod_eq_emod_of_nonneg h0]
  refine ⟨((IntKind.u64.wrap z) % (n : Int)).toNat, ?_, by omega⟩
  rw [IntWalk.wrap64_in _ ⟨by omega, by omega⟩]; omega
set_option maxRecDepth 100000 in
set_option maxHeartbeats 4000000 in
theorem sturned_walk (v0 : Value) (s : ByteArray) (v1 : Value) (z : Int) (v2 : Value) (b : Int) (w : World) (y0 : v0 = .string s ∧ s.size ≤ maxLen) (y1 : v1 = .int .i64 z ∧ (Lit.int .i64 z).wf = true) (y2 : v2 = .int .u64 b ∧ (Lit.int .u64 b).wf = true) (hN : Nibs w) :
    Calls Tryd.prog 3 #[v0, v1, v2] w fun e w' => e = .returned (.bool true) ∧ Below w.heap.size w w' := by
  obtain ⟨rfl, hsm⟩ := y0
  obtain ⟨rfl, hz⟩ := y1
  obtain ⟨rfl, hb⟩ := y2
  unfold maxLen at hsm
  have hb' : 0 ≤ b ∧ b ≤ 18446744073709551615 := by simpa [Lit.wf, IntKind.min, IntKind.max, IntKind.signed, IntKind.bits] using hb
  obtain ⟨B, rfl⟩ : ∃ B : Nat, b = (B : Int) := ⟨b.toNat, by omega⟩
  have hB : B < 18446744073709551616 := by omega
  have HN := Lib.hid hN
  have HB := Lib.hid hB
  have HA := Lib.hid (fun (W : World) (o : Obj) => (Below.refl W.heap.size W).alloc (Nat.le_refl _) o)
  clear hN hz hb hb' hB
  by_cases h0 : s.size = 0
  · have hd : ((s.size : Int) == 0) = true := by rw [h0]; rfl
    go_enter Tryd.func3, Tryd.ntmps3
    go_wp2_with fail
    refine (awake5_any _ HN.out).mono ?_
    rintro e w1 ⟨rfl, hb1⟩
    go_wp2
    go_ret
    exact ⟨rfl, hb1⟩
  · have hd : ((s.size : Int) == 0) = false := beq_false_of_ne (by omega)
    by_cases hbig : 1500 < s.size
    · have hd2 : decide ((1500 : Int) < (s.size : Int)) = true := decide_eq_true (by omega)
      go_enter Tryd.func3, Tryd.ntmps3
      go_wp2_with fail
      refine (awake5_any _ HN.out).mono ?_
      rintro e w1 ⟨rfl, hb1⟩
      go_wp2
      go_ret
      exact ⟨rfl, hb1⟩
    · have hd2 : decide ((1500 : Int) < (s.size : Int)) = false := decide_eq_false (by omega)
      have hs1 : 0 < s.size := by omega
      obtain ⟨N, hN8⟩ : ∃ N, N = 8 * s.size := ⟨_, rfl⟩
      obtain ⟨K, hK, hKN⟩ := uint_at z N (by omega) (by omega)
      have hN8i : 8 * (s.size : Int) = (N : Int) := by omega
      have HK := Lib.hid hK
      have H8 := Lib.hid hN8
      clear hK hN8
      go_enter Tryd.func3, Tryd.ntmps3
      go_wp2_with fail
      rw [HK.out]
      refine (turned_any s (by omega) K (by have := H8.out; omega) B _).mono ?_
      rintro e w1 ⟨⟨t, rfl, i, hi, hT⟩, hb1⟩
      have hthr := turned_thr hT hi (by have := H8.out; rw [← Lib.size_eq]; omega) 18446744073709551615
      have htl : t.size = s.size := by rw [Lib.size_eq, Lib.size_eq, hT.1]
      have hs15 : s.data.toList.length ≤ 65536 := by rw [← Lib.size_eq]; omega
      have hj1 : joinB [s] = s.data.toList := by simp [joinB]
      have HT := Lib.hid hT
      have HTL := Lib.hid htl
      have HJ1 := Lib.hid hj1
      have hts : t.size ≤ 1500 := by omega
      obtain ⟨F, hF⟩ : ∃ F : ByteArray, F = ⟨(frameB s.data.toList).toArray⟩ := ⟨_, rfl⟩
      have hFl : F.data.toList = frameB s.data.toList := by rw [hF]
      have hFs : F.size = s.size + 12 := by rw [hF, ba_len, frameB_len, ← Lib.size_eq]
      obtain ⟨N2, hN2⟩ : ∃ N2, N2 = 8 * F.size - 32 := ⟨_, rfl⟩
      obtain ⟨K2, hK2, hKN2⟩ := uint_at z N2 (by omega) (by omega)
      have hN2i : 8 * (F.size : Int) - 32 = (N2 : Int) := by omega
      have hF13 : ¬ F.size < 13 := by omega
      have hF13' : decide ((F.size : Int) < 13) = false := decide_eq_false (by omega)
      have hFb : F.size ≤ 2000 := by omega
      have hK2s : 32 + K2 ≤ 8 * F.size := by omega
      have HF := Lib.hid hF
      have HFL := Lib.hid hFl
      have HK2 := Lib.hid hK2
      clear hT htl hj1 hF hFl hFs hN2 hK2
      by_cases hts' : t = s
      · have hne : (t.toList != s.toList) = false := by rw [hts']; simp
        have hne' : (t.toList == s.toList) = true := by rw [hts']; simp
        clear hts' hthr
        go_wp2_with fail
        have hA9 := HA.out w1 (.cells #[.string s] 9)
        have hfr := seal_frame (some ⟨w1.heap.size, 0, none⟩) 1 1 [s] _ rfl (by omega) (Nat.le_refl _) (by rw [HJ1.out]; omega) (one_text w1 s) ((HN.out.below hb1).below hA9)
        rw [HJ1.out, ← HF.out] at hfr
        have hB9 := hb1.trans (hA9.mono hb1.size)
        refine hfr.mono ?_
        rintro e w7 ⟨rfl, hb7⟩
        have hB7 := Below.thenB hB9 (by have := hb1.size; simp; omega) hb7
        clear hfr hA9 hb7
        go_wp2_with fail
        rw [HK2.out]
        have hpn : wrap64 ((32 : Int) + (K2 : Int)) = ((32 + K2 : Nat) : Int) := by rw [IntWalk.wrap64_in _ ⟨by omega, by omega⟩]; omega
        rw [hpn]
        refine (turned_any F (by omega) (32 + K2) (by omega) B _).mono ?_
        rintro e w8 ⟨⟨g, rfl, i2, hi2, hT2⟩, hb8⟩
        have hB8 := Below.thenB hB7 hB7.size hb8
        have hgl : g.size = F.size := by rw [Lib.size_eq, Lib.size_eq, hT2.1]
        have hgs : g.size ≤ 2000 := by omega
        rw [HFL.out] at hT2
        obtain ⟨d, n, why, hop, hiff⟩ := turned_open s.data.toList g.data.toList (32 + K2) B i2 hs15 hT2 hi2 (by omega) (by rw [← HFL.out, ← Lib.size_eq]; omega)
        rw [← HFL.out] at hiff
        have hfin : ((g.toList == F.toList) == ((why : Int) == 0)) = true := by
          by_cases h : g = F
          · have : why = 0 := hiff.2 (by rw [h])
            subst this; rw [h]; simp
          · have h1 : why ≠ 0 := fun e => h (list_eq_ba (hiff.1 e))
            rw [beq_false_of_ne (fun e => h (ba_toList_inj e)), beq_false_of_ne (show (why : Int) ≠ 0 by omega)]; rfl
        have HOP := Lib.hid hop
        clear hop hiff hT2 hgl hpn
        go_wp2_with fail
        refine (seal_open g (by omega) _ (HN.out.below hB8)).mono ?_
        rintro e w9 ⟨rfl, hb9⟩
        have hB9' := Below.thenB hB8 hB8.size hb9
        rw [HOP.out]
        unfold openE
        simp only
        go_wp2_with fail
        refine (awake5_any _ (HN.out.below hB9')).mono ?_
        rintro e w10 ⟨rfl, hb10⟩
        go_wp2
        go_ret
        exact ⟨rfl, Below.thenB hB9' hB9'.size hb10⟩
      · have hne : (t.toList != s.toList) = true := bne_iff_ne.2 (fun e => hts' (ba_toList_inj e))
        have hne' : (t.toList == s.toList) = false := beq_false_of_ne (fun e => hts' (ba_toList_inj e))
        have hcc : ((crc t.data.toList : Nat) : Int) ≠ ((crc s.data.toList : Nat) : Int) := by
          intro e
          exact hts' (list_eq_ba (hthr.1 (crc_inj (by omega))))
        have hcb : (((crc t.data.toList : Nat) : Int) == ((crc s.data.toList : Nat) : Int)) = false := beq_false_of_ne hcc
        have HCB := Lib.hid hcb
        clear hts' hthr hcc hcb
        go_wp2_with fail
        have hA3 := HA.out w1 (.cells #[.string t] 9)
        have hB3 := hb1.trans (hA3.mono hb1.size)
        refine (seal_of (some ⟨w1.heap.size, 0, none⟩) 1 1 [t] _ rfl (by omega) (fun x hx => by simp at hx; subst hx; unfold maxLen; omega) (one_text w1 t) ((HN.out.below hb1).below hA3)).mono ?_
        rintro e w3 ⟨rfl, hb3⟩
        have hB4 := Below.thenB hB3 (by have := hb1.size; simp; omega) hb3
        rw [show joinB [t] = t.data.toList by simp [joinB]]
        clear hA3 hB3 hb3
        go_wp2_with fail
        have hA5 := HA.out w3 (.cells #[.string s] 9)
        have hB5 := hB4.trans (hA5.mono hB4.size)
        refine (seal_of (some ⟨w3.heap.size, 0, none⟩) 1 1 [s] _ rfl (by omega) (fun x hx => by simp at hx; subst hx; unfold maxLen; omega) (one_text w3 s) ((HN.out.below hB4).below hA5)).mono ?_
        rintro e w5 ⟨rfl, hb5⟩
        have hB6 := Below.thenB hB5 (by have := hB4.size; simp; omega) hb5
        rw [HJ1.out]
        clear hA5 hB5 hb5
        have hcb := HCB.out
        clear HCB
        go_wp2_with fail
        have hA9 := HA.out w5 (.cells #[.string s] 9)
        have hfr := seal_frame (some ⟨w5.heap.size, 0, none⟩) 1 1 [s] _ rfl (by omega) (Nat.le_refl _) (by rw [HJ1.out]; omega) (one_text w5 s) ((HN.out.below hB6).below hA9)
        rw [HJ1.out, ← HF.out] at hfr
        have hB9 := hB6.trans (hA9.mono hB6.size)
        refine hfr.mono ?_
        rintro e w7 ⟨rfl, hb7⟩
        have hB7 := Below.thenB hB9 (by have := hB6.size; simp; omega) hb7
        clear hfr hA9 hb7
        go_wp2_with fail
        rw [HK2.out]
        have hpn : wrap64 ((32 : Int) + (K2 : Int)) = ((32 + K2 : Nat) : Int) := by rw [IntWalk.wrap64_in _ ⟨by omega, by omega⟩]; omega
        rw [hpn]
        refine (turned_any F (by omega) (32 + K2) (by omega) B _).mono ?_
        rintro e w8 ⟨⟨g, rfl, i2, hi2, hT2⟩, hb8⟩
        have hB8 := Below.thenB hB7 hB7.size hb8
        have hgl : g.size = F.size := by rw [Lib.size_eq, Lib.size_eq, hT2.1]
        have hgs : g.size ≤ 2000 := by omega
        rw [HFL.out] at hT2
        obtain ⟨d, n, why, hop, hiff⟩ := turned_open s.data.toList g.data.toList (32 + K2) B i2 hs15 hT2 hi2 (by omega) (by rw [← HFL.out, ← Lib.size_eq]; omega)
        rw [← HFL.out] at hiff
        have hfin : ((g.toList == F.toList) == ((why : Int) == 0)) = true := by
          by_cases h : g = F
          · have : why = 0 := hiff.2 (by rw [h])
            subst this; rw [h]; simp
          · have h1 : why ≠ 0 := fun e => h (list_eq_ba (hiff.1 e))
            rw [beq_false_of_ne (fun e => h (ba_toList_inj e)), beq_false_of_ne (show (why : Int) ≠ 0 by omega)]; rfl
        have HOP := Lib.hid hop
        clear hop hiff hT2 hgl hpn
        go_wp2_with fail
        refine (seal_open g (by omega) _ (HN.out.below hB8)).mono ?_
        rintro e w9 ⟨rfl, hb9⟩
        have hB9' := Below.thenB hB8 hB8.size hb9
        rw [HOP.out]
        unfold openE
        simp only
        go_wp2_with fail
        refine (awake5_any _ (HN.out.below hB9')).mono ?_
        rintro e w10 ⟨rfl, hb10⟩
        go_wp2
        go_ret
        exact ⟨rfl, Below.thenB hB9' hB9'.size hb10⟩
end Go.Proofs.YtfoejfneggcncabDoor
