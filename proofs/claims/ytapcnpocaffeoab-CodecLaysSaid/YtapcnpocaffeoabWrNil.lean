/- Contracts of codec's Writer: of none. -/
import Derived.Test.YtapcnpocaffeoabWrW
import Derived.Deep.DeepCutAuto
namespace Go.Proofs.Ytapcnpocaffeoab
open Go.RowKit
theorem blkv_lt {w : World} {b : Nat} {x : Obj} (h : w.heap[b]? = some x) : b < w.heap.size := (Array.getElem?_eq_some_iff.1 h).1
set_option maxRecDepth 100000 in
set_option maxHeartbeats 1000000 in
theorem wnumber_nil (n : Nat) (h : n < 18446744073709551616) (w : World) :
    Calls Try.prog 40 #[.pointer none, .int .u64 (n : Int)] w fun e w' => e = .returned (.tuple #[]) ∧ Below w.heap.size w w' := by
  have hd := digs_len_le 8 n
  have hw := width_any n h
  generalize (digs 8 n).length = D at *
  have HW := Lib.hid hw
  have HP := Lib.hid put_nil
  clear hw h
  go_enter Try.func40, Try.ntmps40
  go_wp2_with fail
  refine (HW.out _).mono ?_
  rintro e w0 ⟨rfl, rfl⟩
  go_wp2_with fail
  refine (HP.out _ _).mono ?_
  rintro e w1 ⟨rfl, hE⟩
  have hB1 : Below w.heap.size w w1 := by rw [← hE]; exact (Below.refl _ _).alloc (Nat.le_refl _) _
  have HB1 := Lib.hid hB1
  clear hE hB1
  go_wp2
  go_loopw [5] (fun i wr => ∃ k : Nat, k ≤ D ∧ i = .int .i64 ((D : Int) - 1 - (k : Int)) ∧ Below w.heap.size w wr) (fun i _ => (intOf i + 1).toNat)
  case atStart => exact ⟨0, Nat.zero_le _, by simp, HB1.out⟩
  case round =>
    obtain ⟨k, hk, rfl, hbel⟩ := hrel
    have hsz := hbel.size
    by_cases hlt : k < D
    · have hge : decide ((0 : Int) ≤ (D : Int) - 1 - (k : Int)) = true := decide_eq_true (by omega)
      obtain ⟨i, hi⟩ : ∃ i : Nat, i = D - 1 - k := ⟨_, rfl⟩
      have hii : (D : Int) - 1 - (k : Int) = (i : Int) := by omega
      have hi8 : i < 8 := by omega
      rw [hii]
      rw [hii] at hge
      have hi0 : (0 : Int) ≤ (i : Int) := by omega
      have HII := Lib.hid hii
      have HBL := Lib.hid hbel
      clear hi hii hbel
      go_wp2_with fail
      refine (HP.out _ _).mono ?_
      rintro e w2 ⟨rfl, hE⟩
      have hB2 : Below w.heap.size w w2 := by rw [← hE]; exact HBL.out.alloc hsz _
      have HB2 := Lib.hid hB2
      clear hE hB2
      go_wp2
      go_roundw
      case rel => exact ⟨k + 1, by omega, by rw [← HII.out]; congr 1; omega, HB2.out⟩
      case measure => first | (simp [intOf]; done) | (simp [intOf]; omega)
    · obtain rfl : k = D := by omega
      have hge : decide ((0 : Int) ≤ (k : Int) - 1 - (k : Int)) = false := decide_eq_false (by omega)
      have hge' : (k : Int) - 1 - (k : Int) = -1 := by omega
      have HBL := Lib.hid hbel
      clear hbel
      go_wp2
      go_end0
      exact ⟨rfl, HBL.out⟩
set_option maxRecDepth 100000 in
set_option maxHeartbeats 1000000 in
theorem wsize_nil (a : Option Addr) (m c : Nat) (zs : List Int) (w : World) (hm : zs.length = m) (hm2 : m ≤ 1048576) (hI : I64s zs) (hZ : Ints .i64 w a zs) :
    Calls Try.prog 16 #[.pointer none, .slice a m c] w fun e w' => e = .returned (.pointer none) ∧ Below w.heap.size w w' := by
  have HM := Lib.hid hm
  have HZ := Lib.hid hZ
  have HI := Lib.hid hI
  clear hm hI hZ
  go_enter Try.func16, Try.ntmps16
  go_wp2
  go_loopw [9] (fun i wr => ∃ k : Nat, k ≤ m ∧ i = .int .i64 (k : Int) ∧ Below w.heap.size w wr) (fun i _ => m - (intOf i).toNat)
  case atStart => exact ⟨0, Nat.zero_le _, rfl, Below.refl _ _⟩
  case round =>
    obtain ⟨k, hk, rfl, hbel⟩ := hrel
    have hsz := hbel.size
    by_cases hlt : k < m
    · have hlt' : decide ((k : Int) < (m : Int)) = true := decide_eq_true (by omega)
      rcases HZ.out with hv0 | ⟨hnn, bs, o, rfl, hbs, hcz⟩
      · have := HM.out
        rw [hv0] at this
        simp at this
        omega
      have hc := (hbel.cell (p := ⟨bs, o + k, none⟩) hbs).trans (hcz k (by rw [HM.out]; exact hlt))
      have hz := HI.out.at k (by rw [HM.out]; exact hlt)
      generalize zs.getD k 0 = z at hc hz
      clear hcz
      obtain ⟨N, hN⟩ : ∃ N : Nat, N = z.toNat := ⟨_, rfl⟩
      have hu : max z 0 = (N : Int) := by omega
      have HN := Lib.hid (wnumber_nil N (by omega) wr)
      clear hN
      have HBL := Lib.hid hbel
      clear hbel
      go_wp2_with fail
      refine HN.out.mono ?_
      rintro e w2 ⟨rfl, hb2⟩
      have HB2 := Lib.hid (Below.thenB HBL.out hsz hb2)
      clear hb2 HN HBL hu hc
      go_wp2
      go_roundw
      case rel => exact ⟨k + 1, by omega, by go_num, HB2.out⟩
      case measure => simp [intOf]; omega
    · have hlt' : decide ((k : Int) < (m : Int)) = false := decide_eq_false (by omega)
      have HBL := Lib.hid hbel
      clear hbel
      go_wp2
      go_ret
      exact ⟨rfl, HBL.out⟩
set_option maxRecDepth 100000 in
set_option maxHeartbeats 1000000 in
theorem wsigned_nil (a : Option Addr) (m c : Nat) (zs : List Int) (w : World) (hm : zs.length = m) (hm2 : m ≤ 1048576) (hI : I64s zs) (hZ : Ints .i64 w a zs) :
    Calls Try.prog 17 #[.pointer none, .slice a m c] w fun e w' => e = .returned (.pointer none) ∧ Below w.heap.size w w' := by
  have HM := Lib.hid hm
  have HZ := Lib.hid hZ
  have HI := Lib.hid hI
  clear hm hI hZ
  go_enter Try.func17, Try.ntmps17
  go_wp2
  go_loopw [9] (fun i wr => ∃ k : Nat, k ≤ m ∧ i = .int .i64 (k : Int) ∧ Below w.heap.size w wr) (fun i _ => m - (intOf i).toNat)
  case atStart => exact ⟨0, Nat.zero_le _, rfl, Below.refl _ _⟩
  case round =>
    obtain ⟨k, hk, rfl, hbel⟩ := hrel
    have hsz := hbel.size
    by_cases hlt : k < m
    · have hlt' : decide ((k : Int) < (m : Int)) = true := decide_eq_true (by omega)
      rcases HZ.out with hv0 | ⟨hnn, bs, o, rfl, hbs, hcz⟩
      · have := HM.out
        rw [hv0] at this
        simp at this
        omega
      have hc := (hbel.cell (p := ⟨bs, o + k, none⟩) hbs).trans (hcz k (by rw [HM.out]; exact hlt))
      have hz := HI.out.at k (by rw [HM.out]; exact hlt)
      generalize zs.getD k 0 = z at hc hz
      clear hcz
      have HF := Lib.hid (fold_any z hz.1 hz.2 wr)
      have HN := Lib.hid (wnumber_nil (foldN z) (foldN_lt z hz.1 hz.2) wr)
      generalize foldN z = N at HF HN
      have HBL := Lib.hid hbel
      clear hbel
      go_wp2_with fail
      refine HF.out.mono ?_
      rintro e w2 ⟨rfl, hE⟩
      subst hE
      go_wp2_with fail
      refine HN.out.mono ?_
      rintro e w2 ⟨rfl, hb2⟩
      have HB2 := Lib.hid (Below.thenB HBL.out hsz hb2)
      clear hb2 HN HF HBL hc
      go_wp2
      go_roundw
      case rel => exact ⟨k + 1, by omega, by go_num, HB2.out⟩
      case measure => simp [intOf]; omega
    · have hlt' : decide ((k : Int) < (m : Int)) = false := decide_eq_false (by omega)
      have HBL := Lib.hid hbel
      clear hbel
      go_wp2
      go_ret
      exact ⟨rfl, HBL.out⟩
set_option maxRecDepth 100000 in
set_option maxHeartbeats 1000000 in
theorem wtext_nil (a : Option Addr) (m c : Nat) (ss : List ByteArray) (w : World) (hm : ss.length = m) (hm2 : m ≤ 1048576) (hs : ∀ s ∈ ss, s.size ≤ 1048576) (hT : Texts w a ss) :
    Calls Try.prog 18 #[.pointer none, .slice a m c] w fun e w' => e = .returned (.pointer none) ∧ Below w.heap.size w w' := by
  have HM := Lib.hid hm
  have HT := Lib.hid hT
  have HS := Lib.hid hs
  have HP := Lib.hid put_nil
  clear hm hs hT
  go_enter Try.func18, Try.ntmps18
  go_wp2
  go_loopw [9] (fun i wr => ∃ k : Nat, k ≤ m ∧ i = .int .i64 (k : Int) ∧ Below w.heap.size w wr) (fun i _ => m - (intOf i).toNat)
  case atStart => exact ⟨0, Nat.zero_le _, rfl, Below.refl _ _⟩
  case round =>
    obtain ⟨k, hk, rfl, hbel⟩ := hrel
    have hsz := hbel.size
    by_cases hlt : k < m
    · have hlt' : decide ((k : Int) < (m : Int)) = true := decide_eq_true (by omega)
      rcases HT.out with hv0 | ⟨hnn, bs, o, rfl, hbs, hcz⟩
      · have := HM.out
        rw [hv0] at this
        simp at this
        omega
      obtain ⟨s, hsk⟩ : ∃ s, ss[k]? = some s := ⟨_, List.getElem?_eq_getElem (by rw [HM.out]; exact hlt)⟩
      have hc := (hbel.cell (p := ⟨bs, o + k, none⟩) hbs).trans (hcz k s hsk)
      have hss := HS.out s (List.mem_of_getElem? hsk)
      have HSZ := Lib.hid (wsize_nil (some ⟨wr.heap.size, 0, none⟩) 1 1 [(s.size : Int)] _ rfl (by omega) (fun z hz => by simp at hz; subst hz; omega) (one_int wr (s.size : Int) 3))
      clear hcz hsk
      have HBL := Lib.hid hbel
      clear hbel
      go_wp2_with fail
      refine HSZ.out.mono ?_
      rintro e w2 ⟨rfl, hb2⟩
      have HB1 := Lib.hid (Below.thenB (HBL.out.alloc hsz (.cells #[.int .i64 (s.size : Int)] 3)) (by simp; omega) hb2)
      have hsz2 := HB1.out.size
      have hcv := Lib.run_convert_string_bytes w2 9 39 5 s Try.underlying9 Try.underlying39 Try.underlying5
      obtain ⟨W3, hW3⟩ : ∃ W3, W3 = Lib.bytesWorld w2 5 s := ⟨_, rfl⟩
      have hb3 : Below w2.heap.size w2 W3 := by rw [hW3]; exact Lib.bytesWorld_below w2 5 s
      rw [← hW3] at hcv
      have HB3 := Lib.hid (Below.thenB HB1.out hsz2 hb3)
      clear hb2 HSZ HBL hc hW3 hb3 HB1
      go_wp2_with fail
      refine (HP.out _ _).mono ?_
      rintro e w4 ⟨rfl, hE⟩
      have HB2 : Hid (Below w.heap.size w w4) := by rw [← hE]; exact HB3.out
      clear hE HB3 hcv
      go_wp2
      go_roundw
      case rel => exact ⟨k + 1, by omega, by go_num, HB2.out⟩
      case measure => simp [intOf]; omega
    · have hlt' : decide ((k : Int) < (m : Int)) = false := decide_eq_false (by omega)
      have HBL := Lib.hid hbel
      clear hbel
      go_wp2
      go_ret
      exact ⟨rfl, HBL.out⟩
set_option maxRecDepth 100000 in
set_option maxHeartbeats 2000000 in
theorem wvalue0_nil (v : Val) (h0 : -9223372036854775808 ≤ v.2.1) (h1 : v.2.1 ≤ 9223372036854775807) (h2 : v.2.2.size ≤ 1048576) (w : World) :
    Calls Try.prog 43 #[.pointer none, vagg v] w fun e w' => e = .returned (.tuple #[]) ∧ Below w.heap.size w w' := by
  obtain ⟨k, n, s⟩ := v
  unfold vagg
  simp only [] at h0 h1 h2 ⊢
  obtain ⟨W1, hW1⟩ : ∃ W1, W1 = w.alloc (.cells #[.int .i64 k, .int .i64 n, .string s] 35) := ⟨_, rfl⟩
  have hA1 : Below w.heap.size w W1 := by rw [hW1]; exact (Below.refl _ _).alloc (Nat.le_refl _) _
  have hk1 : W1.heap[w.heap.size]? = some (.cells #[.int .i64 k, .int .i64 n, .string s] 35 (0, 0)) := by rw [hW1]; exact Array.getElem?_push_size
  have hs1 : W1.heap.size = w.heap.size + 1 := by rw [hW1]; simp
  obtain ⟨W2, hW2⟩ : ∃ W2, W2 = W1.alloc (.cells #[.int .i64 k, .int .i64 n, .string s] 35) := ⟨_, rfl⟩
  have hA2 : Below W1.heap.size W1 W2 := by rw [hW2]; exact (Below.refl _ _).alloc (Nat.le_refl _) _
  have hs2 : W2.heap.size = w.heap.size + 2 := by rw [hW2]; simp [hs1]
  have hr := right_all (some ⟨W1.heap.size, 0, none⟩) 1 1 [(k, n, s)] W2 rfl (by omega) (by rw [hW2]; exact one_val W1 k n s)
  rw [hs1, show [(k, n, s)].all vright = vright (k, n, s) by simp] at hr
  have HK2 := Lib.hid ((hA2.block w.heap.size (by omega)).trans hk1)
  have HB2 := Lib.hid (Below.thenB hA1 (by omega) hA2)
  have HRI := Lib.hid hr
  have HW1 := Lib.hid hW1.symm
  have HW2 := Lib.hid hW2.symm
  have HP := Lib.hid put_nil
  have HIN := Lib.hid (fun W => int_any 0 W)
  obtain ⟨⟨m0, m1, m2⟩, _⟩ := val_at hk1
  clear hA1 hA2 hk1 hr hW1 hW2
  go_enter Try.func43, Try.ntmps43
  go_upto_region 1 with fail
  rw [HW1.out]
  go_wp2_with fail
  rw [HW2.out]
  refine HRI.out.mono ?_
  rintro e w3 ⟨rfl, hb3⟩
  have HK3 := Lib.hid ((hb3.block w.heap.size (by omega)).trans HK2.out)
  have HB3 := Lib.hid (Below.thenB HB2.out (by omega) hb3)
  have hs3 : w.heap.size < w3.heap.size := by have := hb3.size; omega
  clear hb3 HRI HW1 HW2 HK2 HB2 m0 m1 m2
  generalize vright (k, n, s) = rr
  go_upto_if 7 with fail
  go_cut [7] (fun _ wx => ∃ (k' n' : Int) (s' : ByteArray), wx.heap[w.heap.size]? = some (.cells #[.int .i64 k', .int .i64 n', .string s'] 35 (0, 0)) ∧ (-9223372036854775808 ≤ n' ∧ n' ≤ 9223372036854775807) ∧ s'.size ≤ 1048576 ∧ Below w.heap.size w wx)
  case first =>
    cases rr with
    | true =>
      go_wp2_with fail
      go_meet
      exact ⟨k, n, s, HK3.out, ⟨h0, h1⟩, h2, HB3.out⟩
    | false =>
      go_wp2_with fail
      refine (HIN.out _).mono ?_
      rintro e w4 ⟨rfl, hb4⟩
      have hk4 := (hb4.block w.heap.size hs3).trans HK3.out
      obtain ⟨⟨c0, c1, c2⟩, f0, f1, f2⟩ := val_at hk4
      have hk5 := vset3 hk4 (.int .i64 1) (.int .i64 0) (.string ⟨#[]⟩)
      have hb5 := (((Below.thenB HB3.out (Nat.le_of_lt hs3) hb4).setCell (p := ⟨w.heap.size, 0, none⟩) (Nat.le_refl _) (.int .i64 1)).setCell (p := ⟨w.heap.size, 1, none⟩) (Nat.le_refl _) (.int .i64 0)).setCell (p := ⟨w.heap.size, 2, none⟩) (Nat.le_refl _) (.string ⟨#[]⟩)
      have HK5 := Lib.hid hk5
      have HB5 := Lib.hid hb5
      clear hk4 hk5 hb5 hb4 HK3 HB3
      go_wp2_with fail
      go_meet
      exact ⟨1, 0, ⟨#[]⟩, HK5.out, ⟨by omega, by omega⟩, Nat.zero_le _, HB5.out⟩
  case rest =>
  obtain ⟨k', n', s', hk', ⟨hn0, hn1⟩, hs', hB⟩ := hcut
  clear h0 h1 h2 HK3 HB3 hs1 hs2 hs3
  obtain ⟨⟨c0, c1, c2⟩, f0, f1, f2⟩ := val_at hk'
  have hsc : w.heap.size < wc.heap.size := blkv_lt hk'
  have HKC := Lib.hid hk'
  have HBC := Lib.hid hB
  clear hk' hB
  go_wp2_with fail
  refine (HP.out _ _).mono ?_
  rintro e w5 ⟨rfl, hE⟩
  have hb5 : Below wc.heap.size wc w5 := by rw [← hE]; exact (Below.refl _ _).alloc (Nat.le_refl _) _
  have hk5 := (hb5.block w.heap.size hsc).trans HKC.out
  have hz5 := hb5.size
  have HB5 := Lib.hid (Below.thenB HBC.out (Nat.le_of_lt hsc) hb5)
  obtain ⟨⟨d0, d1, d2⟩, g0, g1, g2⟩ := val_at hk5
  clear hE hb5 hk5 HBC HKC c0 c1 c2 f0 f1 f2
  by_cases k1 : k' = 1
  · subst k1
    have HS := Lib.hid (wsigned_nil (some ⟨w5.heap.size, 0, none⟩) 1 1 [n'] _ rfl (by omega) (fun z hz => by simp at hz; subst hz; exact ⟨hn0, hn1⟩) (one_int w5 n' 2))
    go_wp2_with fail
    refine HS.out.mono ?_
    rintro e w6 ⟨rfl, hb6⟩
    have HB6 := Lib.hid (Below.thenB (HB5.out.alloc (by omega) (.cells #[.int .i64 n'] 2)) (by simp; omega) hb6)
    clear hb6
    go_wp2
    go_end0
    exact ⟨rfl, HB6.out⟩
  by_cases k2 : k' = 2
  · subst k2
    have HS := Lib.hid (wtext_nil (some ⟨w5.heap.size, 0, none⟩) 1 1 [s'] _ rfl (by omega) (fun z hz => by simp at hz; subst hz; exact hs') (one_text w5 s'))
    go_wp2_with fail
    refine HS.out.mono ?_
    rintro e w6 ⟨rfl, hb6⟩
    have HB6 := Lib.hid (Below.thenB (HB5.out.alloc (by omega) (.cells #[.string s'] 9)) (by simp; omega) hb6)
    clear hb6
    go_wp2
    go_end0
    exact ⟨rfl, HB6.out⟩
  by_cases k3 : k' = 3
  · subst k3
    go_wp2_with fail
    refine (HP.out _ _).mono ?_
    rintro e w6 ⟨rfl, hE⟩
    have HB6 : Hid (Below w.heap.size w w6) := by rw [← hE]; exact HB5.out.alloc (by omega) _
    clear hE
    go_wp2
    go_end0
    exact ⟨rfl, HB6.out⟩
  · have t1 : (k' == 1) = false := beq_false_of_ne k1
    have t2 : (k' == 2) = false := beq_false_of_ne k2
    have t3 : (k' == 3) = false := beq_false_of_ne k3
    go_wp2
    go_end0
    exact ⟨rfl, HB5.out⟩
set_option maxRecDepth 100000 in
set_option maxHeartbeats 1000000 in
theorem wvalue_nil (a : Option Addr) (m c : Nat) (vs : List Val) (w : World) (hm : vs.length = m) (hm2 : m ≤ 1048576) (hok : ∀ v ∈ vs, (-9223372036854775808 ≤ v.2.1 ∧ v.2.1 ≤ 9223372036854775807) ∧ v.2.2.size ≤ 1048576) (hV : Vals w a vs) :
    Calls Try.prog 19 #[.pointer none, .slice a m c] w fun e w' => e = .returned (.pointer none) ∧ Below w.heap.size w w' := by
  have HM := Lib.hid hm
  have HV := Lib.hid hV
  have HOK := Lib.hid hok
  clear hm hok hV
  go_enter Try.func19, Try.ntmps19
  go_wp2
  go_loopw [9] (fun i wr => ∃ k : Nat, k ≤ m ∧ i = .int .i64 (k : Int) ∧ Below w.heap.size w wr) (fun i _ => m - (intOf i).toNat)
  case atStart => exact ⟨0, Nat.zero_le _, rfl, Below.refl _ _⟩
  case round =>
    obtain ⟨k, hk, rfl, hbel⟩ := hrel
    have hsz := hbel.size
    by_cases hlt : k < m
    · have hlt' : decide ((k : Int) < (m : Int)) = true := decide_eq_true (by omega)
      obtain ⟨b, o, v, rfl, hbb, hvk, c0, c1, c2⟩ := Vals.at3 HV.out HM.out hlt hbel
      obtain ⟨⟨hv0, hv1⟩, hv2⟩ := HOK.out v (List.mem_of_getElem? hvk)
      have hval := wvalue0_nil v hv0 hv1 hv2 (wr.alloc (.cells #[.int .i64 v.1, .int .i64 v.2.1, .string v.2.2] 35))
      unfold vagg at hval
      have HN := Lib.hid hval
      clear hval hvk
      have HBL := Lib.hid hbel
      clear hbel
      go_wp2_with fail
      refine HN.out.mono ?_
      rintro e w2 ⟨rfl, hb2⟩
      have HB2 := Lib.hid (Below.thenB (HBL.out.alloc hsz (.cells #[.int .i64 v.1, .int .i64 v.2.1, .string v.2.2] 35)) (by simp; omega) hb2)
      clear hb2 HN HBL c0 c1 c2
      go_wp2
      go_roundw
      case rel => exact ⟨k + 1, by omega, by go_num, HB2.out⟩
      case measure => simp [intOf]; omega
    · have hlt' : decide ((k : Int) < (m : Int)) = false := decide_eq_false (by omega)
      have HBL := Lib.hid hbel
      clear hbel
      go_wp2
      go_ret
      exact ⟨rfl, HBL.out⟩
set_option maxRecDepth 100000 in
set_option maxHeartbeats 1000000 in
theorem wrow_nil (a : Option Addr) (m c : Nat) (vs : List Val) (w : World) (hm : vs.length = m) (hm2 : m ≤ 1048576) (hok : ∀ v ∈ vs, (-9223372036854775808 ≤ v.2.1 ∧ v.2.1 ≤ 9223372036854775807) ∧ v.2.2.size ≤ 1048576) (hV : Vals w a vs) :
    Calls Try.prog 20 #[.pointer none, .slice a m c] w fun e w' => e = .returned (.pointer none) ∧ Below w.heap.size w w' := by
  have HSZ := Lib.hid (wsize_nil (some ⟨w.heap.size, 0, none⟩) 1 1 [(m : Int)] _ rfl (by omega) (fun z hz => by simp at hz; subst hz; omega) (one_int w (m : Int) 3))
  have HV := Lib.hid hV
  have HOK := Lib.hid hok
  have HM := Lib.hid hm
  clear hV hok hm
  go_enter Try.func20, Try.ntmps20
  go_wp2_with fail
  refine HSZ.out.mono ?_
  rintro e w2 ⟨rfl, hb2⟩
  have hB2 := Below.thenB ((Below.refl w.heap.size w).alloc (Nat.le_refl _) (.cells #[.int .i64 (m : Int)] 3)) (by simp) hb2
  have HN := Lib.hid (wvalue_nil a m c vs w2 HM.out hm2 HOK.out (HV.out.below hB2))
  have HB2 := Lib.hid hB2
  clear hb2 hB2 HSZ
  go_wp2_with fail
  refine HN.out.mono ?_
  rintro e w3 ⟨rfl, hb3⟩
  have HB3 := Lib.hid (Below.thenB HB2.out HB2.out.size hb3)
  clear hb3
  go_wp2
  go_ret
  exact ⟨rfl, HB3.out⟩
set_option maxRecDepth 100000 in
set_option maxHeartbeats 1000000 in
theorem wrows_nil {P : Nat → Prop} (a : Option Addr) (m c : Nat) (rs : List (List Val)) (w : World) (hm : rs.length = m) (hm2 : m ≤ 1048576) (hok : ∀ r ∈ rs, r.length ≤ 1048576 ∧ ∀ v ∈ r, (-9223372036854775808 ≤ v.2.1 ∧ v.2.1 ≤ 9223372036854775807) ∧ v.2.2.size ≤ 1048576) (hV : RowsAt P w a rs) :
    Calls Try.prog 21 #[.pointer none, .slice a m c] w fun e w' => e = .returned (.pointer none) ∧ Below w.heap.size w w' := by
  have HM := Lib.hid hm
  have HV := Lib.hid hV
  have HOK := Lib.hid hok
  have HSZ := Lib.hid (wsize_nil (some ⟨w.heap.size, 0, none⟩) 1 1 [(m : Int)] _ rfl (by omega) (fun z hz => by simp at hz; subst hz; omega) (one_int w (m : Int) 3))
  clear hm hok hV
  go_enter Try.func21, Try.ntmps21
  go_wp2_with fail
  refine HSZ.out.mono ?_
  rintro e w2 ⟨rfl, hb2⟩
  have HB2' := Lib.hid (Below.thenB ((Below.refl w.heap.size w).alloc (Nat.le_refl _) (.cells #[.int .i64 (m : Int)] 3)) (by simp) hb2)
  clear hb2 HSZ
  go_wp2
  go_loopw [14] (fun i wr => ∃ k : Nat, k ≤ m ∧ i = .int .i64 (k : Int) ∧ Below w.heap.size w wr) (fun i _ => m - (intOf i).toNat)
  case atStart => exact ⟨0, Nat.zero_le _, rfl, HB2'.out⟩
  case round =>
    obtain ⟨k, hk, rfl, hbel⟩ := hrel
    have hsz := hbel.size
    by_cases hlt : k < m
    · have hlt' : decide ((k : Int) < (m : Int)) = true := decide_eq_true (by omega)
      obtain ⟨b, o, u, ad, cd, rfl, hbb, huk, c0, hU⟩ := RowsAt.at HV.out HM.out hlt hbel
      obtain ⟨hul, huo⟩ := HOK.out u (List.mem_of_getElem? huk)
      have HN := Lib.hid (wrow_nil ad u.length cd u wr rfl hul huo (hU.below hbel))
      clear huk hU huo
      have HBL := Lib.hid hbel
      clear hbel
      go_wp2_with fail
      refine HN.out.mono ?_
      rintro e w2 ⟨rfl, hb2⟩
      have HB2 := Lib.hid (Below.thenB HBL.out hsz hb2)
      clear hb2 HN HBL c0
      go_wp2
      go_roundw
      case rel => exact ⟨k + 1, by omega, by go_num, HB2.out⟩
      case measure => simp [intOf]; omega
    · have hlt' : decide ((k : Int) < (m : Int)) = false := decide_eq_false (by omega)
      have HBL := Lib.hid hbel
      clear hbel
      go_wp2
      go_ret
      exact ⟨rfl, HBL.out⟩
theorem wstring_nil (w : World) : Calls Try.prog 22 #[.pointer none] w fun e w' => e = .returned (.string ⟨#[]⟩) ∧ w = w' := by
  go_enter Try.func22, Try.ntmps22
  go_wp2
  go_ret
  exact ⟨rfl, rfl⟩
theorem wlen_nil (w : World) : Calls Try.prog 23 #[.pointer none] w fun e w' => e = .returned (.int .i64 0) ∧ w = w' := by
  go_enter Try.func23, Try.ntmps23
  go_wp2
  go_ret
  exact ⟨rfl, rfl⟩
theorem bstring_nil (w : World) : Calls Try.prog 24 #[.pointer none] w fun e w' => e = .returned (.string ⟨#[]⟩) ∧ w = w' := by
  go_enter Try.func24, Try.ntmps24
  go_wp2
  go_ret
  exact ⟨rfl, rfl⟩
theorem blen_nil (w : World) : Calls Try.prog 25 #[.pointer none] w fun e w' => e = .returned (.int .i64 0) ∧ w = w' := by
  go_enter Try.func25, Try.ntmps25
  go_wp2
  go_ret
  exact ⟨rfl, rfl⟩
end Go.Proofs.Ytapcnpocaffeoab
