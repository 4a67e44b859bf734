/- The document's bytes: contracts of ref04's Size, Signed, Text, Value, Row, Rows. -/
import Derived.Test.YtapcnpocaffeoabWrW
import Derived.Test.YtapcnpocaffeoabPg
namespace Go.Proofs.Ytapcnpocaffeoab
open Go.RowKit
theorem conv_two4 (w : World) (n : Int) (h0 : 0 ≤ n) (h1 : n < 256) : (convert 39 9 (Value.slice (some ⟨w.heap.size, 0, none⟩) 2 2)).run Try.prog (w.alloc (.cells #[Value.int .u8 3, Value.int .u8 n] 5)) = .ok (.string ⟨#[3, UInt8.ofNat n.toNat]⟩) (w.alloc (.cells #[Value.int .u8 3, Value.int .u8 n] 5)) := by
  refine conv_block _ _ 2 [3, UInt8.ofNat n.toNat] (fun j hj => ?_)
  have hj' : j < 2 := hj
  have e : ((UInt8.ofNat n.toNat).toNat : Int) = n := by rw [UInt8.toNat_ofNat']; omega
  rcases j with _ | _ | j
  · show _ = some (Value.int .u8 3); go_simp
  · rw [show [3, UInt8.ofNat n.toNat][0 + 1] = UInt8.ofNat n.toNat from rfl, e]; go_simp
  · omega
set_option maxHeartbeats 1000000 in
theorem rsize4_any (n : Int) (h1 : n ≤ 9223372036854775807) (w : World) : Calls Try.prog 10 #[.int .i64 n] w fun e w' => e = .returned (.string ⟨(numB n.toNat).toArray⟩) ∧ Below w.heap.size w w' := by
  by_cases hn : n < 0
  · have hd : decide (n < 0) = true := decide_eq_true hn
    have h0 : n.toNat = 0 := by omega
    rw [h0]
    have HN := Lib.hid (rnum4_any 0 (by omega) w)
    go_enter Try.func10, Try.ntmps10
    go_wp2_with fail
    refine HN.out.mono ?_
    rintro e w1 ⟨rfl, hb1⟩
    go_wp2
    go_ret
    exact ⟨rfl, hb1⟩
  · obtain ⟨m, rfl⟩ : ∃ m : Nat, n = (m : Int) := ⟨n.toNat, by omega⟩
    have hd : decide ((m : Int) < 0) = false := decide_eq_false hn
    rw [Int.toNat_natCast]
    have HN := Lib.hid (rnum4_any m (by omega) w)
    go_enter Try.func10, Try.ntmps10
    go_wp2_with fail
    refine HN.out.mono ?_
    rintro e w1 ⟨rfl, hb1⟩
    go_wp2
    go_ret
    exact ⟨rfl, hb1⟩
set_option maxHeartbeats 1000000 in
theorem rsigned4_any (n : Int) (h0 : -9223372036854775808 ≤ n) (h1 : n ≤ 9223372036854775807) (w : World) : Calls Try.prog 11 #[.int .i64 n] w fun e w' => e = .returned (.string ⟨(numB (foldN n)).toArray⟩) ∧ Below w.heap.size w w' := by
  have hf := foldN_lt n h0 h1
  obtain ⟨F, hF⟩ : ∃ F, F = foldN n := ⟨_, rfl⟩
  rw [← hF] at hf ⊢
  have HN := Lib.hid (rnum4_any F hf w)
  unfold foldN at hF
  by_cases hn : n < 0
  · have hd : decide (n < 0) = true := decide_eq_true hn
    rw [if_pos hn] at hF
    obtain ⟨m, hm⟩ : ∃ m : Nat, -(n + 1) = (m : Int) := ⟨(-(n + 1)).toNat, by omega⟩
    have hFm : F = 2 * m + 1 := by omega
    subst hFm
    obtain rfl : n = -(m : Int) - 1 := by omega
    have k1 : IntKind.i64.wrap (-(m : Int) - 1 + 1) = -(m : Int) := by simp [IntKind.wrap, IntKind.bits, IntKind.signed]; omega
    have k2 : IntKind.i64.wrap (-(-(m : Int))) = (m : Int) := by simp [IntKind.wrap, IntKind.bits, IntKind.signed]; omega
    clear hF hm
    have hmb : (m : Int) ≤ 9223372036854775807 := by omega
    have hmul : IntKind.u64.wrap (2 * (m : Int)) = 2 * (m : Int) := by rw [IntKind.wrap_u64]; omega
    have hadd : IntKind.u64.wrap (2 * (m : Int) + 1) = 2 * (m : Int) + 1 := by rw [IntKind.wrap_u64]; omega
    have hc : IntKind.u64.wrap (m : Int) = (m : Int) := by rw [IntKind.wrap_u64]; omega
    have hcast : ((2 * m + 1 : Nat) : Int) = 2 * (m : Int) + 1 := by omega
    rw [hcast] at HN
    clear hcast
    go_enter Try.func11, Try.ntmps11
    go_wp2_with fail
    refine HN.out.mono ?_
    rintro e w1 ⟨rfl, hb1⟩
    go_wp2
    go_ret
    exact ⟨rfl, hb1⟩
  · rw [if_neg hn] at hF
    obtain ⟨m, rfl⟩ : ∃ m : Nat, n = (m : Int) := ⟨n.toNat, by omega⟩
    have hd : decide ((m : Int) < 0) = false := decide_eq_false hn
    have hFm : F = 2 * m := by omega
    subst hFm
    clear hF
    have hmul : IntKind.u64.wrap (2 * (m : Int)) = 2 * (m : Int) := by rw [IntKind.wrap_u64]; omega
    have hc : IntKind.u64.wrap (m : Int) = (m : Int) := by rw [IntKind.wrap_u64]; omega
    have hcast : ((2 * m : Nat) : Int) = 2 * (m : Int) := by omega
    rw [hcast] at HN
    clear hcast
    go_enter Try.func11, Try.ntmps11
    go_wp2_with fail
    refine HN.out.mono ?_
    rintro e w1 ⟨rfl, hb1⟩
    go_wp2
    go_ret
    exact ⟨rfl, hb1⟩
theorem cat_ba (A : List UInt8) (s : ByteArray) (l : List UInt8) (h : s.data.toList = l) : (⟨A.toArray⟩ : ByteArray) ++ s = ⟨(A ++ l).toArray⟩ := by
  rw [ba_of_list h]
  apply ByteArray.ext
  rw [ByteArray.data_append]
  simp
set_option maxHeartbeats 1000000 in
theorem rtext4_any (s : ByteArray) (hs : s.size ≤ 1048576) (w : World) : Calls Try.prog 12 #[.string s] w fun e w' => e = .returned (.string ⟨(textB s).toArray⟩) ∧ Below w.heap.size w w' := by
  have hn := rsize4_any (s.size : Int) (by omega) w
  rw [Int.toNat_natCast] at hn
  obtain ⟨A, hA⟩ : ∃ A : ByteArray, A = ⟨(numB s.size).toArray⟩ := ⟨_, rfl⟩
  rw [← hA] at hn
  have hAs : A.size ≤ 9 := by rw [hA, ba_len]; exact numB_len _
  obtain ⟨Y, hY⟩ : ∃ Y : ByteArray, Y = A ++ s := ⟨_, rfl⟩
  have hYd : Y = ⟨(textB s).toArray⟩ := by rw [hY, hA]; exact cat_ba _ _ _ rfl
  have hYe := hY.symm
  have HN := Lib.hid hn
  have HY := Lib.hid hYd
  clear hn hA hY hYd
  go_enter Try.func12, Try.ntmps12
  go_wp2_with fail
  refine HN.out.mono ?_
  rintro e w1 ⟨rfl, hb1⟩
  go_wp2
  go_ret
  exact ⟨by rw [HY.out]; rfl, hb1⟩
set_option maxRecDepth 100000 in
set_option maxHeartbeats 2000000 in
theorem rvalue4_any (v : Val) (h0 : -9223372036854775808 ≤ v.2.1) (h1 : v.2.1 ≤ 9223372036854775807) (w : World) : Calls Try.prog 13 #[vagg v] w fun e w' => e = .returned (.string ⟨(valB v).toArray⟩) ∧ Below w.heap.size w w' := by
  obtain ⟨W1, hW1⟩ : ∃ W1, W1 = w.alloc (.cells #[.int .i64 v.1, .int .i64 v.2.1, .string v.2.2] 35) := ⟨_, rfl⟩
  have hA1 : Below w.heap.size w W1 := by rw [hW1]; exact (Below.refl _ _).alloc (Nat.le_refl _) _
  have hk1 : W1.heap[w.heap.size]? = some (.cells #[.int .i64 v.1, .int .i64 v.2.1, .string v.2.2] 35 (0, 0)) := by rw [hW1]; exact Array.getElem?_push_size
  have hs1 : w.heap.size < W1.heap.size := by rw [hW1]; simp
  have hr := rright_any v W1
  obtain ⟨B, hB⟩ : ∃ B, B = valB v := ⟨_, rfl⟩
  rw [← hB]
  unfold valB at hB
  obtain ⟨k, n, s⟩ := v
  unfold vagg at hr ⊢
  simp only [] at h0 h1 hr hk1 hW1 hB ⊢
  have HK := Lib.hid hk1
  have HRI := Lib.hid hr
  have HA := Lib.hid hA1
  have HW1 := Lib.hid hW1.symm
  obtain ⟨⟨c0, c1, c2⟩, _⟩ := val_at hk1
  clear hk1 hr hA1 hW1
  have hone : ∀ (c : UInt8) (l : List UInt8) (Z : ByteArray), Z.data.toList = l → (⟨#[c]⟩ : ByteArray) ++ Z = ⟨(c :: l).toArray⟩ := fun c l Z h => cat_ba [c] Z l h
  cases hv : vright (k, n, s) with
  | false =>
    rw [hv] at HRI hB
    rw [if_neg (by decide)] at hB
    have HB := Lib.hid hB
    have HS := Lib.hid (fun W => rsigned4_any 0 (by omega) (by omega) W)
    obtain ⟨Z, hZ⟩ : ∃ Z : ByteArray, Z = ⟨(numB (foldN 0)).toArray⟩ := ⟨_, rfl⟩
    rw [← hZ] at HS
    have hZs : Z.size ≤ 9 := by rw [hZ, ba_len]; exact numB_len _
    obtain ⟨Y, hY⟩ : ∃ Y : ByteArray, Y = ⟨#[1]⟩ ++ Z := ⟨_, rfl⟩
    have hYe := hY.symm
    have HY : Hid (Y = ⟨B.toArray⟩) := by rw [HB.out, hY]; exact hone 1 _ Z (by rw [hZ])
    clear hB hZ hY hv hone
    go_enter Try.func13, Try.ntmps13
    go_upto_region 1 with fail
    rw [HW1.out]
    go_wp2_with fail
    refine HRI.out.mono ?_
    rintro e w2 ⟨rfl, hb2⟩
    have HB2 := Lib.hid (Below.thenB HA.out (Nat.le_of_lt hs1) hb2)
    clear hb2
    go_wp2_with fail
    refine (HS.out _).mono ?_
    rintro e w3 ⟨rfl, hb3⟩
    have HB3 := Lib.hid (Below.thenB HB2.out HB2.out.size hb3)
    clear hb3
    go_wp2
    go_ret
    exact ⟨by rw [HY.out]; rfl, HB3.out⟩
  | true =>
    rw [hv] at HRI hB
    rw [if_pos rfl] at hB
    unfold vright at hv
    simp only at hv
    by_cases k1 : k = 1
    · subst k1
      rw [if_pos rfl] at hB
      have HB := Lib.hid hB
      have HS := Lib.hid (fun W => rsigned4_any n h0 h1 W)
      obtain ⟨Z, hZ⟩ : ∃ Z : ByteArray, Z = ⟨(numB (foldN n)).toArray⟩ := ⟨_, rfl⟩
      rw [← hZ] at HS
      have hZs : Z.size ≤ 9 := by rw [hZ, ba_len]; exact numB_len _
      obtain ⟨Y, hY⟩ : ∃ Y : ByteArray, Y = ⟨#[1]⟩ ++ Z := ⟨_, rfl⟩
      have hYe := hY.symm
      have HY : Hid (Y = ⟨B.toArray⟩) := by rw [HB.out, hY]; exact hone 1 _ Z (by rw [hZ])
      clear hB hZ hY hv hone
      go_enter Try.func13, Try.ntmps13
      go_upto_region 1 with fail
      rw [HW1.out]
      go_wp2_with fail
      refine HRI.out.mono ?_
      rintro e w2 ⟨rfl, hb2⟩
      have HB2 := Lib.hid (Below.thenB HA.out (Nat.le_of_lt hs1) hb2)
      have hk2 := (hb2.block w.heap.size hs1).trans HK.out
      obtain ⟨⟨d0, d1, d2⟩, _⟩ := val_at hk2
      clear hb2 hk2 HK c0 c1 c2
      go_wp2_with fail
      refine (HS.out _).mono ?_
      rintro e w3 ⟨rfl, hb3⟩
      have HB3 := Lib.hid (Below.thenB HB2.out HB2.out.size hb3)
      clear hb3
      go_wp2
      go_ret
      exact ⟨by rw [HY.out]; rfl, HB3.out⟩
    · by_cases k2 : k = 2
      · subst k2
        rw [if_neg (by decide), if_pos rfl] at hB hv
        simp only [Bool.and_eq_true, decide_eq_true_eq] at hv
        have hss := hv.2
        have HB := Lib.hid hB
        have HS := Lib.hid (fun W => rtext4_any s (by omega) W)
        obtain ⟨Z, hZ⟩ : ∃ Z : ByteArray, Z = ⟨(textB s).toArray⟩ := ⟨_, rfl⟩
        rw [← hZ] at HS
        have hZs : Z.size ≤ 209 := by
          have h1 := numB_len s.size
          have h2 : s.data.toList.length = s.size := Array.length_toList
          rw [hZ, ba_len]; unfold textB; rw [List.length_append]; omega
        obtain ⟨Y, hY⟩ : ∃ Y : ByteArray, Y = ⟨#[2]⟩ ++ Z := ⟨_, rfl⟩
        have hYe := hY.symm
        have HY : Hid (Y = ⟨B.toArray⟩) := by rw [HB.out, hY]; exact hone 2 _ Z (by rw [hZ])
        clear hB hZ hY hv hone
        go_enter Try.func13, Try.ntmps13
        go_upto_region 1 with fail
        rw [HW1.out]
        go_wp2_with fail
        refine HRI.out.mono ?_
        rintro e w2 ⟨rfl, hb2⟩
        have HB2 := Lib.hid (Below.thenB HA.out (Nat.le_of_lt hs1) hb2)
        have hk2 := (hb2.block w.heap.size hs1).trans HK.out
        obtain ⟨⟨d0, d1, d2⟩, _⟩ := val_at hk2
        clear hb2 hk2 HK c0 c1 c2
        go_wp2_with fail
        refine (HS.out _).mono ?_
        rintro e w3 ⟨rfl, hb3⟩
        have HB3 := Lib.hid (Below.thenB HB2.out HB2.out.size hb3)
        clear hb3
        go_wp2
        go_ret
        exact ⟨by rw [HY.out]; rfl, HB3.out⟩
      · by_cases k3 : k = 3
        · subst k3
          rw [if_neg (by decide), if_neg (by decide)] at hB
          rw [if_neg (by decide), if_neg (by decide), if_pos rfl] at hv
          simp only [Bool.and_eq_true, Bool.or_eq_true, decide_eq_true_eq] at hv
          have hn := hv.1
          have hn8 : IntKind.u8.wrap n = n := by rw [IntKind.wrap_u8]; omega
          have HB := Lib.hid hB
          have HCV := Lib.hid (fun W => conv_two4 W n (by omega) (by omega))
          clear hB hv hone
          go_enter Try.func13, Try.ntmps13
          go_upto_region 1 with fail
          rw [HW1.out]
          go_wp2_with fail
          refine HRI.out.mono ?_
          rintro e w2 ⟨rfl, hb2⟩
          have HB2 := Lib.hid (Below.thenB HA.out (Nat.le_of_lt hs1) hb2)
          have hk2 := (hb2.block w.heap.size hs1).trans HK.out
          obtain ⟨⟨d0, d1, d2⟩, _⟩ := val_at hk2
          have hcv := HCV.out w2
          have HB3 := Lib.hid (HB2.out.alloc HB2.out.size (.cells #[.int .u8 3, .int .u8 n] 5))
          clear hb2 hk2 HK c0 c1 c2
          go_wp2
          go_ret
          exact ⟨by rw [HB.out]; rfl, HB3.out⟩
        · rw [if_neg k1, if_neg k2, if_neg k3] at hv; cases hv
set_option maxRecDepth 100000 in
set_option maxHeartbeats 1000000 in
theorem rrow4_any (a : Option Addr) (m c : Nat) (rs : List Val) (w : World) (hl : rs.length = m) (hm : m ≤ 30) (hv : Vals w a rs) (hok : ValsOk rs) :
    Calls Try.prog 14 #[.slice a m c] w fun e w' => e = .returned (.string ⟨(rowB rs).toArray⟩) ∧ Below w.heap.size w w' := by
  have hn := rsize4_any (m : Int) (by omega) w
  rw [Int.toNat_natCast] at hn
  obtain ⟨A, hA⟩ : ∃ A : ByteArray, A = ⟨(numB m).toArray⟩ := ⟨_, rfl⟩
  rw [← hA] at hn
  have hAs : A.size ≤ 9 := by rw [hA, ba_len]; exact numB_len _
  have hAl : A.data.toList = numB m := by rw [hA]
  have HN := Lib.hid hn
  have HAL := Lib.hid hAl
  have HL := Lib.hid hl
  have HV := Lib.hid hv
  have HOK := Lib.hid hok
  clear hn hA hAl hl hv hok
  go_enter Try.func14, Try.ntmps14
  go_wp2_with fail
  refine HN.out.mono ?_
  rintro e w1 ⟨rfl, hb1⟩
  have HB1 := Lib.hid hb1
  clear hb1 HN
  go_wp2
  go_loopw [3, 4] (fun sv iv wr => ∃ (k : Nat) (t : ByteArray), k ≤ m ∧ iv = .int .i64 (k : Int) ∧ sv = .string t ∧ Hid (t.data.toList = numB m ++ (rs.take k).flatMap valB) ∧ t.size ≤ 9 + 220 * k ∧ Below w.heap.size w wr) (fun _ iv _ => m - (intOf iv).toNat)
  case atStart => exact ⟨0, A, Nat.zero_le _, rfl, rfl, Lib.hid (by rw [HAL.out]; simp), by omega, HB1.out⟩
  case round =>
    obtain ⟨k, t, hk, rfl, rfl, hT, hts, hbel⟩ := hrel
    have hszr := hbel.size
    by_cases hlt : k < m
    · have hlt' : decide ((k : Int) < (m : Int)) = true := decide_eq_true (by omega)
      obtain ⟨b, o, v, rfl, hbb, hvk, c0, c1, c2⟩ := Vals.at3 HV.out HL.out hlt hbel
      have hvo := HOK.out v (List.mem_of_getElem? hvk)
      have hcall := rvalue4_any v hvo.2.1.1 hvo.2.1.2 wr
      unfold vagg at hcall
      obtain ⟨X, hX⟩ : ∃ X : ByteArray, X = ⟨(valB v).toArray⟩ := ⟨_, rfl⟩
      rw [← hX] at hcall
      have hXs : X.size ≤ 220 := by rw [hX, ba_len]; exact valB_len v
      obtain ⟨Y, hY⟩ : ∃ Y : ByteArray, Y = t ++ X := ⟨_, rfl⟩
      have hYl : Y.data.toList = numB m ++ (rs.take (k + 1)).flatMap valB := by
        rw [hY, ByteArray.data_append, Array.toList_append, hT.out, hX, List.take_add_one, hvk]
        simp
      have hYs : Y.size ≤ 9 + 220 * (k + 1) := by rw [hY, ByteArray.size_append]; omega
      have hYe := hY.symm
      have HY := Lib.hid hYl
      have HC := Lib.hid hcall
      have HBL := Lib.hid hbel
      clear hX hY hYl hT hcall hvk hbel hvo
      go_wp2_with fail
      refine HC.out.mono ?_
      rintro e w2 ⟨rfl, hb2⟩
      have HB2 := Lib.hid (Below.thenB HBL.out hszr hb2)
      clear hb2 HC HBL
      go_wp2
      go_roundw
      case rel => exact ⟨k + 1, Y, by omega, by go_num, rfl, HY, hYs, HB2.out⟩
      case measure => simp [intOf]; omega
    · have hlt' : decide ((k : Int) < (m : Int)) = false := decide_eq_false (by omega)
      have hTe : t = ⟨(rowB rs).toArray⟩ := by
        refine ba_of_list ?_
        rw [hT.out, List.take_of_length_le (by rw [HL.out]; omega)]
        unfold rowB
        rw [HL.out]
        rfl
      have HT := Lib.hid hTe
      have HBL := Lib.hid hbel
      clear hT hTe hbel
      go_wp2
      go_ret
      exact ⟨by rw [HT.out]; rfl, HBL.out⟩
set_option maxRecDepth 100000 in
set_option maxHeartbeats 1000000 in
theorem rrows4_any {P : Nat → Prop} (a : Option Addr) (m c : Nat) (rs : List (List Val)) (w : World) (hl : rs.length = m) (hm : m ≤ 30) (hv : RowsAt P w a rs) (hok : ∀ r ∈ rs, ValsOk r ∧ r.length ≤ 30) :
    Calls Try.prog 15 #[.slice a m c] w fun e w' => e = .returned (.string ⟨(rowsB rs).toArray⟩) ∧ Below w.heap.size w w' := by
  have hn := rsize4_any (m : Int) (by omega) w
  rw [Int.toNat_natCast] at hn
  obtain ⟨A, hA⟩ : ∃ A : ByteArray, A = ⟨(numB m).toArray⟩ := ⟨_, rfl⟩
  rw [← hA] at hn
  have hAs : A.size ≤ 9 := by rw [hA, ba_len]; exact numB_len _
  have hAl : A.data.toList = numB m := by rw [hA]
  have HN := Lib.hid hn
  have HAL := Lib.hid hAl
  have HL := Lib.hid hl
  have HV := Lib.hid hv
  have HOK := Lib.hid hok
  clear hn hA hAl hl hv hok
  go_enter Try.func15, Try.ntmps15
  go_wp2_with fail
  refine HN.out.mono ?_
  rintro e w1 ⟨rfl, hb1⟩
  have HB1 := Lib.hid hb1
  clear hb1 HN
  go_wp2
  go_loopw [3, 4] (fun sv iv wr => ∃ (k : Nat) (t : ByteArray), k ≤ m ∧ iv = .int .i64 (k : Int) ∧ sv = .string t ∧ Hid (t.data.toList = numB m ++ (rs.take k).flatMap rowB) ∧ t.size ≤ 9 + 6609 * k ∧ Below w.heap.size w wr) (fun _ iv _ => m - (intOf iv).toNat)
  case atStart => exact ⟨0, A, Nat.zero_le _, rfl, rfl, Lib.hid (by rw [HAL.out]; simp), by omega, HB1.out⟩
  case round =>
    obtain ⟨k, t, hk, rfl, rfl, hT, hts, hbel⟩ := hrel
    have hszr := hbel.size
    by_cases hlt : k < m
    · have hlt' : decide ((k : Int) < (m : Int)) = true := decide_eq_true (by omega)
      obtain ⟨b, o, v, ad, cd, rfl, hbb, hvk, c0, hU⟩ := RowsAt.at HV.out HL.out hlt hbel
      have hvo := HOK.out v (List.mem_of_getElem? hvk)
      have hcall := rrow4_any ad v.length cd v wr rfl hvo.2 (hU.below hbel) hvo.1
      obtain ⟨X, hX⟩ : ∃ X : ByteArray, X = ⟨(rowB v).toArray⟩ := ⟨_, rfl⟩
      rw [← hX] at hcall
      have hXs : X.size ≤ 6609 := by rw [hX, ba_len]; exact rowB_len v hvo.2
      obtain ⟨Y, hY⟩ : ∃ Y : ByteArray, Y = t ++ X := ⟨_, rfl⟩
      have hYl : Y.data.toList = numB m ++ (rs.take (k + 1)).flatMap rowB := by
        rw [hY, ByteArray.data_append, Array.toList_append, hT.out, hX, List.take_add_one, hvk]
        simp
      have hYs : Y.size ≤ 9 + 6609 * (k + 1) := by rw [hY, ByteArray.size_append]; omega
      have hYe := hY.symm
      have HY := Lib.hid hYl
      have HC := Lib.hid hcall
      have HBL := Lib.hid hbel
      clear hX hY hYl hT hcall hvk hbel hvo hU
      go_wp2_with fail
      refine HC.out.mono ?_
      rintro e w2 ⟨rfl, hb2⟩
      have HB2 := Lib.hid (Below.thenB HBL.out hszr hb2)
      clear hb2 HC HBL
      go_wp2
      go_roundw
      case rel => exact ⟨k + 1, Y, by omega, by go_num, rfl, HY, hYs, HB2.out⟩
      case measure => simp [intOf]; omega
    · have hlt' : decide ((k : Int) < (m : Int)) = false := decide_eq_false (by omega)
      have hTe : t = ⟨(rowsB rs).toArray⟩ := by
        refine ba_of_list ?_
        rw [hT.out, List.take_of_length_le (by rw [HL.out]; omega)]
        unfold rowsB
        rw [HL.out]
      have HT := Lib.hid hTe
      have HBL := Lib.hid hbel
      clear hT hTe hbel
      go_wp2
      go_ret
      exact ⟨by rw [HT.out]; rfl, HBL.out⟩
end Go.Proofs.Ytapcnpocaffeoab
