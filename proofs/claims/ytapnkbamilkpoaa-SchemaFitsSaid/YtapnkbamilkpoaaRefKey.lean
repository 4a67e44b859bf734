/- The document's keys of values and rows: contracts of ref02's Key, Keys. -/
import Derived.Test.YtapnkbamilkpoaaNum8
import Derived.Test.YtapnkbamilkpoaaB8
namespace Go.Proofs.Ytapnkbamilkpoaa
open Go.RowKit
theorem rbe8_at (U k : Nat) (hk : k < 8) : (be8 U).drop (8 - (k + 1)) = UInt8.ofNat (U / 256 ^ k) :: (be8 U).drop (8 - k) := by
  rcases k with _ | _ | _ | _ | _ | _ | _ | _ | k <;> first | (exfalso; omega) | simp [be8]
theorem rk_shift (n : Int) (h0 : -9223372036854775808 ≤ n) (h1 : n ≤ 9223372036854775807) : IntKind.u64.wrap (IntKind.u64.wrap n + 9223372036854775808) = (((n + 9223372036854775808).toNat : Nat) : Int) := by
  rw [IntKind.wrap_u64, IntKind.wrap_u64]; omega
set_option maxRecDepth 100000 in
set_option maxHeartbeats 1000000 in
theorem rkey1 (n : Int) (h0 : -9223372036854775808 ≤ n) (h1 : n ≤ 9223372036854775807) (s : ByteArray) (w : World) :
    Calls Try.prog 68 #[.agg #[.int .i64 1, .int .i64 n, .string s]] w fun e w' => e = .returned (.string ⟨(1 :: be8 (n + 9223372036854775808).toNat).toArray⟩) ∧ Below w.heap.size w w' := by
  have hsh := rk_shift n h0 h1
  have hUb : (n + 9223372036854775808).toNat < 18446744073709551616 := by omega
  generalize (n + 9223372036854775808).toNat = U at hsh hUb ⊢
  have HB8 := Lib.hid (rbe8_at U)
  have HUB := Lib.hid hUb
  have hA : Below w.heap.size w (w.alloc (.cells #[.int .i64 1, .int .i64 n, .string s] 55)) := (Below.refl _ _).alloc (Nat.le_refl _) _
  have HA := Lib.hid hA
  clear hUb hA h0 h1
  go_enter Try.func68, Try.ntmps68
  go_wp2
  go_loopw [3, 4, 5] (fun u x i wr => ∃ (k : Nat) (t : ByteArray), k ≤ 8 ∧ i = .int .i64 (k : Int) ∧ u = .int .u64 ((U / 256 ^ k : Nat) : Int) ∧ x = .string t ∧ Hid (t.data.toList = (be8 U).drop (8 - k)) ∧ t.size ≤ 8 ∧ Below w.heap.size w wr) (fun _ _ i _ => 8 - (intOf i).toNat)
  case atStart => exact ⟨0, ⟨#[]⟩, by omega, rfl, by simp, rfl, Lib.hid (by rfl), Nat.zero_le _, HA.out⟩
  case round =>
    obtain ⟨k, t, hk, rfl, rfl, rfl, hT, hts, hbel⟩ := hrel
    have hszr := hbel.size
    clear hsh
    by_cases hlt : k < 8
    · have hlt' : decide ((k : Int) < 8) = true := decide_eq_true (by omega)
      have hq : U / 256 ^ k < 18446744073709551616 := Nat.lt_of_le_of_lt (Nat.div_le_self _ _) HUB.out
      have hq2 : U / 256 ^ (k + 1) = U / 256 ^ k / 256 := by rw [Nat.pow_succ, Nat.div_div_eq_div_mul]
      have hb := HB8.out k hlt
      have HQ := Lib.hid hq2
      clear hq2
      generalize U / 256 ^ k = M at *
      have hcv := conv_one wr ((M : Int) % 256) (by omega) (by omega)
      obtain ⟨X, hX⟩ : ∃ X : ByteArray, X = ⟨#[UInt8.ofNat (((M : Int) % 256).toNat)]⟩ := ⟨_, rfl⟩
      rw [← hX] at hcv
      obtain ⟨Y, hY⟩ : ∃ Y : ByteArray, Y = X ++ t := ⟨_, rfl⟩
      have hYl : Y.data.toList = (be8 U).drop (8 - (k + 1)) := by
        rw [hb, hY, hX, ← hT.out]
        have : UInt8.ofNat (((M : Int) % 256).toNat) = UInt8.ofNat M := by apply UInt8.toNat_inj.1; simp only [UInt8.toNat_ofNat']; omega
        rw [this]; simp
      have hYs : Y.size ≤ 8 := by rw [Lib.size_eq, hYl, List.length_drop]; have : (be8 U).length = 8 := rfl; omega
      have hXs : X.size ≤ 1 := by rw [hX]; exact Nat.le_refl _
      have hYe := hY.symm
      have HY := Lib.hid hYl
      clear hb hX hY hYl hT
      go_wp2
      go_roundw
      case rel => exact ⟨k + 1, Y, by omega, by go_num, by rw [HQ.out]; go_num, rfl, HY, hYs, hbel.alloc hszr _⟩
      case measure => simp [intOf]; omega
    · obtain rfl : k = 8 := by omega
      have hlt' : decide ((8 : Int) < 8) = false := decide_eq_false (by omega)
      obtain ⟨Y, hY⟩ : ∃ Y : ByteArray, Y = ⟨#[1]⟩ ++ t := ⟨_, rfl⟩
      have hTl := hT.out
      have hYd : Y = ⟨(1 :: be8 U).toArray⟩ := by
        rw [hY]; apply ByteArray.ext
        have : t.data = (be8 U).toArray := by rw [show be8 U = t.data.toList from hTl.symm]
        rw [ByteArray.data_append, this]; simp
      have hYe := hY.symm
      have HY := Lib.hid hYd
      clear hTl hY hYd hT
      go_wp2
      go_ret
      exact ⟨by rw [HY.out]; rfl, hbel⟩
theorem conv_two (w : World) (n : Int) (h0 : 0 ≤ n) (h1 : n < 256) : (convert 91 9 (Value.slice (some ⟨w.heap.size, 0, none⟩) 2 2)).run Try.prog (w.alloc (.cells #[Value.int .u8 3, Value.int .u8 n] 5)) = .ok (.string ⟨#[3, UInt8.ofNat n.toNat]⟩) (w.alloc (.cells #[Value.int .u8 3, Value.int .u8 n] 5)) := by
  refine conv_block _ _ 2 [3, UInt8.ofNat n.toNat] (fun j hj => ?_)
  have hj' : j < 2 := hj
  have e : ((UInt8.ofNat n.toNat).toNat : Int) = n := by rw [UInt8.toNat_ofNat']; omega
  rcases j with _ | _ | j
  · show _ = some (Value.int .u8 3); go_simp
  · rw [show [3, UInt8.ofNat n.toNat][0 + 1] = UInt8.ofNat n.toNat from rfl, e]; go_simp
  · omega
set_option maxRecDepth 100000 in
set_option maxHeartbeats 1000000 in
theorem rkey3 (n : Int) (h0 : 0 ≤ n) (h1 : n < 256) (s : ByteArray) (w : World) :
    Calls Try.prog 68 #[.agg #[.int .i64 3, .int .i64 n, .string s]] w fun e w' => e = .returned (.string ⟨#[3, UInt8.ofNat n.toNat]⟩) ∧ Below w.heap.size w w' := by
  have hcv := conv_two (w.alloc (.cells #[.int .i64 3, .int .i64 n, .string s] 55)) n h0 h1
  have hw : IntKind.u8.wrap n = n := by rw [IntKind.wrap_u8]; omega
  rw [show (w.alloc (.cells #[.int .i64 3, .int .i64 n, .string s] 55)).heap.size = w.heap.size + 1 by simp] at hcv
  go_enter Try.func68, Try.ntmps68
  go_wp2
  go_ret
  exact ⟨rfl, ((Below.refl _ _).alloc (Nat.le_refl _) _).alloc (by simp) _⟩
theorem own_one {w : World} {b : Nat} {c : UInt8} {B : Nat} (hB : B ≤ b) (h : w.heap[b]? = some (.cells #[.int .u8 (c.toNat : Int)] 5 (0, 0))) : w.ownsRow B 5 1 (.slice (some ⟨b, 0, none⟩) 1 1) 1 (b8s [c]) :=
  ⟨rfl, .inr ⟨b, 1, _, rfl, hB, h, Nat.le_refl _, by unfold maxLen; omega, rfl, rfl⟩⟩
theorem b8s_app (a b : List UInt8) : b8s (a ++ b) = b8s a ++ b8s b := by simp [b8s]
set_option maxRecDepth 100000 in
set_option maxHeartbeats 1000000 in
theorem rkey2 (n : Int) (s : ByteArray) (hs : s.size ≤ 1048576) (w : World) :
    Calls Try.prog 68 #[.agg #[.int .i64 2, .int .i64 n, .string s]] w fun e w' => e = .returned (.string ⟨(2 :: (esc s.data.toList ++ [0, 1])).toArray⟩) ∧ Below w.heap.size w w' := by
  obtain ⟨i0, hi, hz0, hz1, hz2⟩ := info_parts info_b8
  have hsl : s.data.toList.length = s.size := by rw [Lib.size_eq]
  obtain ⟨W1, hW1⟩ : ∃ W1, W1 = (w.alloc (.cells #[.int .i64 2, .int .i64 n, .string s] 55)).alloc (.cells #[.int .u8 2] 5) := ⟨_, rfl⟩
  have hA : Below w.heap.size w W1 := by rw [hW1]; exact ((Below.refl _ _).alloc (Nat.le_refl _) _).alloc (by simp) _
  have hZ : W1.heap.size = w.heap.size + 2 := by rw [hW1]; simp
  have hc2 : W1.cell? ⟨w.heap.size, 2, none⟩ = some (.string s) := by rw [hW1]; go_simp
  have hO : W1.ownsRow (w.heap.size + 1) 5 1 (.slice (some ⟨w.heap.size + 1, 0, none⟩) 1 1) 1 (b8s [2]) := by
    refine own_one (Nat.le_refl _) ?_
    rw [hW1, show w.heap.size + 1 = (w.alloc (.cells #[.int .i64 2, .int .i64 n, .string s] 55)).heap.size by simp]
    exact Array.getElem?_push_size
  have HA := Lib.hid hA
  have HO := Lib.hid hO
  have HSL := Lib.hid hsl
  have HC2 := Lib.hid hc2
  have HW := Lib.hid hW1
  clear hA hO hsl hc2 hW1
  go_enter Try.func68, Try.ntmps68
  go_wp2
  rw [← HW.out]
  go_loopw [6, 7] (fun x i wr => ∃ (k : Nat) (L : List UInt8) (a : Option Addr) (c : Nat), k ≤ s.size ∧ i = .int .i64 (k : Int) ∧ x = .slice a L.length c ∧ Hid (L = 2 :: esc (s.data.toList.take k)) ∧ L.length ≤ 1 + 2 * k ∧ wr.ownsRow (w.heap.size + 1) 5 1 (.slice a L.length c) L.length (b8s L) ∧ Below w.heap.size w wr ∧ wr.cell? ⟨w.heap.size, 2, none⟩ = some (.string s) ∧ w.heap.size < wr.heap.size) (fun _ i _ => s.size - (intOf i).toNat)
  case atStart => exact ⟨0, [2], _, 1, Nat.zero_le _, rfl, rfl, Lib.hid (by rw [List.take_zero]; rfl), by simp, HO.out, HA.out, HC2.out, by omega⟩
  case round =>
    obtain ⟨k, L, a, c, hk, rfl, rfl, hL, hLk, hown, hbel, hcs, hwz⟩ := hrel
    have hszr := hbel.size
    have HL := Lib.hid hL.out
    have HO1 := Lib.hid hown
    clear hL hown HO HA HC2 HW
    by_cases hlt : k < s.size
    · have hlt' : decide ((k : Int) < (s.size : Int)) = true := decide_eq_true (by omega)
      have hts : s.data.toList.take (k + 1) = s.data.toList.take k ++ [s[k]] := by
        rw [List.take_succ_eq_append_getElem (by rw [HSL.out]; exact hlt)]; rfl
      have hes : esc (s.data.toList.take (k + 1)) = esc (s.data.toList.take k) ++ if s[k] = 0 then [0, 255] else [s[k]] := by rw [hts, esc_snoc]
      have HES := Lib.hid hes
      have hb := s[k].toNat_lt
      obtain ⟨B, hB⟩ : ∃ B : UInt8, B = s[k] := ⟨_, rfl⟩
      have hBn : (s[k].toNat : Int) = (B.toNat : Int) := by rw [hB]
      have hB2 : s[k].toNat = B.toNat := by rw [hB]
      have HBB := Lib.hid hB
      clear hts hes hB
      have hki : (k : Int) < (s.size : Int) := by omega
      go_wp2_with (at_builtin; refine wpList_append_lies _ rfl (.tmp 41) (.tmp 46) 91 rfl (w.heap.size + 1) 5 i0 (.int .u8 0) 1 1 Try.underlying91 hi hz0 hz1 hz2 rfl (by decide) _ L.length (b8s L) rfl (HO1.out.alloc _) ⟨wr.heap.size, 0, none⟩ 1 1 [.int .u8 (B.toNat : Int)] rfl rfl (one_cell_new _ _ _) ?c1 (by decide) ?c2 ?c3 ?c4 (wr.heap.size + 1) ?c5 ?_)
      case c1 => simp [Value.oneCell']
      case c2 => unfold maxLen; omega
      case c3 => omega
      case c4 => simp; omega
      case c5 => simp
      intro g cap w1 hn1 hgr hat hgl
      have hb1 : Below w.heap.size w w1 := (hbel.alloc hszr _).grown hgr (by simp; omega) (fun j hj => by have := (HO1.out.lt j hj).1; omega)
      have hcs1 : w1.cell? ⟨w.heap.size, 2, none⟩ = some (.string s) := by
        refine World.grownBy.cell hgr (by go_simp) (fun e => ?_)
        have := (HO1.out.lt _ e.symm).1
        simp at this
        omega
      have hzw1 : w.heap.size < w1.heap.size := by have := hgr.size; simp at this; omega
      have hO2 : w1.ownsRow (w.heap.size + 1) 5 1 (.slice (some ⟨g, 0, none⟩) (L.length + 1) cap) (L.length + 1) (b8s (L ++ [B])) := by rw [b8s_app]; exact hn1
      have HO2 := Lib.hid hO2
      clear hgr hat hn1 hO2
      by_cases h0 : B = 0
      · have hd : ((B.toNat : Int) == 0) = true := by rw [h0]; rfl
        have hes := HES.out
        rw [← HBB.out, if_pos h0] at hes
        have hL3 : L ++ [B] ++ [255] = 2 :: esc (s.data.toList.take (k + 1)) := by rw [HL.out, hes, h0]; simp
        have HL3 := Lib.hid hL3
        clear hes h0 hL3
        go_wp2_with (at_builtin; refine wpList_append_lies _ rfl (.tmp 53) (.tmp 54) 91 rfl (w.heap.size + 1) 5 i0 (.int .u8 0) 1 1 Try.underlying91 hi hz0 hz1 hz2 rfl (by decide) _ (L.length + 1) (b8s (L ++ [B])) rfl (HO2.out.alloc _) ⟨w1.heap.size, 0, none⟩ 1 1 [.int .u8 255] rfl rfl (one_cell_new _ _ _) ?c1 (by decide) ?c2 ?c3 ?c4 (w1.heap.size + 1) ?c5 ?_)
        case c1 => simp [Value.oneCell']
        case c2 => unfold maxLen; omega
        case c3 => omega
        case c4 => simp; omega
        case c5 => simp
        intro g2 cap2 w2 hn2 hgr2 hat2 hgl2
        have hb2 : Below w.heap.size w w2 := (hb1.alloc (by omega) _).grown hgr2 (by simp; omega) (fun j hj => by have := (HO2.out.lt j hj).1; omega)
        have hcs2 : w2.cell? ⟨w.heap.size, 2, none⟩ = some (.string s) := by
          refine World.grownBy.cell hgr2 (by go_simp) (fun e => ?_)
          have := (HO2.out.lt _ e.symm).1
          simp at this
          omega
        have hzw2 : w.heap.size < w2.heap.size := by have := hgr2.size; simp at this; omega
        have hO3 : w2.ownsRow (w.heap.size + 1) 5 1 (.slice (some ⟨g2, 0, none⟩) (L.length + 1 + 1) cap2) (L.length + 1 + 1) (b8s (L ++ [B] ++ [255])) := by rw [b8s_app (L ++ [B])]; exact hn2
        have HO3 := Lib.hid hO3
        clear hgr2 hat2 hn2 hO3
        go_wp2
        go_roundw
        case rel => exact ⟨k + 1, L ++ [B] ++ [255], some ⟨g2, 0, none⟩, cap2, by omega, by go_num, by simp, HL3, by simp; omega, by simpa using HO3.out, hb2, hcs2, hzw2⟩
        case measure => simp [intOf]; omega
      · have hd : ((B.toNat : Int) == 0) = false := beq_false_of_ne (fun e => h0 (UInt8.toNat_inj.1 (by simp at e ⊢; omega)))
        have hes := HES.out
        rw [← HBB.out, if_neg h0] at hes
        have hL3 : L ++ [B] = 2 :: esc (s.data.toList.take (k + 1)) := by rw [HL.out, hes]; simp
        have HL3 := Lib.hid hL3
        clear hes h0 hL3
        go_wp2
        go_roundw
        case rel => exact ⟨k + 1, L ++ [B], some ⟨g, 0, none⟩, cap, by omega, by go_num, by simp, HL3, by simp; omega, by simpa using HO2.out, hb1, hcs1, hzw1⟩
        case measure => simp [intOf]; omega
    · have hlt' : decide ((k : Int) < (s.size : Int)) = false := decide_eq_false (by omega)
      have he : L = 2 :: esc s.data.toList := by rw [HL.out, List.take_of_length_le (by rw [HSL.out]; omega)]
      have hcv := conv_b8s (l := L) HO1.out
      obtain ⟨X, hX⟩ : ∃ X : ByteArray, X = ⟨L.toArray⟩ := ⟨_, rfl⟩
      rw [← hX] at hcv
      obtain ⟨Y, hY⟩ : ∃ Y : ByteArray, Y = X ++ ⟨#[0, 1]⟩ := ⟨_, rfl⟩
      have hXs : X.size ≤ 4194304 := by rw [hX, ba_len]; omega
      have hYd : Y = ⟨(2 :: (esc s.data.toList ++ [0, 1])).toArray⟩ := by
        rw [hY, hX, he]; apply ByteArray.ext; rw [ByteArray.data_append]; simp
      have hYe := hY.symm
      have HY := Lib.hid hYd
      clear he hX hY hYd
      go_wp2
      go_ret
      exact ⟨by rw [HY.out]; rfl, hbel⟩
/-- The key of a right value. -/
theorem rkey_any (v : Val) (hv : vright v = true) (h0 : -9223372036854775808 ≤ v.2.1) (h1 : v.2.1 ≤ 9223372036854775807) (w : World) :
    Calls Try.prog 68 #[vagg v] w fun e w' => e = .returned (.string ⟨(vkey v).toArray⟩) ∧ Below w.heap.size w w' := by
  obtain ⟨k, n, s⟩ := v
  simp only at h0 h1
  rcases right_kinds hv with ⟨hk, hs⟩ | ⟨hk, hn, hs⟩ | ⟨hk, hn, hs⟩
  · simp only at hk hs
    subst hk; subst hs
    exact rkey1 n h0 h1 _ w
  · simp only at hk hn hs
    subst hk; subst hn
    exact rkey2 0 s (by omega) w
  · simp only at hk hn hs
    subst hk; subst hs
    rcases hn with rfl | rfl
    · exact rkey3 0 (by omega) (by omega) _ w
    · exact rkey3 1 (by omega) (by omega) _ w
set_option maxRecDepth 100000 in
set_option maxHeartbeats 1000000 in
theorem rkeys_any (a : Option Addr) (m c : Nat) (vs : List Val) (w : World) (hl : vs.length = m) (hm : m ≤ 1000) (hv : Vals w a vs) (hok : ValsOk vs) (ha : vs.all vright = true) :
    Calls Try.prog 49 #[.slice a m c] w fun e w' => e = .returned (.string ⟨(vkeys vs).toArray⟩) ∧ Below w.heap.size w w' := by
  have HL := Lib.hid hl
  have HV := Lib.hid hv
  have HOK := Lib.hid hok
  have HA := Lib.hid ha
  have hkl := vkeys_len vs ha
  rw [hl] at hkl
  clear hl hv hok ha
  go_enter Try.func49, Try.ntmps49
  go_wp2
  go_loopw [3, 4] (fun x i wr => ∃ (k : Nat) (t : ByteArray), k ≤ m ∧ i = .int .i64 (k : Int) ∧ x = .string t ∧ Hid (t.data.toList = vkeys (vs.take k)) ∧ t.size ≤ 500000 ∧ Below w.heap.size w wr) (fun _ i _ => m - (intOf i).toNat)
  case atStart => exact ⟨0, ⟨#[]⟩, Nat.zero_le _, rfl, rfl, Lib.hid (by rw [List.take_zero]; rfl), Nat.zero_le _, Below.refl _ _⟩
  case round =>
    obtain ⟨k, t, hk, rfl, rfl, hT, hts, hbel⟩ := hrel
    have hszr := hbel.size
    by_cases hlt : k < m
    · have hlt' : decide ((k : Int) < (m : Int)) = true := decide_eq_true (by omega)
      rcases HV.out with hv0 | ⟨hne, b, o, rfl, hb, hz⟩
      · have := HL.out
        rw [hv0] at this
        simp at this
        omega
      obtain ⟨v, hvk⟩ : ∃ v, vs[k]? = some v := ⟨_, List.getElem?_eq_getElem (by rw [HL.out]; exact hlt)⟩
      obtain ⟨z0, z1, z2⟩ := hz k v hvk
      have hmem := List.mem_of_getElem? hvk
      have hvr := List.all_eq_true.1 HA.out v hmem
      have hvo := HOK.out v hmem
      have c0 := (hbel.cell (p := ⟨b, o + k * 3, none⟩) hb).trans z0
      have c1 := (hbel.cell (p := ⟨b, o + k * 3 + 1, none⟩) hb).trans z1
      have c2 := (hbel.cell (p := ⟨b, o + k * 3 + 2, none⟩) hb).trans z2
      have hkt : vs.take (k + 1) = vs.take k ++ [v] := by rw [List.take_add_one, hvk]; rfl
      have hle : (vkeys (vs.take (k + 1))).length ≤ (vkeys vs).length := by
        have e : vs = vs.take (k + 1) ++ vs.drop (k + 1) := (List.take_append_drop _ _).symm
        have e2 : vkeys vs = vkeys (vs.take (k + 1)) ++ vkeys (vs.drop (k + 1)) := by
          rw [vkeys, vkeys, vkeys, ← List.flatMap_append, List.take_append_drop]
        rw [e2, List.length_append]; omega
      obtain ⟨X, hX⟩ : ∃ X : ByteArray, X = ⟨(vkey v).toArray⟩ := ⟨_, rfl⟩
      have hkey := rkey_any v hvr hvo.2.1.1 hvo.2.1.2
      rw [← hX] at hkey
      obtain ⟨Y, hY⟩ : ∃ Y : ByteArray, Y = t ++ X := ⟨_, rfl⟩
      have hYl : Y.data.toList = vkeys (vs.take (k + 1)) := by rw [hkt, vkeys_snoc, ← hT.out, hY, hX]; simp
      have hYs : Y.size ≤ 500000 := by rw [Lib.size_eq, hYl]; omega
      have hXs : X.size ≤ 500000 := by
        have : Y.size = t.size + X.size := by rw [hY]; exact ByteArray.size_append
        omega
      have hYe := hY.symm
      have HY := Lib.hid hYl
      have HK := Lib.hid hkey
      clear hz z0 z1 z2 hvk hmem hvr hvo hkt hle hX hkey hY hYl hT
      go_wp2_with fail
      refine (HK.out _).mono ?_
      rintro e w1 ⟨rfl, hb1⟩
      have hb2 := Below.thenB hbel hszr hb1
      go_wp2
      go_roundw
      case rel => exact ⟨k + 1, Y, by omega, by go_num, rfl, HY, hYs, hb2⟩
      case measure => simp [intOf]; omega
    · have hlt' : decide ((k : Int) < (m : Int)) = false := decide_eq_false (by omega)
      have he : t = ⟨(vkeys vs).toArray⟩ := by
        have := hT.out
        rw [List.take_of_length_le (by rw [HL.out]; omega)] at this
        rw [← this]
      have HE := Lib.hid he
      clear he hT
      go_wp2
      go_ret
      exact ⟨by rw [HE.out]; rfl, hbel⟩
end Go.Proofs.Ytapnkbamilkpoaa
