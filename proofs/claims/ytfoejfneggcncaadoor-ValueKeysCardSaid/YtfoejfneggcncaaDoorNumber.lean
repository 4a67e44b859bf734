/- Contract of value.number: eight bytes of a key. -/
import Derived.Test.YtfoejfneggcncaaDoorKey3
import Derived.Test.YtfoejfneggcncaaDoorCalcP
import Derived.Laws.Bits64
import Derived.Laws.Bits64b
namespace Go.Proofs.YtfoejfneggcncaaDoor
open Go.RowKit
/-- Bytes as one number, the first weighs most. -/
def num8 (l : List UInt8) : Nat := l.foldl (fun a c => a * 256 + c.toNat) 0
theorem num8_snoc (l : List UInt8) (c : UInt8) : num8 (l ++ [c]) = num8 l * 256 + c.toNat := by simp [num8]
theorem num8_lt : ∀ n : Nat, ∀ l : List UInt8, l.length = n → num8 l < 256 ^ n
  | 0, l, h => by rw [List.length_eq_zero_iff.1 h]; simp [num8]
  | n + 1, l, h => by
    have hne : l ≠ [] := by intro e; simp [e] at h
    have e := List.dropLast_concat_getLast hne
    have hl : l.dropLast.length = n := by simp [h]
    have ih := num8_lt n l.dropLast hl
    rw [← e, num8_snoc, Nat.pow_succ]
    have := (l.getLast hne).toNat_lt
    omega
theorem or_add (A c : Nat) (hA : A < 72057594037927936) (hc : c < 256) : bits .or .u64 ((A * 256 : Nat) : Int) (c : Int) = ((A * 256 + c : Nat) : Int) := by
  rw [bits_or_u64_nat _ _ (by omega) (by omega)]
  have := Nat.two_pow_add_eq_or_of_lt (i := 8) (b := c) (by omega) A
  rw [show A * 256 = 2 ^ 8 * A by omega, ← this]
theorem xor_back (U : Nat) (hU : U < 18446744073709551616) : IntKind.i64.wrap (bits .xor .u64 (U : Int) 9223372036854775808) = (U : Int) - 9223372036854775808 := by
  rw [show (9223372036854775808 : Int) = ((9223372036854775808 : Nat) : Int) from rfl, bits_xor_u64_nat _ _ hU (by decide)]
  by_cases h : U < 9223372036854775808
  · rw [Nat.xor_comm, show (9223372036854775808 : Nat) = 2 ^ 63 from rfl, xor_top U (by omega)]
    simp [IntKind.wrap, IntKind.bits, IntKind.signed]; omega
  · obtain ⟨y, rfl⟩ : ∃ y, U = 2 ^ 63 + y := ⟨U - 2 ^ 63, by omega⟩
    rw [← xor_top y (by omega), Nat.xor_comm (2 ^ 63) y, Nat.xor_assoc, show (9223372036854775808 : Nat) = 2 ^ 63 from rfl, Nat.xor_self, Nat.xor_zero, Nat.xor_comm, xor_top y (by omega)]
    simp [IntKind.wrap, IntKind.bits, IntKind.signed]; omega
set_option maxRecDepth 100000 in
set_option maxHeartbeats 2000000 in
theorem vnumber_any (s : ByteArray) (hs : s.size = 8) (w : World) :
    Calls Tryd.prog 47 #[.string s] w fun e w' => e = .returned (.int .i64 ((num8 s.data.toList : Int) - 9223372036854775808)) ∧ Below w.heap.size w w' := by
  have hcv := Lib.run_convert_string_bytes (P := Tryd.prog) w 9 45 5 s (u := .string) Tryd.underlying9 Tryd.underlying45 Tryd.underlying5
  obtain ⟨W1, hW1⟩ : ∃ W1, W1 = Lib.bytesWorld w 5 s := ⟨_, rfl⟩
  have hB : ∀ j, j < s.size → W1.cell? ⟨w.heap.size, j, none⟩ = some (.int .u8 (s.data.toList.getD j 0).toNat) := fun j hj => by rw [hW1]; exact Lib.bytesWorld_cell w 5 s j hj
  have hbw : Below w.heap.size w W1 := by rw [hW1]; exact Lib.bytesWorld_below w 5 s
  have HB := Lib.hid (show (∀ j, j < s.size → W1.cell? ⟨w.heap.size, j, none⟩ = some (.int .u8 (s.data.toList.getD j 0).toNat)) ∧ Below w.heap.size w W1 from ⟨hB, hbw⟩)
  clear hB hbw
  rw [← hW1] at hcv
  obtain ⟨L, hL⟩ : ∃ L, L = s.data.toList := ⟨_, rfl⟩
  have hlen : L.length = s.size := by rw [hL, Lib.size_eq]
  rw [← hL] at HB ⊢
  have HL := Lib.hid hlen
  have HS := Lib.hid hs
  have hs1 : s.size ≤ 8 := by omega
  clear hW1 hL hlen hs
  go_enter Tryd.func47, Tryd.ntmps47
  go_wp2
  go_loopw [3, 9] (fun u vi w' => ∃ k : Nat, vi = .int .i64 (k : Int) ∧ u = .int .u64 (num8 (L.take k) : Int) ∧ w' = W1 ∧ k ≤ s.size) (fun _ vi _ => s.size - (intOf vi).toNat)
  case atStart => exact ⟨0, rfl, rfl, rfl, Nat.zero_le _⟩
  case round =>
    obtain ⟨k, rfl, rfl, rfl, hk⟩ := hrel
    by_cases hkn : k < s.size
    · have hc := HB.out.1 k hkn
      have hkl : k < L.length := by rw [HL.out]; exact hkn
      have hget : L.getD k 0 = L[k] := by simp [List.getD, List.getElem?_eq_getElem hkl]
      rw [hget] at hc
      have hstep : num8 (L.take (k + 1)) = num8 (L.take k) * 256 + (L[k]).toNat := by
        rw [List.take_succ_eq_append_getElem hkl, num8_snoc]
      have hA : num8 (L.take k) < 256 ^ k := num8_lt k _ (by simp; omega)
      have hA7 : num8 (L.take k) < 72057594037927936 := Nat.lt_of_lt_of_le hA (Nat.le_trans (Nat.pow_le_pow_right (by decide) (show k ≤ 7 by omega)) (by decide))
      clear hA hget
      generalize L[k] = c at hc hstep
      have hc256 : c.toNat < 256 := c.toNat_lt
      have hor := or_add (num8 (L.take k)) c.toNat hA7 hc256
      rw [← hstep] at hor
      have HN := Lib.hid hstep
      clear hstep
      obtain ⟨C, hCC0⟩ : ∃ C, C = num8 (L.take (k + 1)) := ⟨_, rfl⟩
      rw [← hCC0] at hor HN
      have hCC := Lib.hid hCC0
      clear hCC0
      generalize num8 (L.take k) = A at hor HN hA7
      obtain ⟨B, hBB⟩ : ∃ B : Nat, B = A * 256 := ⟨_, rfl⟩
      rw [← hBB] at hor
      have hw1 : IntKind.u64.wrap ((A : Int) * 256) = (B : Int) := by rw [IntKind.wrap_u64]; omega
      have hw2 : IntKind.u64.wrap (c.toNat : Int) = (c.toNat : Int) := by rw [IntKind.wrap_u64]; omega
      clear hBB
      go_wp2
      go_roundw
      case rel => exact ⟨k + 1, by simp, by rw [hCC.out], trivial, by omega⟩
      case measure => simp [intOf]; omega
    · have hk8 : k = s.size := by omega
      subst hk8
      have htk : L.take s.size = L := List.take_of_length_le (by rw [HL.out]; omega)
      have hU : num8 L < 18446744073709551616 := by have := num8_lt 8 L (by rw [HL.out, HS.out]); simpa using this
      rw [htk]
      have hx := xor_back (num8 L) hU
      clear htk
      obtain ⟨U, hUU⟩ : ∃ U, U = num8 L := ⟨_, rfl⟩
      rw [← hUU] at hx hU ⊢
      have HU := Lib.hid hUU
      clear hUU
      go_wp2
      go_ret
      exact ⟨by rw [← HU.out]; rfl, HB.out.2⟩
end Go.Proofs.YtfoejfneggcncaaDoor
