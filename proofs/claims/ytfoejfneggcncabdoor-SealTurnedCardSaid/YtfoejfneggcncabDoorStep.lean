/- Contracts of sums: step, through, Add, Value, Of. -/
import Derived.Test.YtfoejfneggcncabDoorCrc
import Derived.Test.YtfoejfneggcncabDoorWorld
import Derived.Test.YtfoejfneggcncabDoorRows
import Derived.Deep.RegionHeld3
import Derived.Deep.QuietTactic
import Derived.BigQuiet
import Derived.Laws.Bits64
import Derived.Laws.BitsAllLaws
import Derived.Lib.LaidTab
import Derived.Lib.CutLaws
import Derived.Laws.IdiomStrings
namespace Go.Proofs.YtfoejfneggcncabDoor
open Go.RowKit
def nibs : List Int := [0x0000000000000000, 0x7d9ba13851336649, 0xfb374270a266cc92, 0x86ace348f355aadb, 0x64b62bcaebc387a1, 0x192d8af2baf0e1e8, 0x9f8169ba49a54b33, 0xe21ac88218962d7a, 0xc96c5795d7870f42, 0xb4f7f6ad86b4690b, 0x325b15e575e1c3d0, 0x4fc0b4dd24d2a599, 0xadda7c5f3c4488e3, 0xd041dd676d77eeaa, 0x56ed3e2f9e224471, 0x2b769f17cf112238]
/-- The table's cells. -/
def Nibs (w : World) : Prop := 0 < w.heap.size ∧ ∀ n, n < 16 → w.cell? ⟨0, n, none⟩ = some (.int .u64 ((sh 4 n : Nat) : Int))
theorem Nibs.below {w w' : World} (h : Nibs w) (hb : Below w.heap.size w w') : Nibs w' :=
  ⟨Nat.lt_of_lt_of_le h.1 hb.size, fun n hn => (hb.cell (p := ⟨0, n, none⟩) h.1).trans (h.2 n hn)⟩
theorem nibs_sh : ∀ n, n < 16 → nibs[n]? = some ((sh 4 n : Nat) : Int) := by decide
set_option maxHeartbeats 400000 in
theorem seal_step (r : Nat) (hr : r < 18446744073709551616) (w : World) (ht : Nibs w) :
    Calls Tryd.prog 25 #[.int .u64 (r : Int)] w fun e w' => e = .returned (.int .u64 ((sh 4 r : Nat) : Int)) ∧ w = w' := by
  have hc := ht.2 (r % 16) (by omega)
  have h1 : bits .and .u64 (r : Int) 15 = ((r % 16 : Nat) : Int) := by
    have := u64_and_nat r 15 hr (by decide)
    rw [nat_mask4] at this; exact this
  have hs : sh 4 (r % 16) < 18446744073709551616 := sh_lt 4 (by omega)
  have h2 : bits .xor .u64 ((sh 4 (r % 16) : Nat) : Int) ((r : Int) / 16) = ((sh 4 r : Nat) : Int) := by
    have := bits_xor_u64_nat (sh 4 (r % 16)) (r / 16) hs (by omega)
    rw [← sh4] at this
    rw [← this]; simp
  clear ht
  generalize sh 4 (r % 16) = X at *
  have H2 := Lib.hid h2
  clear h2
  go_enter Tryd.func25, Tryd.ntmps25
  go_wp2
  go_ret
  exact ⟨ret_int H2.out, rfl⟩
theorem thr_snoc (R : Nat) (l : List UInt8) (c : UInt8) : thr R (l ++ [c]) = sh 8 (thr R l ^^^ c.toNat) := by rw [thr_app]; rfl
theorem sh8 (r : Nat) : sh 8 r = sh 4 (sh 4 r) := sh_add 4 4 r
set_option maxHeartbeats 1000000 in
theorem seal_through (R : Nat) (hR : R < 18446744073709551616) (s : ByteArray) (hs : s.size ≤ maxLen) (w : World) (ht : Nibs w) :
    Calls Tryd.prog 20 #[.int .u64 (R : Int), .string s] w fun e w' => e = .returned (.int .u64 ((thr R s.data.toList : Nat) : Int)) ∧ w = w' := by
  unfold maxLen at hs
  have HT := Lib.hid ht
  have hsl : s.data.toList.length = s.size := by rw [Lib.size_eq]
  have HSL := Lib.hid hsl
  clear ht hsl
  go_enter Tryd.func20, Tryd.ntmps20
  go_wp2
  go_loop [0, 8] (fun r i => ∃ k : Nat, k ≤ s.size ∧ i = .int .i64 (k : Int) ∧ r = .int .u64 ((thr R (s.data.toList.take k) : Nat) : Int)) (fun _ i => s.size - (intOf i).toNat)
  case atStart => exact ⟨0, Nat.zero_le _, rfl, rfl⟩
  case round =>
    obtain ⟨k, hk, rfl, rfl⟩ := hrel
    by_cases hlt : k < s.size
    · have hlt' : decide ((k : Int) < (s.size : Int)) = true := decide_eq_true (by omega)
      have hT := thr_lt hR (s.data.toList.take k)
      have hts : s.data.toList.take (k + 1) = s.data.toList.take k ++ [s[k]] := by
        rw [List.take_succ_eq_append_getElem (by rw [HSL.out]; exact hlt)]; rfl
      have hn : thr R (s.data.toList.take (k + 1)) = sh 4 (sh 4 (thr R (s.data.toList.take k) ^^^ s[k].toNat)) := by rw [hts, thr_snoc, sh8]
      have hb := s[k].toNat_lt
      have hx := bits_xor_u64_nat (thr R (s.data.toList.take k)) s[k].toNat hT (by omega)
      have hX := xor_lt64 (b := s[k].toNat) hT (by omega)
      have HN := Lib.hid hn
      clear hts hn
      generalize thr R (s.data.toList.take k) ^^^ s[k].toNat = X at hx hX HN
      have hY := sh_lt 4 hX
      have HX := Lib.hid hx
      go_wp2_with fail
      refine (seal_step X hX _ HT.out).mono ?_
      rintro e w1 ⟨rfl, rfl⟩
      go_wp2_with fail
      refine (seal_step (sh 4 X) hY _ HT.out).mono ?_
      rintro e w1 ⟨rfl, rfl⟩
      rw [← HN.out]
      go_wp2
      go_round
      case rel => exact ⟨k + 1, by omega, by go_num, rfl⟩
      case measure => simp [intOf]; omega
    · have hlt' : decide ((k : Int) < (s.size : Int)) = false := decide_eq_false (by omega)
      have he : thr R (s.data.toList.take k) = thr R s.data.toList := by rw [List.take_of_length_le (by rw [HSL.out]; omega)]
      have HE := Lib.hid he
      clear he
      go_wp2
      go_ret
      exact ⟨ret_int (by rw [HE.out]), rfl⟩
/-- The slice value at a reads as the texts ss. -/
def Texts (w : World) (a : Option Addr) (ss : List ByteArray) : Prop := ss = [] ∨ ss ≠ [] ∧ ∃ b o, a = some ⟨b, o, none⟩ ∧ b < w.heap.size ∧ ∀ i s, ss[i]? = some s → w.cell? ⟨b, o + i, none⟩ = some (.string s)
theorem Texts.chg {S : Nat → Prop} {w w' : World} {a : Option Addr} {ss : List ByteArray} (h : Texts w a ss) (hc : Chg S w w') (hs : ss ≠ [] → ∀ x, a = some x → ¬ S x.block) : Texts w' a ss := by
  rcases h with h | ⟨hn, b, o, rfl, hb, hz⟩
  · exact .inl h
  · refine .inr ⟨hn, b, o, rfl, Nat.lt_of_lt_of_le hb hc.size, fun i s hi => ?_⟩
    exact (hc.cell (p := ⟨b, o + i, none⟩) hb (hs hn ⟨b, o, none⟩ rfl)).trans (hz i s hi)
theorem Texts.below {w w' : World} {a : Option Addr} {ss : List ByteArray} (h : Texts w a ss) (hb : Below w.heap.size w w') : Texts w' a ss := h.chg (S := fun _ => False) (Chg.ofBelow hb) (fun _ _ _ f => f)
theorem Texts.off {w : World} {a : Option Addr} {ss : List ByteArray} (h : Texts w a ss) {B : Nat} (hB : w.heap.size ≤ B) : ss ≠ [] → ∀ x, a = some x → x.block ≠ B := by
  rintro hn x rfl
  rcases h with h | ⟨_, b, o, he, hb, _⟩
  · exact absurd h hn
  · simp at he; subst he; simp; omega
/-- The bytes of texts, one behind the other. -/
def joinB (ss : List ByteArray) : List UInt8 := ss.flatMap fun s => s.data.toList
theorem joinB_snoc (ss : List ByteArray) (s : ByteArray) : joinB (ss ++ [s]) = joinB ss ++ s.data.toList := by simp [joinB]
/-- A sum that has more bytes added. -/
def sumOn (v : Nat) (l : List UInt8) : Nat := inv (thr (inv v) l)
theorem sumOn_nil {v : Nat} (h : v < 18446744073709551616) : sumOn v [] = v := inv_inv h
theorem sumOn_app (v : Nat) (a b : List UInt8) : sumOn (sumOn v a) b = sumOn v (a ++ b) := by
  unfold sumOn
  rw [inv_inv (thr_lt (inv_lt v) a), thr_app]
theorem sumOn_lt (v : Nat) (l : List UInt8) : sumOn v l < 18446744073709551616 := inv_lt _
theorem sumOn_zero (l : List UInt8) : sumOn 0 l = crc l := rfl
/-- The cell of a sum. -/
def SumAt (w : World) (b v : Nat) : Prop := b < w.heap.size ∧ w.cell? ⟨b, 0, none⟩ = some (.int .u64 (v : Int)) ∧ w.frozen? ⟨b, 0, none⟩ = false
theorem inv_walk {v : Nat} (h : v < 18446744073709551616) : bits .xor .u64 (IntKind.u64.max) (v : Int) = ((inv v : Nat) : Int) := by
  show bits .xor .u64 18446744073709551615 (v : Int) = _
  have := bits_xor_u64_nat 18446744073709551615 v (by decide) h
  rw [Nat.xor_comm, inv_xor h] at this
  exact this
set_option maxHeartbeats 400000 in
theorem seal_add_nil (x : Value) (w : World) : Calls Tryd.prog 13 #[.pointer none, x] w fun e w' => e = .returned (.pointer none) ∧ w = w' := by
  go_enter Tryd.func13, Tryd.ntmps13
  go_wp2
  go_ret
  exact ⟨rfl, rfl⟩
set_option maxHeartbeats 400000 in
theorem seal_value_nil (w : World) : Calls Tryd.prog 14 #[.pointer none] w fun e w' => e = .returned (.int .u64 0) ∧ w = w' := by
  go_enter Tryd.func14, Tryd.ntmps14
  go_wp2
  go_ret
  exact ⟨rfl, rfl⟩
set_option maxHeartbeats 400000 in
theorem seal_value (b v : Nat) (w : World) (h : SumAt w b v) : Calls Tryd.prog 14 #[.pointer (some ⟨b, 0, none⟩)] w fun e w' => e = .returned (.int .u64 (v : Int)) ∧ w = w' := by
  obtain ⟨h0, h1, h2⟩ := h
  go_enter Tryd.func14, Tryd.ntmps14
  go_wp2
  go_ret
  exact ⟨rfl, rfl⟩
set_option maxRecDepth 100000 in
set_option maxHeartbeats 1000000 in
theorem seal_add (b v : Nat) (hv : v < 18446744073709551616) (a : Option Addr) (m c : Nat) (ss : List ByteArray) (w : World) (hm : ss.length = m) (hl : m ≤ 1048576) (hz : ∀ s ∈ ss, s.size ≤ maxLen) (hS : SumAt w b v) (hT : Texts w a ss) (hne : ss ≠ [] → ∀ x, a = some x → x.block ≠ b) (hN : Nibs w) (hb0 : b ≠ 0) :
    Calls Tryd.prog 13 #[.pointer (some ⟨b, 0, none⟩), .slice a m c] w fun e w' => e = .returned (.pointer (some ⟨b, 0, none⟩)) ∧ SumAt w' b (sumOn v (joinB ss)) ∧ Chg (· = b) w w' := by
  have HM := Lib.hid hm
  have HZ := Lib.hid hz
  have HN := Lib.hid hN
  have HT := Lib.hid hT
  have HNE := Lib.hid hne
  have HS := Lib.hid hS
  clear hm hz hN hT hne hS
  go_enter Tryd.func13, Tryd.ntmps13
  go_wp2
  go_loopw [11] (fun i wr => ∃ k : Nat, k ≤ m ∧ i = .int .i64 (k : Int) ∧ SumAt wr b (sumOn v (joinB (ss.take k))) ∧ Chg (· = b) w wr) (fun i _ => m - (intOf i).toNat)
  case atStart => exact ⟨0, Nat.zero_le _, rfl, by have := HS.out; rw [← sumOn_nil hv] at this; simpa [joinB] using this, Chg.refl _ _⟩
  case round =>
    obtain ⟨k, hk, rfl, hs, hch⟩ := hrel
    obtain ⟨hs0, hs1, hs2⟩ := hs
    by_cases hlt : k < m
    · have hlt' : decide ((k : Int) < (m : Int)) = true := decide_eq_true (by omega)
      rcases HT.out with hv0 | ⟨hnn, bs, o, rfl, hbs, hcz⟩
      · have := HM.out
        rw [hv0] at this
        simp at this
        omega
      have hne := HNE.out hnn _ rfl
      obtain ⟨s, hsk⟩ : ∃ s, ss[k]? = some s := ⟨_, List.getElem?_eq_getElem (by rw [HM.out]; exact hlt)⟩
      have hc := (hch.cell (p := ⟨bs, o + k, none⟩) hbs hne).trans (hcz k s hsk)
      have hsz := HZ.out s (List.mem_of_getElem? hsk)
      have hts : ss.take (k + 1) = ss.take k ++ [s] := by
        rw [List.take_add_one, hsk]; rfl
      have hn : sumOn v (joinB (ss.take (k + 1))) = inv (thr (inv (sumOn v (joinB (ss.take k)))) s.data.toList) := by
        rw [hts, joinB_snoc, ← sumOn_app]; rfl
      have hT0 := sumOn_lt v (joinB (ss.take k))
      have HNX := Lib.hid hn
      have hn1 := HN.out
      have hN1 : Nibs wr := ⟨Nat.lt_of_lt_of_le hn1.1 hch.size, fun j hj => (hch.cell (p := ⟨0, j, none⟩) hn1.1 (Ne.symm hb0)).trans (hn1.2 j hj)⟩
      have HN1 := Lib.hid hN1
      clear hcz hsk hts hn hn1 hN1
      generalize sumOn v (joinB (ss.take k)) = T at hs1 hT0 HNX
      have hi1 := inv_walk hT0
      have hsg : IntKind.u64.signed = false := rfl
      have hi := inv_lt T
      generalize inv T = I at hi1 hi HNX
      have hR := thr_lt hi s.data.toList
      have hj1 := inv_walk hR
      have HJ1 := Lib.hid hj1
      clear hj1
      go_wp2_with fail
      refine (seal_through I hi s hsz _ HN1.out).mono ?_
      rintro e w1 ⟨rfl, rfl⟩
      have hj1 := HJ1.out
      rw [← HNX.out] at hj1
      clear HJ1
      go_wp2
      go_roundw
      case rel => exact ⟨k + 1, by omega, by go_num, ⟨by simpa using hs0, by go_simp, by go_simp⟩, hch.setCell (.inr rfl) _⟩
      case measure => simp [intOf]; omega
    · have hlt' : decide ((k : Int) < (m : Int)) = false := decide_eq_false (by omega)
      have he : ss.take k = ss := List.take_of_length_le (by rw [HM.out]; omega)
      have HE := Lib.hid he
      clear he
      rw [HE.out] at hs1
      go_wp2
      go_ret
      exact ⟨rfl, ⟨hs0, hs1, hs2⟩, hch⟩
set_option maxRecDepth 100000 in
set_option maxHeartbeats 1000000 in
theorem seal_of (a : Option Addr) (m c : Nat) (ss : List ByteArray) (w : World) (hm : ss.length = m) (hl : m ≤ 1048576) (hz : ∀ s ∈ ss, s.size ≤ maxLen) (hT : Texts w a ss) (hN : Nibs w) :
    Calls Tryd.prog 7 #[.slice a m c] w fun e w' => e = .returned (.int .u64 ((crc (joinB ss) : Nat) : Int)) ∧ Below w.heap.size w w' := by
  have hb0 : w.heap.size ≠ 0 := by have := hN.1; omega
  have hA : Below w.heap.size w (w.alloc (.cells #[.int .u64 0] 40)) := (Below.refl _ _).alloc (Nat.le_refl _) _
  have hS : SumAt (w.alloc (.cells #[.int .u64 0] 40)) w.heap.size 0 := ⟨by simp, by go_simp, by go_simp⟩
  have hcall := seal_add w.heap.size 0 (by decide) a m c ss _ hm hl hz hS (hT.below hA) (hT.off (Nat.le_refl _)) (hN.below hA) hb0
  have HC := Lib.hid hcall
  have HA := Lib.hid hA
  clear hm hz hT hN hS hcall hA hb0
  go_enter Tryd.func7, Tryd.ntmps7
  go_wp2_with fail
  refine HC.out.mono ?_
  rintro e w1 ⟨rfl, hs1, hch⟩
  rw [sumOn_zero] at hs1
  have hbw : Below w.heap.size w w1 := HA.out.trans (hch.below (by simp) (fun k _ hk => by omega))
  go_wp2_with fail
  refine (seal_value _ _ _ hs1).mono ?_
  rintro e w2 ⟨rfl, rfl⟩
  go_wp2
  go_ret
  exact ⟨rfl, hbw⟩
/-- How many bytes are framed. -/
def hd4 (n : Nat) : List UInt8 := [UInt8.ofNat (n / 16777216), UInt8.ofNat (n / 65536), UInt8.ofNat (n / 256), UInt8.ofNat n]
theorem conv_block (w : World) (a : Addr) (cap : Nat) (l : List UInt8) (hc : ∀ j (hj : j < l.length), w.cell? (a.add j) = some (.int .u8 (l[j].toNat : Int))) : (convert 38 9 (.slice (some a) l.length cap)).run Tryd.prog w = .ok (.string ⟨l.toArray⟩) w :=
  run_convert_bytes_back w 38 9 5 a cap l Tryd.underlying38 Tryd.underlying5 Tryd.underlying9 hc
theorem u8_of (n : Nat) : (((UInt8.ofNat n).toNat : Nat) : Int) = (n : Int) % 256 := by rw [UInt8.toNat_ofNat']; omega
theorem conv_hd (w : World) (n : Nat) : ∀ x0 x1 x2 x3 : Int, x0 = (n / 16777216 : Nat) % 256 → x1 = (n / 65536 : Nat) % 256 → x2 = (n / 256 : Nat) % 256 → x3 = (n : Int) % 256 →
    (convert 38 9 (Value.slice (some ⟨w.heap.size, 0, none⟩) 4 4)).run Tryd.prog (w.alloc (.cells #[.int .u8 x0, .int .u8 x1, .int .u8 x2, .int .u8 x3] 5)) = .ok (.string ⟨(hd4 n).toArray⟩) (w.alloc (.cells #[.int .u8 x0, .int .u8 x1, .int .u8 x2, .int .u8 x3] 5)) := by
  rintro _ _ _ _ rfl rfl rfl rfl
  refine conv_block _ _ 4 (hd4 n) (fun j hj => ?_)
  have hj' : j < 4 := hj
  rcases j with _ | _ | _ | _ | j
  · rw [show (hd4 n)[0] = UInt8.ofNat (n / 16777216) from rfl, u8_of]; go_simp
  · rw [show (hd4 n)[1] = UInt8.ofNat (n / 65536) from rfl, u8_of]; go_simp
  · rw [show (hd4 n)[2] = UInt8.ofNat (n / 256) from rfl, u8_of]; go_simp
  · rw [show (hd4 n)[3] = UInt8.ofNat n from rfl, u8_of]; go_simp
  · omega
set_option maxRecDepth 100000 in
set_option maxHeartbeats 400000 in
theorem seal_head (n : Nat) (hn : n < 4294967296) (w : World) : Calls Tryd.prog 15 #[.int .i64 (n : Int)] w fun e w' => e = .returned (.string ⟨(hd4 n).toArray⟩) ∧ Below w.heap.size w w' := by
  have hc := conv_hd w n ((n : Int) / 16777216) ((n : Int) / 65536 % 256) ((n : Int) / 256 % 256) ((n : Int) % 256) (by omega) (by omega) (by omega) (by omega)
  go_enter Tryd.func15, Tryd.ntmps15
  go_wp2
  go_ret
  exact ⟨rfl, (Below.refl _ _).alloc (Nat.le_refl _) _⟩
theorem conv_le8 (w : World) (n : Nat) (T : TypeId) :
    (convert 38 9 (Value.slice (some ⟨w.heap.size, 0, none⟩) 8 8)).run Tryd.prog (w.alloc (.cells #[.int .u8 ((n : Int) % 256), .int .u8 ((n : Int) / 256 % 256), .int .u8 ((n : Int) / 65536 % 256), .int .u8 ((n : Int) / 16777216 % 256), .int .u8 ((n : Int) / 4294967296 % 256), .int .u8 ((n : Int) / 1099511627776 % 256), .int .u8 ((n : Int) / 281474976710656 % 256), .int .u8 ((n : Int) / 72057594037927936 % 256)] T)) =
      .ok (.string ⟨(le8 n).toArray⟩) (w.alloc (.cells #[.int .u8 ((n : Int) % 256), .int .u8 ((n : Int) / 256 % 256), .int .u8 ((n : Int) / 65536 % 256), .int .u8 ((n : Int) / 16777216 % 256), .int .u8 ((n : Int) / 4294967296 % 256), .int .u8 ((n : Int) / 1099511627776 % 256), .int .u8 ((n : Int) / 281474976710656 % 256), .int .u8 ((n : Int) / 72057594037927936 % 256)] T)) := by
  refine conv_block _ _ 8 (le8 n) (fun j hj => ?_)
  have hj' : j < 8 := hj
  rcases j with _ | _ | _ | _ | _ | _ | _ | _ | j
  · rw [show (le8 n)[0] = UInt8.ofNat n from rfl, u8_of]; go_simp
  · rw [show (le8 n)[1] = UInt8.ofNat (n / 256) from rfl, u8_of]; go_simp
  · rw [show (le8 n)[2] = UInt8.ofNat (n / 65536) from rfl, u8_of]; go_simp
  · rw [show (le8 n)[3] = UInt8.ofNat (n / 16777216) from rfl, u8_of]; go_simp
  · rw [show (le8 n)[4] = UInt8.ofNat (n / 4294967296) from rfl, u8_of]; go_simp
  · rw [show (le8 n)[5] = UInt8.ofNat (n / 1099511627776) from rfl, u8_of]; go_simp
  · rw [show (le8 n)[6] = UInt8.ofNat (n / 281474976710656) from rfl, u8_of]; go_simp
  · rw [show (le8 n)[7] = UInt8.ofNat (n / 72057594037927936) from rfl, u8_of]; go_simp
  · omega
set_option maxRecDepth 100000 in
set_option maxHeartbeats 1000000 in
theorem seal_tail (n : Nat) (hn : n < 18446744073709551616) (w : World) : Calls Tryd.prog 17 #[.int .u64 (n : Int)] w fun e w' => e = .returned (.string ⟨(le8 n).toArray⟩) ∧ Below w.heap.size w w' := by
  have HN := Lib.hid hn
  have hc := conv_le8 w n 59
  clear hn
  go_enter Tryd.func17, Tryd.ntmps17
  go_wp2
  refine wp_loop_rounds 9 ?_
  rw [rounds_succ]
  go_wp2
  rw [rounds_succ]
  go_wp2
  rw [rounds_succ]
  go_wp2
  rw [rounds_succ]
  go_wp2
  rw [rounds_succ]
  go_wp2
  rw [rounds_succ]
  go_wp2
  rw [rounds_succ]
  go_wp2
  rw [rounds_succ]
  go_wp2
  rw [rounds_succ]
  go_wp2
  go_ret
  exact ⟨rfl, (Below.refl _ _).alloc (Nat.le_refl _) _⟩
end Go.Proofs.YtfoejfneggcncabDoor
