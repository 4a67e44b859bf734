/- Contracts of codec's writers: Size, Signed, Text, String, Len. -/
import Derived.Test.YtapcnpocaffeoabWr
namespace Go.Proofs.Ytapcnpocaffeoab
open Go.RowKit
/-- What a writer's call reads lies apart from the writer. -/
def Apart (w : World) (b : Nat) (k : Nat) : Prop := k ≠ b ∧ WRow w b ≠ some k
theorem WChg.cell {b : Nat} {w w' : World} (h : WChg b w w') {k : Nat} (hk : k < w.heap.size) (ha : Apart w b k) (o : Nat) : w'.cell? ⟨k, o, none⟩ = w.cell? ⟨k, o, none⟩ :=
  h.1.cell (p := ⟨k, o, none⟩) hk (fun e => by rcases e with e | e; exact ha.1 e; exact ha.2 e)
def sizesB (zs : List Int) : List UInt8 := zs.flatMap fun z => numB z.toNat
theorem numB_len (n : Nat) : (numB n).length ≤ 9 := by unfold numB; have := digs_len_le 8 n; simp; omega
theorem flat_len {α : Type} (f : α → List UInt8) (m : Nat) (hf : ∀ x, (f x).length ≤ m) (l : List α) : (l.flatMap f).length ≤ m * l.length := by
  induction l with
  | nil => simp
  | cons x t ih => rw [List.flatMap_cons, List.length_append, List.length_cons, Nat.mul_succ]; have := hf x; omega
theorem flat_snoc {α : Type} (f : α → List UInt8) (l : List α) (x : α) : (l ++ [x]).flatMap f = l.flatMap f ++ f x := by simp
set_option maxRecDepth 100000 in
set_option maxHeartbeats 1000000 in
theorem wsize_any (b : Nat) (l : List UInt8) (a : Option Addr) (m c : Nat) (zs : List Int) (w : World) (hm : zs.length = m) (hl : l.length ≤ 268435456) (hm2 : m ≤ 1048576) (hI : I64s zs) (hW : WAt w b l) (hZ : Ints .i64 w a zs) (hA : zs ≠ [] → ∀ x, a = some x → Apart w b x.block) :
    Calls Try.prog 16 #[.pointer (some ⟨b, 0, none⟩), .slice a m c] w fun e w' => e = .returned (.pointer (some ⟨b, 0, none⟩)) ∧ WAt w' b (l ++ sizesB zs) ∧ WChg b w w' := by
  have HM := Lib.hid hm
  have HZ := Lib.hid hZ
  have HAP := Lib.hid hA
  have HW := Lib.hid hW
  have HI := Lib.hid hI
  clear hm hZ hA hW hI
  go_enter Try.func16, Try.ntmps16
  go_wp2
  go_loopw [9] (fun i wr => ∃ k : Nat, k ≤ m ∧ i = .int .i64 (k : Int) ∧ WAt wr b (l ++ sizesB (zs.take k)) ∧ WChg b w wr) (fun i _ => m - (intOf i).toNat)
  case atStart => exact ⟨0, Nat.zero_le _, rfl, by rw [List.take_zero]; simpa [sizesB] using HW.out, WChg.refl _ _⟩
  case round =>
    obtain ⟨k, hk, rfl, hWk, hCk⟩ := hrel
    have HWK := Lib.hid hWk
    have HCK := Lib.hid hCk
    clear hWk hCk
    by_cases hlt : k < m
    · have hlt' : decide ((k : Int) < (m : Int)) = true := decide_eq_true (by omega)
      rcases HZ.out with hv0 | ⟨hnn, bs, o, rfl, hbs, hcz⟩
      · have := HM.out
        rw [hv0] at this
        simp at this
        omega
      have hc := (HCK.out.cell hbs (HAP.out hnn _ rfl) (o + k)).trans (hcz k (by rw [HM.out]; exact hlt))
      have hz := HI.out.at k (by rw [HM.out]; exact hlt)
      have hts : sizesB (zs.take (k + 1)) = sizesB (zs.take k) ++ numB (zs.getD k 0).toNat := by
        rw [take_snocD zs k (by rw [HM.out]; exact hlt)]; exact flat_snoc _ _ _
      have hfl := flat_len (fun z : Int => numB z.toNat) 9 (fun z => numB_len _) (zs.take k)
      have htl : (zs.take k).length ≤ k := List.length_take_le _ _
      generalize zs.getD k 0 = z at hc hz hts
      obtain ⟨N, hN⟩ : ∃ N : Nat, N = z.toNat := ⟨_, rfl⟩
      have hu : max z 0 = (N : Int) := by omega
      rw [← hN] at hts
      have hnum := wnumber_any b N (by omega) (l ++ sizesB (zs.take k)) wr (by rw [List.length_append]; unfold sizesB; omega) HWK.out
      rw [List.append_assoc, ← hts] at hnum
      have HN := Lib.hid hnum
      clear hcz hts hfl htl hnum hN
      go_wp2_with fail
      refine HN.out.mono ?_
      rintro e w2 ⟨rfl, hW2, hC2⟩
      have HW2 := Lib.hid hW2
      have HC2 := Lib.hid (HCK.out.trans hC2)
      clear hW2 hC2 HN HWK HCK hu
      go_wp2
      go_roundw
      case rel => exact ⟨k + 1, by omega, by go_num, HW2.out, HC2.out⟩
      case measure => simp [intOf]; omega
    · have hlt' : decide ((k : Int) < (m : Int)) = false := decide_eq_false (by omega)
      have hW2 := HWK.out
      rw [List.take_of_length_le (by rw [HM.out]; omega)] at hW2
      have HW2 := Lib.hid hW2
      clear hW2 HWK
      go_wp2
      go_ret
      exact ⟨rfl, HW2.out, HCK.out⟩
/-- A signed number, as one that isn't below 0. -/
def foldN (n : Int) : Nat := if n < 0 then (-2 * n - 1).toNat else (2 * n).toNat
theorem foldN_lt (n : Int) (h0 : -9223372036854775808 ≤ n) (h1 : n ≤ 9223372036854775807) : foldN n < 18446744073709551616 := by unfold foldN; split <;> omega
theorem not_u64 (v : Nat) (h : v < 18446744073709551616) : bits .xor .u64 IntKind.u64.max (v : Int) = 18446744073709551615 - (v : Int) := by
  have e := congrArg BitVec.toNat (BitVec.xor_allOnes (x := BitVec.ofNat 64 v))
  rw [BitVec.toNat_not, BitVec.toNat_xor, BitVec.toNat_allOnes, BitVec.toNat_ofNat, Nat.mod_eq_of_lt h] at e
  have e2 : v ^^^ 18446744073709551615 = 18446744073709551615 - v := e
  have := bits_xor_u64_nat 18446744073709551615 v (by decide) h
  rw [Nat.xor_comm, e2] at this
  show bits .xor .u64 18446744073709551615 (v : Int) = _
  rw [show (18446744073709551615 : Int) = ((18446744073709551615 : Nat) : Int) from rfl, this]
  omega
set_option maxHeartbeats 1000000 in
theorem fold_any (n : Int) (h0 : -9223372036854775808 ≤ n) (h1 : n ≤ 9223372036854775807) (w : World) : Calls Try.prog 41 #[.int .i64 n] w fun e w' => e = .returned (.int .u64 ((foldN n : Nat) : Int)) ∧ w = w' := by
  by_cases hn : n < 0
  · have hd : decide (n < 0) = true := decide_eq_true hn
    obtain ⟨V, hV⟩ : ∃ V : Nat, IntKind.u64.wrap (IntKind.u64.wrap n * 2) = (V : Int) ∧ V < 18446744073709551616 ∧ (18446744073709551615 : Int) - (V : Int) = ((foldN n : Nat) : Int) := by
      refine ⟨(2 * n + 18446744073709551616).toNat, ?_, by omega, ?_⟩
      · rw [IntKind.wrap_u64, IntKind.wrap_u64]; omega
      · unfold foldN; rw [if_pos hn]; omega
    obtain ⟨hV1, hV2, hV3⟩ := hV
    have hnot := not_u64 V hV2
    rw [hV3] at hnot
    have hsg : IntKind.u64.signed = false := rfl
    clear hV3
    generalize foldN n = F at *
    go_enter Try.func41, Try.ntmps41
    go_wp2
    go_ret
    exact ⟨rfl, rfl⟩
  · have hd : decide (n < 0) = false := decide_eq_false hn
    have hF : n * 2 = ((foldN n : Nat) : Int) := by unfold foldN; rw [if_neg hn]; omega
    have HF := Lib.hid hF
    clear hF
    go_enter Try.func41, Try.ntmps41
    go_wp2
    go_ret
    exact ⟨ret_int HF.out, rfl⟩
def signedsB (zs : List Int) : List UInt8 := zs.flatMap fun z => numB (foldN z)
set_option maxRecDepth 100000 in
set_option maxHeartbeats 1000000 in
theorem wsigned_any (b : Nat) (l : List UInt8) (a : Option Addr) (m c : Nat) (zs : List Int) (w : World) (hm : zs.length = m) (hl : l.length ≤ 268435456) (hm2 : m ≤ 1048576) (hI : I64s zs) (hW : WAt w b l) (hZ : Ints .i64 w a zs) (hA : zs ≠ [] → ∀ x, a = some x → Apart w b x.block) :
    Calls Try.prog 17 #[.pointer (some ⟨b, 0, none⟩), .slice a m c] w fun e w' => e = .returned (.pointer (some ⟨b, 0, none⟩)) ∧ WAt w' b (l ++ signedsB zs) ∧ WChg b w w' := by
  have HM := Lib.hid hm
  have HZ := Lib.hid hZ
  have HAP := Lib.hid hA
  have HW := Lib.hid hW
  have HI := Lib.hid hI
  clear hm hZ hA hW hI
  go_enter Try.func17, Try.ntmps17
  go_wp2
  go_loopw [9] (fun i wr => ∃ k : Nat, k ≤ m ∧ i = .int .i64 (k : Int) ∧ WAt wr b (l ++ signedsB (zs.take k)) ∧ WChg b w wr) (fun i _ => m - (intOf i).toNat)
  case atStart => exact ⟨0, Nat.zero_le _, rfl, by rw [List.take_zero]; simpa [signedsB] using HW.out, WChg.refl _ _⟩
  case round =>
    obtain ⟨k, hk, rfl, hWk, hCk⟩ := hrel
    have HWK := Lib.hid hWk
    have HCK := Lib.hid hCk
    clear hWk hCk
    by_cases hlt : k < m
    · have hlt' : decide ((k : Int) < (m : Int)) = true := decide_eq_true (by omega)
      rcases HZ.out with hv0 | ⟨hnn, bs, o, rfl, hbs, hcz⟩
      · have := HM.out
        rw [hv0] at this
        simp at this
        omega
      have hc := (HCK.out.cell hbs (HAP.out hnn _ rfl) (o + k)).trans (hcz k (by rw [HM.out]; exact hlt))
      have hz := HI.out.at k (by rw [HM.out]; exact hlt)
      have hts : signedsB (zs.take (k + 1)) = signedsB (zs.take k) ++ numB (foldN (zs.getD k 0)) := by
        rw [take_snocD zs k (by rw [HM.out]; exact hlt)]; exact flat_snoc _ _ _
      have hfl := flat_len (fun z : Int => numB (foldN z)) 9 (fun z => numB_len _) (zs.take k)
      have htl : (zs.take k).length ≤ k := List.length_take_le _ _
      generalize zs.getD k 0 = z at hc hz hts
      have hfo := fold_any z hz.1 hz.2
      have hNl := foldN_lt z hz.1 hz.2
      obtain ⟨N, hN⟩ : ∃ N : Nat, N = foldN z := ⟨_, rfl⟩
      rw [← hN] at hts hfo hNl
      have HFO := Lib.hid hfo
      clear hfo
      have hnum := wnumber_any b N (by omega) (l ++ signedsB (zs.take k)) wr (by rw [List.length_append]; unfold signedsB; omega) HWK.out
      rw [List.append_assoc, ← hts] at hnum
      have HN := Lib.hid hnum
      clear hcz hts hfl htl hnum hN
      go_wp2_with fail
      refine (HFO.out _).mono ?_
      rintro e w1 ⟨rfl, rfl⟩
      go_wp2_with fail
      refine HN.out.mono ?_
      rintro e w2 ⟨rfl, hW2, hC2⟩
      have HW2 := Lib.hid hW2
      have HC2 := Lib.hid (HCK.out.trans hC2)
      clear hW2 hC2 HN HWK HCK HFO
      go_wp2
      go_roundw
      case rel => exact ⟨k + 1, by omega, by go_num, HW2.out, HC2.out⟩
      case measure => simp [intOf]; omega
    · have hlt' : decide ((k : Int) < (m : Int)) = false := decide_eq_false (by omega)
      have hW2 := HWK.out
      rw [List.take_of_length_le (by rw [HM.out]; omega)] at hW2
      have HW2 := Lib.hid hW2
      clear hW2 HWK
      go_wp2
      go_ret
      exact ⟨rfl, HW2.out, HCK.out⟩
/-- Texts, laid. -/
def textB (s : ByteArray) : List UInt8 := numB s.size ++ s.data.toList
def textsB (ss : List ByteArray) : List UInt8 := ss.flatMap textB
set_option maxHeartbeats 1000000 in
theorem wstring_any (b : Nat) (l : List UInt8) (w : World) (hW : WAt w b l) : Calls Try.prog 22 #[.pointer (some ⟨b, 0, none⟩)] w fun e w' => e = .returned (.string ⟨l.toArray⟩) ∧ w = w' := by
  obtain ⟨hb, hf, a, c, hc, hown⟩ := hW
  have hcv := conv_b8s hown
  have HO := Lib.hid hown
  clear hown
  have hbs : Calls Try.prog 24 #[.pointer (some ⟨b, 0, none⟩)] w fun e w' => e = .returned (.string ⟨l.toArray⟩) ∧ w = w' := by
    go_enter Try.func24, Try.ntmps24
    go_wp2
    go_ret
    exact ⟨rfl, rfl⟩
  have HB := Lib.hid hbs
  clear hbs hcv hc
  go_enter Try.func22, Try.ntmps22
  go_wp2_with fail
  refine HB.out.mono ?_
  rintro e w1 ⟨rfl, rfl⟩
  go_wp2
  go_ret
  exact ⟨rfl, rfl⟩
set_option maxHeartbeats 1000000 in
theorem wlen_any (b : Nat) (l : List UInt8) (w : World) (hW : WAt w b l) : Calls Try.prog 23 #[.pointer (some ⟨b, 0, none⟩)] w fun e w' => e = .returned (.int .i64 (l.length : Int)) ∧ w = w' := by
  obtain ⟨hb, hf, a, c, hc, hown⟩ := hW
  clear hown
  have hbs : Calls Try.prog 25 #[.pointer (some ⟨b, 0, none⟩)] w fun e w' => e = .returned (.int .i64 (l.length : Int)) ∧ w = w' := by
    go_enter Try.func25, Try.ntmps25
    go_wp2
    go_ret
    exact ⟨rfl, rfl⟩
  have HB := Lib.hid hbs
  clear hbs hc
  go_enter Try.func23, Try.ntmps23
  go_wp2_with fail
  refine HB.out.mono ?_
  rintro e w1 ⟨rfl, rfl⟩
  go_wp2
  go_ret
  exact ⟨rfl, rfl⟩
end Go.Proofs.Ytapcnpocaffeoab
