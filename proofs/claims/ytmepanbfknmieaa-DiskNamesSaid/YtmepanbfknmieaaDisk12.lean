/- Contracts of disk: how many bytes texts have; askOf. -/
import Derived.Test.YtmepanbfknmieaaDisk11
namespace Go.Proofs.Ytmepanbfknmieaa
open Go.RowKit Go.Maps
theorem joinB_take {ss : List ByteArray} {k : Nat} {s : ByteArray} (h : ss[k]? = some s) : joinB (ss.take (k + 1)) = joinB (ss.take k) ++ s.data.toList := by
  rw [List.take_add_one, h, Option.toList_some, joinB_snoc]
theorem joinB_take_le (ss : List ByteArray) (k : Nat) : (joinB (ss.take k)).length ≤ (joinB ss).length := by
  conv => rhs; rw [← List.take_append_drop k ss]
  unfold joinB
  rw [List.flatMap_append, List.length_append]
  omega
theorem blen (s : ByteArray) : s.data.toList.length = s.size := by rw [Array.length_toList]; rfl
set_option maxRecDepth 100000 in
theorem length_any (a : Option Addr) (m c : Nat) (ss : List ByteArray) (w : World) (hl : ss.length = m) (hm : m ≤ 1048576) (hsz : ∀ s ∈ ss, s.size ≤ 1073741824) (hz : Texts w a ss) :
    Calls Try.prog 43 #[.slice a m c] w fun e w' => (∃ r : Int, e = .returned (.int .i64 r) ∧ 0 ≤ r ∧ r ≤ 1074790400 ∧ ((joinB ss).length ≤ 1048576 → r = ((joinB ss).length : Int)) ∧ (1048576 < (joinB ss).length → 1048576 < r)) ∧ w = w' := by
  have HZ := Lib.hid hz
  have HL := Lib.hid hl
  have HS := Lib.hid hsz
  clear hz hl hsz
  go_enter Try.func43, Try.ntmps43
  go_wp2
  go_loop [3, 8] (fun n i => ∃ (k t : Nat), k ≤ m ∧ i = .int .i64 (k : Int) ∧ n = .int .i64 (t : Int) ∧ t ≤ 1048576 ∧ Hid (t = (joinB (ss.take k)).length)) (fun _ i => m - (intOf i).toNat)
  case atStart => exact ⟨0, 0, Nat.zero_le _, rfl, rfl, by omega, Lib.hid (by simp [joinB])⟩
  case round =>
    obtain ⟨k, t, hk, rfl, rfl, htl, ht⟩ := hrel
    by_cases hlt : k < m
    · have hlt' : decide ((k : Int) < (m : Int)) = true := decide_eq_true (by omega)
      obtain ⟨bs, o, s, rfl, hbs, hsk, c0⟩ := texts_at HZ.out HL.out hlt (Below.refl _ _)
      have hss := HS.out s (List.mem_of_getElem? hsk)
      have hj := joinB_take hsk
      have hle := joinB_take_le ss (k + 1)
      have hjl : (joinB (ss.take (k + 1))).length = t + s.size := by rw [hj, List.length_append, ← ht.out, blen]
      rw [hjl] at hle
      have HJ := Lib.hid hjl
      have hw : IntKind.i64.wrap ((t : Int) + (s.size : Int)) = (t : Int) + (s.size : Int) := by simp [IntKind.wrap, IntKind.bits, IntKind.signed]; omega
      clear hj hjl hsk ht
      by_cases hbig : 1048576 < t + s.size
      · have hb' : decide ((1048576 : Int) < (t : Int) + (s.size : Int)) = true := decide_eq_true (by omega)
        have HE := Lib.hid (show (∃ r : Int, Ending.returned (.int .i64 ((t : Int) + (s.size : Int))) = .returned (.int .i64 r) ∧ 0 ≤ r ∧ r ≤ 1074790400 ∧ ((joinB ss).length ≤ 1048576 → r = ((joinB ss).length : Int)) ∧ (1048576 < (joinB ss).length → 1048576 < r)) from ⟨_, rfl, by omega, by omega, fun h => by omega, fun _ => by omega⟩)
        clear hle
        go_wp2
        go_ret
        exact ⟨HE.out, rfl⟩
      · have hb' : decide ((1048576 : Int) < (t : Int) + (s.size : Int)) = false := decide_eq_false (by omega)
        clear hle
        go_wp2
        go_round
        case rel => exact ⟨k + 1, t + s.size, by omega, by go_num, by go_num, by omega, Lib.hid HJ.out.symm⟩
        case measure => simp [intOf]; omega
    · have hlt' : decide ((k : Int) < (m : Int)) = false := decide_eq_false (by omega)
      have HT := Lib.hid (show t = (joinB ss).length by
        have := ht.out
        rwa [List.take_of_length_le (by rw [HL.out]; omega)] at this)
      clear ht
      go_wp2
      go_ret
      exact ⟨⟨_, rfl, by omega, by omega, fun _ => by rw [← HT.out], fun h => by rw [← HT.out] at h; omega⟩, rfl⟩
/-- What a use of files that must be there is answered, ahead of all else. -/
def askOfM (M : DM) (ss : List ByteArray) : Int := if askM M ss = 0 then (if (ss.all fun s => (fget M.files s.data.toList).isSome) = true then 0 else 8) else askM M ss
theorem askM_le (M : DM) (ss : List ByteArray) : 0 ≤ askM M ss ∧ askM M ss ≤ 7 := by
  unfold askM
  split
  · omega
  · split <;> omega
set_option maxRecDepth 100000 in
set_option maxHeartbeats 1000000 in
theorem DskIn.askOf {w : World} {b : Nat} {S : Nat → Prop} {M : DM} {mb : Option Nat} {L : List (List UInt8 × FX)} (h : DskIn w b S M mb L) (a : Option Addr) (m c : Nat) (ss : List ByteArray) (hl : ss.length = m) (hm : m ≤ 1048576) (hsz : ∀ s ∈ ss, s.size ≤ 281474976710656) (hz : Texts w a ss) (hab : ss ≠ [] → ∀ x, a = some x → x.block ≠ b) :
    Calls Try.prog 47 #[.pointer (some ⟨b, 0, none⟩), .slice a m c] w fun e w' => e = .returned (.int .i64 (askOfM M ss)) ∧ DskIn w' b S (useM M).1 mb L ∧ Chg (· = b) w w' := by
  have HA := Lib.hid (h.ask a m c ss hl hm hsz hz hab)
  have hle := askM_le M ss
  obtain ⟨R, hR⟩ : ∃ R, R = askOfM M ss := ⟨_, rfl⟩
  rw [← hR]
  unfold askOfM at hR
  obtain ⟨q, hq⟩ : ∃ q, q = askM M ss := ⟨_, rfl⟩
  rw [← hq] at HA hR hle
  have hfs : (fun s : ByteArray => (fget M.files s.data.toList).isSome) = fun s : ByteArray => (fget (mapV FX.raw L) s.data.toList).isSome := by
    funext s
    rw [h.files, mapV_get, mapV_get]
    cases fget L s.data.toList <;> rfl
  rw [hfs] at hR
  have HZ := Lib.hid hz
  have HL := Lib.hid hl
  have HS := Lib.hid hsz
  have HAB := Lib.hid hab
  have hbl := h.at_.lt
  clear h hz hl hsz hab hq hfs
  go_enter Try.func47, Try.ntmps47
  by_cases hq0 : q = 0
  · subst hq0
    rw [if_pos rfl] at hR
    have HR := Lib.hid hR
    clear hR
    go_wp2_with fail
    refine HA.out.mono ?_
    rintro e w1 ⟨rfl, h1, hc1⟩
    have HZ1 := Lib.hid (HZ.out.chg hc1 HAB.out)
    have H1 := Lib.hid h1
    have HC1 := Lib.hid hc1
    have hbl1 : b < w1.heap.size := h1.at_.lt
    clear h1 hc1 HZ HA HAB
    go_wp2
    go_loopw [18] (fun iv wr => ∃ k : Nat, k ≤ m ∧ iv = .int .i64 (k : Int) ∧ Hid (((ss.take k).all fun s => (fget (mapV FX.raw L) s.data.toList).isSome) = true) ∧ Below w1.heap.size w1 wr) (fun iv _ => m - (intOf iv).toNat)
    case atStart => exact ⟨0, Nat.zero_le _, rfl, Lib.hid (by simp), Below.refl _ _⟩
    case round =>
      obtain ⟨k, hk, rfl, hall, hb⟩ := hrel
      have HB := Lib.hid hb
      by_cases hlt : k < m
      · have hlt' : decide ((k : Int) < (m : Int)) = true := decide_eq_true (by omega)
        obtain ⟨bs, o, s, rfl, hbs, hsk, s0⟩ := texts_at HZ1.out HL.out hlt hb
        have hmem := List.mem_of_getElem? hsk
        have hlk := look_files_ok (H1.out.below hb).map s (by have := HS.out s hmem; unfold maxLen; omega)
        obtain ⟨⟨c0, c1, c2, c3, c4, c5⟩, _⟩ := six6_cells (H1.out.below hb).at_
        simp only [DM.dk] at c0 c1 c2 c3 c4 c5
        obtain ⟨t, ht⟩ : ∃ t, t = (fget (mapV FX.raw L) s.data.toList).isSome := ⟨_, rfl⟩
        rw [← ht] at hlk
        obtain ⟨⟨fa, fn, fc, fk⟩, hf⟩ : ∃ f, f = (fget (mapV FX.raw L) s.data.toList).getD zraw := ⟨_, rfl⟩
        rw [← hf] at hlk
        simp only [fileV] at hlk
        cases t with
        | true =>
          have hall' : Hid (((ss.take (k + 1)).all fun s => (fget (mapV FX.raw L) s.data.toList).isSome) = true) := by
            show ((ss.take (k + 1)).all fun s => (fget (mapV FX.raw L) s.data.toList).isSome) = true
            rw [List.take_add_one, hsk, List.all_append, hall.out]
            simpa using ht.symm
          clear hall hsk hmem ht hf hb
          go_wp2
          go_roundw
          case rel => exact ⟨k + 1, by omega, by go_num, hall', HB.out.alloc HB.out.size _⟩
          case measure => simp [intOf]; omega
        | false =>
          have HF := Lib.hid (show (ss.all fun s => (fget (mapV FX.raw L) s.data.toList).isSome) = false from List.all_eq_false.2 ⟨s, hmem, by rw [← ht]; decide⟩)
          have HR8 := Lib.hid (show R = 8 by rw [HR.out, HF.out]; rfl)
          clear hall hsk hmem ht hf hb HF
          go_wp2
          go_ret
          have hB2 := HB.out.alloc HB.out.size (.cells #[.slice fa fn fc, .int .i64 fk] 72)
          exact ⟨by rw [HR8.out]; rfl, H1.out.below hB2, HC1.out.thenB hB2⟩
      · have hlt' : decide ((k : Int) < (m : Int)) = false := decide_eq_false (by omega)
        have HR0 := Lib.hid (show R = 0 by
          have := hall.out
          rw [List.take_of_length_le (by rw [HL.out]; omega)] at this
          rw [HR.out, this]; rfl)
        clear hall hb
        go_wp2
        go_ret
        exact ⟨by rw [HR0.out]; rfl, H1.out.below HB.out, HC1.out.thenB HB.out⟩
  · rw [if_neg hq0] at hR
    have HR := Lib.hid hR
    have hq1 : (q == 0) = false := beq_false_of_ne hq0
    have hq2 : (q != 0) = true := bne_iff_ne.2 hq0
    clear hR
    go_wp2_with fail
    refine HA.out.mono ?_
    rintro e w1 ⟨rfl, h1, hc1⟩
    have H1 := Lib.hid h1
    have HC1 := Lib.hid hc1
    clear h1 hc1
    go_wp2
    go_ret
    exact ⟨by rw [HR.out]; rfl, H1.out, HC1.out⟩
end Go.Proofs.Ytmepanbfknmieaa
