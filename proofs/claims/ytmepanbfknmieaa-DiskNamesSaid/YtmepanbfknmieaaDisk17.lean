/- Contracts of disk: does a name begin with one of some texts? -/
import Derived.Test.YtmepanbfknmieaaDNamed
import Derived.Test.YtmepanbfknmieaaShelf
namespace Go.Proofs.Ytmepanbfknmieaa
open Go.RowKit
/-- Does a name begin with one of some texts? -/
def beginsB (nm : List UInt8) (ss : List ByteArray) : Bool := ss.any fun f => Lib.hasPrefix nm f.data.toList
theorem clo_begin (nm f : ByteArray) (B : Nat) (w : World) (h : w.heap[B]? = some (.cells #[.string nm] 9 (0, 0))) :
    Calls Try.prog 53 #[.string f, .pointer (some ⟨B, 0, none⟩)] w fun e w' => e = .returned (.bool (Lib.hasPrefix nm.data.toList f.data.toList)) ∧ w = w' := by
  have d0 := Lib.cell_of_heap h 0
  have HP := Lib.hid (Try.strings_HasPrefix nm f w)
  generalize Lib.hasPrefix nm.data.toList f.data.toList = t at HP ⊢
  clear h
  go_enter Try.func53, Try.ntmps53
  go_wp2_with fail
  refine HP.out.mono ?_
  rintro e w1 ⟨rfl, hE⟩
  subst hE
  go_wp2
  go_ret
  exact ⟨rfl, rfl⟩
set_option maxRecDepth 100000 in
set_option maxHeartbeats 1000000 in
theorem idxf_begin (a : Option Addr) (m c : Nat) (ss : List ByteArray) (nm : ByteArray) (B : Nat) (w : World) (hl : ss.length = m) (hm : m ≤ 1048576) (hz : Texts w a ss) (h1 : w.heap[B]? = some (.cells #[.string nm] 9 (0, 0))) :
    Calls Try.prog 58 #[.slice a m c, .func (.func 53) #[] #[.pointer (some ⟨B, 0, none⟩)]] w fun e w' => (∃ r : Int, e = .returned (.int .i64 r) ∧ decide (0 ≤ r) = beginsB nm.data.toList ss) ∧ w = w' := by
  have HZ := Lib.hid hz
  have HL := Lib.hid hl
  have H1 := Lib.hid h1
  clear hz hl h1
  go_enter Try.func58, Try.ntmps58
  go_wp2
  go_loop [8] (fun i => ∃ k : Nat, k ≤ m ∧ i = .int .i64 (k : Int) ∧ Hid (beginsB nm.data.toList (ss.take k) = false)) (fun i => m - (intOf i).toNat)
  case atStart => exact ⟨0, Nat.zero_le _, rfl, Lib.hid (by simp [beginsB])⟩
  case round =>
    obtain ⟨k, hk, rfl, hall⟩ := hrel
    by_cases hlt : k < m
    · have hlt' : decide ((k : Int) < (m : Int)) = true := decide_eq_true (by omega)
      obtain ⟨bs, o, s, rfl, hbs, hsk, c0⟩ := texts_at HZ.out HL.out hlt (Below.refl _ _)
      have hmem := List.mem_of_getElem? hsk
      have HE := Lib.hid (clo_begin nm s B w H1.out)
      obtain ⟨t, ht⟩ : ∃ t, t = Lib.hasPrefix nm.data.toList s.data.toList := ⟨_, rfl⟩
      rw [← ht] at HE
      cases t with
      | false =>
        have hall' : Hid (beginsB nm.data.toList (ss.take (k + 1)) = false) := by
          show beginsB nm.data.toList (ss.take (k + 1)) = false
          have := hall.out
          unfold beginsB at this ⊢
          rw [List.take_add_one, hsk, List.any_append, this]
          simpa using ht.symm
        clear hall hsk hmem ht
        go_wp2_with fail
        refine HE.out.mono ?_
        rintro e w1 ⟨rfl, hE⟩
        subst hE
        go_wp2
        go_round
        case rel => exact ⟨k + 1, by omega, by go_num, hall'⟩
        case measure => simp [intOf]; omega
      | true =>
        have HF := Lib.hid (show beginsB nm.data.toList ss = true from List.any_eq_true.2 ⟨s, hmem, ht.symm⟩)
        clear hall hsk hmem ht
        go_wp2_with fail
        refine HE.out.mono ?_
        rintro e w1 ⟨rfl, hE⟩
        subst hE
        go_wp2
        go_ret
        exact ⟨⟨_, rfl, by rw [HF.out]; exact decide_eq_true (by omega)⟩, rfl⟩
    · have hlt' : decide ((k : Int) < (m : Int)) = false := decide_eq_false (by omega)
      have HT := Lib.hid (show beginsB nm.data.toList ss = false by
        have := hall.out
        rwa [List.take_of_length_le (by rw [HL.out]; omega)] at this)
      clear hall
      go_wp2
      go_ret
      exact ⟨⟨_, rfl, by rw [HT.out]; rfl⟩, rfl⟩
theorem contf_begin (a : Option Addr) (m c : Nat) (ss : List ByteArray) (nm : ByteArray) (B : Nat) (w : World) (hl : ss.length = m) (hm : m ≤ 1048576) (hz : Texts w a ss) (h1 : w.heap[B]? = some (.cells #[.string nm] 9 (0, 0))) :
    Calls Try.prog 52 #[.slice a m c, .func (.func 53) #[] #[.pointer (some ⟨B, 0, none⟩)]] w fun e w' => e = .returned (.bool (beginsB nm.data.toList ss)) ∧ w = w' := by
  have HI := Lib.hid (idxf_begin a m c ss nm B w hl hm hz h1)
  generalize beginsB nm.data.toList ss = t at HI ⊢
  clear hz hl h1
  go_enter Try.func52, Try.ntmps52
  go_wp2_with fail
  refine HI.out.mono ?_
  rintro e w1 ⟨⟨r, rfl, hr⟩, hE⟩
  subst hE
  go_wp2
  go_ret
  exact ⟨rfl, rfl⟩
theorem begins_any (a : Option Addr) (m c : Nat) (ss : List ByteArray) (nm : ByteArray) (w : World) (hl : ss.length = m) (hm : m ≤ 1048576) (hz : Texts w a ss) :
    Calls Try.prog 45 #[.string nm, .slice a m c] w fun e w' => e = .returned (.bool (beginsB nm.data.toList ss)) ∧ Below w.heap.size w w' := by
  obtain ⟨W1, hW1⟩ : ∃ W, W = w.alloc (.cells #[.string nm] 9) := ⟨_, rfl⟩
  have hB1 : Below w.heap.size w W1 := by rw [hW1]; exact (Below.refl _ _).alloc (Nat.le_refl _) _
  have HI := Lib.hid (contf_begin a m c ss nm w.heap.size W1 hl hm (hz.below hB1) (by rw [hW1]; exact Array.getElem?_push_size))
  have HW1 := Lib.hid hW1.symm
  have HB1 := Lib.hid hB1
  generalize beginsB nm.data.toList ss = t at HI ⊢
  clear hz hl hB1 hW1
  go_enter Try.func45, Try.ntmps45
  go_wp2_with fail
  rw [HW1.out]
  refine HI.out.mono ?_
  rintro e w1 ⟨rfl, hE⟩
  subst hE
  go_wp2
  go_ret
  exact ⟨rfl, HB1.out⟩
end Go.Proofs.Ytmepanbfknmieaa
