/- Contracts of disk: named; ask. -/
import Derived.Test.YtmepanbfknmieaaTexts
namespace Go.Proofs.Ytmepanbfknmieaa
open Go.RowKit
/-- May a name be? -/
def mayB (s : ByteArray) : Bool := decide (0 < s.size) && decide (s.size ≤ 20)
theorem named1_any (s : ByteArray) (w : World) (hs : s.size ≤ 281474976710656) : Calls Try.prog 57 #[.string s] w fun e w' => e = .returned (.bool (!mayB s)) ∧ w = w' := by
  unfold mayB
  by_cases h0 : s.size = 0
  · have hs0 : s = ⟨#[]⟩ := by
      cases s with | mk d => congr 1; exact Array.eq_empty_of_size_eq_zero h0
    subst hs0
    clear h0 hs
    go_enter Try.func57, Try.ntmps57
    go_wp2
    go_ret
    exact ⟨rfl, rfl⟩
  · have hne : (s.toList == (⟨#[]⟩ : ByteArray).toList) = false := by
      refine beq_false_of_ne (fun e => h0 ?_)
      rw [ByteArray.toList_eq, ByteArray.toList_eq] at e
      have := congrArg List.length e
      rw [Array.length_toList] at this
      simpa using this
    have hE : s.toList.isEmpty = false := by
      rw [ByteArray.toList_eq]
      cases hx : s.data.toList with
      | nil => have := congrArg List.length hx; rw [Array.length_toList] at this; exact absurd (by simpa using this) h0
      | cons => rfl
    rw [decide_eq_true (by omega : 0 < s.size), Bool.true_and]
    by_cases h20 : 20 < s.size
    · have d : decide ((20 : Int) < (s.size : Int)) = true := decide_eq_true (by omega)
      rw [decide_eq_false (by omega : ¬ s.size ≤ 20)]
      clear h0
      go_enter Try.func57, Try.ntmps57
      go_wp2
      go_ret
      exact ⟨rfl, rfl⟩
    · have d : decide ((20 : Int) < (s.size : Int)) = false := decide_eq_false (by omega)
      rw [decide_eq_true (by omega : s.size ≤ 20)]
      clear h0
      go_enter Try.func57, Try.ntmps57
      go_wp2
      go_ret
      exact ⟨rfl, rfl⟩
theorem texts_at {w w' : World} {a : Option Addr} {ss : List ByteArray} {m k : Nat} (h : Texts w a ss) (hl : ss.length = m) (hk : k < m) (hb : Below w.heap.size w w') : ∃ b o s, a = some ⟨b, o, none⟩ ∧ b < w.heap.size ∧ ss[k]? = some s ∧ w'.cell? ⟨b, o + k, none⟩ = some (.string s) := by
  rcases h with h | ⟨_, b, o, rfl, hlt, hc⟩
  · rw [h] at hl; simp at hl; omega
  · obtain ⟨s, hs⟩ : ∃ s, ss[k]? = some s := ⟨_, List.getElem?_eq_getElem (by omega)⟩
    exact ⟨b, o, s, rfl, hlt, hs, (hb.cell (p := ⟨b, o + k, none⟩) hlt).trans (hc k s hs)⟩
set_option maxRecDepth 100000 in
set_option maxHeartbeats 1000000 in
theorem idxf_named (a : Option Addr) (m c : Nat) (ss : List ByteArray) (w : World) (hl : ss.length = m) (hm : m ≤ 1048576) (hsz : ∀ s ∈ ss, s.size ≤ 281474976710656) (hz : Texts w a ss) :
    Calls Try.prog 58 #[.slice a m c, .func (.func 57) #[] #[]] w fun e w' => (∃ r : Int, e = .returned (.int .i64 r) ∧ decide (0 ≤ r) = !(ss.all mayB)) ∧ w = w' := by
  have HZ := Lib.hid hz
  have HL := Lib.hid hl
  have HS := Lib.hid hsz
  clear hz hl hsz
  go_enter Try.func58, Try.ntmps58
  go_wp2
  go_loop [8] (fun i => ∃ k : Nat, k ≤ m ∧ i = .int .i64 (k : Int) ∧ Hid ((ss.take k).all mayB = true)) (fun i => m - (intOf i).toNat)
  case atStart => exact ⟨0, Nat.zero_le _, rfl, Lib.hid (by simp)⟩
  case round =>
    obtain ⟨k, hk, rfl, hall⟩ := hrel
    by_cases hlt : k < m
    · have hlt' : decide ((k : Int) < (m : Int)) = true := decide_eq_true (by omega)
      obtain ⟨bs, o, s, rfl, hbs, hsk, c0⟩ := texts_at HZ.out HL.out hlt (Below.refl _ _)
      have hmem := List.mem_of_getElem? hsk
      have HE := Lib.hid (named1_any s w (HS.out s hmem))
      obtain ⟨t, ht⟩ : ∃ t, t = mayB s := ⟨_, rfl⟩
      rw [← ht] at HE
      cases t with
      | true =>
        have hall' : Hid ((ss.take (k + 1)).all mayB = true) := by
          show (ss.take (k + 1)).all mayB = true
          rw [List.take_add_one, hsk, List.all_append, hall.out]
          simpa using ht.symm
        clear hall hsk hmem ht
        go_wp2_with fail
        refine HE.out.mono ?_
        rintro e w1 ⟨rfl, hE⟩
        subst hE
        go_wp2
        go_round
        case rel => exact ⟨k + 1, by omega, by go_num, hall'⟩
        case measure => simp [intOf]; omega
      | false =>
        have HF := Lib.hid (show ss.all mayB = false from List.all_eq_false.2 ⟨s, hmem, by rw [← ht]; decide⟩)
        clear hall hsk hmem ht
        go_wp2_with fail
        refine HE.out.mono ?_
        rintro e w1 ⟨rfl, hE⟩
        subst hE
        go_wp2
        go_ret
        exact ⟨⟨_, rfl, by rw [HF.out]; exact decide_eq_true (by omega)⟩, rfl⟩
    · have hlt' : decide ((k : Int) < (m : Int)) = false := decide_eq_false (by omega)
      have HT := Lib.hid (show ss.all mayB = true by
        have := hall.out
        rwa [List.take_of_length_le (by rw [HL.out]; omega)] at this)
      clear hall
      go_wp2
      go_ret
      exact ⟨⟨_, rfl, by rw [HT.out]; rfl⟩, rfl⟩
theorem contf_named (a : Option Addr) (m c : Nat) (ss : List ByteArray) (w : World) (hl : ss.length = m) (hm : m ≤ 1048576) (hsz : ∀ s ∈ ss, s.size ≤ 281474976710656) (hz : Texts w a ss) :
    Calls Try.prog 52 #[.slice a m c, .func (.func 57) #[] #[]] w fun e w' => e = .returned (.bool (!(ss.all mayB))) ∧ w = w' := by
  have HI := Lib.hid (idxf_named a m c ss w hl hm hsz hz)
  generalize (!(ss.all mayB)) = t at HI ⊢
  clear hz hl hsz
  go_enter Try.func52, Try.ntmps52
  go_wp2_with fail
  refine HI.out.mono ?_
  rintro e w1 ⟨⟨r, rfl, hr⟩, hE⟩
  subst hE
  go_wp2
  go_ret
  exact ⟨rfl, rfl⟩
theorem named_all (a : Option Addr) (m c : Nat) (ss : List ByteArray) (w : World) (hl : ss.length = m) (hm : m ≤ 1048576) (hsz : ∀ s ∈ ss, s.size ≤ 281474976710656) (hz : Texts w a ss) :
    Calls Try.prog 50 #[.slice a m c] w fun e w' => e = .returned (.bool (ss.all mayB)) ∧ w = w' := by
  have HI := Lib.hid (contf_named a m c ss w hl hm hsz hz)
  obtain ⟨t, ht⟩ : ∃ t, t = ss.all mayB := ⟨_, rfl⟩
  rw [← ht] at HI ⊢
  clear hz hl hsz ht
  go_enter Try.func50, Try.ntmps50
  go_wp2_with fail
  refine HI.out.mono ?_
  rintro e w1 ⟨rfl, hE⟩
  subst hE
  go_wp2
  go_ret
  exact ⟨by simp, rfl⟩
end Go.Proofs.Ytmepanbfknmieaa
