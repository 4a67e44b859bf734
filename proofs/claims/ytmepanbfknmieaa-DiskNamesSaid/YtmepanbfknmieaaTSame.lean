/- Contract of the document's Same, of lists of texts. -/
import Derived.Test.YtmepanbfknmieaaTexts
import Derived.Deep.QuietTactic
import Derived.BigQuiet
namespace Go.Proofs.Ytmepanbfknmieaa
open Go.RowKit
/-- Two lists of texts that are the same. -/
def tsame (a b : List ByteArray) : Bool := decide (a = b)
theorem ba_toList_inj {a b : ByteArray} (h : a.toList = b.toList) : a = b := by
  rw [ByteArray.toList_eq, ByteArray.toList_eq] at h
  cases a; cases b
  congr 1
  exact Array.toList_inj.1 h
theorem tsame_no {us vs : List ByteArray} {k : Nat} {u v : ByteArray} (hu : us[k]? = some u) (hv : vs[k]? = some v) (h : ¬ u = v) : tsame us vs = false := by
  unfold tsame
  refine decide_eq_false (fun e => h ?_)
  subst e
  exact Option.some.inj (hu.symm.trans hv)
theorem tsame_yes {us vs : List ByteArray} {k : Nat} (hl : us.length = vs.length) (hk : us.length ≤ k) (h : us.take k = vs.take k) : tsame us vs = true := by
  unfold tsame
  rw [List.take_of_length_le hk, List.take_of_length_le (by omega)] at h
  exact decide_eq_true h
set_option maxRecDepth 100000 in
set_option maxHeartbeats 1000000 in
theorem tsame_any (a a' : Option Addr) (m c m' c' : Nat) (us vs : List ByteArray) (w : World) (hl : us.length = m) (hl' : vs.length = m') (hm : m ≤ 1048576) (hm' : m' ≤ 1048576) (hu : Texts w a us) (hv : Texts w a' vs) :
    Calls Try.prog 22 #[.slice a m c, .slice a' m' c'] w fun e w' => e = .returned (.bool (tsame us vs)) ∧ Below w.heap.size w w' := by
  obtain ⟨r, hr⟩ : ∃ r, r = tsame us vs := ⟨_, rfl⟩
  rw [← hr]
  have HR := Lib.hid hr
  clear hr
  by_cases hmm : m = m'
  · subst hmm
    have HL := Lib.hid hl
    have HL' := Lib.hid hl'
    have hmm : ((m : Int) != (m : Int)) = false := by simp
    clear hl hl'
    go_enter Try.func22, Try.ntmps22
    go_wp2
    go_loopw [5] (fun i wr => ∃ k : Nat, k ≤ m ∧ i = .int .i64 (k : Int) ∧ us.take k = vs.take k ∧ Below w.heap.size w wr) (fun i _ => m - (intOf i).toNat)
    case atStart => exact ⟨0, Nat.zero_le _, rfl, by simp, Below.refl _ _⟩
    case round =>
      obtain ⟨k, hk, rfl, hT, hbel⟩ := hrel
      have HT := Lib.hid hT
      clear hT
      by_cases hlt : k < m
      · have hlt' : decide ((k : Int) < (m : Int)) = true := decide_eq_true (by omega)
        obtain ⟨u, huk⟩ : ∃ u, us[k]? = some u := ⟨_, List.getElem?_eq_getElem (by rw [HL.out]; exact hlt)⟩
        obtain ⟨v, hvk⟩ : ∃ v, vs[k]? = some v := ⟨_, List.getElem?_eq_getElem (by rw [HL'.out]; exact hlt)⟩
        rcases hu with hv0 | ⟨hnn, b, o, rfl, hbs, hcz⟩
        · have := HL.out
          rw [hv0] at this
          simp at this
          omega
        rcases hv with hv0 | ⟨hnn', b', o', rfl, hbs', hcz'⟩
        · have := HL'.out
          rw [hv0] at this
          simp at this
          omega
        have hc := (hbel.cell (p := ⟨b, o + k, none⟩) hbs).trans (hcz k u huk)
        have hc' := (hbel.cell (p := ⟨b', o' + k, none⟩) hbs').trans (hcz' k v hvk)
        have hU := Lib.hid huk
        have hV := Lib.hid hvk
        clear hcz hcz' huk hvk
        have hki : (k : Int) < (m : Int) := by omega
        by_cases he : u = v
        · have hb : (u.toList == v.toList) = true := by rw [he]; simp
          have hT2 : us.take (k + 1) = vs.take (k + 1) := by rw [List.take_add_one, List.take_add_one, HT.out, hU.out, hV.out, he]
          have HT2 := Lib.hid hT2
          clear he hT2
          go_wp2_with fail
          go_quiet (fail)
          go_wp2
          go_roundw
          case rel => exact ⟨k + 1, by omega, by go_num, HT2.out, bdrewN hbel _⟩
          case measure => simp [intOf]; omega
        · have hb : (u.toList == v.toList) = false := beq_false_of_ne (fun e => he (ba_toList_inj e))
          have hrf : r = false := by rw [HR.out]; exact tsame_no hU.out hV.out he
          have HF := Lib.hid hrf
          clear he hrf
          go_wp2_with fail
          go_quiet (fail)
          go_wp2
          go_ret
          exact ⟨by rw [HF.out]; rfl, bdrewN hbel _⟩
      · have hlt' : decide ((k : Int) < (m : Int)) = false := decide_eq_false (by omega)
        have hrt : r = true := by rw [HR.out]; exact tsame_yes (HL.out.trans HL'.out.symm) (by rw [HL.out]; omega) HT.out
        have HF := Lib.hid hrt
        clear hrt
        go_wp2
        go_ret
        exact ⟨by rw [HF.out]; rfl, hbel⟩
  · have hb : ((m : Int) != (m' : Int)) = true := bne_iff_ne.2 (by omega)
    have hb' : (m != m') = true := bne_iff_ne.2 hmm
    have hrf : r = false := by
      rw [HR.out]; unfold tsame
      exact decide_eq_false (fun e => hmm (by rw [← hl, ← hl', e]))
    have HF := Lib.hid hrf
    clear hrf hl hl' hmm
    go_enter Try.func22, Try.ntmps22
    go_wp2
    go_ret
    exact ⟨by rw [HF.out]; rfl, Below.refl _ _⟩
end Go.Proofs.Ytmepanbfknmieaa
