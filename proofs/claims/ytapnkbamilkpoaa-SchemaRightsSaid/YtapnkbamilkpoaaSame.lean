/- Contract of ref02's Same: two rows of values. -/
import Derived.Test.YtapnkbamilkpoaaOwn3
import Derived.Deep.QuietTactic
namespace Go.Proofs.Ytapnkbamilkpoaa
open Go.RowKit
def vsame (us vs : List Val) : Bool := decide (us = vs)
theorem list_ne {c z : ByteArray} (h : ¬ c = z) : ¬ c.toList = z.toList := by
  intro e
  rw [ByteArray.toList_eq, ByteArray.toList_eq] at e
  refine h ?_
  cases c; cases z
  simpa using e
theorem vsame_no {us vs : List Val} {k : Nat} {u v : Val} (hu : us[k]? = some u) (hv : vs[k]? = some v) (h : ¬ u = v) : vsame us vs = false := by
  unfold vsame
  refine decide_eq_false (fun e => h ?_)
  subst e
  exact Option.some.inj (hu.symm.trans hv)
set_option maxRecDepth 100000 in
set_option maxHeartbeats 2000000 in
theorem same_any (a a' : Option Addr) (m c m' c' : Nat) (us vs : List Val) (w : World) (hl : us.length = m) (hl' : vs.length = m') (hm : m ≤ 1048576) (hm' : m' ≤ 1048576) (hu : Vals w a us) (hv : Vals w a' vs) :
    Calls Try.prog 27 #[.slice a m c, .slice a' m' c'] w fun e w' => e = .returned (.bool (vsame us vs)) ∧ Below w.heap.size w w' := by
  obtain ⟨r, hr⟩ : ∃ r, r = vsame us vs := ⟨_, rfl⟩
  rw [← hr]
  have HR := Lib.hid hr
  have HL := Lib.hid hl
  have HL' := Lib.hid hl'
  have HU := Lib.hid hu
  have HV := Lib.hid hv
  clear hr hl hl' hu hv
  by_cases hmm : m = m'
  · have hd : ((m : Int) == (m' : Int)) = true := beq_iff_eq.2 (by omega)
    subst hmm
    clear hd
    go_enter Try.func27, Try.ntmps27
    go_wp2
    go_loopw [5] (fun i wr => ∃ k : Nat, k ≤ m ∧ i = .int .i64 (k : Int) ∧ Hid (us.take k = vs.take k) ∧ Below w.heap.size w wr) (fun i _ => m - (intOf i).toNat)
    case atStart => exact ⟨0, Nat.zero_le _, rfl, rfl, Below.refl _ _⟩
    case round =>
      obtain ⟨k, hk, rfl, htk, hbel⟩ := hrel
      by_cases hlt : k < m
      · have hlt' : decide ((k : Int) < (m : Int)) = true := decide_eq_true (by omega)
        obtain ⟨b, o, u, rfl, hb, huk, c0, c1, c2⟩ := Vals.at3 HU.out HL.out hlt hbel
        obtain ⟨b', o', v, rfl, hb', hvk, e0, e1, e2⟩ := Vals.at3 HV.out HL'.out hlt hbel
        by_cases he : u = v
        · subst he
          have htk' : Hid (us.take (k + 1) = vs.take (k + 1)) := by
            show us.take (k + 1) = vs.take (k + 1)
            rw [List.take_add_one, List.take_add_one, huk, hvk, htk.out]
          obtain ⟨uk, un, us'⟩ := u
          simp only [] at c0 c1 c2 e0 e1 e2
          clear huk hvk htk
          go_wp2_with fail
          go_quiet (fail)
          go_wp2
          go_roundw
          case rel => exact ⟨k + 1, by omega, by simp, htk', bdrewN hbel _⟩
          case measure => simp [intOf]; omega
        · have hrf : r = false := by rw [HR.out]; exact vsame_no huk hvk he
          have HF := Lib.hid hrf
          obtain ⟨uk, un, us'⟩ := u
          obtain ⟨vk, vn, vs'⟩ := v
          simp only [] at c0 c1 c2 e0 e1 e2
          clear huk hvk htk hrf
          by_cases h1 : uk = vk
          · subst h1
            by_cases h2 : un = vn
            · subst h2
              have h3 := list_ne (c := us') (z := vs') (by simpa using he)
              clear he
              go_wp2_with fail
              go_quiet (fail)
              go_wp2
              go_ret
              exact ⟨by rw [HF.out]; rfl, bdrewN hbel _⟩
            · clear he
              go_wp2_with fail
              go_quiet (fail)
              go_wp2
              go_ret
              exact ⟨by rw [HF.out]; rfl, bdrewN hbel _⟩
          · clear he
            go_wp2_with fail
            go_quiet (fail)
            go_wp2
            go_ret
            exact ⟨by rw [HF.out]; rfl, bdrewN hbel _⟩
      · have hkm : k = m := by omega
        subst hkm
        have hrt : r = true := by
          rw [HR.out]; unfold vsame
          refine decide_eq_true ?_
          have := htk.out
          rwa [List.take_of_length_le (by rw [HL.out]; exact Nat.le_refl _), List.take_of_length_le (by rw [HL'.out]; exact Nat.le_refl _)] at this
        have HT := Lib.hid hrt
        clear hrt htk
        go_wp2
        go_ret
        exact ⟨by rw [HT.out]; rfl, hbel⟩
  · have hd : ¬ (m : Int) = (m' : Int) := by omega
    have hrf : r = false := by
      rw [HR.out]; unfold vsame
      exact decide_eq_false (fun e => hmm (by rw [← HL.out, ← HL'.out, e]))
    have HF := Lib.hid hrf
    clear hrf
    go_enter Try.func27, Try.ntmps27
    go_wp2
    go_ret
    exact ⟨by rw [HF.out]; rfl, Below.refl _ _⟩
end Go.Proofs.Ytapnkbamilkpoaa
