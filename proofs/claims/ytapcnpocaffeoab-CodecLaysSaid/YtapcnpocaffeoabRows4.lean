/- Contract of ref04's Same: two lists of rows. -/
import Derived.Test.YtapcnpocaffeoabSame
import Derived.Deep.RegionHeld3
namespace Go.Proofs.Ytapcnpocaffeoab
open Go.RowKit
/-- The slice value at a reads as rows of values; all that is read lies in blocks of P. -/
def RowsAt (P : Nat → Prop) (w : World) (a : Option Addr) (rs : List (List Val)) : Prop := rs = [] ∨ rs ≠ [] ∧ ∃ b o, a = some ⟨b, o, none⟩ ∧ b < w.heap.size ∧ P b ∧
  ∀ i vs, rs[i]? = some vs → ∃ a' c', w.cell? ⟨b, o + i, none⟩ = some (.slice a' vs.length c') ∧ Vals w a' vs ∧ (vs ≠ [] → ∀ x, a' = some x → P x.block)
theorem RowsAt.chg {P S : Nat → Prop} {w w' : World} {a : Option Addr} {rs : List (List Val)} (h : RowsAt P w a rs) (hc : Chg S w w') (hs : ∀ k, P k → ¬ S k) : RowsAt P w' a rs := by
  rcases h with h | ⟨hn, b, o, rfl, hb, hP, hz⟩
  · exact .inl h
  · refine .inr ⟨hn, b, o, rfl, Nat.lt_of_lt_of_le hb hc.size, hP, fun i vs hi => ?_⟩
    obtain ⟨a', c', h1, h2, h3⟩ := hz i vs hi
    exact ⟨a', c', (hc.cell (p := ⟨b, o + i, none⟩) hb (hs b hP)).trans h1, h2.chg hc (fun hn x hx => hs _ (h3 hn x hx)), h3⟩
theorem RowsAt.below {P : Nat → Prop} {w w' : World} {a : Option Addr} {rs : List (List Val)} (h : RowsAt P w a rs) (hb : Below w.heap.size w w') : RowsAt P w' a rs := h.chg (S := fun _ => False) (Chg.ofBelow hb) (fun _ _ f => f)
theorem RowsAt.mono {P Q : Nat → Prop} {w : World} {a : Option Addr} {rs : List (List Val)} (h : RowsAt P w a rs) (hpq : ∀ k, P k → Q k) : RowsAt Q w a rs := by
  rcases h with h | ⟨hn, b, o, rfl, hb, hP, hz⟩
  · exact .inl h
  · refine .inr ⟨hn, b, o, rfl, hb, hpq b hP, fun i vs hi => ?_⟩
    obtain ⟨a', c', h1, h2, h3⟩ := hz i vs hi
    exact ⟨a', c', h1, h2, fun hn x hx => hpq _ (h3 hn x hx)⟩
theorem RowsAt.at {P : Nat → Prop} {w w' : World} {a : Option Addr} {rs : List (List Val)} {m k : Nat} (hv : RowsAt P w a rs) (hl : rs.length = m) (hk : k < m) (hb : Below w.heap.size w w') :
    ∃ b o vs a' c', a = some ⟨b, o, none⟩ ∧ b < w.heap.size ∧ rs[k]? = some vs ∧ w'.cell? ⟨b, o + k, none⟩ = some (.slice a' vs.length c') ∧ Vals w a' vs := by
  rcases hv with hv | ⟨hne, b, o, rfl, hlt, _, hz⟩
  · rw [hv] at hl; simp at hl; omega
  · obtain ⟨vs, hvk⟩ : ∃ vs, rs[k]? = some vs := ⟨_, List.getElem?_eq_getElem (by omega)⟩
    obtain ⟨a', c', z0, z1, _⟩ := hz k vs hvk
    exact ⟨b, o, vs, a', c', rfl, hlt, hvk, (hb.cell (p := ⟨b, o + k, none⟩) hlt).trans z0, z1⟩
/-- Each row has no more values than may be. -/
def RowsLen (rs : List (List Val)) : Prop := ∀ r ∈ rs, r.length ≤ 1048576
theorem RowsLen.at {rs : List (List Val)} {k : Nat} {r : List Val} (h : RowsLen rs) (hk : rs[k]? = some r) : r.length ≤ 1048576 := h r (List.mem_of_getElem? hk)
def rsame (us vs : List (List Val)) : Bool := decide (us = vs)
theorem rsame_no {us vs : List (List Val)} {k : Nat} {u v : List Val} (hu : us[k]? = some u) (hv : vs[k]? = some v) (h : vsame u v = false) : rsame us vs = false := by
  unfold rsame
  refine decide_eq_false (fun e => ?_)
  subst e
  have : u = v := Option.some.inj (hu.symm.trans hv)
  subst this
  simp [vsame] at h
set_option maxRecDepth 100000 in
set_option maxHeartbeats 2000000 in
theorem same4_any {P Q : Nat → Prop} (a a' : Option Addr) (m c m' c' : Nat) (us vs : List (List Val)) (w : World) (hl : us.length = m) (hl' : vs.length = m') (hm : m ≤ 1048576) (hm' : m' ≤ 1048576) (hu : RowsAt P w a us) (hv : RowsAt Q w a' vs) (gu : RowsLen us) (gv : RowsLen vs) :
    Calls Try.prog 31 #[.slice a m c, .slice a' m' c'] w fun e w' => e = .returned (.bool (rsame us vs)) ∧ Below w.heap.size w w' := by
  obtain ⟨r, hr⟩ : ∃ r, r = rsame us vs := ⟨_, rfl⟩
  rw [← hr]
  have HR := Lib.hid hr
  have HL := Lib.hid hl
  have HL' := Lib.hid hl'
  have HU := Lib.hid hu
  have HV := Lib.hid hv
  have GU := Lib.hid gu
  have GV := Lib.hid gv
  clear hr hl hl' hu hv gu gv
  by_cases hmm : m = m'
  · subst hmm
    go_enter Try.func31, Try.ntmps31
    go_wp2
    go_loopw [5] (fun i wr => ∃ k : Nat, k ≤ m ∧ i = .int .i64 (k : Int) ∧ Hid (us.take k = vs.take k) ∧ Below w.heap.size w wr) (fun i _ => m - (intOf i).toNat)
    case atStart => exact ⟨0, Nat.zero_le _, rfl, rfl, Below.refl _ _⟩
    case round =>
      obtain ⟨k, hk, rfl, htk, hbel⟩ := hrel
      by_cases hlt : k < m
      · have hlt' : decide ((k : Int) < (m : Int)) = true := decide_eq_true (by omega)
        obtain ⟨b, o, u, ad, cd, rfl, hb, huk, c0, hU⟩ := RowsAt.at HU.out HL.out hlt hbel
        obtain ⟨b', o', v, ad', cd', rfl, hb', hvk, e0, hV⟩ := RowsAt.at HV.out HL'.out hlt hbel
        have hszr := hbel.size
        have hbx : b < wr.heap.size := Nat.lt_of_lt_of_le hb hszr
        have hbx' : b' < wr.heap.size := Nat.lt_of_lt_of_le hb' hszr
        have hsm := fun (W : World) (hW : Below wr.heap.size wr W) => same_any ad ad' u.length cd v.length cd' u v W rfl rfl (GU.out.at huk) (GV.out.at hvk) (hU.below (hbel.trans (hW.mono hszr))) (hV.below (hbel.trans (hW.mono hszr)))
        obtain ⟨t, ht⟩ : ∃ t, t = vsame u v := ⟨_, rfl⟩
        rw [← ht] at hsm
        have HSM := Lib.hid hsm
        have hk0 : (0 : Int) ≤ (k : Int) := by omega
        have hk1 : (k : Int) < (m : Int) := by omega
        have HB := Lib.hid (Below.refl wr.heap.size wr).drew
        have hd0 := hbel.drew
        cases t with
        | true =>
          have he : u = v := by
            have h := ht.symm; unfold vsame at h; exact of_decide_eq_true h
          subst he
          have htk' : Hid (us.take (k + 1) = vs.take (k + 1)) := by
            show us.take (k + 1) = vs.take (k + 1)
            rw [List.take_add_one, List.take_add_one, huk, hvk, htk.out]
          clear hsm ht huk hvk htk hU hV
          go_wp2_with fail
          go_region_held3 (fun W => W.cell? ⟨b, o + k, none⟩ = some (.slice ad u.length cd) ∧ W.cell? ⟨b', o' + k, none⟩ = some (.slice ad' u.length cd'))
            (first | (with_reducible exact ⟨q0, q1⟩) | go_keep)
            (first
              | (go_at_call 49; refine (HSM.out _ HB.out).mono ?_; rintro e w1 ⟨rfl, hb1⟩; obtain ⟨hc1, hf1⟩ := bcell hb1; have q0 := (hc1 b (o + k) (by exact hbx)).trans (by exact c0); have q1 := (hc1 b' (o' + k) (by exact hbx')).trans (by exact e0); clear hc1 hf1))
          have hB1 : Below w.heap.size w w1 := Below.thenB hd0 (by exact hszr) hb1
          go_wp2
          go_roundw
          case rel => exact ⟨k + 1, by omega, by go_num, htk', hB1⟩
          case measure => simp [intOf]; omega
        | false =>
          have hrf : r = false := by rw [HR.out]; exact rsame_no huk hvk ht.symm
          have HF := Lib.hid hrf
          clear hsm ht huk hvk htk hU hV hrf
          go_wp2_with fail
          go_region_held3 (fun W => W.cell? ⟨b, o + k, none⟩ = some (.slice ad u.length cd) ∧ W.cell? ⟨b', o' + k, none⟩ = some (.slice ad' v.length cd'))
            (first | (with_reducible exact ⟨q0, q1⟩) | go_keep)
            (first
              | (go_at_call 49; refine (HSM.out _ HB.out).mono ?_; rintro e w1 ⟨rfl, hb1⟩; obtain ⟨hc1, hf1⟩ := bcell hb1; have q0 := (hc1 b (o + k) (by exact hbx)).trans (by exact c0); have q1 := (hc1 b' (o' + k) (by exact hbx')).trans (by exact e0); clear hc1 hf1))
          have hB1 : Below w.heap.size w w1 := Below.thenB hd0 (by exact hszr) hb1
          go_wp2
          go_ret
          exact ⟨by rw [HF.out]; rfl, hB1⟩
      · have hlt' : decide ((k : Int) < (m : Int)) = false := decide_eq_false (by omega)
        have hkm : k = m := by omega
        subst hkm
        have hrt : r = true := by
          rw [HR.out]; unfold rsame
          refine decide_eq_true ?_
          have := htk.out
          rwa [List.take_of_length_le (by rw [HL.out]; exact Nat.le_refl _), List.take_of_length_le (by rw [HL'.out]; exact Nat.le_refl _)] at this
        have HT := Lib.hid hrt
        clear hrt htk
        go_wp2
        go_ret
        exact ⟨by rw [HT.out]; rfl, hbel⟩
  · have hd : ¬ (m : Int) = (m' : Int) := by omega
    have hrf : r = false := by
      rw [HR.out]; unfold rsame
      exact decide_eq_false (fun e => hmm (by rw [← HL.out, ← HL'.out, e]))
    have HF := Lib.hid hrf
    clear hrf
    go_enter Try.func31, Try.ntmps31
    go_wp2
    go_ret
    exact ⟨by rw [HF.out]; rfl, Below.refl _ _⟩
end Go.Proofs.Ytapcnpocaffeoab
