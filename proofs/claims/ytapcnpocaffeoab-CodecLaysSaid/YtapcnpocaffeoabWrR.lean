/- Contracts of codec's writers: Value, Row, Rows; of a writer that there isn't. -/
import Derived.Test.YtapcnpocaffeoabWrT
import Derived.Test.YtapcnpocaffeoabKey2
namespace Go.Proofs.Ytapcnpocaffeoab
open Go.RowKit
theorem wval_any (b : Nat) (l : List UInt8) (v : Val) (h0 : -9223372036854775808 ≤ v.2.1) (h1 : v.2.1 ≤ 9223372036854775807) (w : World) (hl : l.length ≤ 8388608) (hW : WAt w b l) :
    Calls Try.prog 43 #[.pointer (some ⟨b, 0, none⟩), vagg v] w fun e w' => e = .returned (.tuple #[]) ∧ WAt w' b (l ++ valB v) ∧ WChg b w w' := by
  obtain ⟨k, n, s⟩ := v
  simp only at h0 h1
  cases hv : vright (k, n, s) with
  | false =>
    have e : valB (k, n, s) = 1 :: numB (foldN 0) := by unfold valB; rw [hv]; rfl
    rw [e]
    exact wval0 b l k n s hv w (by omega) hW
  | true =>
    rcases right_kinds hv with ⟨hk, hs⟩ | ⟨hk, hn, hs⟩ | ⟨hk, hn, hs⟩
    · simp only at hk hs
      subst hk; subst hs
      have e : valB (1, n, ⟨#[]⟩) = 1 :: numB (foldN n) := by unfold valB; rw [hv]; rfl
      rw [e]
      exact wval1 b l n h0 h1 w (by omega) hW
    · simp only at hk hn hs
      subst hk; subst hn
      have e : valB (2, 0, s) = 2 :: textB s := by unfold valB; rw [hv]; rfl
      rw [e]
      exact wval2 b l s hs w hl hW
    · simp only at hk hn hs
      subst hk; subst hs
      have e : valB (3, n, ⟨#[]⟩) = [3, UInt8.ofNat n.toNat] := by unfold valB; rw [hv]; rfl
      rw [e]
      exact wval3 b l n hn w (by omega) hW
theorem valB_len (v : Val) : (valB v).length ≤ 220 := by
  unfold valB
  have h0 := numB_len (foldN 0)
  split
  · rename_i hv
    rcases right_kinds hv with ⟨hk, hs⟩ | ⟨hk, hn, hs⟩ | ⟨hk, hn, hs⟩
    · rw [if_pos hk]; have := numB_len (foldN v.2.1); simp; omega
    · rw [if_neg (by omega), if_pos hk]; unfold textB; have := numB_len v.2.2.size; rw [List.length_cons, List.length_append, ← Lib.size_eq]; omega
    · rw [if_neg (by omega), if_neg (by omega)]; simp
  · simp; omega
def valsB (vs : List Val) : List UInt8 := vs.flatMap valB
set_option maxRecDepth 100000 in
set_option maxHeartbeats 1000000 in
theorem wvalue_any (b : Nat) (l : List UInt8) (a : Option Addr) (m c : Nat) (vs : List Val) (w : World) (hm : vs.length = m) (hl : l.length ≤ 4194304) (hm2 : m ≤ 1000) (hok : ValsOk vs) (hW : WAt w b l) (hV : Vals w a vs) (hA : vs ≠ [] → ∀ x, a = some x → Apart w b x.block) :
    Calls Try.prog 19 #[.pointer (some ⟨b, 0, none⟩), .slice a m c] w fun e w' => e = .returned (.pointer (some ⟨b, 0, none⟩)) ∧ WAt w' b (l ++ valsB vs) ∧ WChg b w w' := by
  have HM := Lib.hid hm
  have HV := Lib.hid hV
  have HAP := Lib.hid hA
  have HW := Lib.hid hW
  have HOK := Lib.hid hok
  have HWB := Lib.hid hW.1
  clear hm hV hA hW hok
  go_enter Try.func19, Try.ntmps19
  go_wp2
  go_loopw [9] (fun i wr => ∃ k : Nat, k ≤ m ∧ i = .int .i64 (k : Int) ∧ WAt wr b (l ++ valsB (vs.take k)) ∧ WChg b w wr) (fun i _ => m - (intOf i).toNat)
  case atStart => exact ⟨0, Nat.zero_le _, rfl, by rw [List.take_zero]; simpa [valsB] using HW.out, WChg.refl _ _⟩
  case round =>
    obtain ⟨k, hk, rfl, hWk, hCk⟩ := hrel
    have HWK := Lib.hid hWk
    have HCK := Lib.hid hCk
    clear hWk hCk
    by_cases hlt : k < m
    · have hlt' : decide ((k : Int) < (m : Int)) = true := decide_eq_true (by omega)
      rcases HV.out with hv0 | ⟨hnn, bs, o, rfl, hbs, hcz⟩
      · have := HM.out
        rw [hv0] at this
        simp at this
        omega
      obtain ⟨v, hvk⟩ : ∃ v, vs[k]? = some v := ⟨_, List.getElem?_eq_getElem (by rw [HM.out]; exact hlt)⟩
      obtain ⟨z0, z1, z2⟩ := hcz k v hvk
      have hap := HAP.out hnn _ rfl
      have c0 := (HCK.out.cell hbs hap (o + k * 3)).trans z0
      have c1 := (HCK.out.cell hbs hap (o + k * 3 + 1)).trans z1
      have c2 := (HCK.out.cell hbs hap (o + k * 3 + 2)).trans z2
      have hvo := HOK.out v (List.mem_of_getElem? hvk)
      have hts : valsB (vs.take (k + 1)) = valsB (vs.take k) ++ valB v := by
        rw [List.take_add_one, hvk]; exact flat_snoc _ _ _
      have hfl := flat_len valB 220 valB_len (vs.take k)
      have htl : (vs.take k).length ≤ k := List.length_take_le _ _
      have hA1 : Below wr.heap.size wr (wr.alloc (.cells #[.int .i64 v.1, .int .i64 v.2.1, .string v.2.2] 35)) := (Below.refl _ _).alloc (Nat.le_refl _) _
      have hval := wval_any b (l ++ valsB (vs.take k)) v hvo.2.1.1 hvo.2.1.2 _ (by rw [List.length_append]; unfold valsB; omega) (HWK.out.below hA1)
      rw [List.append_assoc, ← hts] at hval
      have HN := Lib.hid hval
      have HC1 := Lib.hid (HCK.out.thenB HWB.out hA1)
      clear hcz z0 z1 z2 hap hvk hvo hts hfl htl hA1 hval
      go_wp2_with fail
      refine HN.out.mono ?_
      rintro e w2 ⟨rfl, hW2, hC2⟩
      have HW2 := Lib.hid hW2
      have HC2 := Lib.hid (HC1.out.trans hC2)
      clear hW2 hC2 HN HC1 HWK HCK c0 c1 c2
      go_wp2
      go_roundw
      case rel => exact ⟨k + 1, by omega, by go_num, HW2.out, HC2.out⟩
      case measure => simp [intOf]; omega
    · have hlt' : decide ((k : Int) < (m : Int)) = false := decide_eq_false (by omega)
      have hW2 := HWK.out
      rw [List.take_of_length_le (by rw [HM.out]; omega)] at hW2
      have HW2 := Lib.hid hW2
      clear hW2 HWK
      go_wp2
      go_ret
      exact ⟨rfl, HW2.out, HCK.out⟩
/-- A row, laid. -/
def rowB (vs : List Val) : List UInt8 := numB vs.length ++ valsB vs
theorem valsB_len (vs : List Val) : (valsB vs).length ≤ 220 * vs.length := flat_len valB 220 valB_len vs
set_option maxRecDepth 100000 in
set_option maxHeartbeats 1000000 in
theorem wrow_any (b : Nat) (l : List UInt8) (a : Option Addr) (m c : Nat) (vs : List Val) (w : World) (hm : vs.length = m) (hl : l.length ≤ 2097152) (hm2 : m ≤ 1000) (hok : ValsOk vs) (hW : WAt w b l) (hV : Vals w a vs) (hA : vs ≠ [] → ∀ x, a = some x → Apart w b x.block) :
    Calls Try.prog 20 #[.pointer (some ⟨b, 0, none⟩), .slice a m c] w fun e w' => e = .returned (.pointer (some ⟨b, 0, none⟩)) ∧ WAt w' b (l ++ rowB vs) ∧ WChg b w w' := by
  have hA1 : Below w.heap.size w (w.alloc (.cells #[.int .i64 (m : Int)] 3)) := (Below.refl _ _).alloc (Nat.le_refl _) _
  have hsiz := wsize_any b l (some ⟨w.heap.size, 0, none⟩) 1 1 [(m : Int)] _ rfl (by omega) (by omega) (fun z hz => by simp at hz; subst hz; omega) (hW.below hA1) (one_int w (m : Int) 3) (fun _ x hx => by injection hx with hx; subst hx; exact apart_new hW _)
  rw [show sizesB [(m : Int)] = numB m by simp [sizesB]] at hsiz
  have hnl := numB_len m
  have HSZ := Lib.hid hsiz
  have HM := Lib.hid hm
  have HV := Lib.hid hV
  have HAP := Lib.hid hA
  have HOK := Lib.hid hok
  have HWB := Lib.hid hW.1
  have HC1 := Lib.hid ((WChg.refl b w).thenB hW.1 hA1)
  clear hA1 hsiz hm hV hA hok hW
  go_enter Try.func20, Try.ntmps20
  go_wp2_with fail
  refine HSZ.out.mono ?_
  rintro e w2 ⟨rfl, hW2, hC2⟩
  have hC3 := HC1.out.trans hC2
  have hV2 : Vals w2 a vs := HV.out.chg hC3.1 (fun hn x hx e => by
    have := HAP.out hn x hx
    rcases e with e | e
    · exact this.1 e
    · exact this.2 e)
  have hA2 : vs ≠ [] → ∀ x, a = some x → Apart w2 b x.block := fun hn x hx => by
    have h1 := HAP.out hn x hx
    refine ⟨h1.1, fun e => ?_⟩
    rcases hC3.2 _ e with h2 | h2
    · rcases HV.out with hv0 | ⟨_, bs, o, hab, hbs, _⟩
      · exact hn hv0
      · rw [hab] at hx; injection hx with hx; subst hx; simp only at h2; omega
    · exact h1.2 h2
  have hrow := wvalue_any b (l ++ numB m) a m c vs w2 HM.out (by rw [List.length_append]; omega) hm2 HOK.out hW2 hV2 hA2
  rw [List.append_assoc, show numB m ++ valsB vs = rowB vs by unfold rowB; rw [HM.out]] at hrow
  have HR := Lib.hid hrow
  have HC3 := Lib.hid hC3
  clear hW2 hC2 hC3 hV2 hA2 hrow HSZ HC1
  go_wp2_with fail
  refine HR.out.mono ?_
  rintro e w3 ⟨rfl, hW3, hC4⟩
  have HW3 := Lib.hid hW3
  have HC4 := Lib.hid (HC3.out.trans hC4)
  clear hW3 hC4
  go_wp2
  go_ret
  exact ⟨rfl, HW3.out, HC4.out⟩
end Go.Proofs.Ytapcnpocaffeoab
