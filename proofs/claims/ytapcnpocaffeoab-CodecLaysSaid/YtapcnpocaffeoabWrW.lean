/- Contracts: the Writer's Rows; ref04's Great. -/
import Derived.Test.YtapcnpocaffeoabWrR
import Derived.Test.YtapcnpocaffeoabRows4
import Derived.Test.YtapcnpocaffeoabGreat
namespace Go.Proofs.Ytapcnpocaffeoab
open Go.RowKit
def rowsB (rs : List (List Val)) : List UInt8 := numB rs.length ++ rs.flatMap rowB
theorem rowB_len (vs : List Val) (h : vs.length ≤ 30) : (rowB vs).length ≤ 6609 := by
  unfold rowB; rw [List.length_append]; have := numB_len vs.length; have := valsB_len vs; omega
theorem rowsB_len : ∀ (rs : List (List Val)), (∀ r ∈ rs, r.length ≤ 30) → (rs.flatMap rowB).length ≤ 6609 * rs.length
  | [], _ => by simp
  | r :: rs, h => by
    rw [List.flatMap_cons, List.length_append, List.length_cons]
    have h1 := rowB_len r (h r (List.mem_cons_self ..))
    have h2 := rowsB_len rs (fun r hr => h r (List.mem_cons_of_mem _ hr))
    omega
set_option maxRecDepth 100000 in
set_option maxHeartbeats 2000000 in
theorem wrows_any (b : Nat) (l : List UInt8) (a : Option Addr) (m c : Nat) (rs : List (List Val)) (w : World) (hm : rs.length = m) (hl : l.length ≤ 1048576) (hm2 : m ≤ 30) (hr : ∀ r ∈ rs, r.length ≤ 30 ∧ ValsOk r) (hW : WAt w b l) (hV : RowsAt (fun k => k < b) w a rs) :
    Calls Try.prog 21 #[.pointer (some ⟨b, 0, none⟩), .slice a m c] w fun e w' => e = .returned (.pointer (some ⟨b, 0, none⟩)) ∧ WAt w' b (l ++ rowsB rs) ∧ WChg b w w' := by
  have hA1 : Below w.heap.size w (w.alloc (.cells #[.int .i64 (m : Int)] 3)) := (Below.refl _ _).alloc (Nat.le_refl _) _
  have hsiz := wsize_any b l (some ⟨w.heap.size, 0, none⟩) 1 1 [(m : Int)] _ rfl (by omega) (by omega) (fun z hz => by simp at hz; subst hz; omega) (hW.below hA1) (one_int w (m : Int) 3) (fun _ x hx => by injection hx with hx; subst hx; exact apart_new hW _)
  rw [show sizesB [(m : Int)] = numB m by simp [sizesB]] at hsiz
  have hnl := numB_len m
  have hap0 : ∀ k, k < b → Apart w b k := fun k hk => ⟨by omega, fun e => by
    obtain ⟨_, _, a', c', h3, h4⟩ := hW
    unfold WRow at e
    rw [h3] at e
    have := (h4.lt k e).1
    omega⟩
  have HSZ := Lib.hid hsiz
  have HM := Lib.hid hm
  have HV := Lib.hid hV
  have HAP := Lib.hid hap0
  have HR := Lib.hid hr
  have HWB := Lib.hid hW.1
  have HC1 := Lib.hid ((WChg.refl b w).thenB hW.1 hA1)
  clear hA1 hsiz hm hV hr hW hap0
  go_enter Try.func21, Try.ntmps21
  go_wp2_with fail
  refine HSZ.out.mono ?_
  rintro e w2 ⟨rfl, hW2, hC2⟩
  have HW2 := Lib.hid hW2
  have HC2 := Lib.hid (HC1.out.trans hC2)
  clear hW2 hC2 HSZ HC1
  go_wp2
  go_loopw [14] (fun i wr => ∃ k : Nat, k ≤ m ∧ i = .int .i64 (k : Int) ∧ WAt wr b ((l ++ numB m) ++ (rs.take k).flatMap rowB) ∧ WChg b w wr) (fun i _ => m - (intOf i).toNat)
  case atStart => exact ⟨0, Nat.zero_le _, rfl, by rw [List.take_zero]; simpa using HW2.out, HC2.out⟩
  case round =>
    obtain ⟨k, hk, rfl, hWk, hCk⟩ := hrel
    have HWK := Lib.hid hWk
    have HCK := Lib.hid hCk
    clear hWk hCk
    by_cases hlt : k < m
    · have hlt' : decide ((k : Int) < (m : Int)) = true := decide_eq_true (by omega)
      rcases HV.out with hv0 | ⟨hnn, bs, o, rfl, hbs, hPb, hcz⟩
      · have := HM.out
        rw [hv0] at this
        simp at this
        omega
      obtain ⟨v, hvk⟩ : ∃ v, rs[k]? = some v := ⟨_, List.getElem?_eq_getElem (by rw [HM.out]; exact hlt)⟩
      obtain ⟨ra, rc, z0, hVv, hvf⟩ := hcz k v hvk
      have c0 := (HCK.out.cell hbs (HAP.out bs hPb) (o + k)).trans z0
      obtain ⟨hv30, hvo⟩ := HR.out v (List.mem_of_getElem? hvk)
      have hts : (rs.take (k + 1)).flatMap rowB = (rs.take k).flatMap rowB ++ rowB v := by
        rw [List.take_add_one, hvk]; exact flat_snoc _ _ _
      have hfl := rowsB_len (rs.take k) (fun r hr => (HR.out r (List.mem_of_mem_take hr)).1)
      have htl : (rs.take k).length ≤ k := List.length_take_le _ _
      have hVr : Vals wr ra v := hVv.chg HCK.out.1 (fun hn x hx e => by
        have hA := HAP.out _ (hvf hn x hx)
        rcases e with e | e
        · exact hA.1 e
        · exact hA.2 e)
      have hAr : v ≠ [] → ∀ x, ra = some x → Apart wr b x.block := fun hn x hx => by
        have h1 := HAP.out _ (hvf hn x hx)
        refine ⟨h1.1, fun e => ?_⟩
        rcases HCK.out.2 _ e with h2 | h2
        · rcases hVv with hv0 | ⟨_, bs', o', hab, hbs', _⟩
          · exact hn hv0
          · rw [hab] at hx; injection hx with hx; subst hx; simp only at h2; omega
        · exact h1.2 h2
      have hval := wrow_any b ((l ++ numB m) ++ (rs.take k).flatMap rowB) ra v.length rc v wr rfl (by rw [List.length_append, List.length_append]; omega) (by omega) hvo HWK.out hVr hAr
      rw [List.append_assoc, ← hts] at hval
      have HN := Lib.hid hval
      clear hcz z0 hVv hvf hvk hvo hv30 hts hfl htl hVr hAr hval
      go_wp2_with fail
      refine HN.out.mono ?_
      rintro e w3 ⟨rfl, hW3, hC3⟩
      have HW3 := Lib.hid hW3
      have HC3 := Lib.hid (HCK.out.trans hC3)
      clear hW3 hC3 HN HWK HCK c0
      go_wp2
      go_roundw
      case rel => exact ⟨k + 1, by omega, by go_num, HW3.out, HC3.out⟩
      case measure => simp [intOf]; omega
    · have hlt' : decide ((k : Int) < (m : Int)) = false := decide_eq_false (by omega)
      have hW3 := HWK.out
      rw [List.take_of_length_le (by rw [HM.out]; omega), List.append_assoc] at hW3
      have HW3 : Hid (WAt wr b (l ++ rowsB rs)) := by unfold rowsB; rw [HM.out]; exact hW3
      clear hW3 HWK
      go_wp2
      go_ret
      exact ⟨rfl, HW3.out, HCK.out⟩
/-- Is there more than is asked of? -/
def rgreat (rs : List (List Val)) : Bool := decide (30 < rs.length) || rs.any greatB
set_option maxRecDepth 100000 in
set_option maxHeartbeats 1000000 in
theorem great4_any {P : Nat → Prop} (a : Option Addr) (m c : Nat) (rs : List (List Val)) (w : World) (hl : rs.length = m) (hv : RowsAt P w a rs) (hok : ∀ r ∈ rs, ValsOk r ∧ r.length ≤ maxLen) :
    Calls Try.prog 8 #[.slice a m c] w fun e w' => e = .returned (.bool (rgreat rs)) ∧ Below w.heap.size w w' := by
  obtain ⟨r, hr⟩ : ∃ r, r = rgreat rs := ⟨_, rfl⟩
  rw [← hr]
  have HR := Lib.hid hr
  have HL := Lib.hid hl
  have HV := Lib.hid hv
  have HOK := Lib.hid hok
  clear hr hl hv hok
  by_cases hmm : 30 < m
  · have hd : decide ((30 : Int) < (m : Int)) = true := decide_eq_true (by omega)
    have hrt : r = true := by rw [HR.out]; unfold rgreat; rw [HL.out, decide_eq_true hmm]; rfl
    have HT := Lib.hid hrt
    clear hrt
    go_enter Try.func8, Try.ntmps8
    go_wp2
    go_ret
    exact ⟨by rw [HT.out]; rfl, Below.refl _ _⟩
  · have hd : decide ((30 : Int) < (m : Int)) = false := decide_eq_false (by omega)
    go_enter Try.func8, Try.ntmps8
    go_wp2
    go_loopw [3] (fun i wr => ∃ k : Nat, k ≤ m ∧ i = .int .i64 (k : Int) ∧ Hid ((rs.take k).any greatB = false) ∧ Below w.heap.size w wr) (fun i _ => m - (intOf i).toNat)
    case atStart => exact ⟨0, Nat.zero_le _, rfl, Lib.hid (by simp), Below.refl _ _⟩
    case round =>
      obtain ⟨k, hk, rfl, htk, hbel⟩ := hrel
      by_cases hlt : k < m
      · have hlt' : decide ((k : Int) < (m : Int)) = true := decide_eq_true (by omega)
        obtain ⟨b, o, u, ad, cd, rfl, hb, huk, c0, hU⟩ := RowsAt.at HV.out HL.out hlt hbel
        have hszr := hbel.size
        obtain ⟨huo, hul⟩ := HOK.out u (List.mem_of_getElem? huk)
        have hgr := great_any ad u.length cd u wr rfl hul (hU.below hbel) huo
        obtain ⟨t, ht⟩ : ∃ t, t = greatB u := ⟨_, rfl⟩
        rw [← ht] at hgr
        have HG := Lib.hid hgr
        have HBL := Lib.hid hbel
        cases t with
        | true =>
          have hrt : r = true := by
            rw [HR.out]; unfold rgreat
            rw [List.any_eq_true.2 ⟨u, List.mem_of_getElem? huk, ht.symm⟩]; simp
          have HT := Lib.hid hrt
          clear hgr ht huk hU huo hul htk hbel hrt
          go_wp2_with fail
          refine HG.out.mono ?_
          rintro e w1 ⟨rfl, hE⟩
          subst hE
          have hB1 := HBL.out
          go_wp2
          go_ret
          exact ⟨by rw [HT.out]; rfl, hB1⟩
        | false =>
          have htk' : Hid ((rs.take (k + 1)).any greatB = false) := by
            show (rs.take (k + 1)).any greatB = false
            rw [List.take_add_one, huk, List.any_append, htk.out]
            simpa using ht.symm
          clear hgr ht huk hU huo hul htk hbel
          go_wp2_with fail
          refine HG.out.mono ?_
          rintro e w1 ⟨rfl, hE⟩
          subst hE
          have hB1 := HBL.out
          go_wp2
          go_roundw
          case rel => exact ⟨k + 1, by omega, by go_num, htk', hB1⟩
          case measure => simp [intOf]; omega
      · have hlt' : decide ((k : Int) < (m : Int)) = false := decide_eq_false (by omega)
        have hrf : r = false := by
          rw [HR.out]; unfold rgreat
          have := htk.out
          rw [List.take_of_length_le (by rw [HL.out]; omega)] at this
          rw [this, HL.out, decide_eq_false (by omega)]; rfl
        have HT := Lib.hid hrf
        clear hrf htk
        go_wp2
        go_ret
        exact ⟨by rw [HT.out]; rfl, hbel⟩
end Go.Proofs.Ytapcnpocaffeoab
