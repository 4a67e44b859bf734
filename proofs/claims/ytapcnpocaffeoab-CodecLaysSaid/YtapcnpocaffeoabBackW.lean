/- The walk of CodecBack. -/
import Derived.Test.YtapcnpocaffeoabBackM
import Derived.Test.YtapcnpocaffeoabRws2
import Derived.Test.YtapcnpocaffeoabRdVal
namespace Go.Proofs.Ytapcnpocaffeoab
open Go.RowKit Go.ChangeShapes Go.WideShapes Go.ChangeAt
/-- A list of rows, as an argument. -/
def RowsArg (W : World) (v : Value) (rs : List (List Val)) : Prop := ∃ a m c, v = .slice a m c ∧ rs.length = m ∧ m ≤ c ∧ c ≤ maxLen ∧ RowsAt (fun k => k < W.heap.size) W a rs ∧ ∀ r ∈ rs, ValsOk r ∧ r.length ≤ maxLen
theorem rows_of {W : World} {v : Value} {rs : List (List Val)} (h : RL 1 (RL 3 RVal) W [v] rs) : RowsArg W v rs := by
  obtain ⟨a, m, c, h1, h2, h3, h4, h5⟩ := h
  refine ⟨a, m, c, by simpa using h1, h2, h3, h4, ?_⟩
  rcases h5 with rfl | ⟨hn, b, o, ha, hlt, h5⟩
  · exact ⟨.inl rfl, fun v hv => (List.not_mem_nil hv).elim⟩
  · have key : ∀ (i : Nat) (vs : List Val), rs[i]? = some vs → ∃ a' c', W.cell? ⟨b, o + i, none⟩ = some (.slice a' vs.length c') ∧ Vals W a' vs ∧ ValsOk vs ∧ vs.length ≤ maxLen := by
      intro i vs hi
      obtain ⟨cs', k1, k2, k3⟩ := h5 i vs hi
      obtain ⟨x, hx⟩ : ∃ x, cs' = [x] := by
        rcases cs' with _ | ⟨x, _ | ⟨y, r⟩⟩
        · simp at k1
        · exact ⟨x, rfl⟩
        · simp at k1
      subst hx
      obtain ⟨a', m', c', rfl, e1, e2, e3, e4, e5⟩ := vals_of k3
      have := k2 0 (by omega)
      refine ⟨a', c', ?_, e4, e5, by omega⟩
      rw [e1]
      simpa using this
    refine ⟨.inr ⟨hn, b, o, ha, hlt, hlt, fun i vs hi => ?_⟩, fun r hr => ?_⟩
    · obtain ⟨a', c', e1, e2, _, _⟩ := key i vs hi
      exact ⟨a', c', e1, e2, fun hn y hy => vals_lt e2 hn y hy⟩
    · obtain ⟨i, hi, rfl⟩ := List.mem_iff_getElem.1 hr
      obtain ⟨_, _, _, _, e3, e4⟩ := key i _ (List.getElem?_eq_getElem hi)
      exact ⟨e3, e4⟩
set_option maxRecDepth 100000 in
theorem rd_rows {H : Type} {enc : TypeId × Value → H} {W : World} {base : Nat} {v : Value} {d : DataW H} {p : List MemPlace} (hv : Value.okWide Try.prog W .any base 26 v) (h : DataW.Trod enc Try.prog W 0 (fun _ => true) true 26 v d p) :
    ∃ rs, RowsArg W v rs := by
  obtain ⟨rs, hx⟩ := rd_list Try.underlying26 (op_list (sz := 1) Try.underlying26 (by kernel_rfl) (by decide) (op_list (sz := 3) Try.underlying25 (by kernel_rfl) (by decide) (op_val H enc W))) hv h
  exact ⟨rs, rows_of hx⟩
theorem great_no {rs : List (List Val)} (h : rgreat rs = false) : rs.length ≤ 30 ∧ ∀ r ∈ rs, r.length ≤ 30 := by
  unfold rgreat at h
  rw [Bool.or_eq_false_iff] at h
  refine ⟨by have := of_decide_eq_false h.1; omega, fun r hr => ?_⟩
  have h2 := List.any_eq_false.1 h.2 r hr
  have h2 : greatB r = false := by simpa using h2
  unfold greatB at h2
  rw [Bool.or_eq_false_iff] at h2
  have := of_decide_eq_false h2.1
  omega
/-- What is laid. -/
def backB (n : Int) (s : ByteArray) (rs : List (List Val)) : List UInt8 := numB (foldN n) ++ (textB s ++ rowsB rs)
theorem back_cut (n : Int) (h0 : -9223372036854775808 ≤ n) (h1 : n ≤ 9223372036854775807) (s : ByteArray) (hs : s.size ≤ 1000) (rs : List (List Val)) (hl : rs.length ≤ 30)
    (hr : ∀ v ∈ rs, (∀ x ∈ v, vright x = true ∧ -9223372036854775808 ≤ x.2.1 ∧ x.2.1 ≤ 9223372036854775807) ∧ (v.length : Int) ≤ 30) (t u : List UInt8) (h : backB n s rs = t ++ u) (hu : u ≠ []) :
    (rowsS 30 30 (textS 1000 (signedS t false).2.1 (signedS t false).2.2).2.1 (textS 1000 (signedS t false).2.1 (signedS t false).2.2).2.2).2.2 = true := by
  obtain ⟨a1, a2⟩ := signed_takes n h0 h1
  obtain ⟨b1, b2⟩ := text_takes 1000 s (by omega) (by omega)
  obtain ⟨c1, c2⟩ := rowss_takes 30 30 (by omega) rs hr (by omega) (by omega)
  rcases split_at (show numB (foldN n) ++ (textB s ++ rowsB rs) = t ++ u from h) with ⟨u', k1, k2⟩ | ⟨t', k1, k2⟩
  · rw [a2 t u' k1 k2, text_stays 1000]
    exact rowss_stays 30 30 _
  · rw [k1, a1]
    simp only
    rcases split_at (show textB s ++ rowsB rs = t' ++ u from k2) with ⟨u', k3, k4⟩ | ⟨t'', k3, k4⟩
    · rw [b2 t' u' k3 k4]
      exact rowss_stays 30 30 _
    · rw [k3, b1]
      exact c2 t'' u k4 hu
set_option maxRecDepth 100000 in
set_option maxHeartbeats 8000000 in
theorem back_walk (v0 : Value) (x0 : Int) (v1 : Value) (x1 : ByteArray) (v2 : Value) (x2 : List (List Val)) (v3 : Value) (x3 : ByteArray) (v4 : Value) (x4 : Int) (w : World)
    (y0 : v0 = .int .i64 x0 ∧ (Lit.int .i64 x0).wf = true) (y1 : v1 = .string x1 ∧ x1.size ≤ maxLen) (y2 : RowsArg w v2 x2) (y3 : v3 = .string x3 ∧ x3.size ≤ maxLen) (y4 : v4 = .int .i64 x4 ∧ (Lit.int .i64 x4).wf = true) :
    Calls Try.prog 5 #[v0, v1, v2, v3, v4] w fun e w' => e = .returned (.bool true) ∧ Below w.heap.size w w' := by
  obtain ⟨rfl, hw0⟩ := y0
  obtain ⟨rfl, _⟩ := y1
  obtain ⟨a, m, c, rfl, hl, hmc, hc, hrs, hok⟩ := y2
  obtain ⟨rfl, _⟩ := y3
  obtain ⟨rfl, hw4⟩ := y4
  obtain ⟨hn0, hn1⟩ := wf_i64 hw0
  have HA := Lib.hid awake4
  have hg := fun W (hb : Below w.heap.size w W) => great4_any a m c x2 W hl (hrs.below hb) hok
  obtain ⟨G, hG⟩ : ∃ G, G = rgreat x2 := ⟨_, rfl⟩
  rw [← hG] at hg
  have HG := Lib.hid (hg w (Below.refl _ _))
  clear hg hw0 hw4
  cases G with
  | true =>
    clear hG hok hrs
    go_enter Try.func5, Try.ntmps5
    go_wp2_with fail
    refine HG.out.mono ?_
    rintro e w1 ⟨rfl, hb1⟩
    have HB1 := Lib.hid hb1
    go_wp2_with fail
    refine (HA.out _).mono ?_
    rintro e w3 ⟨rfl, hb3⟩
    have hB := Below.thenB HB1.out HB1.out.size hb3
    go_wp2
    go_ret
    exact ⟨rfl, hB⟩
  | false =>
  by_cases ht : 1000 < x1.size
  · have hd : decide ((1000 : Int) < (x1.size : Int)) = true := decide_eq_true (by omega)
    clear hG hok hrs
    go_enter Try.func5, Try.ntmps5
    go_wp2_with fail
    refine HG.out.mono ?_
    rintro e w1 ⟨rfl, hb1⟩
    have HB1 := Lib.hid hb1
    go_wp2_with fail
    refine (HA.out _).mono ?_
    rintro e w3 ⟨rfl, hb3⟩
    have hB := Below.thenB HB1.out HB1.out.size hb3
    go_wp2
    go_ret
    exact ⟨rfl, hB⟩
  by_cases hm : 1000 < x3.size
  · have hd : decide ((1000 : Int) < (x1.size : Int)) = false := decide_eq_false (by omega)
    have hd2 : decide ((1000 : Int) < (x3.size : Int)) = true := decide_eq_true (by omega)
    clear hG hok hrs
    go_enter Try.func5, Try.ntmps5
    go_wp2_with fail
    refine HG.out.mono ?_
    rintro e w1 ⟨rfl, hb1⟩
    have HB1 := Lib.hid hb1
    go_wp2_with fail
    refine (HA.out _).mono ?_
    rintro e w3 ⟨rfl, hb3⟩
    have hB := Below.thenB HB1.out HB1.out.size hb3
    go_wp2
    go_ret
    exact ⟨rfl, hB⟩
  obtain ⟨hl30, hr30⟩ := great_no hG.symm
  have hd : decide ((1000 : Int) < (x1.size : Int)) = false := decide_eq_false (by omega)
  have hd2 : decide ((1000 : Int) < (x3.size : Int)) = false := decide_eq_false (by omega)
  have HL := Lib.hid hl
  have HRS := Lib.hid hrs
  have HOK := Lib.hid hok
  have HR30 := Lib.hid hr30
  clear hrs hok hr30 hG
  go_enter Try.func5, Try.ntmps5
  go_wp2_with fail
  refine HG.out.mono ?_
  rintro e w1 ⟨rfl, hb1⟩
  have HB1 := Lib.hid hb1
  have hz1 := hb1.size
  clear hb1 HG
  go_wp2_with fail
  go_loopw [11] (fun iv wr => ∃ i : Nat, i ≤ m ∧ iv = .int .i64 (i : Int) ∧ Hid (∀ r ∈ x2.take i, r.all vright = true) ∧ Below w.heap.size w wr) (fun iv _ => m - (intOf iv).toNat)
  case atStart => exact ⟨0, Nat.zero_le _, rfl, Lib.hid (by simp), HB1.out⟩
  case round =>
    obtain ⟨i, hi, rfl, hall, hbel⟩ := hrel
    by_cases hlt : i < m
    · have hlt' : decide ((i : Int) < (m : Int)) = true := decide_eq_true (by omega)
      obtain ⟨bk, o, u, ad, cd, rfl, hbk, huk, c0, hU⟩ := RowsAt.at HRS.out HL.out hlt hbel
      have hszr := hbel.size
      have hu30 := HR30.out u (List.mem_of_getElem? huk)
      have hal := rall_any ad u.length cd u wr rfl (by omega) (hU.below hbel)
      obtain ⟨t, ht2⟩ : ∃ t, t = u.all vright := ⟨_, rfl⟩
      rw [← ht2] at hal
      have HAL := Lib.hid hal
      have HBL := Lib.hid hbel
      cases t with
      | true =>
        have hall' : Hid (∀ r ∈ x2.take (i + 1), r.all vright = true) := by
          intro r hr
          rw [List.take_add_one, huk] at hr
          rcases List.mem_append.1 hr with hr | hr
          · exact hall.out r hr
          · simp at hr; subst hr; exact ht2.symm
        clear hal ht2 huk hU hbel hall
        go_wp2_with fail
        refine HAL.out.mono ?_
        rintro e w2 ⟨rfl, hb2⟩
        have hB2 := Below.thenB HBL.out hszr hb2
        go_wp2
        go_roundw
        case rel => exact ⟨i + 1, by omega, by go_num, hall', hB2⟩
        case measure => simp [intOf]; omega
      | false =>
        clear hal ht2 huk hU hbel hall
        go_wp2_with fail
        refine HAL.out.mono ?_
        rintro e w2 ⟨rfl, hb2⟩
        have hB2 := Below.thenB HBL.out hszr hb2
        have HB2 := Lib.hid hB2
        clear hB2 hb2
        go_wp2_with fail
        refine (HA.out _).mono ?_
        rintro e w3 ⟨rfl, hb3⟩
        have hB := Below.thenB HB2.out HB2.out.size hb3
        go_wp2
        go_ret
        exact ⟨rfl, hB⟩
    · have hlt' : decide ((i : Int) < (m : Int)) = false := decide_eq_false (by omega)
      have hright : ∀ v ∈ x2, (∀ x ∈ v, vright x = true ∧ -9223372036854775808 ≤ x.2.1 ∧ x.2.1 ≤ 9223372036854775807) ∧ (v.length : Int) ≤ 30 := by
        intro v hv
        have h1 := hall.out
        rw [List.take_of_length_le (by rw [HL.out]; omega)] at h1
        have h2 := List.all_eq_true.1 (h1 v hv)
        refine ⟨fun x hx => ⟨h2 x hx, ((HOK.out v hv).1 x hx).2.1⟩, by have := HR30.out v hv; omega⟩
      have HRI := Lib.hid hright
      have HBL := Lib.hid hbel
      have hszr := hbel.size
      clear hright hall hbel
      obtain ⟨W1, hW1⟩ : ∃ W1, W1 = wr.alloc (.cells #[.slice none 0 0] 43) := ⟨_, rfl⟩
      have hA1 : Below wr.heap.size wr W1 := by rw [hW1]; exact (Below.refl _ _).alloc (Nat.le_refl _) _
      have hw1 : WAt W1 wr.heap.size [] := by rw [hW1]; exact wat_new wr _
      have hr1 : WRow W1 wr.heap.size = none := by rw [hW1]; exact wrow_new wr _
      have hs1 : W1.heap.size = wr.heap.size + 1 := by rw [hW1]; simp
      obtain ⟨W2, hW2⟩ : ∃ W2, W2 = W1.alloc (.cells #[.int .i64 x0] 2) := ⟨_, rfl⟩
      have hA2 : Below W1.heap.size W1 W2 := by rw [hW2]; exact (Below.refl _ _).alloc (Nat.le_refl _) _
      have hsg := wsigned_any wr.heap.size [] (some ⟨W1.heap.size, 0, none⟩) 1 1 [x0] W2 rfl (by decide) (by decide) (fun z hz => by simp at hz; subst hz; exact ⟨hn0, hn1⟩) (hw1.below hA2) (by rw [hW2]; exact one_int W1 x0 2) (fun _ x hx => by injection hx with hx; subst hx; rw [hW2]; exact apart_new hw1 _)
      rw [hs1, show ([] ++ signedsB [x0] : List UInt8) = numB (foldN x0) by simp [signedsB]] at hsg
      have HB1' := Lib.hid (Below.thenB HBL.out hszr hA1)
      have HR1 := Lib.hid hr1
      have HSG := Lib.hid hsg
      have HC2 := Lib.hid ((WChg.refl wr.heap.size W1).thenB hw1.1 hA2)
      have HW1 := Lib.hid hW1.symm
      have HW2 := Lib.hid hW2.symm
      clear hsg hA1 hA2 hw1 hr1 hW1 hW2
      go_wp2_with fail
      rw [HW1.out, HW2.out]
      refine HSG.out.mono ?_
      rintro e w3 ⟨rfl, hw3, hC3⟩
      have hC13 := HC2.out.trans hC3
      have htb : (textsB [x1]).length ≤ 1009 := by
        have := numB_len x1.size
        have h2 : x1.data.toList.length = x1.size := Array.length_toList
        simp only [textsB, List.flatMap_cons, List.flatMap_nil, List.append_nil, textB, List.length_append]
        omega
      obtain ⟨W4, hW4⟩ : ∃ W4, W4 = w3.alloc (.cells #[.string x1] 9) := ⟨_, rfl⟩
      have hA4 : Below w3.heap.size w3 W4 := by rw [hW4]; exact (Below.refl _ _).alloc (Nat.le_refl _) _
      have hnl := numB_len (foldN x0)
      have htx := wtext_any wr.heap.size (numB (foldN x0)) (some ⟨w3.heap.size, 0, none⟩) 1 1 [x1] W4 rfl (by omega) (by omega) (fun s hs => by simp at hs; subst hs; omega) (by omega) (hw3.below hA4) (by rw [hW4]; exact one_text w3 x1) (fun _ x hx => by injection hx with hx; subst hx; rw [hW4]; exact apart_new hw3 _)
      rw [show textsB [x1] = textB x1 by simp [textsB]] at htx htb
      have HTX := Lib.hid htx
      have HC4 := Lib.hid (hC13.thenB (by omega) hA4)
      have HW4 := Lib.hid hW4.symm
      clear htx hA4 hW4 hC13 hC3 hw3 HSG HC2 HW1 HW2
      go_wp2_with fail
      rw [HW4.out]
      refine HTX.out.mono ?_
      rintro e w5 ⟨rfl, hw5, hC5⟩
      have hC15 := HC4.out.trans hC5
      have hB15 : Below wr.heap.size W1 w5 := hC15.1.below (by omega) (fun k _ hk => by
        rcases hk with hk | hk
        · exact Nat.le_of_eq hk.symm
        · rw [HR1.out] at hk; cases hk)
      have hB5 : Below w.heap.size w w5 := HB1'.out.trans (hB15.mono hszr)
      have hrs5 : RowsAt (fun k => k < wr.heap.size) w5 a x2 := (HRS.out.below hB5).mono (fun k hk => Nat.lt_of_lt_of_le hk hszr)
      have hwr := wrows_any wr.heap.size (numB (foldN x0) ++ textB x1) a m c x2 w5 HL.out (by rw [List.length_append]; omega) (by have := HL.out; omega) (fun r hr => ⟨HR30.out r hr, (HOK.out r hr).1⟩) hw5 hrs5
      rw [List.append_assoc, show numB (foldN x0) ++ (textB x1 ++ rowsB x2) = backB x0 x1 x2 from rfl] at hwr
      have HWR := Lib.hid hwr
      have HC15 := Lib.hid hC15
      clear hw5 hC5 hC15 hB15 hB5 hrs5 hwr HTX HC4 HW4
      go_wp2_with fail
      refine HWR.out.mono ?_
      rintro e w6 ⟨rfl, hw6, hC6⟩
      have hC16 := HC15.out.trans hC6
      have hB16 : Below wr.heap.size W1 w6 := hC16.1.below (by omega) (fun k _ hk => by
        rcases hk with hk | hk
        · exact Nat.le_of_eq hk.symm
        · rw [HR1.out] at hk; cases hk)
      have hB6 : Below w.heap.size w w6 := HB1'.out.trans (hB16.mono hszr)
      have HST := Lib.hid (wstring_any wr.heap.size (backB x0 x1 x2) w6 hw6)
      have hz6 : W1.heap.size ≤ w6.heap.size := hC16.1.size
      have HB6 := Lib.hid hB6
      have hbl : (backB x0 x1 x2).length ≤ 200000 := by
        have := rowsB_len x2 HR30.out
        have h9 := numB_len x2.length
        have hl := HL.out
        unfold backB rowsB
        simp only [List.length_append]
        omega
      have hbp : 0 < (backB x0 x1 x2).length := by
        unfold backB
        rw [List.length_append]
        show 0 < (numB (foldN x0)).length + _
        unfold numB
        rw [List.length_cons]
        omega
      have HCUT := Lib.hid (fun t u h hu => back_cut x0 hn0 hn1 x1 (by omega) x2 (by have := HL.out; omega) HRI.out t u h hu)
      obtain ⟨L, hL⟩ : ∃ L, L = backB x0 x1 x2 := ⟨_, rfl⟩
      rw [← hL] at HST HCUT hbl hbp
      have hLb : L = numB (foldN x0) ++ (textB x1 ++ rowsB x2) := hL
      obtain ⟨a1, _⟩ := signed_takes x0 hn0 hn1
      obtain ⟨b1, _⟩ := text_takes 1000 x1 (by omega) (by omega)
      obtain ⟨q1, _⟩ := rowss_takes 30 30 (by omega) x2 HRI.out (by have := HL.out; omega) (by omega)
      obtain ⟨S, hS⟩ : ∃ S : ByteArray, S = ⟨L.toArray⟩ := ⟨_, rfl⟩
      have hSl : S.data.toList = L := by rw [hS]
      have hSs : S.size = L.length := by rw [hS]; exact ba_len L
      rw [← hS] at HST
      obtain ⟨SM, hSM⟩ : ∃ SM : ByteArray, SM = S ++ x3 := ⟨_, rfl⟩
      have hSMl : SM.data.toList = numB (foldN x0) ++ (textB x1 ++ (rowsB x2 ++ x3.data.toList)) := by
        rw [hSM, ByteArray.data_append, Array.toList_append, hSl, hLb, List.append_assoc, List.append_assoc]
      have hSMs : SM.size ≤ 201000 := by rw [hSM, ByteArray.size_append]; omega
      have hcat := hSM.symm
      have HSL := Lib.hid hSl
      have HA1 := Lib.hid (a1 (textB x1 ++ (rowsB x2 ++ x3.data.toList)))
      have HB1q := Lib.hid (b1 (rowsB x2 ++ x3.data.toList))
      have HQ1 := Lib.hid (q1 x3.data.toList)
      have HRD := Lib.hid (read_any SM (by omega) w6)
      rw [hSMl] at HRD
      clear hw6 hC6 hC16 hB16 hB6 hL hLb a1 b1 q1 hS hSl hSM hSMl HWR HC15 HRI HB1' HR1
      go_wp2_with fail
      refine HST.out.mono ?_
      rintro e w7 ⟨rfl, hE⟩
      subst hE
      go_wp2_with fail
      refine HRD.out.mono ?_
      rintro e w7 ⟨⟨b2, rfl, hb2, hR7⟩, hb7⟩
      have hz7 := hb7.size
      have HB7 := Lib.hid (Below.thenB HB6.out HB6.out.size hb7)
      have hz67 : w.heap.size ≤ w6.heap.size := HB6.out.size
      have hsg := rsigned_any b2 _ false w7 hR7
      rw [HA1.out] at hsg
      have HSG := Lib.hid hsg
      clear hR7 hb7 hsg HB6 HRD HA1 HST
      go_wp2_with fail
      refine HSG.out.mono ?_
      rintro e w8 ⟨rfl, hR8, hC8⟩
      have htx := rtext_any b2 1000 (by omega) _ false w8 hR8
      rw [HB1q.out] at htx
      simp only [] at htx
      rw [ba_toList] at htx
      have HTX := Lib.hid htx
      have hz8 := hC8.size
      have HB8 := Lib.hid (HB7.out.trans (hC8.below (by omega) (fun k _ hk => by have e : k = b2 := hk; omega)))
      clear hR8 hC8 htx HSG HB7 HB1q
      go_wp2_with fail
      refine HTX.out.mono ?_
      rintro e w9 ⟨rfl, hR9, hC9⟩
      have hrw := rrowss_any b2 30 30 (by omega) (by omega) _ false w9 hR9
      rw [HQ1.out] at hrw
      simp only [] at hrw
      have HRW := Lib.hid hrw
      have hz9 := hC9.size
      have HB9 := Lib.hid (HB8.out.trans (hC9.below (by omega) (fun k _ hk => by have e : k = b2 := hk; omega)))
      clear hR9 hC9 hrw HTX HB8 HQ1
      go_wp2_with fail
      refine HRW.out.mono ?_
      rintro e w10 ⟨⟨ra, rc, rfl, hrv⟩, hR10, hC10⟩
      have hz10 := hC10.size
      have hB10 := HB9.out.trans (hC10.below (by omega) (fun k _ hk => by have e : k = b2 := hk; omega))
      have hrl : RowsLen x2 := fun r hr => by have := HR30.out r hr; omega
      have hsm := same4_any ra a m rc m c x2 x2 w10 HL.out HL.out (by omega) (by omega) hrv (HRS.out.below hB10) hrl hrl
      rw [rsame_self] at hsm
      have HSM := Lib.hid hsm
      have HB10 := Lib.hid hB10
      have HR10 := Lib.hid hR10
      clear hR10 hC10 hrv hB10 hsm hrl HRW HB9
      go_wp2_with fail
      refine HSM.out.mono ?_
      rintro e w11 ⟨rfl, hb11⟩
      have hR11 := HR10.out.below hb11
      have hst := rstring_any b2 _ false w11 hR11
      rw [ba_toList] at hst
      have hgd := good_any b2 _ false w11 hR11
      have HST2 := Lib.hid hst
      have HGD := Lib.hid hgd
      have HB11 := Lib.hid (Below.thenB HB10.out HB10.out.size hb11)
      clear hb11 hR11 hst hgd HR10 HB10 HSM
      go_wp2_with fail
      refine HST2.out.mono ?_
      rintro e w12 ⟨rfl, hE⟩
      subst hE
      go_wp2_with fail
      refine HGD.out.mono ?_
      rintro e w12 ⟨rfl, hE⟩
      subst hE
      have hs0 : ((S.size : Int) == 0) = false := beq_false_of_ne (by omega)
      have hs0' : ¬ (S.size : Int) = 0 := by omega
      obtain ⟨kk, hkk⟩ : ∃ kk : Nat, (IntKind.u64.wrap x4).tmod (L.length : Int) = (kk : Int) := by
        have h0 : (0 : Int) ≤ IntKind.u64.wrap x4 := by rw [IntKind.wrap_u64]; omega
        have h1 := Int.tmod_nonneg (L.length : Int) h0
        exact ⟨((IntKind.u64.wrap x4).tmod (L.length : Int)).toNat, by omega⟩
      have hkl : kk < L.length := by
        have := Int.tmod_lt_of_pos (IntKind.u64.wrap x4) (show (0 : Int) < (L.length : Int) by omega)
        omega
      have hk0 : (0 : Int) ≤ (kk : Int) := by omega
      have hk1 : (kk : Int) ≤ (L.length : Int) := by omega
      have hk2 : (kk : Int) ≤ 9223372036854775807 := by omega
      obtain ⟨T, hT⟩ : ∃ T : ByteArray, T = S.extract 0 kk := ⟨_, rfl⟩
      have hTl : T.data.toList = L.take kk := by rw [hT, ext_list, HSL.out]; simp
      have hTs : T.size ≤ 200000 := by
        have h1 : T.data.toList.length = T.size := Array.length_toList
        rw [hTl, List.length_take] at h1
        omega
      have hTe := hT.symm
      have HRD3 := Lib.hid (read_any T (by omega) w11)
      rw [hTl] at HRD3
      clear hT hTl HSL HST2 HGD
      go_wp2_with fail
      refine HRD3.out.mono ?_
      rintro e w12 ⟨⟨b3, rfl, hb3, hR12⟩, hb12⟩
      have hz12 := hb12.size
      have hz11 : w.heap.size ≤ w11.heap.size := HB11.out.size
      have HB12 := Lib.hid (Below.thenB HB11.out HB11.out.size hb12)
      have HSG3 := Lib.hid (rsigned_any b3 _ false w12 hR12)
      clear hR12 hb12 HRD3 HB11
      go_wp2_with fail
      refine HSG3.out.mono ?_
      rintro e w13 ⟨rfl, hR13, hC13⟩
      have hz13 := hC13.size
      have HB13 := Lib.hid (HB12.out.trans (hC13.below (by omega) (fun k _ hk => by have e : k = b3 := hk; omega)))
      have HTX3 := Lib.hid (rtext_any b3 1000 (by omega) _ _ w13 hR13)
      clear hR13 hC13 HSG3 HB12
      go_wp2_with fail
      refine HTX3.out.mono ?_
      rintro e w14 ⟨rfl, hR14, hC14⟩
      have hz14 := hC14.size
      have HB14 := Lib.hid (HB13.out.trans (hC14.below (by omega) (fun k _ hk => by have e : k = b3 := hk; omega)))
      have hrw3 := rrowss_any b3 30 30 (by omega) (by omega) _ _ w14 hR14
      have hcut := HCUT.out (L.take kk) (L.drop kk) (List.take_append_drop kk L).symm (by
        intro e
        have := congrArg List.length e
        rw [List.length_drop] at this
        simp at this
        omega)
      rw [hcut] at hrw3
      have HRW3 := Lib.hid hrw3
      clear hR14 hC14 HTX3 HB13 hrw3 hcut HCUT
      go_wp2_with fail
      refine HRW3.out.mono ?_
      rintro e w15 ⟨⟨ra3, rc3, rfl, _⟩, hR15, hC15⟩
      have HB15 := Lib.hid (HB14.out.trans (hC15.below (by omega) (fun k _ hk => by have e : k = b3 := hk; omega)))
      have HGD3 := Lib.hid (good_any b3 _ true w15 hR15)
      clear hR15 hC15 HRW3 HB14
      go_wp2_with fail
      refine HGD3.out.mono ?_
      rintro e w16 ⟨rfl, hE⟩
      subst hE
      go_wp2_with fail
      refine (HA.out _).mono ?_
      rintro e w17 ⟨rfl, hb17⟩
      have hB := Below.thenB HB15.out HB15.out.size hb17
      go_wp2
      go_ret
      exact ⟨rfl, hB⟩
end Go.Proofs.Ytapcnpocaffeoab
