/- The walk of CodecLays. -/
import Derived.Test.YtapcnpocaffeoabRefL
import Derived.Test.YtapcnpocaffeoabWrNil
import Derived.Test.YtapcnpocaffeoabBackW
namespace Go.Proofs.Ytapcnpocaffeoab
open Go.RowKit Go.ChangeShapes Go.WideShapes Go.ChangeAt
/-- A list of numbers, as an argument. -/
def IArg (W : World) (v : Value) (zs : List Int) : Prop := ∃ a m c, v = .slice a m c ∧ zs.length = m ∧ Ints .i64 W a zs ∧ I64s zs
theorem iarg_of {W : World} {v : Value} {zs : List Int} (h : RL 1 (RI .i64) W [v] zs) : IArg W v zs := by
  obtain ⟨a, n, c, h1, h2, h3, h4, h5, h6⟩ := ints_of_RL h
  exact ⟨a, n, c, by simpa using h1, h2, h5, fun z hz => wf_i64 (h6 z hz)⟩
set_option maxRecDepth 100000 in
theorem rd_iints {H : Type} {enc : TypeId × Value → H} {W : World} {base : Nat} {v : Value} {d : DataW H} {p : List MemPlace} (hv : Value.okWide Try.prog W .any base 22 v) (h : DataW.Trod enc Try.prog W 0 (fun _ => true) true 22 v d p) :
    ∃ zs, IArg W v zs := by
  obtain ⟨zs, hx⟩ := rd_list Try.underlying22 (op_list (sz := 1) Try.underlying22 (by kernel_rfl) (by decide) (op_int (enc := enc) (W := W) Try.underlying3)) hv h
  exact ⟨zs, iarg_of hx⟩
set_option maxRecDepth 100000 in
theorem rd_int64s {H : Type} {enc : TypeId × Value → H} {W : World} {base : Nat} {v : Value} {d : DataW H} {p : List MemPlace} (hv : Value.okWide Try.prog W .any base 23 v) (h : DataW.Trod enc Try.prog W 0 (fun _ => true) true 23 v d p) :
    ∃ zs, IArg W v zs := by
  obtain ⟨zs, hx⟩ := rd_list Try.underlying23 (op_list (sz := 1) Try.underlying23 (by kernel_rfl) (by decide) (op_int (enc := enc) (W := W) Try.underlying2)) hv h
  exact ⟨zs, iarg_of hx⟩
theorem ints_lt {k : IntKind} {w : World} {a : Option Addr} {zs : List Int} (h : Ints k w a zs) (hn : zs ≠ []) (y : Addr) (hy : a = some y) : y.block < w.heap.size := by
  rcases h with h | ⟨_, b, o, he, hb, _⟩
  · exact absurd h hn
  · rw [hy] at he; injection he with he; rw [he]; exact hb
theorem texts_lt {w : World} {a : Option Addr} {ss : List ByteArray} (h : Texts w a ss) (hn : ss ≠ []) (y : Addr) (hy : a = some y) : y.block < w.heap.size := by
  rcases h with h | ⟨_, b, o, he, hb, _⟩
  · exact absurd h hn
  · rw [hy] at he; injection he with he; rw [he]; exact hb
theorem apart_old {w : World} {b k : Nat} {l : List UInt8} (h : WAt w b l) (hk : k < b) : Apart w b k := ⟨by omega, fun e => by
    obtain ⟨_, _, a', c', h3, h4⟩ := h
    unfold WRow at e
    rw [h3] at e
    have := (h4.lt k e).1
    omega⟩
theorem great_texts {vs : List Val} (h : greatB vs = false) : vs.length ≤ 30 ∧ ∀ v ∈ vs, v.2.2.size ≤ 300 := by
  unfold greatB at h
  rw [Bool.or_eq_false_iff] at h
  refine ⟨by have := of_decide_eq_false h.1; omega, fun v hv => ?_⟩
  have h2 := List.any_eq_false.1 h.2 v hv
  have h3 : ¬ 300 < v.2.2.size := by simpa using h2
  omega
theorem rgreat_texts {rs : List (List Val)} (h : rgreat rs = false) : ∀ r ∈ rs, ∀ v ∈ r, v.2.2.size ≤ 300 := by
  unfold rgreat at h
  rw [Bool.or_eq_false_iff] at h
  intro r hr
  have h2 := List.any_eq_false.1 h.2 r hr
  exact (great_texts (by simpa using h2)).2
theorem below_w {b : Nat} {w W1 w2 : World} (hB : Below w.heap.size w W1) (hb : w.heap.size ≤ b) (hr : WRow W1 b = none) (hc : WChg b W1 w2) : Below w.heap.size w w2 :=
  hB.trans (hc.1.below hB.size (fun k _ hk => by
    rcases hk with hk | hk
    · rw [hk]; exact hb
    · rw [hr] at hk; cases hk))
theorem sizesB_le (zs : List Int) : (sizesB zs).length ≤ 9 * zs.length := flat_len _ 9 (fun _ => numB_len _) zs
theorem signedsB_le (zs : List Int) : (signedsB zs).length ≤ 9 * zs.length := flat_len _ 9 (fun _ => numB_len _) zs
theorem textB_le (s : ByteArray) (h : s.size ≤ 1000) : (textB s).length ≤ 1009 := by
  have h1 := numB_len s.size
  have h2 : s.data.toList.length = s.size := Array.length_toList
  unfold textB; rw [List.length_append]; omega
theorem textsB_le : ∀ (ss : List ByteArray), (∀ s ∈ ss, s.size ≤ 1000) → (textsB ss).length ≤ 1009 * ss.length
  | [], _ => by simp [textsB]
  | s :: ss, h => by
    have h1 := textB_le s (h s (List.mem_cons_self ..))
    have h2 := textsB_le ss (fun r hr => h r (List.mem_cons_of_mem _ hr))
    unfold textsB at h2 ⊢
    rw [List.flatMap_cons, List.length_append, List.length_cons]
    omega
set_option maxRecDepth 100000 in
set_option maxHeartbeats 12000000 in
theorem lays_walk (v0 : Value) (x0 : List Int) (v1 : Value) (x1 : List Int) (v2 : Value) (x2 : List ByteArray) (v3 : Value) (x3 : List Val) (v4 : Value) (x4 : List (List Val)) (w : World)
    (y0 : IArg w v0 x0) (y1 : IArg w v1 x1) (y2 : TArg w v2 x2) (y3 : VArg w v3 x3) (y4 : RowsArg w v4 x4) :
    Calls Try.prog 3 #[v0, v1, v2, v3, v4] w fun e w' => e = .returned (.bool true) ∧ Below w.heap.size w w' := by
  obtain ⟨a0, m0, c0, rfl, hl0, hz0, hi0⟩ := y0
  obtain ⟨a1, m1, c1, rfl, hl1, hz1, hi1⟩ := y1
  obtain ⟨a2, m2, c2, rfl, hl2, _, _, hz2, _⟩ := y2
  obtain ⟨a3, m3, c3, rfl, hl3, hmc3, hc3, hz3, hi3⟩ := y3
  obtain ⟨a4, m4, c4, rfl, hl4, _, _, hz4, hi4⟩ := y4
  have HA := Lib.hid awake4
  have hg3 := great_any a3 m3 c3 x3 w hl3 (by omega) hz3 hi3
  have hg4 := great4_any a4 m4 c4 x4 w hl4 hz4 hi4
  obtain ⟨G3, hG3⟩ : ∃ G, G = greatB x3 := ⟨_, rfl⟩
  obtain ⟨G4, hG4⟩ : ∃ G, G = rgreat x4 := ⟨_, rfl⟩
  rw [← hG3] at hg3
  rw [← hG4] at hg4
  have HG3 := Lib.hid hg3
  have HG4 := Lib.hid hg4
  have HL0 := Lib.hid hl0
  have HL1 := Lib.hid hl1
  have HL2 := Lib.hid hl2
  have HL3 := Lib.hid hl3
  have HL4 := Lib.hid hl4
  have HZ0 := Lib.hid hz0
  have HZ1 := Lib.hid hz1
  have HZ2 := Lib.hid hz2
  have HZ3 := Lib.hid hz3
  have HZ4 := Lib.hid hz4
  have HI0 := Lib.hid hi0
  have HI1 := Lib.hid hi1
  have HI3 := Lib.hid hi3
  have HI4 := Lib.hid hi4
  have K3 := Lib.hid (fun h : G3 = false => great_texts (hG3.symm.trans h))
  have K4 := Lib.hid (fun h : G4 = false => And.intro (great_no (hG4.symm.trans h)) (rgreat_texts (hG4.symm.trans h)))
  clear hl0 hl1 hl2 hl3 hl4 hz0 hz1 hz2 hz3 hz4 hi0 hi1 hi3 hi4 hg3 hg4 hG3 hG4 hmc3 hc3
  by_cases n0 : 30 < m0
  · have d0 : decide ((30 : Int) < (m0 : Int)) = true := decide_eq_true (by omega)
    go_enter Try.func3, Try.ntmps3
    go_wp2_with fail
    refine (HA.out _).mono ?_
    rintro e wz ⟨rfl, hbz⟩
    have hB := hbz
    go_wp2
    go_ret
    exact ⟨rfl, hB⟩
  have d0 : decide ((30 : Int) < (m0 : Int)) = false := decide_eq_false (by omega)
  by_cases n1 : 30 < m1
  · have d1 : decide ((30 : Int) < (m1 : Int)) = true := decide_eq_true (by omega)
    go_enter Try.func3, Try.ntmps3
    go_wp2_with fail
    refine (HA.out _).mono ?_
    rintro e wz ⟨rfl, hbz⟩
    have hB := hbz
    go_wp2
    go_ret
    exact ⟨rfl, hB⟩
  have d1 : decide ((30 : Int) < (m1 : Int)) = false := decide_eq_false (by omega)
  by_cases n2 : 30 < m2
  · have d2 : decide ((30 : Int) < (m2 : Int)) = true := decide_eq_true (by omega)
    go_enter Try.func3, Try.ntmps3
    go_wp2_with fail
    refine (HA.out _).mono ?_
    rintro e wz ⟨rfl, hbz⟩
    have hB := hbz
    go_wp2
    go_ret
    exact ⟨rfl, hB⟩
  have d2 : decide ((30 : Int) < (m2 : Int)) = false := decide_eq_false (by omega)
  cases G3 with
  | true =>
    go_enter Try.func3, Try.ntmps3
    go_wp2_with fail
    refine HG3.out.mono ?_
    rintro e w1 ⟨rfl, hE⟩
    subst hE
    go_wp2_with fail
    refine (HA.out _).mono ?_
    rintro e wz ⟨rfl, hbz⟩
    have hB := hbz
    go_wp2
    go_ret
    exact ⟨rfl, hB⟩
  | false =>
  cases G4 with
  | true =>
    go_enter Try.func3, Try.ntmps3
    go_wp2_with fail
    refine HG3.out.mono ?_
    rintro e w1 ⟨rfl, hE⟩
    subst hE
    go_wp2_with fail
    refine HG4.out.mono ?_
    rintro e w2 ⟨rfl, hb2⟩
    have HB2 := Lib.hid hb2
    clear hb2
    go_wp2_with fail
    refine (HA.out _).mono ?_
    rintro e wz ⟨rfl, hbz⟩
    have hB := Below.thenB HB2.out HB2.out.size hbz
    go_wp2
    go_ret
    exact ⟨rfl, hB⟩
  | false =>
  obtain ⟨k30, kt3⟩ := K3.out rfl
  obtain ⟨⟨k40, kr4⟩, kt4⟩ := K4.out rfl
  have n3 : m3 ≤ 30 := by have := HL3.out; omega
  have n4 : m4 ≤ 30 := by have := HL4.out; omega
  have KT3 := Lib.hid kt3
  have KR4 := Lib.hid kr4
  have KT4 := Lib.hid kt4
  clear kt3 kr4 kt4 K3 K4
  go_enter Try.func3, Try.ntmps3
  go_wp2_with fail
  refine HG3.out.mono ?_
  rintro e w1 ⟨rfl, hE⟩
  subst hE
  go_wp2_with fail
  refine HG4.out.mono ?_
  rintro e w2 ⟨rfl, hb2⟩
  have HB2 := Lib.hid hb2
  clear hb2
  go_wp2
  go_loopw [11, 12] (fun sv iv wr => ∃ (k : Nat) (t : ByteArray), k ≤ m0 ∧ iv = .int .i64 (k : Int) ∧ sv = .string t ∧ Hid (t.data.toList = sizesB (x0.take k)) ∧ t.size ≤ 0 + 9 * k ∧ Below w.heap.size w wr) (fun _ iv _ => m0 - (intOf iv).toNat)
  case atStart => exact ⟨0, ⟨#[]⟩, Nat.zero_le _, rfl, rfl, Lib.hid (by rw [List.take_zero]; rfl), Nat.zero_le _, HB2.out⟩
  case round =>
    obtain ⟨k, t, hk, rfl, rfl, hT, hts, hbel⟩ := hrel
    have hszr := hbel.size
    by_cases hlt : k < m0
    · have hlt' : decide ((k : Int) < (m0 : Int)) = true := decide_eq_true (by omega)
      rcases HZ0.out with hv0 | ⟨hnn, bs, o, rfl, hbs, hcz⟩
      · have := HL0.out
        rw [hv0] at this
        simp at this
        omega
      have hc := (hbel.cell (p := ⟨bs, o + k, none⟩) hbs).trans (hcz k (by rw [HL0.out]; exact hlt))
      have hz := HI0.out.at k (by rw [HL0.out]; exact hlt)
      have htk : x0.take (k + 1) = x0.take k ++ [x0.getD k 0] := take_snocD x0 k (by rw [HL0.out]; exact hlt)
      generalize x0.getD k 0 = z at hc hz htk
      clear hcz
      have hcall := rsize4_any z hz.2 wr
      obtain ⟨X, hX⟩ : ∃ X : ByteArray, X = ⟨(numB z.toNat).toArray⟩ := ⟨_, rfl⟩
      rw [← hX] at hcall
      have hXs : X.size ≤ 9 := by rw [hX, ba_len]; exact numB_len _
      obtain ⟨Y, hY⟩ : ∃ Y : ByteArray, Y = t ++ X := ⟨_, rfl⟩
      have hYl : Y.data.toList = sizesB (x0.take (k + 1)) := by
        rw [hY, ByteArray.data_append, Array.toList_append, hT.out, hX, htk, show sizesB (x0.take k ++ [z]) = sizesB (x0.take k) ++ numB z.toNat by unfold sizesB; rw [List.flatMap_append]; simp]
        try simp only [List.append_assoc]
      have hYs : Y.size ≤ 0 + 9 * (k + 1) := by rw [hY, ByteArray.size_append]; omega
      have hYe := hY.symm
      have HY := Lib.hid hYl
      have HC := Lib.hid hcall
      have HBL := Lib.hid hbel
      clear hX hY hYl hT hcall hbel htk
      go_wp2_with fail
      refine HC.out.mono ?_
      rintro e wy ⟨rfl, hby⟩
      have HBY := Lib.hid (Below.thenB HBL.out hszr hby)
      clear hby HC HBL
      go_wp2
      go_roundw
      case rel => exact ⟨k + 1, Y, by omega, by go_num, rfl, HY, hYs, HBY.out⟩
      case measure => first | (simp [intOf]; done) | (simp [intOf]; omega)
    · have hlt' : decide ((k : Int) < (m0 : Int)) = false := decide_eq_false (by omega)
      obtain rfl : m0 = k := by omega
      have HT1 : Hid (t.data.toList = sizesB x0) := by
        have := hT.out
        rwa [List.take_of_length_le (by rw [HL0.out]; exact Nat.le_refl _)] at this
      have HB2b := Lib.hid hbel
      clear hT hbel
      go_wp2
      go_loopw [11, 13] (fun sv iv wr => ∃ (k : Nat) (t : ByteArray), k ≤ m1 ∧ iv = .int .i64 (k : Int) ∧ sv = .string t ∧ Hid (t.data.toList = sizesB x0 ++ signedsB (x1.take k)) ∧ t.size ≤ 270 + 9 * k ∧ Below w.heap.size w wr) (fun _ iv _ => m1 - (intOf iv).toNat)
      case atStart => exact ⟨0, t, Nat.zero_le _, rfl, rfl, Lib.hid (by rw [HT1.out, List.take_zero]; simp [signedsB]), by omega, HB2b.out⟩
      case round =>
        obtain ⟨k, t, hk, rfl, rfl, hT, hts, hbel⟩ := hrel
        have hszr := hbel.size
        by_cases hlt : k < m1
        · have hlt' : decide ((k : Int) < (m1 : Int)) = true := decide_eq_true (by omega)
          rcases HZ1.out with hv0 | ⟨hnn, bs, o, rfl, hbs, hcz⟩
          · have := HL1.out
            rw [hv0] at this
            simp at this
            omega
          have hc := (hbel.cell (p := ⟨bs, o + k, none⟩) hbs).trans (hcz k (by rw [HL1.out]; exact hlt))
          have hz := HI1.out.at k (by rw [HL1.out]; exact hlt)
          have htk : x1.take (k + 1) = x1.take k ++ [x1.getD k 0] := take_snocD x1 k (by rw [HL1.out]; exact hlt)
          generalize x1.getD k 0 = z at hc hz htk
          clear hcz
          have hcall := rsigned4_any z hz.1 hz.2 wr
          obtain ⟨X, hX⟩ : ∃ X : ByteArray, X = ⟨(numB (foldN z)).toArray⟩ := ⟨_, rfl⟩
          rw [← hX] at hcall
          have hXs : X.size ≤ 9 := by rw [hX, ba_len]; exact numB_len _
          obtain ⟨Y, hY⟩ : ∃ Y : ByteArray, Y = t ++ X := ⟨_, rfl⟩
          have hYl : Y.data.toList = sizesB x0 ++ signedsB (x1.take (k + 1)) := by
            rw [hY, ByteArray.data_append, Array.toList_append, hT.out, hX, htk, show signedsB (x1.take k ++ [z]) = signedsB (x1.take k) ++ numB (foldN z) by unfold signedsB; rw [List.flatMap_append]; simp]
            try simp only [List.append_assoc]
          have hYs : Y.size ≤ 270 + 9 * (k + 1) := by rw [hY, ByteArray.size_append]; omega
          have hYe := hY.symm
          have HY := Lib.hid hYl
          have HC := Lib.hid hcall
          have HBL := Lib.hid hbel
          clear hX hY hYl hT hcall hbel htk
          go_wp2_with fail
          refine HC.out.mono ?_
          rintro e wy ⟨rfl, hby⟩
          have HBY := Lib.hid (Below.thenB HBL.out hszr hby)
          clear hby HC HBL
          go_wp2
          go_roundw
          case rel => exact ⟨k + 1, Y, by omega, by go_num, rfl, HY, hYs, HBY.out⟩
          case measure => first | (simp [intOf]; done) | (simp [intOf]; omega)
        · have hlt' : decide ((k : Int) < (m1 : Int)) = false := decide_eq_false (by omega)
          obtain rfl : m1 = k := by omega
          have HT2 : Hid (t.data.toList = sizesB x0 ++ signedsB x1) := by
            have := hT.out
            rwa [List.take_of_length_le (by rw [HL1.out]; exact Nat.le_refl _)] at this
          have HB3 := Lib.hid hbel
          clear hT hbel
          go_wp2
          go_loopw [11, 14] (fun sv iv wr => ∃ (k : Nat) (t : ByteArray), k ≤ m2 ∧ iv = .int .i64 (k : Int) ∧ sv = .string t ∧ Hid (t.data.toList = sizesB x0 ++ signedsB x1 ++ textsB (x2.take k)) ∧ t.size ≤ 540 + 1009 * k ∧ Hid (∀ r ∈ x2.take k, r.size ≤ 1000) ∧ Below w.heap.size w wr) (fun _ iv _ => m2 - (intOf iv).toNat)
          case atStart => exact ⟨0, t, Nat.zero_le _, rfl, rfl, Lib.hid (by rw [HT2.out, List.take_zero]; simp [textsB]), by omega, Lib.hid (by simp), HB3.out⟩
          case round =>
            obtain ⟨k, t, hk, rfl, rfl, hT, hts, hall, hbel⟩ := hrel
            have hszr := hbel.size
            by_cases hlt : k < m2
            · have hlt' : decide ((k : Int) < (m2 : Int)) = true := decide_eq_true (by omega)
              rcases HZ2.out with hv0 | ⟨hnn, bs, o, rfl, hbs, hcz⟩
              · have := HL2.out
                rw [hv0] at this
                simp at this
                omega
              obtain ⟨s, hsk⟩ : ∃ s, x2[k]? = some s := ⟨_, List.getElem?_eq_getElem (by rw [HL2.out]; exact hlt)⟩
              have hc := (hbel.cell (p := ⟨bs, o + k, none⟩) hbs).trans (hcz k s hsk)
              by_cases h1000 : 1000 < s.size
              · have hd1 : decide ((1000 : Int) < (s.size : Int)) = true := decide_eq_true (by omega)
                have HBL := Lib.hid hbel
                clear hcz hsk hT hbel hall
                go_wp2_with fail
                refine (HA.out _).mono ?_
                rintro e wz ⟨rfl, hbz⟩
                have hB := Below.thenB HBL.out hszr hbz
                go_wp2
                go_ret
                exact ⟨rfl, hB⟩
              have hd1 : decide ((1000 : Int) < (s.size : Int)) = false := decide_eq_false (by omega)
              have hcall := rtext4_any s (by omega) wr
              have htk : x2.take (k + 1) = x2.take k ++ [s] := by rw [List.take_add_one, hsk]; rfl
              have hall' : Hid (∀ r ∈ x2.take (k + 1), r.size ≤ 1000) := by
                intro r hr
                rw [htk] at hr
                rcases List.mem_append.1 hr with hr | hr
                · exact hall.out r hr
                · simp at hr; subst hr; omega
              clear hcz hsk
              obtain ⟨X, hX⟩ : ∃ X : ByteArray, X = ⟨(textB s).toArray⟩ := ⟨_, rfl⟩
              rw [← hX] at hcall
              have hXs : X.size ≤ 1009 := by rw [hX, ba_len]; exact textB_le s (by omega)
              obtain ⟨Y, hY⟩ : ∃ Y : ByteArray, Y = t ++ X := ⟨_, rfl⟩
              have hYl : Y.data.toList = sizesB x0 ++ signedsB x1 ++ textsB (x2.take (k + 1)) := by
                rw [hY, ByteArray.data_append, Array.toList_append, hT.out, hX, htk, show textsB (x2.take k ++ [s]) = textsB (x2.take k) ++ textB s from flat_snoc _ _ _]
                try simp only [List.append_assoc]
              have hYs : Y.size ≤ 540 + 1009 * (k + 1) := by rw [hY, ByteArray.size_append]; omega
              have hYe := hY.symm
              have HY := Lib.hid hYl
              have HC := Lib.hid hcall
              have HBL := Lib.hid hbel
              clear hX hY hYl hT hcall hbel htk hall
              go_wp2_with fail
              refine HC.out.mono ?_
              rintro e wy ⟨rfl, hby⟩
              have HBY := Lib.hid (Below.thenB HBL.out hszr hby)
              clear hby HC HBL
              go_wp2
              go_roundw
              case rel => exact ⟨k + 1, Y, by omega, by go_num, rfl, HY, hYs, hall', HBY.out⟩
              case measure => first | (simp [intOf]; done) | (simp [intOf]; omega)
            · have hlt' : decide ((k : Int) < (m2 : Int)) = false := decide_eq_false (by omega)
              obtain rfl : m2 = k := by omega
              have HT3 : Hid (t.data.toList = sizesB x0 ++ signedsB x1 ++ textsB x2) := by
                have := hT.out
                rwa [List.take_of_length_le (by rw [HL2.out]; exact Nat.le_refl _)] at this
              have HAL : Hid (∀ r ∈ x2, r.size ≤ 1000) := by
                have := hall.out
                rwa [List.take_of_length_le (by rw [HL2.out]; exact Nat.le_refl _)] at this
              have HB4 := Lib.hid hbel
              clear hT hall hbel
              go_wp2
              go_loopw [11, 15] (fun sv iv wr => ∃ (k : Nat) (t : ByteArray), k ≤ m3 ∧ iv = .int .i64 (k : Int) ∧ sv = .string t ∧ Hid (t.data.toList = sizesB x0 ++ signedsB x1 ++ textsB x2 ++ valsB (x3.take k)) ∧ t.size ≤ 30810 + 220 * k ∧ Below w.heap.size w wr) (fun _ iv _ => m3 - (intOf iv).toNat)
              case atStart => exact ⟨0, t, Nat.zero_le _, rfl, rfl, Lib.hid (by rw [HT3.out, List.take_zero]; simp [valsB]), by omega, HB4.out⟩
              case round =>
                obtain ⟨k, t, hk, rfl, rfl, hT, hts, hbel⟩ := hrel
                have hszr := hbel.size
                by_cases hlt : k < m3
                · have hlt' : decide ((k : Int) < (m3 : Int)) = true := decide_eq_true (by omega)
                  obtain ⟨b, o, v, rfl, hbb, hvk, e0, e1, e2⟩ := Vals.at3 HZ3.out HL3.out hlt hbel
                  have hvo := HI3.out v (List.mem_of_getElem? hvk)
                  have hcall := rvalue4_any v hvo.2.1.1 hvo.2.1.2 wr
                  unfold vagg at hcall
                  obtain ⟨X, hX⟩ : ∃ X : ByteArray, X = ⟨(valB v).toArray⟩ := ⟨_, rfl⟩
                  rw [← hX] at hcall
                  have hXs : X.size ≤ 220 := by rw [hX, ba_len]; exact valB_len v
                  obtain ⟨Y, hY⟩ : ∃ Y : ByteArray, Y = t ++ X := ⟨_, rfl⟩
                  have hYl : Y.data.toList = sizesB x0 ++ signedsB x1 ++ textsB x2 ++ valsB (x3.take (k + 1)) := by
                    rw [hY, ByteArray.data_append, Array.toList_append, hT.out, hX, show valsB (x3.take (k + 1)) = valsB (x3.take k) ++ valB v by rw [List.take_add_one, hvk]; exact flat_snoc _ _ _]
                    try simp only [List.append_assoc]
                  have hYs : Y.size ≤ 30810 + 220 * (k + 1) := by rw [hY, ByteArray.size_append]; omega
                  have hYe := hY.symm
                  have HY := Lib.hid hYl
                  have HC := Lib.hid hcall
                  have HBL := Lib.hid hbel
                  clear hX hY hYl hT hcall hbel hvk hvo
                  go_wp2_with fail
                  refine HC.out.mono ?_
                  rintro e wy ⟨rfl, hby⟩
                  have HBY := Lib.hid (Below.thenB HBL.out hszr hby)
                  clear hby HC HBL
                  go_wp2
                  go_roundw
                  case rel => exact ⟨k + 1, Y, by omega, by go_num, rfl, HY, hYs, HBY.out⟩
                  case measure => first | (simp [intOf]; done) | (simp [intOf]; omega)
                · have hlt' : decide ((k : Int) < (m3 : Int)) = false := decide_eq_false (by omega)
                  obtain rfl : m3 = k := by omega
                  have HT4 : Hid (t.data.toList = sizesB x0 ++ signedsB x1 ++ textsB x2 ++ valsB x3) := by
                    have := hT.out
                    rwa [List.take_of_length_le (by rw [HL3.out]; exact Nat.le_refl _)] at this
                  have HB5 := Lib.hid hbel
                  have hrw := rrow4_any a3 m3 c3 x3 wr HL3.out (by omega) (HZ3.out.below hbel) HI3.out
                  obtain ⟨RA, hRA⟩ : ∃ RA : ByteArray, RA = ⟨(rowB x3).toArray⟩ := ⟨_, rfl⟩
                  obtain ⟨RB, hRB⟩ : ∃ RB : ByteArray, RB = ⟨(rowsB x4).toArray⟩ := ⟨_, rfl⟩
                  have hRAs : RA.size ≤ 6609 := by rw [hRA, ba_len]; exact rowB_len _ (by omega)
                  have hRBs : RB.size ≤ 198279 := by
                    rw [hRB, ba_len]
                    have h1 := rowsB_len x4 KR4.out
                    have h2 := numB_len x4.length
                    unfold rowsB; rw [List.length_append]; omega
                  rw [← hRA] at hrw
                  obtain ⟨Y1, hY1⟩ : ∃ Y1 : ByteArray, Y1 = t ++ RA := ⟨_, rfl⟩
                  obtain ⟨Y2, hY2⟩ : ∃ Y2 : ByteArray, Y2 = Y1 ++ RB := ⟨_, rfl⟩
                  have hY1s : Y1.size ≤ 60000 := by rw [hY1, ByteArray.size_append]; omega
                  have hY2s : Y2.size ≤ 260000 := by rw [hY2, ByteArray.size_append]; omega
                  have hY2l : Y2.data.toList = (((((([] ++ sizesB x0) ++ signedsB x1) ++ textsB x2) ++ valsB x3) ++ rowB x3) ++ rowsB x4) := by
                    rw [hY2, ByteArray.data_append, Array.toList_append, hY1, ByteArray.data_append, Array.toList_append, HT4.out, hRA, hRB]
                    simp
                  have hY1e := hY1.symm
                  have hY2e := hY2.symm
                  have HY2 := Lib.hid hY2l
                  have HRW := Lib.hid hrw
                  have HRB := Lib.hid (fun W (hb : Below w.heap.size w W) => show Calls Try.prog 15 #[.slice a4 m4 c4] W fun e w' => e = .returned (.string RB) ∧ Below W.heap.size W w' by rw [hRB]; exact rrows4_any a4 m4 c4 x4 W HL4.out (by omega) (HZ4.out.below hb) (fun r hr => ⟨(HI4.out r hr).1, KR4.out r hr⟩))
                  clear hT hbel hrw hRA hRB hY1 hY2 hY2l HT4
                  go_wp2_with fail
                  refine HRW.out.mono ?_
                  rintro e w6 ⟨rfl, hb6⟩
                  have HB6 := Lib.hid (Below.thenB HB5.out hszr hb6)
                  clear hb6 HRW HB5
                  go_wp2_with fail
                  refine (HRB.out _ HB6.out).mono ?_
                  rintro e w7 ⟨rfl, hb7⟩
                  have HB7 := Lib.hid (Below.thenB HB6.out HB6.out.size hb7)
                  have hz7 : w.heap.size ≤ w7.heap.size := HB7.out.size
                  obtain ⟨W1, hW1⟩ : ∃ W1, W1 = w7.alloc (.cells #[.slice none 0 0] 43) := ⟨_, rfl⟩
                  have hA1 : Below w7.heap.size w7 W1 := by rw [hW1]; exact (Below.refl _ _).alloc (Nat.le_refl _) _
                  have hw1 : WAt W1 w7.heap.size [] := by rw [hW1]; exact wat_new w7 _
                  have hr1 : WRow W1 w7.heap.size = none := by rw [hW1]; exact wrow_new w7 _
                  have hB1 : Below w.heap.size w W1 := Below.thenB HB7.out hz7 hA1
                  have hsz := wsize_any w7.heap.size [] a0 m0 c0 x0 W1 HL0.out (by simp) (by omega) HI0.out hw1 (HZ0.out.below hB1) (fun hn x hx => apart_old hw1 (by have := ints_lt HZ0.out hn x hx; omega))
                  have HSZ := Lib.hid hsz
                  have HB1 := Lib.hid hB1
                  have HR1 := Lib.hid hr1
                  have HW1 := Lib.hid hW1.symm
                  clear hb7 HB6 HRB hA1 hw1 hr1 hB1 hsz hW1
                  go_wp2_with fail
                  rw [HW1.out]
                  refine HSZ.out.mono ?_
                  rintro e w8 ⟨rfl, hw8, hC8⟩
                  have hB8 := below_w HB1.out hz7 HR1.out hC8
                  have hl8 : ([] ++ sizesB x0).length ≤ 270 := by have := sizesB_le x0; have := HL0.out; simp only [List.nil_append]; omega
                  have HSG := Lib.hid (wsigned_any w7.heap.size _ a1 m1 c1 x1 w8 HL1.out (by omega) (by omega) HI1.out hw8 (HZ1.out.below hB8) (fun hn x hx => apart_old hw8 (by have := ints_lt HZ1.out hn x hx; omega)))
                  have HC8 := Lib.hid hC8
                  clear hw8 hC8 hB8 HSZ HW1
                  go_wp2_with fail
                  refine HSG.out.mono ?_
                  rintro e w9 ⟨rfl, hw9, hC9⟩
                  have hC9' := HC8.out.trans hC9
                  have hB9 := below_w HB1.out hz7 HR1.out hC9'
                  have hl9 : (([] ++ sizesB x0) ++ signedsB x1).length ≤ 540 := by have := signedsB_le x1; have := HL1.out; rw [List.length_append]; omega
                  have htl := textsB_le x2 HAL.out
                  have HTX := Lib.hid (wtext_any w7.heap.size _ a2 m2 c2 x2 w9 HL2.out (by omega) (by omega) (fun s hs => by have := HAL.out s hs; omega) (by have := HL2.out; omega) hw9 (HZ2.out.below hB9) (fun hn x hx => apart_old hw9 (by have := texts_lt HZ2.out hn x hx; omega)))
                  have HC9 := Lib.hid hC9'
                  clear hw9 hC9 hC9' hB9 HSG HC8
                  go_wp2_with fail
                  refine HTX.out.mono ?_
                  rintro e w10 ⟨rfl, hw10, hC10⟩
                  have hC10' := HC9.out.trans hC10
                  have hB10 := below_w HB1.out hz7 HR1.out hC10'
                  have hl10 : ((([] ++ sizesB x0) ++ signedsB x1) ++ textsB x2).length ≤ 30810 := by have := HL2.out; rw [List.length_append]; omega
                  have HVL := Lib.hid (wvalue_any w7.heap.size _ a3 m3 c3 x3 w10 HL3.out (by omega) (by omega) HI3.out hw10 (HZ3.out.below hB10) (fun hn x hx => apart_old hw10 (by have := vals_lt HZ3.out hn x hx; omega)))
                  have HC10 := Lib.hid hC10'
                  clear hw10 hC10 hC10' hB10 HTX HC9
                  go_wp2_with fail
                  refine HVL.out.mono ?_
                  rintro e w11 ⟨rfl, hw11, hC11⟩
                  have hC11' := HC10.out.trans hC11
                  have hB11 := below_w HB1.out hz7 HR1.out hC11'
                  have hl11 : (((([] ++ sizesB x0) ++ signedsB x1) ++ textsB x2) ++ valsB x3).length ≤ 37500 := by have := valsB_len x3; have := HL3.out; rw [List.length_append]; omega
                  have HRO := Lib.hid (wrow_any w7.heap.size _ a3 m3 c3 x3 w11 HL3.out (by omega) (by omega) HI3.out hw11 (HZ3.out.below hB11) (fun hn x hx => apart_old hw11 (by have := vals_lt HZ3.out hn x hx; omega)))
                  have HC11 := Lib.hid hC11'
                  clear hw11 hC11 hC11' hB11 HVL HC10
                  go_wp2_with fail
                  refine HRO.out.mono ?_
                  rintro e w12 ⟨rfl, hw12, hC12⟩
                  have hC12' := HC11.out.trans hC12
                  have hB12 := below_w HB1.out hz7 HR1.out hC12'
                  have hl12 : ((((([] ++ sizesB x0) ++ signedsB x1) ++ textsB x2) ++ valsB x3) ++ rowB x3).length ≤ 45000 := by have := rowB_len x3 (by omega); rw [List.length_append]; omega
                  have HRS := Lib.hid (wrows_any w7.heap.size _ a4 m4 c4 x4 w12 HL4.out (by omega) n4 (fun r hr => ⟨KR4.out r hr, (HI4.out r hr).1⟩) hw12 ((HZ4.out.below hB12).mono (fun k hk => Nat.lt_of_lt_of_le hk hz7)))
                  have HC12 := Lib.hid hC12'
                  clear hw12 hC12 hC12' hB12 HRO HC11
                  go_wp2_with fail
                  refine HRS.out.mono ?_
                  rintro e w13 ⟨rfl, hw13, hC13⟩
                  rw [← HY2.out] at hw13
                  have hB13 := below_w HB1.out hz7 HR1.out (HC12.out.trans hC13)
                  have HN0 := Lib.hid (wsize_nil a0 m0 c0 x0 w13 HL0.out (by omega) HI0.out (HZ0.out.below hB13))
                  have HW13 := Lib.hid hw13
                  have HB13 := Lib.hid hB13
                  clear hw13 hC13 hB13 HRS HC12 HB1 HR1 hl8 hl9 hl10 hl11 hl12 htl
                  go_wp2_with fail
                  refine HN0.out.mono ?_
                  rintro e w14 ⟨rfl, hb14⟩
                  have hB14 := Below.thenB HB13.out HB13.out.size hb14
                  have HN2 := Lib.hid (wtext_nil a2 m2 c2 x2 w14 HL2.out (by omega) (fun s hs => by have := HAL.out s hs; omega) (HZ2.out.below hB14))
                  have HW14 := Lib.hid (HW13.out.below hb14)
                  have HB14 := Lib.hid hB14
                  clear hb14 hB14 HN0 HW13 HB13
                  go_wp2_with fail
                  refine HN2.out.mono ?_
                  rintro e w15 ⟨rfl, hb15⟩
                  have hB15 := Below.thenB HB14.out HB14.out.size hb15
                  have HN4 := Lib.hid (wrows_nil a4 m4 c4 x4 w15 HL4.out (by omega) (fun r hr => ⟨by have := KR4.out r hr; omega, fun v hv => ⟨((HI4.out r hr).1 v hv).2.1, by have := KT4.out r hr v hv; omega⟩⟩) (HZ4.out.below hB15))
                  have HW15 := Lib.hid (HW14.out.below hb15)
                  have HB15 := Lib.hid hB15
                  clear hb15 hB15 HN2 HW14 HB14
                  go_wp2_with fail
                  refine HN4.out.mono ?_
                  rintro e w16 ⟨rfl, hb16⟩
                  have hB16 := Below.thenB HB15.out HB15.out.size hb16
                  have hw16 := HW15.out.below hb16
                  have hst := wstring_any w7.heap.size Y2.data.toList w16 hw16
                  have hln := wlen_any w7.heap.size Y2.data.toList w16 hw16
                  rw [ba_toList] at hst
                  rw [show (Y2.data.toList.length : Int) = (Y2.size : Int) by rw [Array.length_toList]; rfl] at hln
                  have HST := Lib.hid hst
                  have HLN := Lib.hid hln
                  have HNS := Lib.hid (wstring_nil w16)
                  have HNL := Lib.hid (wlen_nil w16)
                  have HBS := Lib.hid (bstring_nil w16)
                  have HBL := Lib.hid (blen_nil w16)
                  have HB16 := Lib.hid hB16
                  clear hb16 hB16 hw16 hst hln HN4 HW15 HB15
                  go_wp2_with fail
                  refine HST.out.mono ?_
                  rintro e wz ⟨rfl, hE⟩
                  subst hE
                  go_wp2_with fail
                  refine HLN.out.mono ?_
                  rintro e wz ⟨rfl, hE⟩
                  subst hE
                  go_wp2_with fail
                  refine HNS.out.mono ?_
                  rintro e wz ⟨rfl, hE⟩
                  subst hE
                  go_wp2_with fail
                  refine HNL.out.mono ?_
                  rintro e wz ⟨rfl, hE⟩
                  subst hE
                  go_wp2_with fail
                  refine HBS.out.mono ?_
                  rintro e wz ⟨rfl, hE⟩
                  subst hE
                  go_wp2_with fail
                  refine HBL.out.mono ?_
                  rintro e wz ⟨rfl, hE⟩
                  subst hE
                  go_wp2_with fail
                  refine (HA.out _).mono ?_
                  rintro e w17 ⟨rfl, hb17⟩
                  have hB := Below.thenB HB16.out HB16.out.size hb17
                  go_wp2
                  go_ret
                  exact ⟨rfl, hB⟩
end Go.Proofs.Ytapcnpocaffeoab
