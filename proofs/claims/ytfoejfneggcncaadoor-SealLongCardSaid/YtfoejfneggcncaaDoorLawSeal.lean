/- The laws of seal: their joins, their examples; SealSums, SealLong, SealOpens. -/
import Derived.Test.YtfoejfneggcncaaDoorSealA
import Derived.Lib.Builder
import Derived.Test.YtfoejfneggcncaaDoorRead
namespace Go.Proofs.YtfoejfneggcncaaDoor
open Go.RowKit Go.ChangeShapes Go.WideShapes Go.ChangeAt
/-- A list of texts, as an argument. -/
def TArg (W : World) (v : Value) (ss : List ByteArray) : Prop := ∃ a m c, v = .slice a m c ∧ ss.length = m ∧ m ≤ c ∧ c ≤ maxLen ∧ Texts W a ss ∧ ∀ s ∈ ss, s.size ≤ maxLen
theorem texts_of {W : World} {v : Value} {ss : List ByteArray} (h : RL 1 RS W [v] ss) : TArg W v ss := by
  obtain ⟨a, m, c, h1, h2, h3, h4, h5⟩ := h
  refine ⟨a, m, c, by simpa using h1, h2, h3, h4, ?_⟩
  rcases h5 with rfl | ⟨hn, b, o, ha, hlt, h5⟩
  · exact ⟨.inl rfl, fun s hs => by cases hs⟩
  · refine ⟨.inr ⟨hn, b, o, ha, hlt, fun i s hi => ?_⟩, fun s hs => ?_⟩
    · obtain ⟨cs', k1, k2, k3, _⟩ := h5 i s hi
      rw [k3] at k2
      have := k2 0 (by decide)
      simpa using this
    · obtain ⟨i, hi, rfl⟩ := List.mem_iff_getElem.1 hs
      obtain ⟨cs', _, _, _, w1⟩ := h5 i _ (List.getElem?_eq_getElem hi)
      exact w1
set_option maxRecDepth 100000 in
theorem rd_texts {H : Type} {enc : TypeId × Value → H} {W : World} {base : Nat} {v : Value} {d : DataW H} {p : List MemPlace} (hv : Value.okWide Tryd.prog W .any base 31 v) (h : DataW.Trod enc Tryd.prog W 0 (fun _ => true) true 31 v d p) :
    ∃ ss, TArg W v ss := by
  obtain ⟨ss, hx⟩ := rd_list Tryd.underlying31 (op_list (sz := 1) Tryd.underlying31 (by kernel_rfl) (by decide) (op_str (enc := enc) (W := W) Tryd.underlying9)) hv h
  exact ⟨ss, texts_of hx⟩
theorem two_texts (w : World) (x y : ByteArray) : Texts (w.alloc (.cells #[.string x, .string y] 9)) (some ⟨w.heap.size, 0, none⟩) [x, y] := by
  refine .inr ⟨by simp, w.heap.size, 0, rfl, by simp, fun i s hi => ?_⟩
  rcases i with _ | _ | i
  · simp at hi; subst hi; go_simp
  · simp at hi; subst hi; go_simp
  · simp at hi
theorem open_ab : openB (frameB [97, 98]) = ([97, 98], 14, 0) := by decide +kernel
theorem crc_nine : crc [49, 50, 51, 52, 53, 54, 55, 56, 57] = 11051210869376104954 := by decide +kernel
set_option maxRecDepth 100000 in
set_option maxHeartbeats 1000000 in
theorem awake5_any (w : World) (hN : Nibs w) : Calls Tryd.prog 16 #[] w fun e w' => e = .returned (.bool true) ∧ Below w.heap.size w w' := by
  have HN := Lib.hid hN
  clear hN
  have HA := Lib.hid (fun (W : World) (o : Obj) => (Below.refl W.heap.size W).alloc (Nat.le_refl _) o)
  go_enter Tryd.func16, Tryd.ntmps16
  go_wp2_with fail
  refine (seal_frame _ 2 2 [⟨#[97]⟩, ⟨#[98]⟩] _ rfl (by omega) (Nat.le_refl _) (by decide) (two_texts w _ _) (HN.out.below (HA.out w _))).mono ?_
  rintro e w1 ⟨rfl, hb1⟩
  have hB1 := Below.thenB (HA.out w _) (by simp) hb1
  rw [show joinB [⟨#[97]⟩, ⟨#[98]⟩] = [97, 98] from rfl]
  obtain ⟨F, hF⟩ : ∃ F : ByteArray, F = ⟨(frameB [97, 98]).toArray⟩ := ⟨_, rfl⟩
  rw [← hF]
  have hFl : F.data.toList = frameB [97, 98] := by rw [hF]
  have hFs : F.size ≤ 100 := by rw [hF, ba_len, frame_len]; decide
  have HF := Lib.hid hFl
  clear hF hFl
  go_wp2_with fail
  refine (seal_open F (by omega) _ (HN.out.below hB1)).mono ?_
  rintro e w2 ⟨rfl, hb2⟩
  have hB2 := Below.thenB hB1 hB1.size hb2
  rw [HF.out, open_ab]
  unfold openE
  go_wp2_with fail
  have hA2 := HA.out w2 (.cells #[.string ⟨#[49, 50, 51, 52]⟩, .string ⟨#[53, 54, 55, 56, 57]⟩] 9)
  refine (seal_of (some ⟨w2.heap.size, 0, none⟩) 2 2 [⟨#[49, 50, 51, 52]⟩, ⟨#[53, 54, 55, 56, 57]⟩] _ rfl (by omega) (fun s hs => by simp at hs; rcases hs with rfl | rfl <;> (unfold maxLen; decide)) (two_texts w2 _ _) ((HN.out.below hB2).below hA2)).mono ?_
  rintro e w3 ⟨rfl, hb3⟩
  have hB3 := Below.thenB (Below.thenB hB2 hB2.size hA2) (by have := hB2.size; simp; omega) hb3
  rw [show joinB [⟨#[49, 50, 51, 52]⟩, ⟨#[53, 54, 55, 56, 57]⟩] = [49, 50, 51, 52, 53, 54, 55, 56, 57] from rfl, crc_nine]
  go_wp2
  go_ret
  exact ⟨rfl, hB3⟩
theorem allB_len : ∀ (f : Nat) (l : List UInt8), l.length ≤ 1048576 → (allB f l).1.length ≤ l.length
  | 0, l, _ => by simp [allB]
  | f + 1, l, hl => by
    by_cases h : l = []
    · simp [allB, h]
    · rcases openB_cases l with ⟨d, n, he, h12, hn, _⟩ | he | he
      · have ih := allB_len f (l.drop n) (by rw [List.length_drop]; omega)
        simp only [allB, if_neg h, he, List.length_cons]
        rw [List.length_drop] at ih
        omega
      · simp [allB, h, he]
      · simp [allB, h, he]
theorem nibs_of {w : World} (h : Lib.TabIs Tryd.prog w "afflux/seal.nibbles" .u64 nibs) (hg : Tryd.prog.globalNamed "afflux/seal.nibbles" = some 0) : Nibs w := by
  have hc : ∀ n, n < 16 → w.cell? ⟨0, n, none⟩ = some (.int .u64 ((sh 4 n : Nat) : Int)) := by
    intro n hn
    have h1 := h.cell hg n (by exact hn)
    have h2 := nibs_sh n hn
    rw [List.getD_eq_getElem?_getD, h2] at h1
    exact h1
  exact ⟨lt_of_cell (hc 0 (by omega)), hc⟩
def JoinRet (ss : List ByteArray) (e : Ending) : Prop := ∃ (s : ByteArray) (ok : Bool), e = .returned (.tuple #[.string s, .bool ok]) ∧ (ok = true → ss.length ≤ 20 ∧ s.data.toList = joinB ss ∧ s.size ≤ 1500)
set_option maxRecDepth 100000 in
set_option maxHeartbeats 1000000 in
theorem join5_any (a : Option Addr) (m c : Nat) (ss : List ByteArray) (w : World) (hm : ss.length = m) (hl : m ≤ maxLen) (hz : ∀ s ∈ ss, s.size ≤ maxLen) (hT : Texts w a ss) :
    Calls Tryd.prog 15 #[.slice a m c] w fun e w' => JoinRet ss e ∧ w = w' := by
  unfold maxLen at hl
  have HM := Lib.hid hm
  have HT := Lib.hid hT
  have HZ := Lib.hid hz
  clear hm hT hz
  go_enter Tryd.func15, Tryd.ntmps15
  go_wp2
  go_loop [4, 5] (fun z i => ∃ (k : Nat) (x : ByteArray), k ≤ m ∧ k ≤ 20 ∧ i = .int .i64 (k : Int) ∧ z = .string x ∧ Hid (x.data.toList = joinB (ss.take k)) ∧ x.size ≤ 1500 * k) (fun _ i => m - (intOf i).toNat)
  case atStart => exact ⟨0, ⟨#[]⟩, Nat.zero_le _, Nat.zero_le _, rfl, rfl, Lib.hid (by rw [List.take_zero]; rfl), Nat.zero_le _⟩
  case round =>
    obtain ⟨k, x, hk, hk20, rfl, rfl, hX, hxs⟩ := hrel
    by_cases hlt : k < m
    · have hlt' : decide ((k : Int) < (m : Int)) = true := decide_eq_true (by omega)
      by_cases h20 : k < 20
      · have h20' : decide ((k : Int) < 20) = true := decide_eq_true (by omega)
        rcases HT.out with hv0 | ⟨hnn, bs, o, rfl, hbs, hcz⟩
        · have := HM.out
          rw [hv0] at this
          simp at this
          omega
        obtain ⟨s, hsk⟩ : ∃ s, ss[k]? = some s := ⟨_, List.getElem?_eq_getElem (by rw [HM.out]; exact hlt)⟩
        have hc := hcz k s hsk
        have hsz := HZ.out s (List.mem_of_getElem? hsk)
        unfold maxLen at hsz
        have hts : ss.take (k + 1) = ss.take k ++ [s] := by
          rw [List.take_add_one, hsk]; rfl
        have HTS := Lib.hid hts
        clear hcz hsk hts
        by_cases hbig : 1500 < s.size
        · have hd : decide ((1500 : Int) < (s.size : Int)) = true := decide_eq_true (by omega)
          go_wp2
          go_ret2
          exact ⟨⟨_, _, rfl, fun h => by cases h⟩, rfl⟩
        · have hd : decide ((1500 : Int) < (s.size : Int)) = false := decide_eq_false (by omega)
          obtain ⟨Y, hY⟩ : ∃ Y : ByteArray, Y = x ++ s := ⟨_, rfl⟩
          have hYl : Y.data.toList = joinB (ss.take (k + 1)) := by rw [HTS.out, joinB_snoc, ← hX.out, hY]; simp
          have hYs : Y.size ≤ 1500 * (k + 1) := by
            have : Y.size = x.size + s.size := by rw [hY]; exact ByteArray.size_append
            omega
          have hYe := hY.symm
          have HY := Lib.hid hYl
          clear hY hYl
          go_wp2
          go_round
          case rel => exact ⟨k + 1, Y, by omega, by omega, by go_num, rfl, HY, hYs⟩
          case measure => simp [intOf]; omega
      · have h20' : decide ((k : Int) < 20) = false := decide_eq_false (by omega)
        have h21 : decide ((m : Int) ≤ 20) = false := decide_eq_false (by omega)
        go_wp2
        go_ret2
        exact ⟨⟨_, _, rfl, fun h => by cases h⟩, rfl⟩
    · have hlt' : decide ((k : Int) < (m : Int)) = false := decide_eq_false (by omega)
      have h21 : decide ((m : Int) ≤ 20) = true := decide_eq_true (by omega)
      have he : ss.take k = ss := List.take_of_length_le (by rw [HM.out]; omega)
      have hX2 := hX.out
      rw [he] at hX2
      have HX2 := Lib.hid hX2
      clear he hX2 hX
      by_cases hs : x.size ≤ 1500
      · have hd : decide ((x.size : Int) ≤ 1500) = true := decide_eq_true (by omega)
        go_wp2
        go_ret2
        exact ⟨⟨_, _, rfl, fun h => ⟨by rw [HM.out]; omega, HX2.out, hs⟩⟩, rfl⟩
      · have hd : decide ((x.size : Int) ≤ 1500) = false := decide_eq_false (by omega)
        go_wp2
        go_ret2
        exact ⟨⟨_, _, rfl, fun h => by cases h⟩, rfl⟩
set_option maxRecDepth 100000 in
set_option maxHeartbeats 4000000 in
theorem opens_walk (v0 : Value) (s : ByteArray) (w : World) (y0 : v0 = .string s ∧ s.size ≤ maxLen) (hN : Nibs w) :
    Calls Tryd.prog 6 #[v0] w fun e w' => e = .returned (.bool true) ∧ Below w.heap.size w w' := by
  obtain ⟨rfl, hsm⟩ := y0
  unfold maxLen at hsm
  have HN := Lib.hid hN
  clear hN
  by_cases hbig : 1500 < s.size
  · have hd : decide ((1500 : Int) < (s.size : Int)) = true := decide_eq_true (by omega)
    go_enter Tryd.func6, Tryd.ntmps6
    go_wp2_with fail
    refine (awake5_any _ HN.out).mono ?_
    rintro e w1 ⟨rfl, hb1⟩
    go_wp2
    go_ret
    exact ⟨rfl, hb1⟩
  · have hd : decide ((1500 : Int) < (s.size : Int)) = false := decide_eq_false (by omega)
    go_enter Tryd.func6, Tryd.ntmps6
    go_wp2_with fail
    refine (seal_open s (by omega) _ HN.out).mono ?_
    rintro e w1 ⟨rfl, hb1⟩
    obtain ⟨⟨x1, x2, x3⟩, hx⟩ : ∃ x, x = openB s.data.toList := ⟨_, rfl⟩
    have HX := Lib.hid hx
    rw [← hx]
    clear hx
    unfold openE
    go_wp2_with fail
    refine (rseal_open s (by omega) _).mono ?_
    rintro e w2 ⟨rfl, hb2⟩
    rw [← HX.out]
    unfold openE
    have hB2 := Below.thenB hb1 hb1.size hb2
    go_wp2_with fail
    refine (seal_all s (by omega) _ (HN.out.below hB2)).mono ?_
    rintro e w3 ⟨⟨a, c, rfl, hT3, hc3⟩, hb3⟩
    have hB3 := Below.thenB hB2 hB2.size hb3
    have HT3 := Lib.hid hT3
    clear hT3
    go_wp2_with fail
    refine (rseal_all s (by omega) _).mono ?_
    rintro e w4 ⟨⟨a', c', rfl, hT4, hc4⟩, hb4⟩
    have hB4 := Below.thenB hB3 hB3.size hb4
    have HT4 := Lib.hid hT4
    have hlen : (allB s.size s.data.toList).1.length ≤ 1048576 := by
      have := allB_len s.size s.data.toList (by rw [← Lib.size_eq]; omega)
      rw [← Lib.size_eq] at this; omega
    obtain ⟨R, hR⟩ : ∃ R, R = allB s.size s.data.toList := ⟨_, rfl⟩
    rw [← hR] at HT3 HT4 hc3 hc4 hlen ⊢
    clear hT4 hR
    obtain ⟨r1, r2, r3⟩ := R
    simp only at HT3 HT4 hc3 hc4 hlen ⊢
    obtain ⟨m, hm⟩ : ∃ m, m = r1.length := ⟨_, rfl⟩
    rw [← hm] at hc3 hc4 hlen ⊢
    have HM := Lib.hid hm.symm
    clear hm
    go_wp2_with fail
    refine (tsame_any a a' m c m c' r1 r1 _ HM.out HM.out (by omega) (by omega) (HT3.out.below hb4) HT4.out).mono ?_
    rintro e w5 ⟨rfl, hb5⟩
    have hB5 := Below.thenB hB4 hB4.size hb5
    rw [show tsame r1 r1 = true by simp [tsame]]
    go_wp2_with fail
    refine (awake5_any _ (HN.out.below hB5)).mono ?_
    rintro e w6 ⟨rfl, hb6⟩
    go_wp2
    go_ret
    exact ⟨rfl, Below.thenB hB5 hB5.size hb6⟩
set_option maxRecDepth 100000 in
set_option maxHeartbeats 4000000 in
theorem seal_sums_walk (v0 : Value) (ss : List ByteArray) (w : World) (y0 : TArg w v0 ss) (hN : Nibs w) :
    Calls Tryd.prog 4 #[v0] w fun e w' => e = .returned (.bool true) ∧ Below w.heap.size w w' := by
  obtain ⟨a, m, c, rfl, hm, hmc, hcm, hT, hz⟩ := y0
  have HN := Lib.hid hN
  have HM := Lib.hid hm
  have HT := Lib.hid hT
  have HZ := Lib.hid hz
  have hmx : m ≤ maxLen := by omega
  have hj := join5_any a m c ss w hm hmx hz hT
  have HJ := Lib.hid hj
  have HA := Lib.hid (fun (W : World) (o : Obj) => (Below.refl W.heap.size W).alloc (Nat.le_refl _) o)
  clear hN hm hT hz hj
  go_enter Tryd.func4, Tryd.ntmps4
  go_wp2_with fail
  refine HJ.out.mono ?_
  rintro e w0 ⟨⟨s, ok, rfl, hok⟩, rfl⟩
  cases ok with
  | false =>
    clear hok
    go_wp2_with fail
    refine (awake5_any _ HN.out).mono ?_
    rintro e w1 ⟨rfl, hb1⟩
    go_wp2
    go_ret
    exact ⟨rfl, hb1⟩
  | true =>
    obtain ⟨hl20, hsl, hs15⟩ := hok rfl
    rw [HM.out] at hl20
    have HSL := Lib.hid hsl
    have hnib := HN.out.1
    have hS0 : SumAt (w.alloc (.cells #[.int .u64 0] 37)) w.heap.size (crc []) := by
      rw [show crc [] = 0 from rfl]; exact ⟨by simp, by go_simp, by go_simp⟩
    have HS0 := Lib.hid hS0
    clear hok hsl hS0
    go_wp2
    go_loopw [6] (fun i wr => ∃ k : Nat, k ≤ m ∧ i = .int .i64 (k : Int) ∧ SumAt wr w.heap.size (crc (joinB (ss.take k))) ∧ Below w.heap.size w wr) (fun i _ => m - (intOf i).toNat)
    case atStart => exact ⟨0, Nat.zero_le _, rfl, HS0.out, HA.out w _⟩
    case round =>
      obtain ⟨k, hk, rfl, hS, hbel⟩ := hrel
      have hszr := hbel.size
      have HS := Lib.hid hS
      clear hS
      by_cases hlt : k < m
      · have hlt' : decide ((k : Int) < (m : Int)) = true := decide_eq_true (by omega)
        rcases HT.out with hv0 | ⟨hnn, bs, o, rfl, hbs, hcz⟩
        · have := HM.out
          rw [hv0] at this
          simp at this
          omega
        obtain ⟨x, hsk⟩ : ∃ x, ss[k]? = some x := ⟨_, List.getElem?_eq_getElem (by rw [HM.out]; exact hlt)⟩
        have hc := (hbel.cell (p := ⟨bs, o + k, none⟩) hbs).trans (hcz k x hsk)
        have hsz := HZ.out x (List.mem_of_getElem? hsk)
        have hts : ss.take (k + 1) = ss.take k ++ [x] := by
          rw [List.take_add_one, hsk]; rfl
        have hcr : sumOn (crc (joinB (ss.take k))) (joinB [x]) = crc (joinB (ss.take (k + 1))) := by
          rw [← sumOn_zero, sumOn_app, ← sumOn_zero, hts]; simp [joinB]
        have hlt1 := crc_lt (joinB (ss.take k))
        have HCR := Lib.hid hcr
        clear hcz hsk hts hcr
        have hA := HA.out wr (.cells #[.string x] 9)
        have hS1 : SumAt (wr.alloc (.cells #[.string x] 9)) w.heap.size (crc (joinB (ss.take k))) := by
          obtain ⟨q0, q1, q2⟩ := HS.out
          exact ⟨by simp; omega, (hA.cell (p := ⟨w.heap.size, 0, none⟩) q0).trans q1, (hA.frozen (p := ⟨w.heap.size, 0, none⟩) q0).trans q2⟩
        have hadd := seal_add w.heap.size _ hlt1 (some ⟨wr.heap.size, 0, none⟩) 1 1 [x] _ rfl (by omega) (fun s hs => by simp at hs; subst hs; exact hsz) hS1 (one_text wr x) (fun _ y hy => by injection hy with hy; subst hy; have := HS.out.1; show wr.heap.size ≠ _; omega) ((HN.out.below hbel).below hA) (by omega)
        rw [HCR.out] at hadd
        have HADD := Lib.hid hadd
        have hwb := HS.out.1
        have hq : ∀ W : World, (binOp .neq 34 (Value.pointer (some ⟨w.heap.size, 0, none⟩)) (Value.pointer (some ⟨w.heap.size, 0, none⟩))).run Tryd.prog W = .ok (.bool false) W := by
          obtain ⟨j, hj⟩ : ∃ j, Tryd.prog.info? 37 = some j := Option.isSome_iff_exists.1 (by kernel_rfl)
          exact fun W => Lib.run_neq_ptr_same (w := W) _ Tryd.underlying34 hj
        clear hadd hS1 hA
        go_wp2_with fail
        refine HADD.out.mono ?_
        rintro e w2 ⟨rfl, hS2, hch⟩
        have hb2 : Below w.heap.size w w2 := (hbel.alloc hszr (.cells #[.string x] 9)).trans (hch.below (by simp; omega) (fun j _ hj => by omega))
        have HS2 := Lib.hid hS2
        clear hS2
        go_wp2
        go_roundw
        case rel => exact ⟨k + 1, by omega, by go_num, HS2.out, hb2⟩
        case measure => simp [intOf]; omega
      · have hlt' : decide ((k : Int) < (m : Int)) = false := decide_eq_false (by omega)
        have he : ss.take k = ss := List.take_of_length_le (by rw [HM.out]; omega)
        have hS1 := HS.out
        rw [he, ← HSL.out] at hS1
        have HS1 := Lib.hid hS1
        have hjl : (joinB ss).length ≤ 1500 := by rw [← HSL.out, ← Lib.size_eq]; exact hs15
        clear hS1 HS he
        go_wp2_with fail
        refine (seal_frame a m c ss _ HM.out (by omega) hmc (by omega) (HT.out.below hbel) (HN.out.below hbel)).mono ?_
        rintro e w2 ⟨rfl, hb2⟩
        have hB2 := Below.thenB hbel hszr hb2
        have hS2 : SumAt w2 w.heap.size (crc s.data.toList) := by
          obtain ⟨q0, q1, q2⟩ := HS1.out
          exact ⟨Nat.lt_of_lt_of_le q0 hb2.size, (hb2.cell (p := ⟨w.heap.size, 0, none⟩) q0).trans q1, (hb2.frozen (p := ⟨w.heap.size, 0, none⟩) q0).trans q2⟩
        have HS2 := Lib.hid hS2
        clear hS2 HS1
        go_wp2_with fail
        refine (seal_of a m c ss _ HM.out (by omega) HZ.out (HT.out.below hB2) (HN.out.below hB2)).mono ?_
        rintro e w3 ⟨rfl, hb3⟩
        have hB3 := Below.thenB hB2 hB2.size hb3
        have hS3 : SumAt w3 w.heap.size (crc s.data.toList) := by
          obtain ⟨q0, q1, q2⟩ := HS2.out
          exact ⟨Nat.lt_of_lt_of_le q0 hb3.size, (hb3.cell (p := ⟨w.heap.size, 0, none⟩) q0).trans q1, (hb3.frozen (p := ⟨w.heap.size, 0, none⟩) q0).trans q2⟩
        have HS3 := Lib.hid hS3
        clear hS3 HS2
        rw [← HSL.out]
        go_wp2_with fail
        refine (rsum_any s (by omega) _).mono ?_
        rintro e w4 ⟨rfl, rfl⟩
        go_wp2_with fail
        refine (seal_value _ _ _ HS3.out).mono ?_
        rintro e w4 ⟨rfl, rfl⟩
        go_wp2_with fail
        refine (rsum_any s (by omega) _).mono ?_
        rintro e w4 ⟨rfl, rfl⟩
        go_wp2_with fail
        refine (seal_add_nil _ _).mono ?_
        rintro e w4 ⟨rfl, rfl⟩
        go_wp2_with fail
        refine (seal_value_nil _).mono ?_
        rintro e w4 ⟨rfl, rfl⟩
        go_wp2_with fail
        refine (rseal_frame s (by omega) _).mono ?_
        rintro e w4 ⟨rfl, hb4⟩
        have hB4 := Below.thenB hB3 hB3.size hb4
        go_wp2_with fail
        refine (awake5_any _ (HN.out.below hB4)).mono ?_
        rintro e w5 ⟨rfl, hb5⟩
        go_wp2
        go_ret
        exact ⟨rfl, Below.thenB hB4 hB4.size hb5⟩
end Go.Proofs.YtfoejfneggcncaaDoor
