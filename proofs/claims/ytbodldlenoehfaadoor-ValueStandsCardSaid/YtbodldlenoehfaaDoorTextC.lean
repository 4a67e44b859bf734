/- CalcTexts: any text's number, or why it has none; any number's text. -/
import Derived.Test.YtbodldlenoehfaaDoorCalcP
import Derived.Test.YtbodldlenoehfaaDoorCalcD
import Derived.Test.YtbodldlenoehfaaDoorTextP
import Derived.Test.YtbodldlenoehfaaDoorDoor
namespace Go.Proofs.YtbodldlenoehfaaDoor
open Go.RowKit
theorem parV_num {l : List UInt8} (h : numB (Lib.trimPrefix l [45]) = false) : parV l = none := by
  unfold parV; rw [h]; rfl
theorem parV_nay {l : List UInt8} (h : (Lib.hasPrefix l [45] && (Lib.trimPrefix l [45] == [48])) = true) : parV l = none := by
  unfold parV; rw [h]; simp
theorem parV_yea {l : List UInt8} (h : numB (Lib.trimPrefix l [45]) = true) (h' : (Lib.hasPrefix l [45] && (Lib.trimPrefix l [45] == [48])) = false) :
    parV l = some (if Lib.hasPrefix l [45] then -(dreadV 0 (Lib.trimPrefix l [45]) : Int) else dreadV 0 (Lib.trimPrefix l [45])) := by
  unfold parV; rw [h, h']; rfl
theorem trim_len (l : List UInt8) : (Lib.trimPrefix l [45]).length ≤ l.length := by
  unfold Lib.trimPrefix
  split
  · simp
  · exact Nat.le_refl _
theorem beyond {V : Int} (h : 18446744073709551615 < V ∨ V < -18446744073709551615) : pN (some V) = 0 ∧ pE (some V) = 2 := by
  unfold pN pE okN erN
  simp only []
  rw [if_neg (by omega), if_neg (by omega)]; exact ⟨rfl, rfl⟩
theorem ret_bey {l : List UInt8} {V : Int} (hl : parV l = some V) (h : 18446744073709551615 < V ∨ V < -18446744073709551615) : Ending.returned (.tuple #[.int .i64 0, .int .i64 2]) = .returned (.tuple #[.int .i64 (pN (parV l)), .int .i64 (pE (parV l))]) := by
  rw [hl, (beyond h).1, (beyond h).2]
set_option maxRecDepth 100000 in
set_option maxHeartbeats 2000000 in
theorem parse_any (s : ByteArray) (hs : s.size ≤ 1000) (w : World) (hev : ErrCell w 1) :
    Calls Tryd.prog 11 #[.string s] w fun e w' => e = .returned (.tuple #[.int .i64 (pN (parV s.data.toList)), .int .i64 (pE (parV s.data.toList))]) ∧ Below w.heap.size w w' := by
  obtain ⟨l, hl⟩ : ∃ l, l = s.data.toList := ⟨_, rfl⟩
  have hll : l.length = s.size := by rw [hl, Lib.size_eq]
  rw [← hl]
  obtain ⟨neg, hneg⟩ : ∃ neg, neg = Lib.hasPrefix l [45] := ⟨_, rfl⟩
  obtain ⟨d, hd⟩ : ∃ d, d = Lib.trimPrefix l [45] := ⟨_, rfl⟩
  have hdl : d.length ≤ 1000 := by have := trim_len l; rw [← hd] at this; omega
  obtain ⟨D, hD⟩ : ∃ D : ByteArray, D = ⟨d.toArray⟩ := ⟨_, rfl⟩
  have hDl : D.data.toList = d := by rw [hD]
  have hDs : D.size ≤ 1000 := by rw [hD]; simpa [ByteArray.size] using hdl
  have F1 : numB D.data.toList = false → parV l = none := fun h => parV_num (by rw [← hd, ← hDl]; exact h)
  have F2 : (neg && (D.toList == [48])) = true → parV l = none := fun h => parV_nay (by rw [← hneg, ← hd, ← hDl, ← bytes_list]; exact h)
  have F3 : numB D.data.toList = true → (neg && (D.toList == [48])) = false → parV l = some (if neg then -(dreadV 0 D.data.toList : Int) else dreadV 0 D.data.toList) := fun h h' => by
    rw [hDl, hd, hneg]
    exact parV_yea (by rw [← hd, ← hDl]; exact h) (by rw [← hneg, ← hd, ← hDl, ← bytes_list]; exact h')
  have F := Lib.hid (And.intro F1 (And.intro F2 F3))
  clear F1 F2 F3
  have HW := Lib.hid (show (⟨(Lib.trimPrefix l [45]).toArray⟩ : ByteArray) = D ∧ Lib.hasPrefix l [45] = neg from ⟨by rw [hD, hd], hneg.symm⟩)
  have HL := Lib.hid hl
  clear hl hll hneg hd hD hDl
  go_enter Tryd.func11, Tryd.ntmps11
  go_wp2_with fail
  refine (Tryd.strings_CutPrefix s ⟨#[45]⟩ _).mono ?_
  rintro e w1 ⟨rfl, rfl⟩
  have e1 : (⟨(Lib.trimPrefix s.data.toList (ByteArray.mk #[45]).data.toList).toArray⟩ : ByteArray) = D := by rw [← HL.out]; exact HW.out.1
  have e2 : Lib.hasPrefix s.data.toList (ByteArray.mk #[45]).data.toList = neg := by rw [← HL.out]; exact HW.out.2
  rw [e1, e2]
  clear e1 e2
  go_wp2_with fail
  refine (numeral_any D (by omega) _).mono ?_
  rintro e w2 ⟨rfl, hb2⟩
  have hev2 := hev.below hb2
  obtain ⟨b, hb⟩ : ∃ b, b = numB D.data.toList := ⟨_, rfl⟩
  rw [← hb]
  have HB := Lib.hid hb
  clear hb
  obtain ⟨z, hz⟩ : ∃ z, z = (neg && (D.toList == [48])) := ⟨_, rfl⟩
  cases b with
  | false =>
    have hn := Lib.hid (F.out.1 HB.out.symm)
    clear hz
    go_wp2
    go_ret2
    exact ⟨by rw [hn.out]; rfl, hb2⟩
  | true =>
    cases z with
    | true =>
      have hn := Lib.hid (F.out.2.1 hz.symm)
      have hz1 := hz.symm
      rw [Bool.and_eq_true] at hz1
      obtain ⟨rfl, hz2⟩ := hz1
      clear hz
      go_wp2
      go_ret2
      exact ⟨by rw [hn.out]; rfl, hb2⟩
    | false =>
      have hn := F.out.2.2 HB.out.symm hz.symm
      have hne : D.data.toList ≠ [] := fun e => by have := HB.out; rw [e] at this; cases this
      have hall : D.data.toList.all isDig = true := by
        have := HB.out.symm
        unfold numB at this
        rw [Bool.and_eq_true] at this
        exact this.2
      obtain ⟨hok, hrg⟩ := puB_all _ hne hall
      obtain ⟨u, hu⟩ : ∃ u, u = dreadV 0 D.data.toList := ⟨_, rfl⟩
      rw [← hu] at hok hrg hn
      have HN := Lib.hid hn
      have HZ := Lib.hid hz
      have HOK := Lib.hid hok
      have HRG := Lib.hid hrg
      clear hn hu hne hall hok hrg hz
      have pick : neg = false ∨ (neg = true ∧ (D.toList == [48]) = false) := by
        have := HZ.out.symm
        cases neg with
        | false => exact .inl rfl
        | true => exact .inr ⟨rfl, by simpa using this⟩
      by_cases hur : u ≤ 18446744073709551615
      · rcases pick with rfl | ⟨rfl, h48⟩
        all_goals
          go_wp2_with fail
          refine (Tryd.strconv_ParseUint_10_at64_ok D (by omega) u (HOK.out hur) _).mono ?_
          rintro e w3 ⟨rfl, hw3⟩
          have hb3 := below_or hw3
          clear hw3
          go_wp2_with fail
          first
            | (with_reducible refine (signed_pos u (by omega) (by omega) _).mono ?_)
            | refine (signed_neg u (by omega) (by omega) _).mono ?_
          rintro e w4 ⟨rfl, hb4⟩
          go_wp2
          go_ret2
          exact ⟨by rw [HN.out]; rfl, Below.thenB (Below.thenB hb2 hb2.size hb3) (Nat.le_trans hb2.size hb3.size) hb4⟩
      · obtain ⟨hevl, ev, hev3, hev4⟩ := hev2
        rcases pick with rfl | ⟨rfl, h48⟩
        all_goals
          go_wp2_with fail
          refine (Tryd.strconv_ParseUint_10_at64_range D (by omega) (HRG.out (by omega)) ev _ hev3 hev4).mono ?_
          rintro e w3 ⟨N, rfl, hN, hN2, hb3⟩
          clear hN2
          go_wp2
          go_ret2
          have hn1 := HN.out
          simp only [if_true, Bool.false_eq_true, if_false] at hn1
          have hr := ret_bey hn1 (by omega)
          exact ⟨hr, Below.thenB hb2 hb2.size hb3⟩
set_option maxHeartbeats 400000 in
theorem texts_walk (v0 : Value) (s : ByteArray) (v1 : Value) (n : Int) (w : World) (y0 : v0 = .string s ∧ s.size ≤ maxLen) (y1 : v1 = .int .i64 n ∧ (Lit.int .i64 n).wf = true) (htab : Lib.TabIs Tryd.prog w "internal/strconv.uint64pow10" .u64 Lib.pow10Tab) (hev : ErrCell w 1) :
    Calls Tryd.prog 3 #[v0, v1] w fun e w' => e = .returned (.bool true) ∧ Below w.heap.size w w' := by
  obtain ⟨rfl, hmax⟩ := y0
  obtain ⟨rfl, y1⟩ := y1
  obtain ⟨h0, h1⟩ := wf_i64 y1
  unfold maxLen at hmax
  by_cases hs : s.size ≤ 60
  · have hd : decide ((60 : Int) < (s.size : Int)) = false := by simp; omega
    have HT := Lib.hid htab
    clear htab
    go_enter Tryd.func3, Tryd.ntmps3
    go_wp2_with fail
    refine (parse_any s (by omega) _ hev).mono ?_
    rintro e w1 ⟨rfl, hb1⟩
    obtain ⟨x, hx⟩ : ∃ x, x = pN (parV s.data.toList) := ⟨_, rfl⟩
    obtain ⟨y, hy⟩ : ∃ y, y = pE (parV s.data.toList) := ⟨_, rfl⟩
    rw [← hx, ← hy]
    have HX := Lib.hid hx
    have HY := Lib.hid hy
    clear hx hy
    go_wp2_with fail
    refine (rparse_any s (by omega) _).mono ?_
    rintro e w2 ⟨rfl, hb2⟩
    rw [← HX.out, ← HY.out]
    have hb02 := Below.thenB hb1 hb1.size hb2
    have hz2 := hb02.size
    go_wp2_with fail
    refine (print_any n h0 h1 _ (tab_below HT.out hb02)).mono ?_
    rintro e w3 ⟨rfl, hb3⟩
    have hb03 := Below.thenB hb02 hz2 hb3
    have hz3 := hb03.size
    go_wp2_with fail
    refine (rprint_any n h0 h1 _).mono ?_
    rintro e w4 ⟨rfl, hb4⟩
    have hb04 := Below.thenB hb03 hz3 hb4
    have hz4 := hb04.size
    go_wp2_with fail
    refine (awake_any _).mono ?_
    rintro e w5 ⟨rfl, hb5⟩
    go_wp2
    go_ret
    exact ⟨rfl, Below.thenB hb04 hz4 hb5⟩
  · have hd : decide ((60 : Int) < (s.size : Int)) = true := by simp; omega
    go_enter Tryd.func3, Tryd.ntmps3
    go_wp2_with fail
    refine (awake_any _).mono ?_
    rintro e w5 ⟨rfl, hb5⟩
    go_wp2
    go_ret
    exact ⟨rfl, hb5⟩
end Go.Proofs.YtbodldlenoehfaaDoor
