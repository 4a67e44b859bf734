/- Contracts of calc's texts: Print, numeral, Parse. -/
import Derived.Test.YtbodldlenoehfaaDoorCalcA
import Derived.Test.YtbodldlenoehfaaDoorShelf
import Derived.Test.YtbodldlenoehfaaDoorItoa
import Derived.Lib.ConvBytes
import Derived.Lib.AppendIntMem
namespace Go.Proofs.YtbodldlenoehfaaDoor
open Go.RowKit
theorem bytes_list (s : ByteArray) : s.toList = s.data.toList := ByteArray.toList_eq s
theorem print_any (n : Int) (h0 : -9223372036854775808 ≤ n) (h1 : n ≤ 9223372036854775807) (w : World) (htab : Lib.TabIs Tryd.prog w "internal/strconv.uint64pow10" .u64 Lib.pow10Tab) :
    Calls Tryd.prog 13 #[.int .i64 n] w fun e w' => e = .returned (.string ⟨(Lib.itoa n).toArray⟩) ∧ Below w.heap.size w w' := by
  go_enter Tryd.func13, Tryd.ntmps13
  go_wp2_with fail
  refine (Tryd.strconv_FormatInt_10 n h0 h1 _ htab).mono ?_
  rintro e w1 ⟨rfl, k, os, rfl⟩
  go_wp2
  go_ret
  exact ⟨rfl, Lib.below_grow _ _ (Nat.le_refl _) _ _⟩
theorem data_head (s : ByteArray) (h : 0 < s.size) : s.data.toList.head? = some s[0] := by
  rw [List.head?_eq_getElem?, Array.getElem?_toList, Array.getElem?_eq_getElem (by simpa using h)]
  rfl
theorem numB_none (s : ByteArray) (h : s.toList = []) : numB s.data.toList = false := by
  rw [← bytes_list, h]; rfl
theorem numB_nought (s : ByteArray) (hp : 0 < s.size) (h0 : (s[0].toNat : Int) = 48) (h1 : s.toList.isEmpty = true ∨ (!s.toList == [48]) = true) (hn : ¬ s.toList = []) : numB s.data.toList = false := by
  have h2 : s[0] = 48 := by
    apply UInt8.toNat_inj.mp
    have : (48 : UInt8).toNat = 48 := rfl
    omega
  have h3 : (s.toList == [48]) = false := by
    rcases h1 with h1 | h1
    · simp at h1; exact absurd h1 hn
    · simpa using h1
  unfold numB
  rw [data_head s hp, h2, ← bytes_list, h3]
  simp
theorem numB_all (s : ByteArray) (hp : 0 < s.size) (hn : ¬ s.toList = []) (h : ¬ (s[0].toNat : Int) = 48 ∨ (!s.toList == [48]) = false) : numB s.data.toList = s.data.toList.all isDig := by
  have he : s.data.toList.isEmpty = false := by
    rw [← bytes_list]; simpa using hn
  unfold numB
  rw [data_head s hp, he]
  rcases h with h | h
  · have : ((some s[0] : Option UInt8) == some 48) = false := by
      apply beq_false_of_ne
      intro e
      injection e with e
      rw [e] at h
      exact h rfl
    rw [this]; rfl
  · have h4 : (s.data.toList == [48]) = true := by rw [← bytes_list]; simpa using h
    rw [h4]; simp
set_option maxRecDepth 100000 in
theorem numeral_any (s : ByteArray) (hl : s.size ≤ 281474976710656) (w : World) :
    Calls Tryd.prog 43 #[.string s] w fun e w' => e = .returned (.bool (numB s.data.toList)) ∧ Below w.heap.size w w' := by
  have hcv := Lib.run_convert_string_bytes (P := Tryd.prog) w 9 74 5 s (u := .string) Tryd.underlying9 Tryd.underlying74 Tryd.underlying5
  obtain ⟨W1, hW1⟩ : ∃ W1, W1 = Lib.bytesWorld w 5 s := ⟨_, rfl⟩
  have hB : ∀ j, j < s.size → W1.cell? ⟨w.heap.size, j, none⟩ = some (.int .u8 (s.data.toList.getD j 0).toNat) := fun j hj => by rw [hW1]; exact Lib.bytesWorld_cell w 5 s j hj
  have hbw : Below w.heap.size w W1 := by rw [hW1]; exact Lib.bytesWorld_below w 5 s
  have HB := Lib.hid (show (∀ j, j < s.size → W1.cell? ⟨w.heap.size, j, none⟩ = some (.int .u8 (s.data.toList.getD j 0).toNat)) ∧ Below w.heap.size w W1 from ⟨hB, hbw⟩)
  clear hB hbw
  rw [← hW1] at hcv
  have hlen : s.data.toList.length = s.size := by rw [Lib.size_eq]
  have HW := Lib.hid hW1
  clear hW1
  obtain ⟨b, hb⟩ : ∃ b, b = numB s.data.toList := ⟨_, rfl⟩
  rw [← hb]
  go_enter Tryd.func43, Tryd.ntmps43
  go_wp2
  case _ h1 => (go_ret; exact ⟨by rw [hb, numB_none s h1]; rfl, Below.refl _ _⟩)
  case _ h1 h2 h3 h4 => (go_ret; exact ⟨by rw [hb, numB_nought s h2 h3 h4 h1]; rfl, Below.refl _ _⟩)
  case _ => (
    have hQ : s.toList.isEmpty = false ∧ (!s.toList == [48]) = false := ‹_›
    replace hb := hb.trans (numB_all s ‹_› ‹_› (.inr hQ.2))
    obtain ⟨hE, hF⟩ := hQ
    simp only [hE, hF, Bool.or_self]
    clear hE hF
    have hB := HB.out.1
    have hbw := HB.out.2
    clear HB HW hcv
    go_loopw [19] (fun vi w' => ∃ (k : Nat), vi = .int .i64 (k : Int) ∧ w' = W1 ∧ k ≤ s.size ∧ Hid (b = (s.data.toList.drop k).all isDig)) (fun vi _ => s.size - (intOf vi).toNat)
    case atStart => exact ⟨0, rfl, rfl, Nat.zero_le _, hb⟩
    case round =>
      obtain ⟨k, rfl, rfl, hk, hh⟩ := hrel
      clear hb
      replace hh := hh.out
      by_cases hkn : k < s.size
      · have hc := hB k hkn
        rw [List.drop_eq_getElem_cons (by omega), List.all_cons] at hh
        have hget : s.data.toList.getD k 0 = s.data.toList[k]'(by omega) := by simp [List.getD, List.getElem?_eq_getElem (show k < s.data.toList.length by omega)]
        rw [hget] at hc
        generalize s.data.toList[k]'(by omega) = c at hc hh
        have hc256 : c.toNat < 256 := c.toNat_lt
        clear hB hget
        by_cases hd : 48 ≤ c.toNat ∧ c.toNat ≤ 57
        · obtain ⟨hd0, hd1⟩ := hd
          have hi : b = (s.data.toList.drop (k + 1)).all isDig := by
            rw [hh]; simp [isDig, hd0, hd1]
          clear hh
          have hh := Lib.hid hi
          clear hi
          go_wp2
          go_roundw
          case rel => exact ⟨k + 1, rfl, trivial, by omega, hh⟩
          case measure => simp [intOf]; omega
        · have hi : b = false := by
            rw [hh]; simp only [isDig]
            have : (decide (48 ≤ c.toNat) && decide (c.toNat ≤ 57)) = false := by
              by_cases h5 : 48 ≤ c.toNat
              · have : ¬ c.toNat ≤ 57 := fun h6 => hd ⟨h5, h6⟩
                simp [this]
              · simp [h5]
            rw [this, Bool.false_and]
          clear hh
          have hh := Lib.hid hi
          clear hi
          by_cases h5 : c.toNat < 48
          · go_wp2
            go_ret
            exact ⟨by rw [hh.out]; rfl, hbw⟩
          · have h6 : 57 < c.toNat := by omega
            go_wp2
            go_ret
            exact ⟨by rw [hh.out]; rfl, hbw⟩
      · have : k = s.data.toList.length := by omega
        have hi : b = true := by rw [hh, List.drop_eq_nil_of_le (by omega)]; rfl
        clear hh this
        have hh := Lib.hid hi
        clear hi
        clear hB
        go_wp2
        go_ret
        exact ⟨by rw [hh.out]; rfl, hbw⟩
  )
  case _ h1 h2 h3 h4 => exact absurd (by simpa using h4) h1
  case _ => (
    have hE : s.toList.isEmpty = false := ‹_›
    replace hb := hb.trans (numB_all s ‹_› ‹_› (.inl ‹_›))
    simp only [hE]
    clear hE
    have hB := HB.out.1
    have hbw := HB.out.2
    clear HB HW hcv
    go_loopw [19] (fun vi w' => ∃ (k : Nat), vi = .int .i64 (k : Int) ∧ w' = W1 ∧ k ≤ s.size ∧ Hid (b = (s.data.toList.drop k).all isDig)) (fun vi _ => s.size - (intOf vi).toNat)
    case atStart => exact ⟨0, rfl, rfl, Nat.zero_le _, hb⟩
    case round =>
      obtain ⟨k, rfl, rfl, hk, hh⟩ := hrel
      clear hb
      replace hh := hh.out
      by_cases hkn : k < s.size
      · have hc := hB k hkn
        rw [List.drop_eq_getElem_cons (by omega), List.all_cons] at hh
        have hget : s.data.toList.getD k 0 = s.data.toList[k]'(by omega) := by simp [List.getD, List.getElem?_eq_getElem (show k < s.data.toList.length by omega)]
        rw [hget] at hc
        generalize s.data.toList[k]'(by omega) = c at hc hh
        have hc256 : c.toNat < 256 := c.toNat_lt
        clear hB hget
        by_cases hd : 48 ≤ c.toNat ∧ c.toNat ≤ 57
        · obtain ⟨hd0, hd1⟩ := hd
          have hi : b = (s.data.toList.drop (k + 1)).all isDig := by
            rw [hh]; simp [isDig, hd0, hd1]
          clear hh
          have hh := Lib.hid hi
          clear hi
          go_wp2
          go_roundw
          case rel => exact ⟨k + 1, rfl, trivial, by omega, hh⟩
          case measure => simp [intOf]; omega
        · have hi : b = false := by
            rw [hh]; simp only [isDig]
            have : (decide (48 ≤ c.toNat) && decide (c.toNat ≤ 57)) = false := by
              by_cases h5 : 48 ≤ c.toNat
              · have : ¬ c.toNat ≤ 57 := fun h6 => hd ⟨h5, h6⟩
                simp [this]
              · simp [h5]
            rw [this, Bool.false_and]
          clear hh
          have hh := Lib.hid hi
          clear hi
          by_cases h5 : c.toNat < 48
          · go_wp2
            go_ret
            exact ⟨by rw [hh.out]; rfl, hbw⟩
          · have h6 : 57 < c.toNat := by omega
            go_wp2
            go_ret
            exact ⟨by rw [hh.out]; rfl, hbw⟩
      · have : k = s.data.toList.length := by omega
        have hi : b = true := by rw [hh, List.drop_eq_nil_of_le (by omega)]; rfl
        clear hh this
        have hh := Lib.hid hi
        clear hi
        clear hB
        go_wp2
        go_ret
        exact ⟨by rw [hh.out]; rfl, hbw⟩
  )
  case _ => (
    have h1 : ¬ s.toList = [] := ‹_›
    have h2 : ¬ 0 < s.size := ‹_›
    exfalso
    apply h1
    rw [bytes_list]
    exact List.eq_nil_of_length_eq_zero (by omega))
theorem below_or {w w1 : World} {e : TypeId} {s : ByteArray} (h : w1 = w ∨ w1 = Lib.bytesWorld w e s) : Below w.heap.size w w1 := by
  rcases h with rfl | rfl
  · exact Below.refl _ _
  · exact Lib.bytesWorld_below _ _ _
theorem itoa_trim (n : Int) : Lib.trimPrefix (Lib.itoa n) [45] = Lib.decDigits n.natAbs ∧ Lib.hasPrefix (Lib.itoa n) [45] = decide (n < 0) := by
  by_cases h : n < 0
  · have : Lib.itoa n = 45 :: Lib.decDigits n.natAbs := by unfold Lib.itoa; rw [if_pos h]
    rw [this]
    simp [Lib.trimPrefix, Lib.hasPrefix, List.isPrefixOf, h]
  · have : Lib.itoa n = Lib.decDigits n.natAbs := by unfold Lib.itoa; rw [if_neg h]; congr 1; omega
    rw [this]
    have hp := dec_not_minus n.natAbs []
    simp [Lib.trimPrefix, hp, h]
set_option maxRecDepth 100000 in
/-- What was printed is parsed. -/
theorem parse_itoa (n : Int) (h0 : -9223372036854775808 ≤ n) (h1 : n ≤ 9223372036854775807) (w : World) :
    Calls Tryd.prog 11 #[.string ⟨(Lib.itoa n).toArray⟩] w fun e w' => e = .returned (.tuple #[.int .i64 n, .int .i64 0]) ∧ Below w.heap.size w w' := by
  obtain ⟨ht, hp⟩ := itoa_trim n
  have hnum := num_dec n.natAbs
  have hz := dec_zero n.natAbs
  have hok := puB_dec n.natAbs (by omega)
  have hlen : (Lib.decDigits n.natAbs).length ≤ 21 := by
    have := Lib.itoa_length_le n h0 h1
    by_cases h : n < 0
    · have e : Lib.itoa n = 45 :: Lib.decDigits n.natAbs := by unfold Lib.itoa; rw [if_pos h]
      rw [e] at this; simp at this; omega
    · have e : Lib.itoa n = Lib.decDigits n.natAbs := by unfold Lib.itoa; rw [if_neg h]; congr 1; omega
      rw [e] at this; exact this
  obtain ⟨d, hd⟩ : ∃ d, d = Lib.decDigits n.natAbs := ⟨_, rfl⟩
  rw [← hd] at ht hnum hz hok hlen
  have hs0 : ((decide (n < 0)) && (d == [48])) = false := by
    by_cases h : n < 0
    · have : ¬ d = [48] := fun e => by have := hz.mp e; omega
      simp [this]
    · simp [h]
  go_enter Tryd.func11, Tryd.ntmps11
  go_wp2_with fail
  refine (Tryd.strings_CutPrefix ⟨(Lib.itoa n).toArray⟩ ⟨#[45]⟩ _).mono ?_
  rintro e w1 ⟨rfl, rfl⟩
  have e1 : Lib.trimPrefix (ByteArray.mk (Lib.itoa n).toArray).data.toList (ByteArray.mk #[45]).data.toList = d := ht
  have e2 : Lib.hasPrefix (ByteArray.mk (Lib.itoa n).toArray).data.toList (ByteArray.mk #[45]).data.toList = decide (n < 0) := hp
  rw [e1, e2]
  have hn0 : (numB d && !((decide (n < 0)) && (d == [48]))) = true := by rw [hnum, hs0]; rfl
  obtain ⟨neg, hneg⟩ : ∃ neg, neg = decide (n < 0) := ⟨_, rfl⟩
  obtain ⟨D, hD⟩ : ∃ D : ByteArray, D = ⟨d.toArray⟩ := ⟨_, rfl⟩
  rw [← hneg, ← hD]
  have hDl : D.data.toList = d := by rw [hD]
  have hDs : D.size ≤ 21 := by rw [hD]; simpa [ByteArray.size] using hlen
  have H := Lib.hid (show _ ∧ _ ∧ _ ∧ _ ∧ _ ∧ _ ∧ _ from ⟨hnum, hs0, hok, hneg, hD, hDl, hd⟩)
  clear ht hp hnum hz hok hlen hd hs0 e1 e2 hn0 hneg hD hDl
  go_wp2_with fail
  refine (numeral_any D (by omega) _).mono ?_
  rintro e w2 ⟨rfl, hb2⟩
  have e3 : numB D.data.toList = true := by rw [H.out.2.2.2.2.2.1]; exact H.out.1
  rw [e3]
  have e4 : (neg && (D.toList == [48])) = false := by rw [bytes_list, H.out.2.2.2.2.2.1, H.out.2.2.2.1]; exact H.out.2.1
  have hok : Lib.parseUintB 64 D.data.toList = .ok n.natAbs := by rw [H.out.2.2.2.2.2.1]; exact H.out.2.2.1
  have hok := Lib.hid hok
  have hsg : n = if neg then -(n.natAbs : Int) else (n.natAbs : Int) := by
    rw [H.out.2.2.2.1]
    by_cases h : n < 0
    · simp [h]; omega
    · simp [h]; omega
  obtain ⟨u, hu⟩ : ∃ u : Nat, u = n.natAbs := ⟨_, rfl⟩
  rw [← hu] at hok hsg
  have hu1 : u ≤ 9223372036854775808 := by omega
  clear hu H e3
  cases neg with
  | false =>
    simp only [Bool.false_eq_true, if_false] at hsg
    go_wp2_with fail
    refine (Tryd.strconv_ParseUint_10_at64_ok D (by omega) u hok.out _).mono ?_
    rintro e w3 ⟨rfl, hw3⟩
    have hb3 := below_or hw3
    clear hw3
    go_wp2_with fail
    refine (signed_pos u (by omega) (by omega) _).mono ?_
    rintro e w4 ⟨rfl, hb4⟩
    go_wp2
    go_ret2
    have ho : okN (u : Int) = n := by rw [← hsg]; unfold okN; omega
    have he : erN (u : Int) = 0 := by rw [← hsg]; unfold erN; omega
    exact ⟨by rw [ho, he]; rfl, Below.thenB (Below.thenB hb2 hb2.size hb3) (Nat.le_trans hb2.size hb3.size) hb4⟩
  | true =>
    simp only [if_true] at hsg
    have e5 : (D.toList == [48]) = false := by simpa using e4
    clear e4
    go_wp2_with fail
    refine (Tryd.strconv_ParseUint_10_at64_ok D (by omega) u hok.out _).mono ?_
    rintro e w3 ⟨rfl, hw3⟩
    have hb3 := below_or hw3
    clear hw3
    go_wp2_with fail
    refine (signed_neg u (by omega) (by omega) _).mono ?_
    rintro e w4 ⟨rfl, hb4⟩
    go_wp2
    go_ret2
    have ho : okN (-(u : Int)) = n := by rw [← hsg]; unfold okN; omega
    have he : erN (-(u : Int)) = 0 := by rw [← hsg]; unfold erN; omega
    exact ⟨by rw [ho, he]; rfl, Below.thenB (Below.thenB hb2 hb2.size hb3) (Nat.le_trans hb2.size hb3.size) hb4⟩
end Go.Proofs.YtbodldlenoehfaaDoor
