/- The laws of seal: their joins, their examples; SealSums, SealLong, SealOpens. -/
import Derived.Test.YtfoejfneggcncabDoorSealA
import Derived.Lib.Builder
import Derived.Test.YtfoejfneggcncabDoorRead
namespace Go.Proofs.YtfoejfneggcncabDoor
open Go.RowKit Go.ChangeShapes Go.WideShapes Go.ChangeAt
/-- A list of texts, as an argument. -/
def TArg (W : World) (v : Value) (ss : List ByteArray) : Prop := ∃ a m c, v = .slice a m c ∧ ss.length = m ∧ m ≤ c ∧ c ≤ maxLen ∧ Texts W a ss ∧ ∀ s ∈ ss, s.size ≤ maxLen
theorem texts_of {W : World} {v : Value} {ss : List ByteArray} (h : RL 1 RS W [v] ss) : TArg W v ss := by
  obtain ⟨a, m, c, h1, h2, h3, h4, h5⟩ := h
  refine ⟨a, m, c, by simpa using h1, h2, h3, h4, ?_⟩
  rcases h5 with rfl | ⟨hn, b, o, ha, hlt, h5⟩
  · exact ⟨.inl rfl, fun s hs => by cases hs⟩
  · refine ⟨.inr ⟨hn, b, o, ha, hlt, fun i s hi => ?_⟩, fun s hs => ?_⟩
    · obtain ⟨cs', k1, k2, k3, _⟩ := h5 i s hi
      rw [k3] at k2
      have := k2 0 (by decide)
      simpa using this
    · obtain ⟨i, hi, rfl⟩ := List.mem_iff_getElem.1 hs
      obtain ⟨cs', _, _, _, w1⟩ := h5 i _ (List.getElem?_eq_getElem hi)
      exact w1
set_option maxRecDepth 100000 in
theorem rd_texts {H : Type} {enc : TypeId × Value → H} {W : World} {base : Nat} {v : Value} {d : DataW H} {p : List MemPlace} (hv : Value.okWide Tryd.prog W .any base 32 v) (h : DataW.Trod enc Tryd.prog W 0 (fun _ => true) true 32 v d p) :
    ∃ ss, TArg W v ss := by
  obtain ⟨ss, hx⟩ := rd_list Tryd.underlying32 (op_list (sz := 1) Tryd.underlying32 (by kernel_rfl) (by decide) (op_str (enc := enc) (W := W) Tryd.underlying9)) hv h
  exact ⟨ss, texts_of hx⟩
theorem two_texts (w : World) (x y : ByteArray) : Texts (w.alloc (.cells #[.string x, .string y] 9)) (some ⟨w.heap.size, 0, none⟩) [x, y] := by
  refine .inr ⟨by simp, w.heap.size, 0, rfl, by simp, fun i s hi => ?_⟩
  rcases i with _ | _ | i
  · simp at hi; subst hi; go_simp
  · simp at hi; subst hi; go_simp
  · simp at hi
theorem open_ab : openB (frameB [97, 98]) = ([97, 98], 14, 0) := by decide +kernel
theorem crc_nine : crc [49, 50, 51, 52, 53, 54, 55, 56, 57] = 11051210869376104954 := by decide +kernel
set_option maxRecDepth 100000 in
set_option maxHeartbeats 1000000 in
theorem awake5_any (w : World) (hN : Nibs w) : Calls Tryd.prog 5 #[] w fun e w' => e = .returned (.bool true) ∧ Below w.heap.size w w' := by
  have HN := Lib.hid hN
  clear hN
  have HA := Lib.hid (fun (W : World) (o : Obj) => (Below.refl W.heap.size W).alloc (Nat.le_refl _) o)
  go_enter Tryd.func5, Tryd.ntmps5
  go_wp2_with fail
  refine (seal_frame _ 2 2 [⟨#[97]⟩, ⟨#[98]⟩] _ rfl (by omega) (Nat.le_refl _) (by decide) (two_texts w _ _) (HN.out.below (HA.out w _))).mono ?_
  rintro e w1 ⟨rfl, hb1⟩
  have hB1 := Below.thenB (HA.out w _) (by simp) hb1
  rw [show joinB [⟨#[97]⟩, ⟨#[98]⟩] = [97, 98] from rfl]
  obtain ⟨F, hF⟩ : ∃ F : ByteArray, F = ⟨(frameB [97, 98]).toArray⟩ := ⟨_, rfl⟩
  rw [← hF]
  have hFl : F.data.toList = frameB [97, 98] := by rw [hF]
  have hFs : F.size ≤ 100 := by rw [hF, ba_len, frame_len]; decide
  have HF := Lib.hid hFl
  clear hF hFl
  go_wp2_with fail
  refine (seal_open F (by omega) _ (HN.out.below hB1)).mono ?_
  rintro e w2 ⟨rfl, hb2⟩
  have hB2 := Below.thenB hB1 hB1.size hb2
  rw [HF.out, open_ab]
  unfold openE
  go_wp2_with fail
  have hA2 := HA.out w2 (.cells #[.string ⟨#[49, 50, 51, 52]⟩, .string ⟨#[53, 54, 55, 56, 57]⟩] 9)
  refine (seal_of (some ⟨w2.heap.size, 0, none⟩) 2 2 [⟨#[49, 50, 51, 52]⟩, ⟨#[53, 54, 55, 56, 57]⟩] _ rfl (by omega) (fun s hs => by simp at hs; rcases hs with rfl | rfl <;> (unfold maxLen; decide)) (two_texts w2 _ _) ((HN.out.below hB2).below hA2)).mono ?_
  rintro e w3 ⟨rfl, hb3⟩
  have hB3 := Below.thenB (Below.thenB hB2 hB2.size hA2) (by have := hB2.size; simp; omega) hb3
  rw [show joinB [⟨#[49, 50, 51, 52]⟩, ⟨#[53, 54, 55, 56, 57]⟩] = [49, 50, 51, 52, 53, 54, 55, 56, 57] from rfl, crc_nine]
  go_wp2
  go_ret
  exact ⟨rfl, hB3⟩
theorem allB_len : ∀ (f : Nat) (l : List UInt8), l.length ≤ 1048576 → (allB f l).1.length ≤ l.length
  | 0, l, _ => by simp [allB]
  | f + 1, l, hl => by
    by_cases h : l = []
    · simp [allB, h]
    · rcases openB_cases l with ⟨d, n, he, h12, hn, _⟩ | he | he
      · have ih := allB_len f (l.drop n) (by rw [List.length_drop]; omega)
        simp only [allB, if_neg h, he, List.length_cons]
        rw [List.length_drop] at ih
        omega
      · simp [allB, h, he]
      · simp [allB, h, he]
theorem nibs_of {w : World} (h : Lib.TabIs Tryd.prog w "afflux/seal.nibbles" .u64 nibs) (hg : Tryd.prog.globalNamed "afflux/seal.nibbles" = some 0) : Nibs w := by
  have hc : ∀ n, n < 16 → w.cell? ⟨0, n, none⟩ = some (.int .u64 ((sh 4 n : Nat) : Int)) := by
    intro n hn
    have h1 := h.cell hg n (by exact hn)
    have h2 := nibs_sh n hn
    rw [List.getD_eq_getElem?_getD, h2] at h1
    exact h1
  exact ⟨lt_of_cell (hc 0 (by omega)), hc⟩
def JoinRet (ss : List ByteArray) (e : Ending) : Prop := ∃ (s : ByteArray) (ok : Bool), e = .returned (.tuple #[.string s, .bool ok]) ∧ (ok = true → ss.length ≤ 20 ∧ s.data.toList = joinB ss ∧ s.size ≤ 1500)
set_option maxRecDepth 100000 in
set_option maxHeartbeats 1000000 in
theorem join5_any (a : Option Addr) (m c : Nat) (ss : List ByteArray) (w : World) (hm : ss.length = m) (hl : m ≤ maxLen) (hz : ∀ s ∈ ss, s.size ≤ maxLen) (hT : Texts w a ss) :
    Calls Tryd.prog 10 #[.slice a m c] w fun e w' => JoinRet ss e ∧ w = w' := by
  unfold maxLen at hl
  have HM := Lib.hid hm
  have HT := Lib.hid hT
  have HZ := Lib.hid hz
  clear hm hT hz
  go_enter Tryd.func10, Tryd.ntmps10
  go_wp2
  go_loop [4, 5] (fun z i => ∃ (k : Nat) (x : ByteArray), k ≤ m ∧ k ≤ 20 ∧ i = .int .i64 (k : Int) ∧ z = .string x ∧ Hid (x.data.toList = joinB (ss.take k)) ∧ x.size ≤ 1500 * k) (fun _ i => m - (intOf i).toNat)
  case atStart => exact ⟨0, ⟨#[]⟩, Nat.zero_le _, Nat.zero_le _, rfl, rfl, Lib.hid (by rw [List.take_zero]; rfl), Nat.zero_le _⟩
  case round =>
    obtain ⟨k, x, hk, hk20, rfl, rfl, hX, hxs⟩ := hrel
    by_cases hlt : k < m
    · have hlt' : decide ((k : Int) < (m : Int)) = true := decide_eq_true (by omega)
      by_cases h20 : k < 20
      · have h20' : decide ((k : Int) < 20) = true := decide_eq_true (by omega)
        rcases HT.out with hv0 | ⟨hnn, bs, o, rfl, hbs, hcz⟩
        · have := HM.out
          rw [hv0] at this
          simp at this
          omega
        obtain ⟨s, hsk⟩ : ∃ s, ss[k]? = some s := ⟨_, List.getElem?_eq_getElem (by rw [HM.out]; exact hlt)⟩
        have hc := hcz k s hsk
        have hsz := HZ.out s (List.mem_of_getElem? hsk)
        unfold maxLen at hsz
        have hts : ss.take (k + 1) = ss.take k ++ [s] := by
          rw [List.take_add_one, hsk]; rfl
        have HTS := Lib.hid hts
        clear hcz hsk hts
        by_cases hbig : 1500 < s.size
        · have hd : decide ((1500 : Int) < (s.size : Int)) = true := decide_eq_true (by omega)
          go_wp2
          go_ret2
          exact ⟨⟨_, _, rfl, fun h => by cases h⟩, rfl⟩
        · have hd : decide ((1500 : Int) < (s.size : Int)) = false := decide_eq_false (by omega)
          obtain ⟨Y, hY⟩ : ∃ Y : ByteArray, Y = x ++ s := ⟨_, rfl⟩
          have hYl : Y.data.toList = joinB (ss.take (k + 1)) := by rw [HTS.out, joinB_snoc, ← hX.out, hY]; simp
          have hYs : Y.size ≤ 1500 * (k + 1) := by
            have : Y.size = x.size + s.size := by rw [hY]; exact ByteArray.size_append
            omega
          have hYe := hY.symm
          have HY := Lib.hid hYl
          clear hY hYl
          go_wp2
          go_round
          case rel => exact ⟨k + 1, Y, by omega, by omega, by go_num, rfl, HY, hYs⟩
          case measure => simp [intOf]; omega
      · have h20' : decide ((k : Int) < 20) = false := decide_eq_false (by omega)
        have h21 : decide ((m : Int) ≤ 20) = false := decide_eq_false (by omega)
        go_wp2
        go_ret2
        exact ⟨⟨_, _, rfl, fun h => by cases h⟩, rfl⟩
    · have hlt' : decide ((k : Int) < (m : Int)) = false := decide_eq_false (by omega)
      have h21 : decide ((m : Int) ≤ 20) = true := decide_eq_true (by omega)
      have he : ss.take k = ss := List.take_of_length_le (by rw [HM.out]; omega)
      have hX2 := hX.out
      rw [he] at hX2
      have HX2 := Lib.hid hX2
      clear he hX2 hX
      by_cases hs : x.size ≤ 1500
      · have hd : decide ((x.size : Int) ≤ 1500) = true := decide_eq_true (by omega)
        go_wp2
        go_ret2
        exact ⟨⟨_, _, rfl, fun h => ⟨by rw [HM.out]; omega, HX2.out, hs⟩⟩, rfl⟩
      · have hd : decide ((x.size : Int) ≤ 1500) = false := decide_eq_false (by omega)
        go_wp2
        go_ret2
        exact ⟨⟨_, _, rfl, fun h => by cases h⟩, rfl⟩
end Go.Proofs.YtfoejfneggcncabDoor
