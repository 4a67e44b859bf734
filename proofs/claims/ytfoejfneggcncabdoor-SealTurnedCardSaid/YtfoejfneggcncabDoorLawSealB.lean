/- SealBack: texts that were framed are told as they were; cut off anywhere, those ahead. -/
import Derived.Test.YtfoejfneggcncabDoorLawSeal
namespace Go.Proofs.YtfoejfneggcncabDoor
open Go.RowKit
/-- Frames, one behind the other. -/
def framesB (ss : List ByteArray) : List UInt8 := ss.flatMap fun s => frameB s.data.toList
theorem framesB_snoc (ss : List ByteArray) (s : ByteArray) : framesB (ss ++ [s]) = framesB ss ++ frameB s.data.toList := by simp [framesB]
theorem framesB_cons (ss : List ByteArray) (s : ByteArray) : framesB (s :: ss) = frameB s.data.toList ++ framesB ss := by simp [framesB]
theorem frameB_len (l : List UInt8) : (frameB l).length = l.length + 12 := by
  unfold frameB
  rw [List.length_append, List.length_append]
  have : (hd4 l.length).length = 4 := rfl
  have : (le8 (crc (hd4 l.length ++ l))).length = 8 := rfl
  omega
theorem framesB_len (ss : List ByteArray) : (framesB ss).length = (joinB ss).length + 12 * ss.length := by
  induction ss with
  | nil => rfl
  | cons s t ih =>
    have e : joinB (s :: t) = s.data.toList ++ joinB t := by simp [joinB]
    rw [framesB_cons, List.length_append, frameB_len, ih, e, List.length_append, List.length_cons]; omega
theorem told_hd (n : Nat) (hn : n < 4294967296) (r : List UInt8) : told (hd4 n ++ r) = n := by
  show num4 (UInt8.ofNat (n / 16777216)) (UInt8.ofNat (n / 65536)) (UInt8.ofNat (n / 256)) (UInt8.ofNat n) = n
  unfold num4
  simp only [UInt8.toNat_ofNat']
  omega
theorem frameB_form (l r : List UInt8) : frameB l ++ r = hd4 l.length ++ (l ++ (le8 (crc (hd4 l.length ++ l)) ++ r)) := by
  unfold frameB; simp
theorem open_frame (l r : List UInt8) (hl : l.length ≤ 65536) : openB (frameB l ++ r) = (l, l.length + 12, 0) := by
  have h4 : (hd4 l.length).length = 4 := rfl
  have h8 : (le8 (crc (hd4 l.length ++ l))).length = 8 := rfl
  have hto : told (frameB l ++ r) = l.length := by rw [frameB_form, told_hd _ (by omega)]
  have hlen : (frameB l ++ r).length = l.length + 12 + r.length := by rw [List.length_append, frameB_len]
  have htk : (frameB l ++ r).take (4 + l.length) = hd4 l.length ++ l := by
    rw [frameB_form, ← List.append_assoc]
    exact List.take_left' (by rw [List.length_append, h4])
  have hdp : (frameB l ++ r).drop (4 + l.length) = le8 (crc (hd4 l.length ++ l)) ++ r := by
    rw [frameB_form, ← List.append_assoc]
    exact List.drop_left' (by rw [List.length_append, h4])
  have hd4' : ((frameB l ++ r).drop 4).take l.length = l := by
    rw [frameB_form, List.drop_left' h4]
    exact List.take_left' rfl
  unfold openB
  rw [hto, hlen, if_neg (by omega), if_neg (by omega), if_neg (by omega)]
  have hw : wholeB (frameB l ++ r) l.length = true := by
    unfold wholeB
    rw [hdp, htk, List.take_left' h8]
    exact decide_eq_true rfl
  rw [if_pos hw, hd4']
theorem open_cut (l : List UInt8) (k : Nat) (hl : l.length ≤ 65536) (hk : k < l.length + 12) : openB ((frameB l).take k) = ([], 0, 1) := by
  have hlen : ((frameB l).take k).length = k := by rw [List.length_take, frameB_len]; omega
  unfold openB
  rw [hlen]
  by_cases h4 : k < 4
  · rw [if_pos h4]
  · have hto : told ((frameB l).take k) = l.length := by
      have e : (frameB l).take k = hd4 l.length ++ (l ++ le8 (crc (hd4 l.length ++ l))).take (k - 4) := by
        have := frameB_form l []
        rw [List.append_nil, List.append_nil] at this
        rw [this, List.take_append, List.take_of_length_le (show (hd4 l.length).length ≤ k from by show 4 ≤ k; omega)]; rfl
      rw [e, told_hd _ (by omega)]
    rw [hto, if_neg h4, if_neg (by omega), if_pos (by omega)]
theorem all_frames : ∀ (f : Nat) (ss : List ByteArray), (∀ s ∈ ss, s.size ≤ 65536) → (framesB ss).length ≤ f → allB f (framesB ss) = (ss, (framesB ss).length, 0)
  | 0, [], _, _ => rfl
  | f + 1, [], _, _ => by simp [allB, framesB]
  | 0, s :: t, _, hf => by rw [framesB_cons, List.length_append, frameB_len] at hf; omega
  | f + 1, s :: t, hs, hf => by
    have hs0 : s.data.toList.length ≤ 65536 := by rw [← Lib.size_eq]; exact hs s (by simp)
    have hf0 := hf
    rw [framesB_cons, List.length_append, frameB_len] at hf
    have hne : framesB (s :: t) ≠ [] := by intro e; have := congrArg List.length e; rw [framesB_cons, List.length_append, frameB_len] at this; simp at this
    have ih := all_frames f t (fun x hx => hs x (by simp [hx])) (by omega)
    simp only [allB, if_neg hne]
    rw [framesB_cons, open_frame _ _ hs0]
    simp only
    rw [List.drop_left' (frameB_len _), ih, List.length_append, frameB_len]
theorem all_cut : ∀ (f : Nat) (ss : List ByteArray) (k : Nat), (∀ s ∈ ss, s.size ≤ 65536) → k ≤ f → k ≤ (framesB ss).length →
    ∃ (j n why : Nat), allB f ((framesB ss).take k) = (ss.take j, n, why) ∧ j ≤ ss.length ∧ n ≤ k ∧ why ≤ 1 ∧ (n = k ↔ why = 0)
  | f, [], k, _, _, hk => by
    have : k = 0 := by simpa [framesB] using hk
    subst this
    exact ⟨0, 0, 0, by cases f <;> simp [allB, framesB], by simp, by omega, by omega, by simp⟩
  | f, s :: t, 0, _, _, _ => ⟨0, 0, 0, by cases f <;> simp [allB], by simp, by omega, by omega, by simp⟩
  | 0, s :: t, k + 1, _, hf, _ => by omega
  | f + 1, s :: t, k + 1, hs, hf, hk => by
    have hs0 : s.data.toList.length ≤ 65536 := by rw [← Lib.size_eq]; exact hs s (by simp)
    rw [framesB_cons, List.length_append, frameB_len] at hk
    have hne : (framesB (s :: t)).take (k + 1) ≠ [] := by
      intro e; have := congrArg List.length e
      rw [framesB_cons, List.length_take, List.length_append, frameB_len, List.length_nil] at this; omega
    simp only [allB, if_neg hne]
    by_cases h : s.data.toList.length + 12 ≤ k + 1
    · obtain ⟨j, n, why, e, hj, hn, hw, hiff⟩ := all_cut f t (k + 1 - (s.data.toList.length + 12)) (fun x hx => hs x (by simp [hx])) (by omega) (by omega)
      have e1 : (framesB (s :: t)).take (k + 1) = frameB s.data.toList ++ (framesB t).take (k + 1 - (s.data.toList.length + 12)) := by
        rw [framesB_cons, List.take_append, List.take_of_length_le (by rw [frameB_len]; omega), frameB_len]
      rw [e1, open_frame _ _ hs0]
      simp only
      rw [List.drop_left' (frameB_len _), e]
      refine ⟨j + 1, s.data.toList.length + 12 + n, why, ?_, by simpa using hj, by omega, hw, ?_⟩
      · simp only [List.take_succ_cons]
      · constructor
        · intro e; exact hiff.1 (by omega)
        · intro e; have := hiff.2 e; omega
    · have e1 : (framesB (s :: t)).take (k + 1) = (frameB s.data.toList).take (k + 1) := by
        rw [framesB_cons, List.take_append, frameB_len, show k + 1 - (s.data.toList.length + 12) = 0 by omega, List.take_zero, List.append_nil]
      rw [e1, open_cut _ _ hs0 (by omega)]
      exact ⟨0, 0, 1, by simp, by simp, by omega, by omega, by simp⟩
theorem Texts.take {w : World} {a : Option Addr} {ss : List ByteArray} (h : Texts w a ss) (k : Nat) : Texts w a (ss.take k) := by
  by_cases hn : ss.take k = []
  · exact .inl hn
  · rcases h with h | ⟨_, b, o, ha, hb, hz⟩
    · subst h; simp at hn
    · refine .inr ⟨hn, b, o, ha, hb, fun i v hi => hz i v ?_⟩
      rw [List.getElem?_take] at hi
      split at hi
      · exact hi
      · cases hi
theorem size_le_join (ss : List ByteArray) (s : ByteArray) (hs : s ∈ ss) : s.size ≤ (joinB ss).length := by
  induction ss with
  | nil => cases hs
  | cons x t ih =>
    have e : joinB (x :: t) = x.data.toList ++ joinB t := by simp [joinB]
    rw [e, List.length_append, ← Lib.size_eq]
    rcases List.mem_cons.1 hs with rfl | h
    · omega
    · have := ih h; omega
theorem framesB_le (ss : List ByteArray) (k : Nat) : (framesB (ss.take k)).length ≤ (framesB ss).length := by
  have e : framesB ss = framesB (ss.take k) ++ framesB (ss.drop k) := by
    rw [framesB, framesB, framesB, ← List.flatMap_append, List.take_append_drop]
  rw [e, List.length_append]; omega
set_option maxRecDepth 100000 in
set_option maxHeartbeats 4000000 in
theorem sback_walk (v0 : Value) (ss : List ByteArray) (v1 : Value) (at_ : Int) (w : World) (y0 : TArg w v0 ss) (y1 : v1 = .int .i64 at_ ∧ (Lit.int .i64 at_).wf = true) (hN : Nibs w) :
    Calls Tryd.prog 4 #[v0, v1] w fun e w' => e = .returned (.bool true) ∧ Below w.heap.size w w' := by
  obtain ⟨a, m, c, rfl, hm, hmc, hcm, hT, hz⟩ := y0
  obtain ⟨rfl, hwf⟩ := y1
  have HN := Lib.hid hN
  have HM := Lib.hid hm
  have HT := Lib.hid hT
  have HZ := Lib.hid hz
  have hmx : m ≤ maxLen := by omega
  have hj := join5_any a m c ss w hm hmx hz hT
  have HJ := Lib.hid hj
  have HA := Lib.hid (fun (W : World) (o : Obj) => (Below.refl W.heap.size W).alloc (Nat.le_refl _) o)
  have HWF := Lib.hid hwf
  clear hN hm hT hz hj hwf
  go_enter Tryd.func4, Tryd.ntmps4
  go_wp2_with fail
  refine HJ.out.mono ?_
  rintro e w0 ⟨⟨s, ok, rfl, hok⟩, rfl⟩
  cases ok with
  | false =>
    clear hok
    go_wp2_with fail
    refine (awake5_any _ HN.out).mono ?_
    rintro e w1 ⟨rfl, hb1⟩
    go_wp2
    go_ret
    exact ⟨rfl, hb1⟩
  | true =>
    obtain ⟨hl20, hsl, hs15⟩ := hok rfl
    rw [HM.out] at hl20
    have hjl : (joinB ss).length ≤ 1500 := by rw [← hsl, ← Lib.size_eq]; exact hs15
    have hsz : ∀ x ∈ ss, x.size ≤ 1500 := fun x hx => Nat.le_trans (size_le_join ss x hx) hjl
    have hfl : (framesB ss).length ≤ 2000 := by rw [framesB_len, HM.out]; omega
    have HSZ := Lib.hid hsz
    have HFL := Lib.hid (framesB_le ss)
    clear hok hsl hs15 hsz
    by_cases hm0 : m = 0
    · have hd : ((m : Int) == 0) = true := by rw [hm0]; rfl
      go_wp2_with fail
      refine (awake5_any _ HN.out).mono ?_
      rintro e w1 ⟨rfl, hb1⟩
      go_wp2
      go_ret
      exact ⟨rfl, hb1⟩
    · have hd : ((m : Int) == 0) = false := beq_false_of_ne (by omega)
      have hm1 : 0 < m := by omega
      go_wp2
      go_loopw [7, 8] (fun z i wr => ∃ (k : Nat) (x : ByteArray), k ≤ m ∧ i = .int .i64 (k : Int) ∧ z = .string x ∧ Hid (x.data.toList = framesB (ss.take k)) ∧ x.size ≤ 2000 ∧ Below w.heap.size w wr) (fun _ i _ => m - (intOf i).toNat)
      case atStart => exact ⟨0, ⟨#[]⟩, Nat.zero_le _, rfl, rfl, Lib.hid (by rw [List.take_zero]; rfl), Nat.zero_le _, Below.refl _ _⟩
      case round =>
        obtain ⟨k, x, hk, rfl, rfl, hX, hxs, hbel⟩ := hrel
        have hszr := hbel.size
        by_cases hlt : k < m
        · have hlt' : decide ((k : Int) < (m : Int)) = true := decide_eq_true (by omega)
          rcases HT.out with hv0 | ⟨hnn, bs, o, rfl, hbs, hcz⟩
          · have := HM.out
            rw [hv0] at this
            simp at this
            omega
          obtain ⟨y, hsk⟩ : ∃ y, ss[k]? = some y := ⟨_, List.getElem?_eq_getElem (by rw [HM.out]; exact hlt)⟩
          have hc := (hbel.cell (p := ⟨bs, o + k, none⟩) hbs).trans (hcz k y hsk)
          have hsz := HSZ.out y (List.mem_of_getElem? hsk)
          have hts : ss.take (k + 1) = ss.take k ++ [y] := by
            rw [List.take_add_one, hsk]; rfl
          have hA := HA.out wr (.cells #[.string y] 9)
          have hj1 : joinB [y] = y.data.toList := by simp [joinB]
          have hfr := seal_frame (some ⟨wr.heap.size, 0, none⟩) 1 1 [y] _ rfl (by omega) (Nat.le_refl _) (by rw [hj1, ← Lib.size_eq]; omega) (one_text wr y) ((HN.out.below hbel).below hA)
          rw [hj1] at hfr
          have hB1 := Below.trans hbel (hA.mono hszr)
          obtain ⟨F, hF⟩ : ∃ F : ByteArray, F = ⟨(frameB y.data.toList).toArray⟩ := ⟨_, rfl⟩
          rw [← hF] at hfr
          obtain ⟨Y, hY⟩ : ∃ Y : ByteArray, Y = x ++ F := ⟨_, rfl⟩
          have hYl : Y.data.toList = framesB (ss.take (k + 1)) := by rw [hts, framesB_snoc, ← hX.out, hY, hF]; simp
          have hYs : Y.size ≤ 2000 := by rw [Lib.size_eq, hYl]; exact Nat.le_trans (HFL.out _) hfl
          have hFs : F.size ≤ 2000 := by rw [hF, ba_len, frameB_len, ← Lib.size_eq]; omega
          have hYe := hY.symm
          have HFR := Lib.hid hfr
          have HY := Lib.hid hYl
          clear hcz hsk hts hj1 hfr hF hY hYl hX hA
          go_wp2_with fail
          refine HFR.out.mono ?_
          rintro e w2 ⟨rfl, hb2⟩
          have hb3 := Below.thenB hB1 (by simp; omega) hb2
          go_wp2
          go_roundw
          case rel => exact ⟨k + 1, Y, by omega, by go_num, rfl, HY, hYs, hb3⟩
          case measure => simp [intOf]; omega
        · have hlt' : decide ((k : Int) < (m : Int)) = false := decide_eq_false (by omega)
          have he : ss.take k = ss := List.take_of_length_le (by rw [HM.out]; omega)
          have hX2 := hX.out
          rw [he] at hX2
          have hxl : x.size = (framesB ss).length := by rw [Lib.size_eq, hX2]
          have hx12 : 12 ≤ x.size := by rw [hxl, framesB_len, HM.out]; omega
          have hdx : ((x.size : Int) == 0) = false := beq_false_of_ne (by omega)
          have hall := all_frames x.size ss (fun y hy => by have := HSZ.out y hy; omega) (by omega)
          rw [← hX2, ← Lib.size_eq] at hall
          have hcut := fun k hk => all_cut k ss k (fun y hy => by have := HSZ.out y hy; omega) (Nat.le_refl _) hk
          rw [← hxl, ← hX2] at hcut
          have HC := Lib.hid hcut
          have HALL := Lib.hid hall
          clear hX hX2 he hcut hall hxl
          go_wp2_with fail
          refine (seal_all x (by omega) _ (HN.out.below hbel)).mono ?_
          rintro e w2 ⟨⟨a2, c2, rfl, hT2, hc2⟩, hb2⟩
          have hB2 := Below.thenB hbel hszr hb2
          rw [HALL.out] at hT2 hc2 ⊢
          simp only at hT2 hc2 ⊢
          have HT2 := Lib.hid hT2
          rw [HM.out] at hc2 ⊢
          clear hT2
          have hK : ∃ K : Nat, wrap64 ((IntKind.u64.wrap at_).tmod (x.size : Int)) = (K : Int) ∧ K < x.size := by
            have h0 : 0 ≤ IntKind.u64.wrap at_ := by rw [IntKind.wrap_u64]; omega
            have h1 := Int.emod_nonneg (IntKind.u64.wrap at_) (show (x.size : Int) ≠ 0 by omega)
            have h2 := Int.emod_lt_of_pos (IntKind.u64.wrap at_) (show (0 : Int) < (x.size : Int) by omega)
            rw [Int.tmod_eq_emod_of_nonneg h0]
            refine ⟨((IntKind.u64.wrap at_) % (x.size : Int)).toNat, ?_, by omega⟩
            rw [IntWalk.wrap64_in _ ⟨by omega, by omega⟩]; omega
          obtain ⟨K, hK, hKx⟩ := hK
          obtain ⟨j, n, why, hcut, hjs, hnk, hwy, hiff⟩ := HC.out K (by omega)
          obtain ⟨X, hX⟩ : ∃ X : ByteArray, X = x.extract 0 K := ⟨_, rfl⟩
          have hXl : X.data.toList = x.data.toList.take K := by rw [hX, ext_list]; simp
          have hXs : X.size = K := by rw [Lib.size_eq, hXl, List.length_take, ← Lib.size_eq]; omega
          rw [← hXl] at hcut
          have hXe := hX.symm
          have hXs2 : X.size ≤ 2000 := by omega
          rw [← hXs] at hcut
          have HCUT := Lib.hid hcut
          have hK0 : (0 : Int) ≤ wrap64 ((IntKind.u64.wrap at_).tmod (x.size : Int)) := by omega
          have hKl : wrap64 ((IntKind.u64.wrap at_).tmod (x.size : Int)) ≤ (x.size : Int) := by omega
          have hKn : (wrap64 ((IntKind.u64.wrap at_).tmod (x.size : Int))).toNat = K := by omega
          rw [HM.out] at hjs
          clear hX hXl hXs hcut
          go_wp2_with fail
          refine (seal_all X (by omega) _ (HN.out.below hB2)).mono ?_
          rintro e w3 ⟨⟨a3, c3, rfl, hT3, hc3⟩, hb3⟩
          have hB3 := Below.thenB hB2 hB2.size hb3
          rw [HCUT.out] at hT3 hc3 ⊢
          simp only at hT3 hc3 ⊢
          have hjl2 : (ss.take j).length = j := by rw [List.length_take, HM.out]; omega
          have HJL := Lib.hid hjl2
          have HT3 := Lib.hid hT3
          rw [hjl2] at hc3 ⊢
          clear hT3 hjl2
          go_wp2_with fail
          refine (tsame_any a2 a m c2 m c ss ss _ HM.out HM.out (by omega) (by omega) (HT2.out.below hb3) (HT.out.below hB3)).mono ?_
          rintro e w4 ⟨rfl, hb4⟩
          have hB4 := Below.thenB hB3 hB3.size hb4
          rw [show tsame ss ss = true by simp [tsame]]
          have d1 : decide ((j : Int) ≤ (m : Int)) = true := decide_eq_true (by omega)
          have d1' : decide (j ≤ m) = true := decide_eq_true hjs
          have hjc : (j : Int) ≤ (c : Int) := by omega
          go_wp2_with fail
          refine (tsame_any a3 a j c3 j c (ss.take j) (ss.take j) _ HJL.out HJL.out (by omega) (by omega) (HT3.out.below hb4) ((HT.out.below hB4).take j)).mono ?_
          rintro e w5 ⟨rfl, hb5⟩
          have hB5 := Below.thenB hB4 hB4.size hb5
          rw [show tsame (ss.take j) (ss.take j) = true by simp [tsame]]
          have d2 : decide ((n : Int) ≤ (K : Int)) = true := decide_eq_true (by omega)
          have d2' : decide (n ≤ K) = true := decide_eq_true hnk
          have d3 : ((why : Int) != 2) = true := bne_iff_ne.2 (by omega)
          have d4 : ((n == K) == ((why : Int) == 0)) = true := by
            by_cases h : n = K
            · have hw0 := hiff.1 h
              subst h; subst hw0; simp
            · have hw0 : why ≠ 0 := fun e => h (hiff.2 e)
              rw [beq_false_of_ne h, beq_false_of_ne (show (why : Int) ≠ 0 by omega)]; rfl
          have d5 : (((n : Int) == (K : Int)) == ((why : Int) == 0)) = true := by
            rw [← d4]; congr 1
            by_cases h : n = K
            · subst h; simp
            · rw [beq_false_of_ne h, beq_false_of_ne (by omega)]
          go_wp2_with fail
          refine (awake5_any _ (HN.out.below hB5)).mono ?_
          rintro e w6 ⟨rfl, hb6⟩
          go_wp2
          go_ret
          exact ⟨rfl, Below.thenB hB5 hB5.size hb6⟩
end Go.Proofs.YtfoejfneggcncabDoor
