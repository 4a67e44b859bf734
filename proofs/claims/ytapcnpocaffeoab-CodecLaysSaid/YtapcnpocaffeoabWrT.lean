/- Contracts of codec's writers: Text, value, Value, Row, Rows. -/
import Derived.Test.YtapcnpocaffeoabWrS
import Derived.Test.YtapcnpocaffeoabTexts
import Derived.Test.YtapcnpocaffeoabVals
import Derived.Deep.Cut
import Derived.Lib.BufferMore
namespace Go.Proofs.Ytapcnpocaffeoab
open Go.RowKit
theorem Apart.below {w w1 : World} {b k : Nat} (h : Apart w b k) (hb : b < w.heap.size) (hB : Below w.heap.size w w1) : Apart w1 b k := ⟨h.1, by rw [WRow.below hb hB]; exact h.2⟩
/-- A new block lies apart. -/
theorem apart_new {w : World} {b : Nat} {l : List UInt8} (hW : WAt w b l) (o : Obj) : Apart (w.alloc o) b w.heap.size := by
  refine ⟨by have := hW.1; omega, ?_⟩
  rw [WRow.below hW.1 ((Below.refl _ _).alloc (Nat.le_refl _) o)]
  obtain ⟨_, _, a, c, hc, hown⟩ := hW
  unfold WRow
  rw [hc]
  intro e
  have := (hown.lt _ e).2
  omega
theorem one_int (w : World) (z : Int) (t : TypeId) : Ints .i64 (w.alloc (.cells #[.int .i64 z] t)) (some ⟨w.heap.size, 0, none⟩) [z] := by
  refine .inr ⟨by simp, w.heap.size, 0, rfl, by simp, fun i hi => ?_⟩
  obtain rfl : i = 0 := by simpa using hi
  go_simp
set_option maxRecDepth 100000 in
set_option maxHeartbeats 1000000 in
theorem wtext_any (b : Nat) (l : List UInt8) (a : Option Addr) (m c : Nat) (ss : List ByteArray) (w : World) (hm : ss.length = m) (hl : l.length ≤ 16777216) (hm2 : m ≤ 1000) (hs : ∀ s ∈ ss, s.size ≤ 1048576) (hj : (textsB ss).length ≤ 16777216) (hW : WAt w b l) (hT : Texts w a ss) (hA : ss ≠ [] → ∀ x, a = some x → Apart w b x.block) :
    Calls Try.prog 18 #[.pointer (some ⟨b, 0, none⟩), .slice a m c] w fun e w' => e = .returned (.pointer (some ⟨b, 0, none⟩)) ∧ WAt w' b (l ++ textsB ss) ∧ WChg b w w' := by
  have HM := Lib.hid hm
  have HT := Lib.hid hT
  have HAP := Lib.hid hA
  have HW := Lib.hid hW
  have HS := Lib.hid hs
  have hle : ∀ k, (textsB (ss.take k)).length ≤ (textsB ss).length := fun k => by
    have e : textsB ss = textsB (ss.take k) ++ textsB (ss.drop k) := by
      rw [textsB, textsB, textsB, ← List.flatMap_append, List.take_append_drop]
    rw [e, List.length_append]; omega
  have HLE := Lib.hid hle
  have HWB := Lib.hid hW.1
  clear hm hT hA hW hs hle
  go_enter Try.func18, Try.ntmps18
  go_wp2
  go_loopw [9] (fun i wr => ∃ k : Nat, k ≤ m ∧ i = .int .i64 (k : Int) ∧ WAt wr b (l ++ textsB (ss.take k)) ∧ WChg b w wr) (fun i _ => m - (intOf i).toNat)
  case atStart => exact ⟨0, Nat.zero_le _, rfl, by rw [List.take_zero]; simpa [textsB] using HW.out, WChg.refl _ _⟩
  case round =>
    obtain ⟨k, hk, rfl, hWk, hCk⟩ := hrel
    have HWK := Lib.hid hWk
    have HCK := Lib.hid hCk
    clear hWk hCk
    by_cases hlt : k < m
    · have hlt' : decide ((k : Int) < (m : Int)) = true := decide_eq_true (by omega)
      rcases HT.out with hv0 | ⟨hnn, bs, o, rfl, hbs, hcz⟩
      · have := HM.out
        rw [hv0] at this
        simp at this
        omega
      obtain ⟨s, hsk⟩ : ∃ s, ss[k]? = some s := ⟨_, List.getElem?_eq_getElem (by rw [HM.out]; exact hlt)⟩
      have hc := (HCK.out.cell hbs (HAP.out hnn _ rfl) (o + k)).trans (hcz k s hsk)
      have hsz := HS.out s (List.mem_of_getElem? hsk)
      have hts : textsB (ss.take (k + 1)) = textsB (ss.take k) ++ (numB s.size ++ s.data.toList) := by
        rw [List.take_add_one, hsk]; exact flat_snoc _ _ _
      have hlk := HLE.out k
      have hA1 : Below wr.heap.size wr (wr.alloc (.cells #[.int .i64 (s.size : Int)] 3)) := (Below.refl _ _).alloc (Nat.le_refl _) _
      have hsiz := wsize_any b (l ++ textsB (ss.take k)) (some ⟨wr.heap.size, 0, none⟩) 1 1 [(s.size : Int)] _ rfl (by rw [List.length_append]; omega) (by omega) (fun z hz => by simp at hz; subst hz; omega) (HWK.out.below hA1) (one_int wr (s.size : Int) 3) (fun _ x hx => by injection hx with hx; subst hx; exact apart_new HWK.out _)
      rw [show sizesB [(s.size : Int)] = numB s.size by simp [sizesB]] at hsiz
      have HSZ := Lib.hid hsiz
      have HTS := Lib.hid hts
      have HC1 := Lib.hid (HCK.out.alloc HWB.out (.cells #[.int .i64 (s.size : Int)] 3))
      have hnl := numB_len s.size
      clear hcz hsk hts hA1 hsiz
      go_wp2_with fail
      refine HSZ.out.mono ?_
      rintro e w2 ⟨rfl, hW2, hC2⟩
      have hcv := Lib.run_convert_string_bytes (P := Try.prog) w2 9 39 5 s (u := .string) Try.underlying9 Try.underlying39 Try.underlying5
      obtain ⟨W3, hW3⟩ : ∃ W3, W3 = Lib.bytesWorld w2 5 s := ⟨_, rfl⟩
      have hB3 : Below w2.heap.size w2 W3 := by rw [hW3]; exact Lib.bytesWorld_below w2 5 s
      have hcl : ∀ j, j < s.size → W3.cell? ⟨w2.heap.size, j, none⟩ = some (.int .u8 (s.data.toList.getD j 0).toNat) := fun j hj => by rw [hW3]; exact Lib.bytesWorld_cell w2 5 s j hj
      rw [← hW3] at hcv
      have hsl : s.data.toList.length = s.size := by rw [Lib.size_eq]
      have hput := wput_any b (l ++ textsB (ss.take k) ++ numB s.size) s.data.toList (some ⟨w2.heap.size, 0, none⟩) s.size (grownCap w2 s.size 0 5) W3 hsl (by simp only [List.length_append]; omega) (by omega) (hW2.below hB3) (.inr ⟨w2.heap.size, 0, rfl, fun j u hu => by
        have hjs : j < s.data.toList.length := by have := (List.getElem?_eq_some_iff.1 hu).1; simpa [b8s] using this
        have hadd : (⟨w2.heap.size, 0, none⟩ : Addr).add j = ⟨w2.heap.size, j, none⟩ := by unfold Addr.add; split <;> simp_all
        rw [hadd, hcl j (by omega)]
        have : (b8s s.data.toList)[j]? = some (.int .u8 ((s.data.toList.getD j 0).toNat : Int)) := by simp [b8s, List.getD_eq_getElem?_getD, List.getElem?_eq_getElem hjs]
        rw [← hu, this]⟩)
      rw [show l ++ textsB (ss.take k) ++ numB s.size ++ s.data.toList = l ++ textsB (ss.take (k + 1)) by rw [HTS.out]; simp] at hput
      have HP := Lib.hid hput
      have HC3 := Lib.hid ((HC1.out.trans hC2).thenB HWB.out hB3)
      clear hW3 hB3 hcl hsl hput hW2 hC2 HSZ HTS HC1 HWK HCK
      go_wp2_with fail
      refine HP.out.mono ?_
      rintro e w4 ⟨rfl, hW4, hC4⟩
      have HW4 := Lib.hid hW4
      have HC4 := Lib.hid (HC3.out.trans hC4)
      clear hW4 hC4 HP HC3 hcv
      go_wp2
      go_roundw
      case rel => exact ⟨k + 1, by omega, by go_num, HW4.out, HC4.out⟩
      case measure => simp [intOf]; omega
    · have hlt' : decide ((k : Int) < (m : Int)) = false := decide_eq_false (by omega)
      have hW2 := HWK.out
      rw [List.take_of_length_le (by rw [HM.out]; omega)] at hW2
      have HW2 := Lib.hid hW2
      clear hW2 HWK
      go_wp2
      go_ret
      exact ⟨rfl, HW2.out, HCK.out⟩
/-- A value, laid. -/
def valB (v : Val) : List UInt8 := if vright v then (if v.1 = 1 then 1 :: numB (foldN v.2.1) else if v.1 = 2 then 2 :: textB v.2.2 else [3, UInt8.ofNat v.2.1.toNat]) else 1 :: numB (foldN 0)
theorem WAt.far {w : World} {b k : Nat} {l : List UInt8} (h : WAt w b l) (ha : Apart w b k) (o : Nat) (v : Value) : WAt (w.setCell ⟨k, o, none⟩ v) b l := by
  obtain ⟨h0, h1, a, c, h2, h3⟩ := h
  refine ⟨by simpa using h0, by rw [← h1]; go_simp, a, c, (World.cell?_setCell_other w _ _ _ (by intro e; injection e with e; exact ha.1 e)).trans h2, ?_⟩
  refine h3.kept (row := some k) ⟨rfl, rfl, rfl, by simp, fun j hj hne => Below.heap_setCell _ _ _ _ (fun e => hne (by rw [e]))⟩ (.inr (fun e => ha.2 ?_))
  unfold WRow; rw [h2]; exact e
theorem WRow.far {w : World} {b k : Nat} (ha : k ≠ b) (o : Nat) (v : Value) : WRow (w.setCell ⟨k, o, none⟩ v) b = WRow w b := by
  unfold WRow; rw [World.cell?_setCell_other w _ _ _ (by intro e; injection e with e; exact ha e)]
theorem Apart.far {w : World} {b k k' : Nat} (h : Apart w b k') (ha : k ≠ b) (o : Nat) (v : Value) : Apart (w.setCell ⟨k, o, none⟩ v) b k' := ⟨h.1, by rw [WRow.far ha]; exact h.2⟩
theorem WChg.far {w0 w : World} {b k : Nat} (h : WChg b w0 w) (hk : w0.heap.size ≤ k) (ha : k ≠ b) (o : Nat) (v : Value) : WChg b w0 (w.setCell ⟨k, o, none⟩ v) :=
  ⟨h.1.setCell (.inl hk) v, fun g hg => h.2 g (by rw [WRow.far ha] at hg; exact hg)⟩
theorem vset3 {w : World} {b : Nat} {x y z : Value} {T : Nat} (h : w.heap[b]? = some (.cells #[x, y, z] T (0, 0))) (u v q : Value) : (((w.setCell ⟨b, 0, none⟩ u).setCell ⟨b, 1, none⟩ v).setCell ⟨b, 2, none⟩ q).heap[b]? = some (.cells #[u, v, q] T (0, 0)) := by
  have h1 := Lib.heap_setCell_same (i := 0) h u
  have h2 := Lib.heap_setCell_same (i := 1) h1 v
  have h3 := Lib.heap_setCell_same (i := 2) h2 q
  exact h3
theorem one_val (w : World) (k n : Int) (s : ByteArray) : Vals (w.alloc (.cells #[.int .i64 k, .int .i64 n, .string s] 35)) (some ⟨w.heap.size, 0, none⟩) [(k, n, s)] := by
  refine .inr ⟨by simp, w.heap.size, 0, rfl, by simp, fun i v hi => ?_⟩
  cases i with
  | zero => simp at hi; subst hi; exact ⟨by go_simp, by go_simp, by go_simp⟩
  | succ i => simp at hi
theorem val_at {w : World} {b : Nat} {x y z : Value} {T : Nat} (h : w.heap[b]? = some (.cells #[x, y, z] T (0, 0))) : (w.cell? ⟨b, 0, none⟩ = some x ∧ w.cell? ⟨b, 1, none⟩ = some y ∧ w.cell? ⟨b, 2, none⟩ = some z) ∧ w.frozen? ⟨b, 0, none⟩ = false ∧ w.frozen? ⟨b, 1, none⟩ = false ∧ w.frozen? ⟨b, 2, none⟩ = false :=
  ⟨⟨Lib.cell_of_heap h 0, Lib.cell_of_heap h 1, Lib.cell_of_heap h 2⟩, Lib.frozen_of_heap h 0, Lib.frozen_of_heap h 1, Lib.frozen_of_heap h 2⟩
set_option maxRecDepth 100000 in
set_option maxHeartbeats 1000000 in
theorem wval1 (b : Nat) (l : List UInt8) (n : Int) (h0 : -9223372036854775808 ≤ n) (h1 : n ≤ 9223372036854775807) (w : World) (hl : l.length ≤ 134217728) (hW : WAt w b l) :
    Calls Try.prog 43 #[.pointer (some ⟨b, 0, none⟩), .agg #[.int .i64 1, .int .i64 n, .string ⟨#[]⟩]] w fun e w' => e = .returned (.tuple #[]) ∧ WAt w' b (l ++ 1 :: numB (foldN n)) ∧ WChg b w w' := by
  have hvr : vright (1, n, ⟨#[]⟩) = true := by unfold vright; rw [if_pos rfl]; rfl
  have hA1 : Below w.heap.size w (w.alloc (.cells #[.int .i64 (1), .int .i64 (n), .string (⟨#[]⟩)] 35)) := (Below.refl _ _).alloc (Nat.le_refl _) _
  obtain ⟨W1, hW1⟩ : ∃ W1, W1 = w.alloc (.cells #[.int .i64 (1), .int .i64 (n), .string (⟨#[]⟩)] 35) := ⟨_, rfl⟩
  rw [← hW1] at hA1
  have hblk : W1.heap[w.heap.size]? = some (.cells #[.int .i64 (1), .int .i64 (n), .string (⟨#[]⟩)] 35 (0, 0)) := by rw [hW1]; exact Array.getElem?_push_size
  have hz1 : W1.heap.size = w.heap.size + 1 := by rw [hW1]; simp
  have hA2 : Below W1.heap.size W1 (W1.alloc (.cells #[.int .i64 (1), .int .i64 (n), .string (⟨#[]⟩)] 35)) := (Below.refl _ _).alloc (Nat.le_refl _) _
  have hrt := right_all (some ⟨W1.heap.size, 0, none⟩) 1 1 [(1, n, ⟨#[]⟩)] _ rfl (by omega) (one_val W1 (1) (n) (⟨#[]⟩))
  rw [show [((1, n, ⟨#[]⟩) : Val)].all vright = true by simp [hvr]] at hrt
  have HB := Lib.hid hblk
  have HWE := Lib.hid hW1.symm
  have HWB := Lib.hid hW.1
  have HW := Lib.hid (hW.below hA1)
  have HC := Lib.hid ((WChg.refl b w).thenB hW.1 hA1)
  have HRT := Lib.hid hrt
  have HA2 := Lib.hid hA2
  have HAP := Lib.hid (show Apart W1 b w.heap.size by rw [hW1]; exact apart_new hW _)
  have hzz : w.heap.size < W1.heap.size := by omega
  clear hA1 hblk hrt hA2 hW hW1 hz1 hvr
  go_enter Try.func43, Try.ntmps43
  go_upto_region 1 with fail
  rw [HWE.out]
  obtain ⟨⟨c0, c1, c2⟩, f0, f1, f2⟩ := val_at HB.out
  go_wp2_with fail
  refine HRT.out.mono ?_
  rintro e w2 ⟨rfl, hb2⟩
  have hB2 := Below.thenB HA2.out (by simp) hb2
  have HB2 := Lib.hid ((hB2.block w.heap.size hzz).trans HB.out)
  have hz2 := hB2.size
  have HW2 := Lib.hid (HW.out.below hB2)
  have HC2 := Lib.hid (HC.out.thenB HWB.out hB2)
  have hzz2 : w.heap.size < w2.heap.size := by omega
  have HAP2 := Lib.hid (HAP.out.below (Nat.lt_of_lt_of_le HWB.out (by omega)) hB2)
  clear c0 c1 c2 f0 f1 f2 hb2 HB HW HC HRT HA2 hB2 HWE HAP
  obtain ⟨⟨c0, c1, c2⟩, f0, f1, f2⟩ := val_at HB2.out
  have hA3 : Below w2.heap.size w2 (w2.alloc (.cells #[.int .u8 1] 5)) := (Below.refl _ _).alloc (Nat.le_refl _) _
  have hput := wput_any b l [1] (some ⟨w2.heap.size, 0, none⟩) 1 1 _ rfl (by omega) (by omega) (HW2.out.below hA3) (.inr ⟨w2.heap.size, 0, rfl, one_cell_new w2 5 (.int .u8 1)⟩)
  have HP := Lib.hid hput
  have HC3 := Lib.hid (HC2.out.thenB HWB.out hA3)
  have HAP3 := Lib.hid (HAP2.out.below (Nat.lt_of_lt_of_le HWB.out (by omega)) hA3)
  have hzz3 : w.heap.size < (w2.alloc (.cells #[.int .u8 1] 5)).heap.size := by simp; omega
  have HB3 := Lib.hid ((hA3.block w.heap.size hzz2).trans HB2.out)
  clear hA3 hput
  go_wp2_with fail
  refine HP.out.mono ?_
  rintro e w4 ⟨rfl, hW4, hC4⟩
  have HB4 := Lib.hid ((hC4.1.block w.heap.size hzz3 (fun e => by rcases e with e | e; exact HAP3.out.1 e; exact HAP3.out.2 e)).trans HB3.out)
  have HW4 := Lib.hid hW4
  have HC4 := Lib.hid (HC3.out.trans hC4)
  clear c0 c1 c2 f0 f1 f2 hW4 hC4 HP HC3 HW2 HC2 HB2 HB3 HAP3 HAP2 hzz3
  obtain ⟨⟨c0, c1, c2⟩, f0, f1, f2⟩ := val_at HB4.out
  have hA5 : Below w4.heap.size w4 (w4.alloc (.cells #[.int .i64 n] 2)) := (Below.refl _ _).alloc (Nat.le_refl _) _
  have hsg := wsigned_any b (l ++ [1]) (some ⟨w4.heap.size, 0, none⟩) 1 1 [n] _ rfl (by rw [List.length_append, List.length_cons, List.length_nil]; omega) (by omega) (fun z hz => by simp at hz; subst hz; omega) (HW4.out.below hA5) (one_int w4 n 2) (fun _ x hx => by injection hx with hx; subst hx; exact apart_new HW4.out _)
  rw [show signedsB [n] = numB (foldN n) by simp [signedsB], List.append_assoc] at hsg
  have HSG := Lib.hid hsg
  have HC5 := Lib.hid (HC4.out.thenB HWB.out hA5)
  clear hA5 hsg HW4 HC4 HB4
  go_wp2_with fail
  refine HSG.out.mono ?_
  rintro e w6 ⟨rfl, hW6, hC6⟩
  have HW6 := Lib.hid hW6
  have HC6 := Lib.hid (HC5.out.trans hC6)
  clear hW6 hC6 c0 c1 c2 f0 f1 f2
  go_wp2
  go_end0
  exact ⟨rfl, HW6.out, HC6.out⟩
set_option maxRecDepth 100000 in
set_option maxHeartbeats 1000000 in
theorem wval2 (b : Nat) (l : List UInt8) (s : ByteArray) (hs : s.size ≤ 200) (w : World) (hl : l.length ≤ 8388608) (hW : WAt w b l) :
    Calls Try.prog 43 #[.pointer (some ⟨b, 0, none⟩), .agg #[.int .i64 2, .int .i64 0, .string s]] w fun e w' => e = .returned (.tuple #[]) ∧ WAt w' b (l ++ 2 :: textB s) ∧ WChg b w w' := by
  have hvr : vright (2, 0, s) = true := by unfold vright; rw [if_neg (show ¬ (2 : Int) = 1 by decide), if_pos rfl]; simp [hs]
  have hA1 : Below w.heap.size w (w.alloc (.cells #[.int .i64 (2), .int .i64 (0), .string (s)] 35)) := (Below.refl _ _).alloc (Nat.le_refl _) _
  obtain ⟨W1, hW1⟩ : ∃ W1, W1 = w.alloc (.cells #[.int .i64 (2), .int .i64 (0), .string (s)] 35) := ⟨_, rfl⟩
  rw [← hW1] at hA1
  have hblk : W1.heap[w.heap.size]? = some (.cells #[.int .i64 (2), .int .i64 (0), .string (s)] 35 (0, 0)) := by rw [hW1]; exact Array.getElem?_push_size
  have hz1 : W1.heap.size = w.heap.size + 1 := by rw [hW1]; simp
  have hA2 : Below W1.heap.size W1 (W1.alloc (.cells #[.int .i64 (2), .int .i64 (0), .string (s)] 35)) := (Below.refl _ _).alloc (Nat.le_refl _) _
  have hrt := right_all (some ⟨W1.heap.size, 0, none⟩) 1 1 [(2, 0, s)] _ rfl (by omega) (one_val W1 (2) (0) (s))
  rw [show [((2, 0, s) : Val)].all vright = true by simp [hvr]] at hrt
  have HB := Lib.hid hblk
  have HWE := Lib.hid hW1.symm
  have HWB := Lib.hid hW.1
  have HW := Lib.hid (hW.below hA1)
  have HC := Lib.hid ((WChg.refl b w).thenB hW.1 hA1)
  have HRT := Lib.hid hrt
  have HA2 := Lib.hid hA2
  have HAP := Lib.hid (show Apart W1 b w.heap.size by rw [hW1]; exact apart_new hW _)
  have hzz : w.heap.size < W1.heap.size := by omega
  clear hA1 hblk hrt hA2 hW hW1 hz1 hvr
  go_enter Try.func43, Try.ntmps43
  go_upto_region 1 with fail
  rw [HWE.out]
  obtain ⟨⟨c0, c1, c2⟩, f0, f1, f2⟩ := val_at HB.out
  go_wp2_with fail
  refine HRT.out.mono ?_
  rintro e w2 ⟨rfl, hb2⟩
  have hB2 := Below.thenB HA2.out (by simp) hb2
  have HB2 := Lib.hid ((hB2.block w.heap.size hzz).trans HB.out)
  have hz2 := hB2.size
  have HW2 := Lib.hid (HW.out.below hB2)
  have HC2 := Lib.hid (HC.out.thenB HWB.out hB2)
  have hzz2 : w.heap.size < w2.heap.size := by omega
  have HAP2 := Lib.hid (HAP.out.below (Nat.lt_of_lt_of_le HWB.out (by omega)) hB2)
  clear c0 c1 c2 f0 f1 f2 hb2 HB HW HC HRT HA2 hB2 HWE HAP
  obtain ⟨⟨c0, c1, c2⟩, f0, f1, f2⟩ := val_at HB2.out
  have hA3 : Below w2.heap.size w2 (w2.alloc (.cells #[.int .u8 2] 5)) := (Below.refl _ _).alloc (Nat.le_refl _) _
  have hput := wput_any b l [2] (some ⟨w2.heap.size, 0, none⟩) 1 1 _ rfl (by omega) (by omega) (HW2.out.below hA3) (.inr ⟨w2.heap.size, 0, rfl, one_cell_new w2 5 (.int .u8 2)⟩)
  have HP := Lib.hid hput
  have HC3 := Lib.hid (HC2.out.thenB HWB.out hA3)
  have HAP3 := Lib.hid (HAP2.out.below (Nat.lt_of_lt_of_le HWB.out (by omega)) hA3)
  have hzz3 : w.heap.size < (w2.alloc (.cells #[.int .u8 2] 5)).heap.size := by simp; omega
  have HB3 := Lib.hid ((hA3.block w.heap.size hzz2).trans HB2.out)
  clear hA3 hput
  go_wp2_with fail
  refine HP.out.mono ?_
  rintro e w4 ⟨rfl, hW4, hC4⟩
  have HB4 := Lib.hid ((hC4.1.block w.heap.size hzz3 (fun e => by rcases e with e | e; exact HAP3.out.1 e; exact HAP3.out.2 e)).trans HB3.out)
  have HW4 := Lib.hid hW4
  have HC4 := Lib.hid (HC3.out.trans hC4)
  clear c0 c1 c2 f0 f1 f2 hW4 hC4 HP HC3 HW2 HC2 HB2 HB3 HAP3 HAP2 hzz3
  obtain ⟨⟨c0, c1, c2⟩, f0, f1, f2⟩ := val_at HB4.out
  have hA5 : Below w4.heap.size w4 (w4.alloc (.cells #[.string s] 9)) := (Below.refl _ _).alloc (Nat.le_refl _) _
  have htl : (textsB [s]).length ≤ 1000 := by
    rw [show textsB [s] = textB s by simp [textsB]]; unfold textB
    rw [List.length_append, ← Lib.size_eq]; have := numB_len s.size; omega
  have hsg := wtext_any b (l ++ [2]) (some ⟨w4.heap.size, 0, none⟩) 1 1 [s] _ rfl (by rw [List.length_append, List.length_cons, List.length_nil]; omega) (by omega) (fun z hz => by simp at hz; subst hz; omega) (by omega) (HW4.out.below hA5) (one_text w4 s) (fun _ x hx => by injection hx with hx; subst hx; exact apart_new HW4.out _)
  rw [show textsB [s] = textB s by simp [textsB], List.append_assoc] at hsg
  have HSG := Lib.hid hsg
  have HC5 := Lib.hid (HC4.out.thenB HWB.out hA5)
  clear hA5 hsg htl HW4 HC4 HB4
  go_wp2_with fail
  refine HSG.out.mono ?_
  rintro e w6 ⟨rfl, hW6, hC6⟩
  have HW6 := Lib.hid hW6
  have HC6 := Lib.hid (HC5.out.trans hC6)
  clear hW6 hC6 c0 c1 c2 f0 f1 f2
  go_wp2
  go_end0
  exact ⟨rfl, HW6.out, HC6.out⟩
set_option maxRecDepth 100000 in
set_option maxHeartbeats 1000000 in
theorem wval3 (b : Nat) (l : List UInt8) (n : Int) (hn : n = 0 ∨ n = 1) (w : World) (hl : l.length ≤ 134217728) (hW : WAt w b l) :
    Calls Try.prog 43 #[.pointer (some ⟨b, 0, none⟩), .agg #[.int .i64 3, .int .i64 n, .string ⟨#[]⟩]] w fun e w' => e = .returned (.tuple #[]) ∧ WAt w' b (l ++ [3, UInt8.ofNat n.toNat]) ∧ WChg b w w' := by
  have hvr : vright (3, n, ⟨#[]⟩) = true := by rcases hn with rfl | rfl <;> decide
  have hnw : IntKind.u8.wrap n = n := by rw [IntKind.wrap_u8]; omega
  have hnb : ((UInt8.ofNat n.toNat).toNat : Int) = n := by rw [UInt8.toNat_ofNat']; omega
  have hn0 : 0 ≤ n := by omega
  have hn1 : n ≤ 1 := by omega
  have HNB := Lib.hid hnb
  clear hnb hn
  have hA1 : Below w.heap.size w (w.alloc (.cells #[.int .i64 (3), .int .i64 (n), .string (⟨#[]⟩)] 35)) := (Below.refl _ _).alloc (Nat.le_refl _) _
  obtain ⟨W1, hW1⟩ : ∃ W1, W1 = w.alloc (.cells #[.int .i64 (3), .int .i64 (n), .string (⟨#[]⟩)] 35) := ⟨_, rfl⟩
  rw [← hW1] at hA1
  have hblk : W1.heap[w.heap.size]? = some (.cells #[.int .i64 (3), .int .i64 (n), .string (⟨#[]⟩)] 35 (0, 0)) := by rw [hW1]; exact Array.getElem?_push_size
  have hz1 : W1.heap.size = w.heap.size + 1 := by rw [hW1]; simp
  have hA2 : Below W1.heap.size W1 (W1.alloc (.cells #[.int .i64 (3), .int .i64 (n), .string (⟨#[]⟩)] 35)) := (Below.refl _ _).alloc (Nat.le_refl _) _
  have hrt := right_all (some ⟨W1.heap.size, 0, none⟩) 1 1 [(3, n, ⟨#[]⟩)] _ rfl (by omega) (one_val W1 (3) (n) (⟨#[]⟩))
  rw [show [((3, n, ⟨#[]⟩) : Val)].all vright = true by simp [hvr]] at hrt
  have HB := Lib.hid hblk
  have HWE := Lib.hid hW1.symm
  have HWB := Lib.hid hW.1
  have HW := Lib.hid (hW.below hA1)
  have HC := Lib.hid ((WChg.refl b w).thenB hW.1 hA1)
  have HRT := Lib.hid hrt
  have HA2 := Lib.hid hA2
  have HAP := Lib.hid (show Apart W1 b w.heap.size by rw [hW1]; exact apart_new hW _)
  have hzz : w.heap.size < W1.heap.size := by omega
  clear hA1 hblk hrt hA2 hW hW1 hz1 hvr
  go_enter Try.func43, Try.ntmps43
  go_upto_region 1 with fail
  rw [HWE.out]
  obtain ⟨⟨c0, c1, c2⟩, f0, f1, f2⟩ := val_at HB.out
  go_wp2_with fail
  refine HRT.out.mono ?_
  rintro e w2 ⟨rfl, hb2⟩
  have hB2 := Below.thenB HA2.out (by simp) hb2
  have HB2 := Lib.hid ((hB2.block w.heap.size hzz).trans HB.out)
  have hz2 := hB2.size
  have HW2 := Lib.hid (HW.out.below hB2)
  have HC2 := Lib.hid (HC.out.thenB HWB.out hB2)
  have hzz2 : w.heap.size < w2.heap.size := by omega
  have HAP2 := Lib.hid (HAP.out.below (Nat.lt_of_lt_of_le HWB.out (by omega)) hB2)
  clear c0 c1 c2 f0 f1 f2 hb2 HB HW HC HRT HA2 hB2 HWE HAP
  obtain ⟨⟨c0, c1, c2⟩, f0, f1, f2⟩ := val_at HB2.out
  have hA3 : Below w2.heap.size w2 (w2.alloc (.cells #[.int .u8 3] 5)) := (Below.refl _ _).alloc (Nat.le_refl _) _
  have hput := wput_any b l [3] (some ⟨w2.heap.size, 0, none⟩) 1 1 _ rfl (by omega) (by omega) (HW2.out.below hA3) (.inr ⟨w2.heap.size, 0, rfl, one_cell_new w2 5 (.int .u8 3)⟩)
  have HP := Lib.hid hput
  have HC3 := Lib.hid (HC2.out.thenB HWB.out hA3)
  have HAP3 := Lib.hid (HAP2.out.below (Nat.lt_of_lt_of_le HWB.out (by omega)) hA3)
  have hzz3 : w.heap.size < (w2.alloc (.cells #[.int .u8 3] 5)).heap.size := by simp; omega
  have HB3 := Lib.hid ((hA3.block w.heap.size hzz2).trans HB2.out)
  clear hA3 hput
  go_wp2_with fail
  refine HP.out.mono ?_
  rintro e w4 ⟨rfl, hW4, hC4⟩
  have HB4 := Lib.hid ((hC4.1.block w.heap.size hzz3 (fun e => by rcases e with e | e; exact HAP3.out.1 e; exact HAP3.out.2 e)).trans HB3.out)
  have HW4 := Lib.hid hW4
  have HC4 := Lib.hid (HC3.out.trans hC4)
  clear c0 c1 c2 f0 f1 f2 hW4 hC4 HP HC3 HW2 HC2 HB2 HB3 HAP3 HAP2 hzz3
  obtain ⟨⟨c0, c1, c2⟩, f0, f1, f2⟩ := val_at HB4.out
  have hA5 : Below w4.heap.size w4 (w4.alloc (.cells #[.int .u8 n] 5)) := (Below.refl _ _).alloc (Nat.le_refl _) _
  have hsg := wput_any b (l ++ [3]) [UInt8.ofNat n.toNat] (some ⟨w4.heap.size, 0, none⟩) 1 1 _ rfl (by rw [List.length_append, List.length_cons, List.length_nil]; omega) (by omega) (HW4.out.below hA5) (.inr ⟨w4.heap.size, 0, rfl, by
    have : b8s [UInt8.ofNat n.toNat] = [.int .u8 n] := by simp only [b8s, List.map_cons, List.map_nil, HNB.out]
    rw [this]; exact one_cell_new _ _ _⟩)
  rw [List.append_assoc] at hsg
  have HSG := Lib.hid hsg
  have HC5 := Lib.hid (HC4.out.thenB HWB.out hA5)
  clear hA5 hsg HW4 HC4 HB4
  go_wp2_with fail
  refine HSG.out.mono ?_
  rintro e w6 ⟨rfl, hW6, hC6⟩
  have HW6 := Lib.hid hW6
  have HC6 := Lib.hid (HC5.out.trans hC6)
  clear hW6 hC6 c0 c1 c2 f0 f1 f2
  go_wp2
  go_end0
  exact ⟨rfl, HW6.out, HC6.out⟩
set_option maxRecDepth 100000 in
set_option maxHeartbeats 1000000 in
theorem wval0 (b : Nat) (l : List UInt8) (k n : Int) (s : ByteArray) (hvr : vright (k, n, s) = false) (w : World) (hl : l.length ≤ 134217728) (hW : WAt w b l) :
    Calls Try.prog 43 #[.pointer (some ⟨b, 0, none⟩), .agg #[.int .i64 k, .int .i64 n, .string s]] w fun e w' => e = .returned (.tuple #[]) ∧ WAt w' b (l ++ 1 :: numB (foldN 0)) ∧ WChg b w w' := by
  have hA1 : Below w.heap.size w (w.alloc (.cells #[.int .i64 (k), .int .i64 (n), .string (s)] 35)) := (Below.refl _ _).alloc (Nat.le_refl _) _
  obtain ⟨W1, hW1⟩ : ∃ W1, W1 = w.alloc (.cells #[.int .i64 (k), .int .i64 (n), .string (s)] 35) := ⟨_, rfl⟩
  rw [← hW1] at hA1
  have hblk : W1.heap[w.heap.size]? = some (.cells #[.int .i64 (k), .int .i64 (n), .string (s)] 35 (0, 0)) := by rw [hW1]; exact Array.getElem?_push_size
  have hz1 : W1.heap.size = w.heap.size + 1 := by rw [hW1]; simp
  have hA2 : Below W1.heap.size W1 (W1.alloc (.cells #[.int .i64 (k), .int .i64 (n), .string (s)] 35)) := (Below.refl _ _).alloc (Nat.le_refl _) _
  have hrt := right_all (some ⟨W1.heap.size, 0, none⟩) 1 1 [(k, n, s)] _ rfl (by omega) (one_val W1 (k) (n) (s))
  rw [show [((k, n, s) : Val)].all vright = false by simp [hvr]] at hrt
  have HB := Lib.hid hblk
  have HWE := Lib.hid hW1.symm
  have HWB := Lib.hid hW.1
  have HW := Lib.hid (hW.below hA1)
  have HC := Lib.hid ((WChg.refl b w).thenB hW.1 hA1)
  have HRT := Lib.hid hrt
  have HA2 := Lib.hid hA2
  have HAP := Lib.hid (show Apart W1 b w.heap.size by rw [hW1]; exact apart_new hW _)
  have hzz : w.heap.size < W1.heap.size := by omega
  clear hA1 hblk hrt hA2 hW hW1 hz1 hvr
  go_enter Try.func43, Try.ntmps43
  go_upto_region 1 with fail
  rw [HWE.out]
  obtain ⟨⟨c0, c1, c2⟩, f0, f1, f2⟩ := val_at HB.out
  go_wp2_with fail
  refine HRT.out.mono ?_
  rintro e w2 ⟨rfl, hb2⟩
  have hB2 := Below.thenB HA2.out (by simp) hb2
  have HB2 := Lib.hid ((hB2.block w.heap.size hzz).trans HB.out)
  have hz2 := hB2.size
  have HW2 := Lib.hid (HW.out.below hB2)
  have HC2 := Lib.hid (HC.out.thenB HWB.out hB2)
  have hzz2 : w.heap.size < w2.heap.size := by omega
  have HAP2 := Lib.hid (HAP.out.below (Nat.lt_of_lt_of_le HWB.out (by omega)) hB2)
  clear c0 c1 c2 f0 f1 f2 hb2 HB HW HC HRT HA2 hB2 HWE HAP
  obtain ⟨⟨c0, c1, c2⟩, f0, f1, f2⟩ := val_at HB2.out
  go_wp2_with fail
  refine (int_any 0 _).mono ?_
  rintro e w3 ⟨rfl, hb3⟩
  have HB3' := Lib.hid ((hb3.block w.heap.size hzz2).trans HB2.out)
  have HWc := Lib.hid (HW2.out.below hb3)
  have HCc := Lib.hid (HC2.out.thenB HWB.out hb3)
  have HAPc := Lib.hid (HAP2.out.below (Nat.lt_of_lt_of_le HWB.out (by omega)) hb3)
  have hz3 := hb3.size
  clear c0 c1 c2 f0 f1 f2 hb3 HB2 HW2 HC2 HAP2
  obtain ⟨⟨c0, c1, c2⟩, f0, f1, f2⟩ := val_at HB3'.out
  go_upto_region 3 with fail
  have hs5 := vset3 HB3'.out (.int .i64 1) (.int .i64 0) (.string ⟨#[]⟩)
  have hw5 := ((HWc.out.far HAPc.out 0 (.int .i64 1)).far (HAPc.out.far HAPc.out.1 0 (.int .i64 1)) 1 (.int .i64 0)).far ((HAPc.out.far HAPc.out.1 0 (.int .i64 1)).far HAPc.out.1 1 (.int .i64 0)) 2 (.string ⟨#[]⟩)
  have hc5 := ((HCc.out.far (Nat.le_refl _) HAPc.out.1 0 (.int .i64 1)).far (Nat.le_refl _) HAPc.out.1 1 (.int .i64 0)).far (Nat.le_refl _) HAPc.out.1 2 (.string ⟨#[]⟩)
  have ha5 := ((HAPc.out.far HAPc.out.1 0 (.int .i64 1)).far HAPc.out.1 1 (.int .i64 0)).far HAPc.out.1 2 (.string ⟨#[]⟩)
  have hzz5 : w.heap.size < (((w3.setCell ⟨w.heap.size, 0, none⟩ (.int .i64 1)).setCell ⟨w.heap.size, 1, none⟩ (.int .i64 0)).setCell ⟨w.heap.size, 2, none⟩ (.string ⟨#[]⟩)).heap.size := by simp; omega
  clear c0 c1 c2 f0 f1 f2
  generalize ((w3.setCell ⟨w.heap.size, 0, none⟩ (.int .i64 1)).setCell ⟨w.heap.size, 1, none⟩ (.int .i64 0)).setCell ⟨w.heap.size, 2, none⟩ (.string ⟨#[]⟩) = w5 at hs5 hw5 hc5 ha5 hzz5 ⊢
  have HB2 := Lib.hid hs5
  have HW2 := Lib.hid hw5
  have HC2 := Lib.hid hc5
  have HAP2 := Lib.hid ha5
  have hzz2 := hzz5
  have hz2 : W1.heap.size ≤ w5.heap.size + W1.heap.size := by omega
  clear hs5 hw5 hc5 ha5 hzz5 HB3' HWc HCc HAPc
  obtain ⟨⟨c0, c1, c2⟩, f0, f1, f2⟩ := val_at HB2.out
  have hA3 : Below w5.heap.size w5 (w5.alloc (.cells #[.int .u8 1] 5)) := (Below.refl _ _).alloc (Nat.le_refl _) _
  have hput := wput_any b l [1] (some ⟨w5.heap.size, 0, none⟩) 1 1 _ rfl (by omega) (by omega) (HW2.out.below hA3) (.inr ⟨w5.heap.size, 0, rfl, one_cell_new w5 5 (.int .u8 1)⟩)
  have HP := Lib.hid hput
  have HC3 := Lib.hid (HC2.out.thenB HWB.out hA3)
  have HAP3 := Lib.hid (HAP2.out.below (Nat.lt_of_lt_of_le HWB.out (by omega)) hA3)
  have hzz3 : w.heap.size < (w5.alloc (.cells #[.int .u8 1] 5)).heap.size := by simp; omega
  have HB3 := Lib.hid ((hA3.block w.heap.size hzz2).trans HB2.out)
  clear hA3 hput
  go_wp2_with fail
  refine HP.out.mono ?_
  rintro e w4 ⟨rfl, hW4, hC4⟩
  have HB4 := Lib.hid ((hC4.1.block w.heap.size hzz3 (fun e => by rcases e with e | e; exact HAP3.out.1 e; exact HAP3.out.2 e)).trans HB3.out)
  have HW4 := Lib.hid hW4
  have HC4 := Lib.hid (HC3.out.trans hC4)
  clear c0 c1 c2 f0 f1 f2 hW4 hC4 HP HC3 HW2 HC2 HB2 HB3 HAP3 HAP2 hzz3
  obtain ⟨⟨c0, c1, c2⟩, f0, f1, f2⟩ := val_at HB4.out
  have hA5 : Below w4.heap.size w4 (w4.alloc (.cells #[.int .i64 0] 2)) := (Below.refl _ _).alloc (Nat.le_refl _) _
  have hsg := wsigned_any b (l ++ [1]) (some ⟨w4.heap.size, 0, none⟩) 1 1 [0] _ rfl (by rw [List.length_append, List.length_cons, List.length_nil]; omega) (by omega) (fun z hz => by simp at hz; subst hz; omega) (HW4.out.below hA5) (one_int w4 0 2) (fun _ x hx => by injection hx with hx; subst hx; exact apart_new HW4.out _)
  rw [show signedsB [0] = numB (foldN 0) by simp [signedsB], List.append_assoc] at hsg
  have HSG := Lib.hid hsg
  have HC5 := Lib.hid (HC4.out.thenB HWB.out hA5)
  clear hA5 hsg HW4 HC4 HB4
  go_wp2_with fail
  refine HSG.out.mono ?_
  rintro e w6 ⟨rfl, hW6, hC6⟩
  have HW6 := Lib.hid hW6
  have HC6 := Lib.hid (HC5.out.trans hC6)
  clear hW6 hC6 c0 c1 c2 f0 f1 f2
  go_wp2
  go_end0
  exact ⟨rfl, HW6.out, HC6.out⟩
end Go.Proofs.Ytapcnpocaffeoab
