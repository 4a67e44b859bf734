/- Contracts of Parse of values. -/
import Derived.Test.YtbodldlenoehfaaDoorPrint
import Derived.Test.YtbodldlenoehfaaDoorTextC
import Derived.Test.YtbodldlenoehfaaDoorRV
namespace Go.Proofs.YtbodldlenoehfaaDoor
open Go.RowKit
/-- The text between quotes, as the program takes it out. -/
def inner (l : List UInt8) : List UInt8 := Lib.replaceAll (Lib.trimSuffix (Lib.trimPrefix l [39]) [39]) [39, 39] [39]
def innerV (l : List UInt8) : Val := (2, 0, ⟨(inner l).toArray⟩)
def zeroV : Val := (0, 0, ⟨#[]⟩)
/-- The value that a text is the print of, as the program finds it. -/
def vparse (l : List UInt8) : Option Val :=
  if l = [116, 114, 117, 101] then some (3, 1, ⟨#[]⟩) else if l = [102, 97, 108, 115, 101] then some (3, 0, ⟨#[]⟩)
  else if Lib.hasPrefix l [39] then (if printOf (innerV l) = l then some (innerV l) else none)
  else match parV l with
    | some V => if inB V then some (1, V, ⟨#[]⟩) else none
    | none => none
def pret (o : Option Val) : Ending := match o with
  | some v => .returned (.tuple #[vagg v, .int .i64 0])
  | none => .returned (.tuple #[vagg zeroV, .int .i64 12])
theorem ba_eq (s : ByteArray) (l : List UInt8) (h : s.data.toList = l) : s = ⟨l.toArray⟩ := by
  subst h
  cases s
  simp
set_option maxRecDepth 100000 in
set_option maxHeartbeats 1000000 in
theorem ptext_any (s : ByteArray) (hs : s.size ≤ 1000) (w : World) (htab : Lib.TabIs Tryd.prog w "internal/strconv.uint64pow10" .u64 Lib.pow10Tab) (hmx : IntCell w 3) :
    Calls Tryd.prog 62 #[.string s] w fun e w' => e = pret (if printOf (innerV s.data.toList) = s.data.toList then some (innerV s.data.toList) else none) ∧ Below w.heap.size w w' := by
  obtain ⟨l, hl⟩ : ∃ l, l = s.data.toList := ⟨_, rfl⟩
  have hll : l.length = s.size := by rw [hl, Lib.size_eq]
  rw [← hl]
  have HL := Lib.hid hl
  obtain ⟨R, hR⟩ : ∃ R, R = (if printOf (innerV l) = l then some (innerV l) else none) := ⟨_, rfl⟩
  rw [← hR]
  have HR := Lib.hid hR
  clear hR
  have hA : Below w.heap.size w (w.alloc (.cells #[.int .i64 0, .int .i64 0, .string ⟨#[]⟩] 34)) := (Below.refl _ _).alloc (Nat.le_refl _) _
  have HM := Lib.hid (hmx.below hA)
  have HT := Lib.hid (tab_below htab hA)
  clear hl hmx htab
  have ht1 := trimP_len l [39]
  have ht2 := trimS_len (Lib.trimPrefix l [39]) [39]
  go_enter Tryd.func62, Tryd.ntmps62
  go_wp2_with fail
  refine (Tryd.strings_TrimPrefix s ⟨#[39]⟩ _).mono ?_
  rintro e w1 ⟨rfl, rfl⟩
  rw [← HL.out]
  obtain ⟨p, hp⟩ : ∃ p, p = Lib.trimPrefix l [39] := ⟨_, rfl⟩
  have hp' : Lib.trimPrefix l (ByteArray.mk #[39]).data.toList = p := hp.symm
  rw [hp']
  rw [← hp] at ht1 ht2
  have hps : (⟨p.toArray⟩ : ByteArray).size ≤ 1000 := by show p.toArray.size ≤ 1000; simp; omega
  have HP := Lib.hid hp
  clear hp hp'
  go_wp2_with fail
  refine (Tryd.strings_TrimSuffix ⟨p.toArray⟩ ⟨#[39]⟩ _ (by omega)).mono ?_
  rintro e w1 ⟨rfl, rfl⟩
  obtain ⟨q, hq⟩ : ∃ q, q = Lib.trimSuffix p [39] := ⟨_, rfl⟩
  have hq' : Lib.trimSuffix (ByteArray.mk p.toArray).data.toList (ByteArray.mk #[39]).data.toList = q := hq.symm
  rw [hq']
  rw [← hq] at ht2
  have hqs : (⟨q.toArray⟩ : ByteArray).size ≤ 1000 := by show q.toArray.size ≤ 1000; simp; omega
  have HQ := Lib.hid hq
  clear hq hq'
  obtain ⟨_, mx, hmx3⟩ := HM.out
  have hcb := Lib.countB_le ⟨#[39, 39]⟩ (by decide) (⟨q.toArray⟩ : ByteArray).size ⟨q.toArray⟩ (Nat.le_refl _)
  go_wp2_with fail
  refine (Tryd.strings_ReplaceAll ⟨q.toArray⟩ ⟨#[39, 39]⟩ ⟨#[39]⟩ mx _ (by omega) hmx3 (by decide) (by show (⟨q.toArray⟩ : ByteArray).size + Lib.countB ⟨q.toArray⟩ ⟨#[39, 39]⟩ * 1 ≤ _; omega)).mono ?_
  rintro e w2 ⟨rfl, hb2⟩
  have hin : Lib.replaceAll (ByteArray.mk q.toArray).data.toList (ByteArray.mk #[39, 39]).data.toList (ByteArray.mk #[39]).data.toList = inner l := by
    show Lib.replaceAll q [39, 39] [39] = _
    unfold inner
    rw [HQ.out, HP.out]
  rw [hin]
  clear hin hmx3 hcb
  have HM2 := Lib.hid (HM.out.below hb2)
  have HT2 := Lib.hid (tab_below HT.out hb2)
  have hz2 := hb2.size
  simp at hz2
  obtain ⟨hc2, hf2⟩ := bcell hb2
  have c0 : w2.cell? ⟨w.heap.size, 0, none⟩ = some (.int .i64 0) := (hc2 w.heap.size 0 (by simp)).trans (by go_simp)
  have c1 : w2.cell? ⟨w.heap.size, 1, none⟩ = some (.int .i64 0) := (hc2 w.heap.size 1 (by simp)).trans (by go_simp)
  have c2 : w2.cell? ⟨w.heap.size, 2, none⟩ = some (.string ⟨#[]⟩) := (hc2 w.heap.size 2 (by simp)).trans (by go_simp)
  have f0 : w2.frozen? ⟨w.heap.size, 0, none⟩ = false := (hf2 w.heap.size 0 (by simp)).trans (by go_simp)
  have f1 : w2.frozen? ⟨w.heap.size, 1, none⟩ = false := (hf2 w.heap.size 1 (by simp)).trans (by go_simp)
  have f2 : w2.frozen? ⟨w.heap.size, 2, none⟩ = false := (hf2 w.heap.size 2 (by simp)).trans (by go_simp)
  clear hc2 hf2
  obtain ⟨I, hI⟩ : ∃ I : ByteArray, I = ⟨(inner l).toArray⟩ := ⟨_, rfl⟩
  rw [← hI]
  have hIV : innerV l = (2, 0, I) := by rw [hI]; rfl
  have HI := Lib.hid hIV
  clear hI hIV
  go_wp2_with fail
  refine (text_any I _).mono ?_
  rintro e w3 ⟨rfl, hb3⟩
  have hz3 := hb3.size
  obtain ⟨hc3, hf3⟩ := bcell hb3
  have d0 := (hc3 w.heap.size 0 (by omega)).trans c0
  have d1 := (hc3 w.heap.size 1 (by omega)).trans c1
  have d2 := (hc3 w.heap.size 2 (by omega)).trans c2
  have g0 := (hf3 w.heap.size 0 (by omega)).trans f0
  have g1 := (hf3 w.heap.size 1 (by omega)).trans f1
  have g2 := (hf3 w.heap.size 2 (by omega)).trans f2
  clear hc3 hf3 c0 c1 c2 f0 f1 f2
  have hb03 : Below w.heap.size w w3 := Below.thenB (Below.thenB hA (by simp) hb2) (by omega) hb3
  have hB3 : Below w3.heap.size w3 (w3.alloc (.cells #[.int .i64 2, .int .i64 0, .string I] 34)) := (Below.refl _ _).alloc (Nat.le_refl _) _
  go_wp2_with fail
  refine (vprint_any (2, 0, I) (by show (-9223372036854775808 : Int) ≤ 0; decide) (by show (0 : Int) ≤ 9223372036854775807; decide) _ (tab_below (tab_below HT2.out hb3) hB3) ((HM2.out.below hb3).below hB3)).mono ?_
  rintro e w4 ⟨rfl, hb4⟩
  rw [← HI.out]
  have hz4 := hb4.size
  simp at hz4
  obtain ⟨hc5, hf5⟩ := bcell (Below.thenB hB3 (by simp) hb4 : Below w3.heap.size w3 w4)
  have e0 := (hc5 w.heap.size 0 (by omega)).trans d0
  have e1 := (hc5 w.heap.size 1 (by omega)).trans d1
  have e2 := (hc5 w.heap.size 2 (by omega)).trans d2
  have k0 := (hf5 w.heap.size 0 (by omega)).trans g0
  have k1 := (hf5 w.heap.size 1 (by omega)).trans g1
  have k2 := (hf5 w.heap.size 2 (by omega)).trans g2
  clear hc5 hf5
  obtain ⟨hc4, hf4⟩ := bcell hb4
  have m0 : w4.cell? ⟨w3.heap.size, 0, none⟩ = some (.int .i64 2) := (hc4 w3.heap.size 0 (by simp)).trans (by go_simp)
  have m1 : w4.cell? ⟨w3.heap.size, 1, none⟩ = some (.int .i64 0) := (hc4 w3.heap.size 1 (by simp)).trans (by go_simp)
  have m2 : w4.cell? ⟨w3.heap.size, 2, none⟩ = some (.string I) := (hc4 w3.heap.size 2 (by simp)).trans (by go_simp)
  clear hc4 hf4 d0 d1 d2 g0 g1 g2
  have hb04 : Below w.heap.size w w4 := Below.thenB (hb03.alloc (by omega) _) (by simp; omega) hb4
  by_cases hpr : printOf (innerV l) = l
  · have hd : (printOf (innerV l) == s.toList) = true := by
      rw [ByteArray.toList_eq, ← HL.out, hpr]; simp
    have hRR := HR.out
    rw [if_pos hpr] at hRR
    have HRR := Lib.hid hRR
    clear hpr hRR
    generalize printOf (innerV l) = PR at *
    go_wp2
    simp [bodyPost, results, Tryd.results62, go_sem, e0, e1, e2]
    refine ⟨?_, ((hb04.setCell (Nat.le_refl _) _).setCell (Nat.le_refl _) _).setCell (Nat.le_refl _) _⟩
    rw [HRR.out, HI.out]; rfl
  · have hd : (printOf (innerV l) == s.toList) = false := by
      rw [ByteArray.toList_eq, ← HL.out]; exact beq_false_of_ne hpr
    have hRR := HR.out
    rw [if_neg hpr] at hRR
    have HRR := Lib.hid hRR
    clear hpr hRR
    generalize printOf (innerV l) = PR at *
    go_wp2
    simp [bodyPost, results, Tryd.results62, go_sem, e0, e1, e2]
    refine ⟨?_, ((hb04.setCell (Nat.le_refl _) _).setCell (Nat.le_refl _) _).setCell (Nat.le_refl _) _⟩
    rw [HRR.out]; rfl
set_option maxRecDepth 100000 in
set_option maxHeartbeats 1000000 in
theorem vp_true (w : World) : Calls Tryd.prog 34 #[.string ⟨#[116, 114, 117, 101]⟩] w fun e w' => e = .returned (.tuple #[.agg #[.int .i64 3, .int .i64 1, .string ⟨#[]⟩], .int .i64 0]) ∧ Below w.heap.size w w' := by
  have hA : Below w.heap.size w (w.alloc (.cells #[.int .i64 0, .int .i64 0, .string ⟨#[]⟩] 34)) := (Below.refl _ _).alloc (Nat.le_refl _) _
  go_enter Tryd.func34, Tryd.ntmps34
  go_wp2_with fail
  refine (bool_t _).mono ?_
  rintro e w2 ⟨rfl, hb2⟩
  have hz2 := hb2.size
  simp at hz2
  obtain ⟨hc2, hf2⟩ := bcell hb2
  have e0 : w2.cell? ⟨w.heap.size, 0, none⟩ = some (.int .i64 0) := (hc2 w.heap.size 0 (by simp)).trans (by go_simp)
  have e1 : w2.cell? ⟨w.heap.size, 1, none⟩ = some (.int .i64 0) := (hc2 w.heap.size 1 (by simp)).trans (by go_simp)
  have e2 : w2.cell? ⟨w.heap.size, 2, none⟩ = some (.string ⟨#[]⟩) := (hc2 w.heap.size 2 (by simp)).trans (by go_simp)
  have k0 : w2.frozen? ⟨w.heap.size, 0, none⟩ = false := (hf2 w.heap.size 0 (by simp)).trans (by go_simp)
  have k1 : w2.frozen? ⟨w.heap.size, 1, none⟩ = false := (hf2 w.heap.size 1 (by simp)).trans (by go_simp)
  have k2 : w2.frozen? ⟨w.heap.size, 2, none⟩ = false := (hf2 w.heap.size 2 (by simp)).trans (by go_simp)
  clear hc2 hf2
  have hb02 : Below w.heap.size w w2 := Below.thenB hA (by simp) hb2
  go_wp2
  simp [bodyPost, results, Tryd.results34, go_sem, e0, e1, e2]
  exact ((hb02.setCell (Nat.le_refl _) _).setCell (Nat.le_refl _) _).setCell (Nat.le_refl _) _
set_option maxRecDepth 100000 in
set_option maxHeartbeats 1000000 in
theorem vp_false (w : World) : Calls Tryd.prog 34 #[.string ⟨#[102, 97, 108, 115, 101]⟩] w fun e w' => e = .returned (.tuple #[.agg #[.int .i64 3, .int .i64 0, .string ⟨#[]⟩], .int .i64 0]) ∧ Below w.heap.size w w' := by
  have hA : Below w.heap.size w (w.alloc (.cells #[.int .i64 0, .int .i64 0, .string ⟨#[]⟩] 34)) := (Below.refl _ _).alloc (Nat.le_refl _) _
  go_enter Tryd.func34, Tryd.ntmps34
  go_wp2_with fail
  refine (bool_f _).mono ?_
  rintro e w2 ⟨rfl, hb2⟩
  have hz2 := hb2.size
  simp at hz2
  obtain ⟨hc2, hf2⟩ := bcell hb2
  have e0 : w2.cell? ⟨w.heap.size, 0, none⟩ = some (.int .i64 0) := (hc2 w.heap.size 0 (by simp)).trans (by go_simp)
  have e1 : w2.cell? ⟨w.heap.size, 1, none⟩ = some (.int .i64 0) := (hc2 w.heap.size 1 (by simp)).trans (by go_simp)
  have e2 : w2.cell? ⟨w.heap.size, 2, none⟩ = some (.string ⟨#[]⟩) := (hc2 w.heap.size 2 (by simp)).trans (by go_simp)
  have k0 : w2.frozen? ⟨w.heap.size, 0, none⟩ = false := (hf2 w.heap.size 0 (by simp)).trans (by go_simp)
  have k1 : w2.frozen? ⟨w.heap.size, 1, none⟩ = false := (hf2 w.heap.size 1 (by simp)).trans (by go_simp)
  have k2 : w2.frozen? ⟨w.heap.size, 2, none⟩ = false := (hf2 w.heap.size 2 (by simp)).trans (by go_simp)
  clear hc2 hf2
  have hb02 : Below w.heap.size w w2 := Below.thenB hA (by simp) hb2
  go_wp2
  simp [bodyPost, results, Tryd.results34, go_sem, e0, e1, e2]
  exact ((hb02.setCell (Nat.le_refl _) _).setCell (Nat.le_refl _) _).setCell (Nat.le_refl _) _
set_option maxRecDepth 100000 in
set_option maxHeartbeats 1000000 in
theorem vp_text (s : ByteArray) (hs : s.size ≤ 1000) (h1 : ¬ s.data.toList = [116, 114, 117, 101]) (h2 : ¬ s.data.toList = [102, 97, 108, 115, 101]) (hp : Lib.hasPrefix s.data.toList [39] = true) (w : World) (htab : Lib.TabIs Tryd.prog w "internal/strconv.uint64pow10" .u64 Lib.pow10Tab) (hmx : IntCell w 3) :
    Calls Tryd.prog 34 #[.string s] w fun e w' => e = pret (if printOf (innerV s.data.toList) = s.data.toList then some (innerV s.data.toList) else none) ∧ Below w.heap.size w w' := by
  have hA : Below w.heap.size w (w.alloc (.cells #[.int .i64 0, .int .i64 0, .string ⟨#[]⟩] 34)) := (Below.refl _ _).alloc (Nat.le_refl _) _
  have d1 : (s.toList == [116, 114, 117, 101]) = false := by rw [ByteArray.toList_eq]; exact beq_false_of_ne h1
  have d2 : (s.toList == [102, 97, 108, 115, 101]) = false := by rw [ByteArray.toList_eq]; exact beq_false_of_ne h2
  have HP := Lib.hid hp
  have HM := Lib.hid (hmx.below hA)
  have HT := Lib.hid (tab_below htab hA)
  clear h1 h2 hp hmx htab
  obtain ⟨R, hR⟩ : ∃ R, R = (if printOf (innerV s.data.toList) = s.data.toList then some (innerV s.data.toList) else none) := ⟨_, rfl⟩
  rw [← hR]
  have HR := Lib.hid hR
  clear hR
  go_enter Tryd.func34, Tryd.ntmps34
  go_wp2_with fail
  refine (Tryd.strings_HasPrefix s ⟨#[39]⟩ _).mono ?_
  rintro e w1 ⟨rfl, rfl⟩
  have hp : Lib.hasPrefix s.data.toList (ByteArray.mk #[39]).data.toList = true := HP.out
  rw [hp]
  clear hp
  go_wp2_with fail
  refine (ptext_any s hs _ HT.out HM.out).mono ?_
  rintro e w2 ⟨he, hb2⟩
  rw [← HR.out] at he
  have hz2 := hb2.size
  simp at hz2
  obtain ⟨hc2, hf2⟩ := bcell hb2
  have e0 : w2.cell? ⟨w.heap.size, 0, none⟩ = some (.int .i64 0) := (hc2 w.heap.size 0 (by simp)).trans (by go_simp)
  have e1 : w2.cell? ⟨w.heap.size, 1, none⟩ = some (.int .i64 0) := (hc2 w.heap.size 1 (by simp)).trans (by go_simp)
  have e2 : w2.cell? ⟨w.heap.size, 2, none⟩ = some (.string ⟨#[]⟩) := (hc2 w.heap.size 2 (by simp)).trans (by go_simp)
  have k0 : w2.frozen? ⟨w.heap.size, 0, none⟩ = false := (hf2 w.heap.size 0 (by simp)).trans (by go_simp)
  have k1 : w2.frozen? ⟨w.heap.size, 1, none⟩ = false := (hf2 w.heap.size 1 (by simp)).trans (by go_simp)
  have k2 : w2.frozen? ⟨w.heap.size, 2, none⟩ = false := (hf2 w.heap.size 2 (by simp)).trans (by go_simp)
  clear hc2 hf2
  have hb02 : Below w.heap.size w w2 := Below.thenB hA (by simp) hb2
  cases R with
  | some v =>
    obtain ⟨vk, vn, vs⟩ := v
    have he' : e = .returned (.tuple #[.agg #[.int .i64 vk, .int .i64 vn, .string vs], .int .i64 0]) := he
    subst he'
    clear he
    go_wp2
    simp [bodyPost, results, Tryd.results34, go_sem, e0, e1, e2]
    exact ⟨rfl, ((hb02.setCell (Nat.le_refl _) _).setCell (Nat.le_refl _) _).setCell (Nat.le_refl _) _⟩
  | none =>
    have he' : e = .returned (.tuple #[.agg #[.int .i64 0, .int .i64 0, .string ⟨#[]⟩], .int .i64 12]) := he
    subst he'
    clear he
    go_wp2
    simp [bodyPost, results, Tryd.results34, go_sem, e0, e1, e2]
    exact ⟨rfl, ((hb02.setCell (Nat.le_refl _) _).setCell (Nat.le_refl _) _).setCell (Nat.le_refl _) _⟩
def numV (o : Option Int) : Option Val := match o with
  | some V => if inB V then some (1, V, ⟨#[]⟩) else none
  | none => none
set_option maxRecDepth 100000 in
set_option maxHeartbeats 1000000 in
theorem vp_num (s : ByteArray) (hs : s.size ≤ 1000) (h1 : ¬ s.data.toList = [116, 114, 117, 101]) (h2 : ¬ s.data.toList = [102, 97, 108, 115, 101]) (hp : Lib.hasPrefix s.data.toList [39] = false) (w : World) (hev : ErrCell w 1) :
    Calls Tryd.prog 34 #[.string s] w fun e w' => e = pret (numV (parV s.data.toList)) ∧ Below w.heap.size w w' := by
  have hA : Below w.heap.size w (w.alloc (.cells #[.int .i64 0, .int .i64 0, .string ⟨#[]⟩] 34)) := (Below.refl _ _).alloc (Nat.le_refl _) _
  have d1 : (s.toList == [116, 114, 117, 101]) = false := by rw [ByteArray.toList_eq]; exact beq_false_of_ne h1
  have d2 : (s.toList == [102, 97, 108, 115, 101]) = false := by rw [ByteArray.toList_eq]; exact beq_false_of_ne h2
  have HP := Lib.hid hp
  have HE := Lib.hid (hev.below hA)
  clear h1 h2 hp hev
  obtain ⟨P, hP⟩ : ∃ P, P = parV s.data.toList := ⟨_, rfl⟩
  rw [← hP]
  have HR := Lib.hid hP
  clear hP
  go_enter Tryd.func34, Tryd.ntmps34
  go_wp2_with fail
  refine (Tryd.strings_HasPrefix s ⟨#[39]⟩ _).mono ?_
  rintro e w1 ⟨rfl, rfl⟩
  have hp : Lib.hasPrefix s.data.toList (ByteArray.mk #[39]).data.toList = false := HP.out
  rw [hp]
  clear hp
  go_wp2_with fail
  refine (parse_any s hs _ HE.out).mono ?_
  rintro e w2 ⟨rfl, hb2⟩
  rw [← HR.out]
  have hz2 := hb2.size
  simp at hz2
  obtain ⟨hc2, hf2⟩ := bcell hb2
  have e0 : w2.cell? ⟨w.heap.size, 0, none⟩ = some (.int .i64 0) := (hc2 w.heap.size 0 (by simp)).trans (by go_simp)
  have e1 : w2.cell? ⟨w.heap.size, 1, none⟩ = some (.int .i64 0) := (hc2 w.heap.size 1 (by simp)).trans (by go_simp)
  have e2 : w2.cell? ⟨w.heap.size, 2, none⟩ = some (.string ⟨#[]⟩) := (hc2 w.heap.size 2 (by simp)).trans (by go_simp)
  have k0 : w2.frozen? ⟨w.heap.size, 0, none⟩ = false := (hf2 w.heap.size 0 (by simp)).trans (by go_simp)
  have k1 : w2.frozen? ⟨w.heap.size, 1, none⟩ = false := (hf2 w.heap.size 1 (by simp)).trans (by go_simp)
  have k2 : w2.frozen? ⟨w.heap.size, 2, none⟩ = false := (hf2 w.heap.size 2 (by simp)).trans (by go_simp)
  clear hc2 hf2
  have hb02 : Below w.heap.size w w2 := Below.thenB hA (by simp) hb2
  by_cases hok : pE P = 0
  · obtain ⟨V, rfl, hin⟩ : ∃ V, P = some V ∧ inB V = true := by
      cases P with
      | none => simp [pE] at hok
      | some V =>
        refine ⟨V, rfl, ?_⟩
        have := er_in V
        cases hi : inB V with
        | true => rfl
        | false => rw [hi] at this; simp [pE] at hok; rw [hok] at this; simp at this
    have hpn : pN (some V) = V := by
      unfold inB at hin
      have := of_decide_eq_true hin
      unfold pN okN
      simp only []
      rw [if_pos this]
    have hres : numV (some V) = some (1, V, ⟨#[]⟩) := by unfold numV; simp only []; rw [hin]; rfl
    rw [hpn, hok]
    have HRES := Lib.hid hres
    clear hres hpn hin hok
    go_wp2_with fail
    refine (int_any V _).mono ?_
    rintro e w3 ⟨rfl, hb3⟩
    obtain ⟨hc3, hf3⟩ := bcell hb3
    have q0 := (hc3 w.heap.size 0 (by omega)).trans e0
    have q1 := (hc3 w.heap.size 1 (by omega)).trans e1
    have q2 := (hc3 w.heap.size 2 (by omega)).trans e2
    have r0 := (hf3 w.heap.size 0 (by omega)).trans k0
    have r1 := (hf3 w.heap.size 1 (by omega)).trans k1
    have r2 := (hf3 w.heap.size 2 (by omega)).trans k2
    clear hc3 hf3
    go_wp2
    simp [bodyPost, results, Tryd.results34, go_sem, q0, q1, q2]
    rw [HRES.out]
    exact ⟨rfl, (((Below.thenB hb02 (by omega) hb3).setCell (Nat.le_refl _) _).setCell (Nat.le_refl _) _).setCell (Nat.le_refl _) _⟩
  · have hres : numV P = none := by
      cases P with
      | none => rfl
      | some V =>
        unfold numV
        simp only []
        have := er_in V
        cases hi : inB V with
        | true => rw [hi] at this; exact absurd this hok
        | false => rfl
    have hd : (pE P == 0) = false := beq_false_of_ne hok
    have HRES := Lib.hid hres
    clear hres hok
    generalize pN P = pn at *
    generalize pE P = pe at *
    go_wp2
    simp [bodyPost, results, Tryd.results34, go_sem, e0, e1, e2]
    rw [HRES.out]
    exact ⟨rfl, ((hb02.setCell (Nat.le_refl _) _).setCell (Nat.le_refl _) _).setCell (Nat.le_refl _) _⟩
theorem vparse_any (s : ByteArray) (hs : s.size ≤ 1000) (w : World) (htab : Lib.TabIs Tryd.prog w "internal/strconv.uint64pow10" .u64 Lib.pow10Tab) (hev : ErrCell w 1) (hmx : IntCell w 3) :
    Calls Tryd.prog 34 #[.string s] w fun e w' => e = pret (vparse s.data.toList) ∧ Below w.heap.size w w' := by
  unfold vparse
  by_cases h1 : s.data.toList = [116, 114, 117, 101]
  · rw [if_pos h1, ba_eq s _ h1]
    exact vp_true w
  rw [if_neg h1]
  by_cases h2 : s.data.toList = [102, 97, 108, 115, 101]
  · rw [if_pos h2, ba_eq s _ h2]
    exact vp_false w
  rw [if_neg h2]
  cases hp : Lib.hasPrefix s.data.toList [39] with
  | true => rw [if_pos rfl]; exact vp_text s hs h1 h2 hp w htab hmx
  | false => rw [if_neg (by decide)]; exact vp_num s hs h1 h2 hp w hev
end Go.Proofs.YtbodldlenoehfaaDoor
