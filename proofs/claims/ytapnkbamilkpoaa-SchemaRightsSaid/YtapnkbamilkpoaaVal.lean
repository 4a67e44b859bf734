/- Contracts of values: Int, Text, Bool, right, Right. -/
import Derived.Test.YtapnkbamilkpoaaWorld
import Derived.Test.YtapnkbamilkpoaaRows
import Derived.Deep.RegionHeld3
import Derived.Deep.QuietTactic
import Derived.BigQuiet
namespace Go.Proofs.Ytapnkbamilkpoaa
open Go.RowKit
/-- A value's parts: its kind, N, S. -/
abbrev Val := Int × Int × ByteArray
def vagg (v : Val) : Value := .agg #[.int .i64 v.1, .int .i64 v.2.1, .string v.2.2]
set_option maxHeartbeats 400000 in
theorem int_any (n : Int) (w : World) : Calls Try.prog 87 #[.int .i64 n] w fun e w' => e = .returned (.agg #[.int .i64 1, .int .i64 n, .string ⟨#[]⟩]) ∧ Below w.heap.size w w' := by
  go_enter Try.func87, Try.ntmps87
  go_wp2
  simp [bodyPost, results, Try.results87, go_sem]
  exact (Below.refl _ _).alloc (Nat.le_refl _) _
set_option maxHeartbeats 400000 in
theorem text_any (s : ByteArray) (w : World) : Calls Try.prog 88 #[.string s] w fun e w' => e = .returned (.agg #[.int .i64 2, .int .i64 0, .string s]) ∧ Below w.heap.size w w' := by
  go_enter Try.func88, Try.ntmps88
  go_wp2
  simp [bodyPost, results, Try.results88, go_sem]
  exact (Below.refl _ _).alloc (Nat.le_refl _) _
set_option maxHeartbeats 400000 in
theorem bool_t (w : World) : Calls Try.prog 89 #[.bool true] w fun e w' => e = .returned (.agg #[.int .i64 3, .int .i64 1, .string ⟨#[]⟩]) ∧ Below w.heap.size w w' := by
  go_enter Try.func89, Try.ntmps89
  go_wp2
  simp [bodyPost, results, Try.results89, go_sem]
  exact (Below.refl _ _).alloc (Nat.le_refl _) _
set_option maxHeartbeats 400000 in
theorem bool_f (w : World) : Calls Try.prog 89 #[.bool false] w fun e w' => e = .returned (.agg #[.int .i64 3, .int .i64 0, .string ⟨#[]⟩]) ∧ Below w.heap.size w w' := by
  go_enter Try.func89, Try.ntmps89
  go_wp2
  simp [bodyPost, results, Try.results89, go_sem]
  exact (Below.refl _ _).alloc (Nat.le_refl _) _
theorem ne_empty {s : ByteArray} (h : s.size ≠ 0) : s.toList.isEmpty = false := by
  rw [ByteArray.toList_eq]
  cases e : s.data.toList with
  | nil => exact absurd (by have := congrArg List.length e; simpa using this) h
  | cons a r => rfl
theorem eq_empty {s : ByteArray} (h : s.size = 0) : s = ⟨#[]⟩ := by
  have : s.data.size = 0 := h
  cases s with
  | mk d => exact congrArg ByteArray.mk (Array.eq_empty_of_size_eq_zero this)
set_option maxHeartbeats 1000000 in
theorem rt1E (n : Int) (w : World)  : Calls Try.prog 80 #[.agg #[.int .i64 1, .int .i64 n, .string ⟨#[]⟩]] w fun e w' => e = .returned (.bool true) ∧ Below w.heap.size w w' := by
  go_enter Try.func80, Try.ntmps80
  go_wp2_with fail
  go_region_held3 (fun W => W.cell? ⟨w.heap.size, 0, none⟩ = some (.int .i64 1) ∧ W.cell? ⟨w.heap.size, 1, none⟩ = some (.int .i64 n) ∧ W.cell? ⟨w.heap.size, 2, none⟩ = some (.string ⟨#[]⟩))
    (first | go_keep | (with_reducible assumption))
    ((go_at_call 87; refine (int_any n _).mono ?_; rintro e w1 ⟨rfl, hb1⟩; obtain ⟨hc1, hf1⟩ := bcell hb1))
  go_wp2
  go_ret
  exact ⟨rfl, Below.thenB (((Below.refl _ _).alloc (Nat.le_refl _) _).drew) (by simp) hb1⟩
set_option maxHeartbeats 1000000 in
theorem rt1 (n : Int) (s : ByteArray) (w : World) (hs : s.size ≠ 0) : Calls Try.prog 80 #[.agg #[.int .i64 1, .int .i64 n, .string s]] w fun e w' => e = .returned (.bool false) ∧ Below w.heap.size w w' := by
  have h1 : s.toList.isEmpty = false := ne_empty hs
  have h2 : ¬ s.toList = [] := by simpa using h1
  go_enter Try.func80, Try.ntmps80
  go_wp2_with fail
  go_region_held3 (fun W => W.cell? ⟨w.heap.size, 0, none⟩ = some (.int .i64 1) ∧ W.cell? ⟨w.heap.size, 1, none⟩ = some (.int .i64 n) ∧ W.cell? ⟨w.heap.size, 2, none⟩ = some (.string s))
    (first | go_keep | (with_reducible assumption))
    ((go_at_call 87; refine (int_any n _).mono ?_; rintro e w1 ⟨rfl, hb1⟩; obtain ⟨hc1, hf1⟩ := bcell hb1))
  go_wp2
  go_ret
  exact ⟨rfl, Below.thenB (((Below.refl _ _).alloc (Nat.le_refl _) _).drew) (by simp) hb1⟩
set_option maxHeartbeats 1000000 in
theorem rt2y (s : ByteArray) (w : World) (hs : s.size ≤ 200) : Calls Try.prog 80 #[.agg #[.int .i64 2, .int .i64 0, .string s]] w fun e w' => e = .returned (.bool true) ∧ Below w.heap.size w w' := by
  have hd : decide ((s.size : Int) ≤ 200) = true := decide_eq_true (by omega)
  go_enter Try.func80, Try.ntmps80
  go_wp2_with fail
  go_region_held3 (fun W => W.cell? ⟨w.heap.size, 0, none⟩ = some (.int .i64 2) ∧ W.cell? ⟨w.heap.size, 1, none⟩ = some (.int .i64 0) ∧ W.cell? ⟨w.heap.size, 2, none⟩ = some (.string s))
    (first | go_keep | (with_reducible assumption))
    ((go_at_call 88; refine (text_any s _).mono ?_; rintro e w1 ⟨rfl, hb1⟩; obtain ⟨hc1, hf1⟩ := bcell hb1))
  go_wp2
  go_ret
  exact ⟨rfl, Below.thenB (((Below.refl _ _).alloc (Nat.le_refl _) _).drew) (by simp) hb1⟩
set_option maxHeartbeats 1000000 in
theorem rt2l (s : ByteArray) (w : World) (hs : ¬ s.size ≤ 200) : Calls Try.prog 80 #[.agg #[.int .i64 2, .int .i64 0, .string s]] w fun e w' => e = .returned (.bool false) ∧ Below w.heap.size w w' := by
  have hd : decide ((s.size : Int) ≤ 200) = false := decide_eq_false (by omega)
  go_enter Try.func80, Try.ntmps80
  go_wp2_with fail
  go_region_held3 (fun W => W.cell? ⟨w.heap.size, 0, none⟩ = some (.int .i64 2) ∧ W.cell? ⟨w.heap.size, 1, none⟩ = some (.int .i64 0) ∧ W.cell? ⟨w.heap.size, 2, none⟩ = some (.string s))
    (first | go_keep | (with_reducible assumption))
    ((go_at_call 88; refine (text_any s _).mono ?_; rintro e w1 ⟨rfl, hb1⟩; obtain ⟨hc1, hf1⟩ := bcell hb1))
  go_wp2
  go_ret
  exact ⟨rfl, Below.thenB (((Below.refl _ _).alloc (Nat.le_refl _) _).drew) (by simp) hb1⟩
set_option maxHeartbeats 1000000 in
theorem rt2n (n : Int) (s : ByteArray) (w : World) (hn : n ≠ 0) : Calls Try.prog 80 #[.agg #[.int .i64 2, .int .i64 n, .string s]] w fun e w' => e = .returned (.bool false) ∧ Below w.heap.size w w' := by
  have hd : (n == 0) = false := beq_false_of_ne hn
  have hd1 : decide (n = 0) = false := decide_eq_false hn
  go_enter Try.func80, Try.ntmps80
  go_wp2_with fail
  first
    | (go_region_with (go_at_call 88; refine (text_any s _).mono ?_; rintro e w1 ⟨rfl, hb1⟩; obtain ⟨hc1, hf1⟩ := bcell hb1))
    | fail
  all_goals
    go_wp2
    go_ret
    exact ⟨rfl, Below.thenB (((Below.refl _ _).alloc (Nat.le_refl _) _).drew) (by simp) hb1⟩
set_option maxHeartbeats 1000000 in
theorem rt30  (w : World)  : Calls Try.prog 80 #[.agg #[.int .i64 3, .int .i64 0, .string ⟨#[]⟩]] w fun e w' => e = .returned (.bool true) ∧ Below w.heap.size w w' := by
  go_enter Try.func80, Try.ntmps80
  go_wp2_with fail
  go_region_held3 (fun W => W.cell? ⟨w.heap.size, 0, none⟩ = some (.int .i64 3) ∧ W.cell? ⟨w.heap.size, 1, none⟩ = some (.int .i64 0) ∧ W.cell? ⟨w.heap.size, 2, none⟩ = some (.string ⟨#[]⟩))
    (first | go_keep | (with_reducible assumption))
    ((go_at_call 89; refine (bool_f _).mono ?_; rintro e w1 ⟨rfl, hb1⟩; obtain ⟨hc1, hf1⟩ := bcell hb1))
  go_wp2
  go_ret
  exact ⟨rfl, Below.thenB (((Below.refl _ _).alloc (Nat.le_refl _) _).drew) (by simp) hb1⟩
set_option maxHeartbeats 1000000 in
theorem rt31  (w : World)  : Calls Try.prog 80 #[.agg #[.int .i64 3, .int .i64 1, .string ⟨#[]⟩]] w fun e w' => e = .returned (.bool true) ∧ Below w.heap.size w w' := by
  go_enter Try.func80, Try.ntmps80
  go_wp2_with fail
  go_region_held3 (fun W => W.cell? ⟨w.heap.size, 0, none⟩ = some (.int .i64 3) ∧ W.cell? ⟨w.heap.size, 1, none⟩ = some (.int .i64 1) ∧ W.cell? ⟨w.heap.size, 2, none⟩ = some (.string ⟨#[]⟩))
    (first | go_keep | (with_reducible assumption))
    ((go_at_call 89; refine (bool_t _).mono ?_; rintro e w1 ⟨rfl, hb1⟩; obtain ⟨hc1, hf1⟩ := bcell hb1))
  go_wp2
  go_ret
  exact ⟨rfl, Below.thenB (((Below.refl _ _).alloc (Nat.le_refl _) _).drew) (by simp) hb1⟩
set_option maxHeartbeats 1000000 in
theorem rt30s (s : ByteArray) (w : World) (hs : s.size ≠ 0) : Calls Try.prog 80 #[.agg #[.int .i64 3, .int .i64 0, .string s]] w fun e w' => e = .returned (.bool false) ∧ Below w.heap.size w w' := by
  have h1 : s.toList.isEmpty = false := ne_empty hs
  have h2 : ¬ s.toList = [] := by simpa using h1
  go_enter Try.func80, Try.ntmps80
  go_wp2_with fail
  go_region_held3 (fun W => W.cell? ⟨w.heap.size, 0, none⟩ = some (.int .i64 3) ∧ W.cell? ⟨w.heap.size, 1, none⟩ = some (.int .i64 0) ∧ W.cell? ⟨w.heap.size, 2, none⟩ = some (.string s))
    (first | go_keep | (with_reducible assumption))
    ((go_at_call 89; refine (bool_f _).mono ?_; rintro e w1 ⟨rfl, hb1⟩; obtain ⟨hc1, hf1⟩ := bcell hb1))
  go_wp2
  go_ret
  exact ⟨rfl, Below.thenB (((Below.refl _ _).alloc (Nat.le_refl _) _).drew) (by simp) hb1⟩
set_option maxHeartbeats 1000000 in
theorem rt31s (s : ByteArray) (w : World) (hs : s.size ≠ 0) : Calls Try.prog 80 #[.agg #[.int .i64 3, .int .i64 1, .string s]] w fun e w' => e = .returned (.bool false) ∧ Below w.heap.size w w' := by
  have h1 : s.toList.isEmpty = false := ne_empty hs
  have h2 : ¬ s.toList = [] := by simpa using h1
  go_enter Try.func80, Try.ntmps80
  go_wp2_with fail
  go_region_held3 (fun W => W.cell? ⟨w.heap.size, 0, none⟩ = some (.int .i64 3) ∧ W.cell? ⟨w.heap.size, 1, none⟩ = some (.int .i64 1) ∧ W.cell? ⟨w.heap.size, 2, none⟩ = some (.string s))
    (first | go_keep | (with_reducible assumption))
    ((go_at_call 89; refine (bool_t _).mono ?_; rintro e w1 ⟨rfl, hb1⟩; obtain ⟨hc1, hf1⟩ := bcell hb1))
  go_wp2
  go_ret
  exact ⟨rfl, Below.thenB (((Below.refl _ _).alloc (Nat.le_refl _) _).drew) (by simp) hb1⟩
set_option maxHeartbeats 1000000 in
theorem rt3n (n : Int) (s : ByteArray) (w : World) (h0 : n ≠ 0) (h1 : n ≠ 1) : Calls Try.prog 80 #[.agg #[.int .i64 3, .int .i64 n, .string s]] w fun e w' => e = .returned (.bool false) ∧ Below w.heap.size w w' := by
  have hd : (n == 1) = false := beq_false_of_ne h1
  have hd0 : (n == 0) = false := beq_false_of_ne h0
  go_enter Try.func80, Try.ntmps80
  go_wp2_with fail
  go_region_held3 (fun W => W.cell? ⟨w.heap.size, 0, none⟩ = some (.int .i64 3) ∧ W.cell? ⟨w.heap.size, 1, none⟩ = some (.int .i64 n) ∧ W.cell? ⟨w.heap.size, 2, none⟩ = some (.string s))
    (first | go_keep | (with_reducible assumption))
    ((go_at_call 89; refine (bool_f _).mono ?_; rintro e w1 ⟨rfl, hb1⟩; obtain ⟨hc1, hf1⟩ := bcell hb1))
  go_wp2
  go_ret
  exact ⟨rfl, Below.thenB (((Below.refl _ _).alloc (Nat.le_refl _) _).drew) (by simp) hb1⟩
set_option maxHeartbeats 1000000 in
theorem rt0 (k n : Int) (s : ByteArray) (w : World) (h1 : k ≠ 1) (h2 : k ≠ 2) (h3 : k ≠ 3) : Calls Try.prog 80 #[.agg #[.int .i64 k, .int .i64 n, .string s]] w fun e w' => e = .returned (.bool false) ∧ Below w.heap.size w w' := by
  have hd1 : (k == 1) = false := beq_false_of_ne h1
  have hd2 : (k == 2) = false := beq_false_of_ne h2
  have hd3 : (k == 3) = false := beq_false_of_ne h3
  go_enter Try.func80, Try.ntmps80
  go_wp2
  go_ret
  exact ⟨rfl, (Below.refl _ _).alloc (Nat.le_refl _) _⟩
/-- Is a value right? -/
def vright (v : Val) : Bool :=
  if v.1 = 1 then decide (v.2.2.size = 0) else if v.1 = 2 then decide (v.2.1 = 0) && decide (v.2.2.size ≤ 200) else if v.1 = 3 then (decide (v.2.1 = 0) || decide (v.2.1 = 1)) && decide (v.2.2.size = 0) else false
theorem right_any (v : Val) (w : World) : Calls Try.prog 80 #[vagg v] w fun e w' => e = .returned (.bool (vright v)) ∧ Below w.heap.size w w' := by
  obtain ⟨k, n, s⟩ := v
  unfold vright vagg
  simp only []
  by_cases h1 : k = 1
  · subst h1
    rw [if_pos rfl]
    by_cases hs : s.size = 0
    · rw [eq_empty hs]; exact rt1E n w
    · rw [decide_eq_false hs]; exact rt1 n s w hs
  rw [if_neg h1]
  by_cases h2 : k = 2
  · subst h2
    rw [if_pos rfl]
    by_cases hn : n = 0
    · subst hn
      by_cases hs : s.size ≤ 200
      · rw [decide_eq_true hs]; exact rt2y s w hs
      · rw [decide_eq_false hs]; exact rt2l s w hs
    · rw [decide_eq_false hn]; exact rt2n n s w hn
  rw [if_neg h2]
  by_cases h3 : k = 3
  · subst h3
    rw [if_pos rfl]
    by_cases hs : s.size = 0
    · rw [eq_empty hs]
      by_cases h0 : n = 0
      · subst h0; exact rt30 w
      · by_cases h1 : n = 1
        · subst h1; exact rt31 w
        · rw [decide_eq_false h0, decide_eq_false h1]; exact rt3n n _ w h0 h1
    · rw [decide_eq_false hs, Bool.and_false]
      by_cases h0 : n = 0
      · subst h0; exact rt30s s w hs
      · by_cases h1 : n = 1
        · subst h1; exact rt31s s w hs
        · exact rt3n n s w h0 h1
  rw [if_neg h3]
  exact rt0 k n s w h1 h2 h3
end Go.Proofs.Ytapnkbamilkpoaa
