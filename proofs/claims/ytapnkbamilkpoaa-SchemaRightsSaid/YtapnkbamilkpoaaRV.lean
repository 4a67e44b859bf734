/- The document's Right, of values and rows; Great. -/
import Derived.Test.YtapnkbamilkpoaaVals
namespace Go.Proofs.Ytapnkbamilkpoaa
open Go.RowKit
set_option maxHeartbeats 1000000 in
theorem qt1E (n : Int) (w : World)  : Calls Try.prog 54 #[.agg #[.int .i64 1, .int .i64 n, .string ⟨#[]⟩]] w fun e w' => e = .returned (.bool true) ∧ Below w.heap.size w w' := by
  go_enter Try.func54, Try.ntmps54
  go_wp2
  go_ret
  exact ⟨rfl, (Below.refl _ _).alloc (Nat.le_refl _) _⟩
set_option maxHeartbeats 1000000 in
theorem qt1 (n : Int) (s : ByteArray) (w : World) (hs : s.size ≠ 0) : Calls Try.prog 54 #[.agg #[.int .i64 1, .int .i64 n, .string s]] w fun e w' => e = .returned (.bool false) ∧ Below w.heap.size w w' := by
  have h1 : s.toList.isEmpty = false := ne_empty hs
  have h2 : ¬ s.toList = [] := by simpa using h1
  go_enter Try.func54, Try.ntmps54
  go_wp2
  go_ret
  exact ⟨rfl, (Below.refl _ _).alloc (Nat.le_refl _) _⟩
set_option maxHeartbeats 1000000 in
theorem qt2y (s : ByteArray) (w : World) (hs : s.size ≤ 200) : Calls Try.prog 54 #[.agg #[.int .i64 2, .int .i64 0, .string s]] w fun e w' => e = .returned (.bool true) ∧ Below w.heap.size w w' := by
  have hd : decide ((s.size : Int) ≤ 200) = true := decide_eq_true (by omega)
  go_enter Try.func54, Try.ntmps54
  go_wp2
  go_ret
  exact ⟨rfl, (Below.refl _ _).alloc (Nat.le_refl _) _⟩
set_option maxHeartbeats 1000000 in
theorem qt2l (s : ByteArray) (w : World) (hs : ¬ s.size ≤ 200) : Calls Try.prog 54 #[.agg #[.int .i64 2, .int .i64 0, .string s]] w fun e w' => e = .returned (.bool false) ∧ Below w.heap.size w w' := by
  have hd : decide ((s.size : Int) ≤ 200) = false := decide_eq_false (by omega)
  go_enter Try.func54, Try.ntmps54
  go_wp2
  go_ret
  exact ⟨rfl, (Below.refl _ _).alloc (Nat.le_refl _) _⟩
set_option maxHeartbeats 1000000 in
theorem qt2n (n : Int) (s : ByteArray) (w : World) (hn : n ≠ 0) : Calls Try.prog 54 #[.agg #[.int .i64 2, .int .i64 n, .string s]] w fun e w' => e = .returned (.bool false) ∧ Below w.heap.size w w' := by
  have hd : (n == 0) = false := beq_false_of_ne hn
  go_enter Try.func54, Try.ntmps54
  go_wp2
  go_ret
  exact ⟨rfl, (Below.refl _ _).alloc (Nat.le_refl _) _⟩
set_option maxHeartbeats 1000000 in
theorem qt30  (w : World)  : Calls Try.prog 54 #[.agg #[.int .i64 3, .int .i64 0, .string ⟨#[]⟩]] w fun e w' => e = .returned (.bool true) ∧ Below w.heap.size w w' := by
  go_enter Try.func54, Try.ntmps54
  go_wp2
  go_ret
  exact ⟨rfl, (Below.refl _ _).alloc (Nat.le_refl _) _⟩
set_option maxHeartbeats 1000000 in
theorem qt31  (w : World)  : Calls Try.prog 54 #[.agg #[.int .i64 3, .int .i64 1, .string ⟨#[]⟩]] w fun e w' => e = .returned (.bool true) ∧ Below w.heap.size w w' := by
  go_enter Try.func54, Try.ntmps54
  go_wp2
  go_ret
  exact ⟨rfl, (Below.refl _ _).alloc (Nat.le_refl _) _⟩
set_option maxHeartbeats 1000000 in
theorem qt30s (s : ByteArray) (w : World) (hs : s.size ≠ 0) : Calls Try.prog 54 #[.agg #[.int .i64 3, .int .i64 0, .string s]] w fun e w' => e = .returned (.bool false) ∧ Below w.heap.size w w' := by
  have h1 : s.toList.isEmpty = false := ne_empty hs
  have h2 : ¬ s.toList = [] := by simpa using h1
  go_enter Try.func54, Try.ntmps54
  go_wp2
  go_ret
  exact ⟨rfl, (Below.refl _ _).alloc (Nat.le_refl _) _⟩
set_option maxHeartbeats 1000000 in
theorem qt31s (s : ByteArray) (w : World) (hs : s.size ≠ 0) : Calls Try.prog 54 #[.agg #[.int .i64 3, .int .i64 1, .string s]] w fun e w' => e = .returned (.bool false) ∧ Below w.heap.size w w' := by
  have h1 : s.toList.isEmpty = false := ne_empty hs
  have h2 : ¬ s.toList = [] := by simpa using h1
  go_enter Try.func54, Try.ntmps54
  go_wp2
  go_ret
  exact ⟨rfl, (Below.refl _ _).alloc (Nat.le_refl _) _⟩
set_option maxHeartbeats 1000000 in
theorem qt3n (n : Int) (s : ByteArray) (w : World) (h0 : n ≠ 0) (h1 : n ≠ 1) : Calls Try.prog 54 #[.agg #[.int .i64 3, .int .i64 n, .string s]] w fun e w' => e = .returned (.bool false) ∧ Below w.heap.size w w' := by
  have hd : (n == 1) = false := beq_false_of_ne h1
  have hd0 : (n == 0) = false := beq_false_of_ne h0
  go_enter Try.func54, Try.ntmps54
  go_wp2
  go_ret
  exact ⟨rfl, (Below.refl _ _).alloc (Nat.le_refl _) _⟩
set_option maxHeartbeats 1000000 in
theorem qt0 (k n : Int) (s : ByteArray) (w : World) (h1 : k ≠ 1) (h2 : k ≠ 2) (h3 : k ≠ 3) : Calls Try.prog 54 #[.agg #[.int .i64 k, .int .i64 n, .string s]] w fun e w' => e = .returned (.bool false) ∧ Below w.heap.size w w' := by
  have hd1 : (k == 1) = false := beq_false_of_ne h1
  have hd2 : (k == 2) = false := beq_false_of_ne h2
  have hd3 : (k == 3) = false := beq_false_of_ne h3
  go_enter Try.func54, Try.ntmps54
  go_wp2
  go_ret
  exact ⟨rfl, (Below.refl _ _).alloc (Nat.le_refl _) _⟩
theorem rright_any (v : Val) (w : World) : Calls Try.prog 54 #[vagg v] w fun e w' => e = .returned (.bool (vright v)) ∧ Below w.heap.size w w' := by
  obtain ⟨k, n, s⟩ := v
  unfold vright vagg
  simp only []
  by_cases h1 : k = 1
  · subst h1
    rw [if_pos rfl]
    by_cases hs : s.size = 0
    · rw [eq_empty hs]; exact qt1E n w
    · rw [decide_eq_false hs]; exact qt1 n s w hs
  rw [if_neg h1]
  by_cases h2 : k = 2
  · subst h2
    rw [if_pos rfl]
    by_cases hn : n = 0
    · subst hn
      by_cases hs : s.size ≤ 200
      · rw [decide_eq_true hs]; exact qt2y s w hs
      · rw [decide_eq_false hs]; exact qt2l s w hs
    · rw [decide_eq_false hn]; exact qt2n n s w hn
  rw [if_neg h2]
  by_cases h3 : k = 3
  · subst h3
    rw [if_pos rfl]
    by_cases hs : s.size = 0
    · rw [eq_empty hs]
      by_cases h0 : n = 0
      · subst h0; exact qt30 w
      · by_cases h1 : n = 1
        · subst h1; exact qt31 w
        · rw [decide_eq_false h0, decide_eq_false h1]; exact qt3n n _ w h0 h1
    · rw [decide_eq_false hs, Bool.and_false]
      by_cases h0 : n = 0
      · subst h0; exact qt30s s w hs
      · by_cases h1 : n = 1
        · subst h1; exact qt31s s w hs
        · exact qt3n n s w h0 h1
  rw [if_neg h3]
  exact qt0 k n s w h1 h2 h3
end Go.Proofs.Ytapnkbamilkpoaa
