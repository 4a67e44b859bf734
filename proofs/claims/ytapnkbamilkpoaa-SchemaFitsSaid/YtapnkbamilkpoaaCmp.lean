/- Contracts of comparing: of numbers, texts, values. -/
import Derived.Test.YtapnkbamilkpoaaGreat
import Derived.Test.YtapnkbamilkpoaaShelf
import Derived.Shelf.SlicesG.Cmp
namespace Go.Proofs.Ytapnkbamilkpoaa
open Go.RowKit
def cmpI (x y : Int) : Int := if x < y then -1 else if y < x then 1 else 0
def cmpS (x y : ByteArray) : Int := if Op.bytesLess x.toList y.toList then -1 else if x.toList == y.toList then 0 else 1
theorem cmpI_lib (x y : Int) : Lib.compareInt x y = cmpI x y := rfl
def orL : List Int → Int
  | [] => 0
  | x :: r => if x = 0 then orL r else x
/-- Which of two values stands first. -/
def vcmp (a b : Val) : Int := orL [cmpI a.1 b.1, cmpI a.2.1 b.2.1, cmpS a.2.2 b.2.2]
theorem ints_3c {w : World} {b : Nat} {x y z : Int} (h0 : w.cell? ⟨b, 0, none⟩ = some (.int .i64 x)) (h1 : w.cell? ⟨b, 1, none⟩ = some (.int .i64 y)) (h2 : w.cell? ⟨b, 2, none⟩ = some (.int .i64 z)) : Ints .i64 w (some ⟨b, 0, none⟩) [x, y, z] := by
  refine .inr ⟨by simp, b, 0, rfl, lt_of_cell h0, fun i hi => ?_⟩
  match i, hi with
  | 0, _ => exact h0
  | 1, _ => exact h1
  | 2, _ => exact h2
theorem bl_tri : ∀ x y : List UInt8, Op.bytesLess x y = false → Op.bytesLess y x = !(x == y)
  | [], [], _ => rfl
  | a :: x, [], _ => rfl
  | [], b :: y, h => by simp [Op.bytesLess] at h
  | a :: x, b :: y, h => by
    simp only [Op.bytesLess, Bool.or_eq_false_iff, Bool.and_eq_false_iff, decide_eq_false_iff_not] at h
    obtain ⟨h1, h2⟩ := h
    simp only [Op.bytesLess]
    by_cases hab : a = b
    · subst hab
      have h3 : Op.bytesLess x y = false := by
        rcases h2 with h2 | h2
        · simp at h2
        · exact h2
      rw [bl_tri x y h3]
      have : ¬ a < a := UInt8.lt_irrefl a
      simp [this]
    · have h4 : b < a := by
        rw [UInt8.lt_iff_toNat_lt] at h1 ⊢
        have : a.toNat ≠ b.toNat := fun e => hab (UInt8.toNat_inj.1 e)
        omega
      simp [h4, hab]
def rless (a b : Val) : Bool := if a.1 = b.1 then (if a.2.1 = b.2.1 then Op.bytesLess a.2.2.toList b.2.2.toList else decide (a.2.1 < b.2.1)) else decide (a.1 < b.1)
set_option maxRecDepth 100000 in
set_option maxHeartbeats 1000000 in
theorem rless_any (u v : Val) (w : World) : Calls Try.prog 73 #[vagg u, vagg v] w fun e w' => e = .returned (.bool (rless u v)) ∧ Below w.heap.size w w' := by
  obtain ⟨k, n, s⟩ := u
  obtain ⟨k', n', s'⟩ := v
  unfold vagg rless
  simp only []
  by_cases h1 : k = k'
  · subst h1
    rw [if_pos rfl]
    by_cases h2 : n = n'
    · subst h2
      rw [if_pos rfl]
      go_enter Try.func73, Try.ntmps73
      go_wp2
      go_ret
      exact ⟨rfl, ((Below.refl _ _).alloc (Nat.le_refl _) _).alloc (by simp) _⟩
    · have d : (n == n') = false := beq_false_of_ne h2
      rw [if_neg h2]
      clear h2
      go_enter Try.func73, Try.ntmps73
      go_wp2
      go_ret
      exact ⟨rfl, ((Below.refl _ _).alloc (Nat.le_refl _) _).alloc (by simp) _⟩
  · have d : (k == k') = false := beq_false_of_ne h1
    rw [if_neg h1]
    clear h1
    go_enter Try.func73, Try.ntmps73
    go_wp2
    go_ret
    exact ⟨rfl, ((Below.refl _ _).alloc (Nat.le_refl _) _).alloc (by simp) _⟩
theorem vcmp_less (a b : Val) : vcmp a b = if rless a b then -1 else if rless b a then 1 else 0 := by
  obtain ⟨k, n, s⟩ := a
  obtain ⟨k', n', s'⟩ := b
  unfold vcmp rless cmpI cmpS
  simp only [orL]
  by_cases h1 : k = k'
  · subst h1
    have : ¬ k < k := by omega
    simp only [this, if_false, if_true]
    by_cases h2 : n = n'
    · subst h2
      have : ¬ n < n := by omega
      simp only [this, if_false, if_true]
      cases h3 : Op.bytesLess s.toList s'.toList with
      | true => simp
      | false =>
        rw [bl_tri _ _ h3]
        cases h4 : (s.toList == s'.toList) <;> simp
    · by_cases h3 : n < n'
      · simp [h2, h3]
      · have h4 : n' < n := by omega
        have h5 : ¬ n' = n := fun e => h2 e.symm
        simp [h2, h3, h4, h5]
  · by_cases h3 : k < k'
    · simp [h1, h3]
    · have h4 : k' < k := by omega
      have h5 : ¬ k' = k := fun e => h1 e.symm
      simp [h1, h3, h4, h5]
set_option maxRecDepth 100000 in
set_option maxHeartbeats 1000000 in
theorem rcmp_any (u v : Val) (w : World) : Calls Try.prog 52 #[vagg u, vagg v] w fun e w' => e = .returned (.int .i64 (vcmp u v)) ∧ Below w.heap.size w w' := by
  rw [vcmp_less]
  obtain ⟨k, n, s⟩ := u
  obtain ⟨k', n', s'⟩ := v
  unfold vagg
  simp only []
  have hA : Below w.heap.size w ((w.alloc (.cells #[.int .i64 k, .int .i64 n, .string s] 55)).alloc (.cells #[.int .i64 k', .int .i64 n', .string s'] 55)) := ((Below.refl _ _).alloc (Nat.le_refl _) _).alloc (by simp) _
  cases d1 : rless (k, n, s) (k', n', s') with
  | true =>
    have D1 := Lib.hid d1
    clear d1
    rw [if_pos rfl]
    go_enter Try.func52, Try.ntmps52
    go_wp2_with fail
    refine (rless_any (k, n, s) (k', n', s') _).mono ?_
    rintro e w1 ⟨rfl, hb1⟩
    rw [D1.out]
    go_wp2
    go_ret
    exact ⟨rfl, Below.thenB hA (by simp; omega) hb1⟩
  | false =>
    have D1 := Lib.hid d1
    clear d1
    rw [if_neg (by decide)]
    obtain ⟨r, hr⟩ : ∃ r, r = rless (k', n', s') (k, n, s) := ⟨_, rfl⟩
    rw [← hr]
    have HR := Lib.hid hr
    clear hr
    go_enter Try.func52, Try.ntmps52
    go_wp2_with fail
    refine (rless_any (k, n, s) (k', n', s') _).mono ?_
    rintro e w1 ⟨rfl, hb1⟩
    rw [D1.out]
    have hz1 := hb1.size
    simp at hz1
    obtain ⟨hc1, hf1⟩ := bcell hb1
    have c0 : w1.cell? ⟨w.heap.size, 0, none⟩ = some (.int .i64 k) := (hc1 w.heap.size 0 (by simp; omega)).trans (by go_simp)
    have c1 : w1.cell? ⟨w.heap.size, 1, none⟩ = some (.int .i64 n) := (hc1 w.heap.size 1 (by simp; omega)).trans (by go_simp)
    have c2 : w1.cell? ⟨w.heap.size, 2, none⟩ = some (.string s) := (hc1 w.heap.size 2 (by simp; omega)).trans (by go_simp)
    have c3 : w1.cell? ⟨w.heap.size + 1, 0, none⟩ = some (.int .i64 k') := (hc1 (w.heap.size + 1) 0 (by simp)).trans (by go_simp)
    have c4 : w1.cell? ⟨w.heap.size + 1, 1, none⟩ = some (.int .i64 n') := (hc1 (w.heap.size + 1) 1 (by simp)).trans (by go_simp)
    have c5 : w1.cell? ⟨w.heap.size + 1, 2, none⟩ = some (.string s') := (hc1 (w.heap.size + 1) 2 (by simp)).trans (by go_simp)
    clear hc1 hf1
    go_wp2_with fail
    refine (rless_any (k', n', s') (k, n, s) _).mono ?_
    rintro e w2 ⟨rfl, hb2⟩
    rw [← HR.out]
    have hF : Below w.heap.size w w2 := Below.thenB (Below.thenB hA (by simp; omega) hb1) (by omega) hb2
    clear c0 c1 c2 c3 c4 c5
    cases r with
    | true =>
      go_wp2
      go_ret
      exact ⟨rfl, hF⟩
    | false =>
      go_wp2
      go_ret
      exact ⟨rfl, hF⟩
end Go.Proofs.Ytapnkbamilkpoaa
