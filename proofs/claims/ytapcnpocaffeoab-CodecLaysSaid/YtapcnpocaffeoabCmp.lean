/- Contracts of comparing: of numbers, texts, values. -/
import Derived.Test.YtapcnpocaffeoabGreat
import Derived.Test.YtapcnpocaffeoabShelf
namespace Go.Proofs.Ytapcnpocaffeoab
open Go.RowKit
def cmpI (x y : Int) : Int := if x < y then -1 else if y < x then 1 else 0
def cmpS (x y : ByteArray) : Int := if Op.bytesLess x.toList y.toList then -1 else if x.toList == y.toList then 0 else 1
theorem cmpI_lib (x y : Int) : Lib.compareInt x y = cmpI x y := rfl
def orL : List Int → Int
  | [] => 0
  | x :: r => if x = 0 then orL r else x
/-- Which of two values stands first. -/
def vcmp (a b : Val) : Int := orL [cmpI a.1 b.1, cmpI a.2.1 b.2.1, cmpS a.2.2 b.2.2]
theorem ints_3c {w : World} {b : Nat} {x y z : Int} (h0 : w.cell? ⟨b, 0, none⟩ = some (.int .i64 x)) (h1 : w.cell? ⟨b, 1, none⟩ = some (.int .i64 y)) (h2 : w.cell? ⟨b, 2, none⟩ = some (.int .i64 z)) : Ints .i64 w (some ⟨b, 0, none⟩) [x, y, z] := by
  refine .inr ⟨by simp, b, 0, rfl, lt_of_cell h0, fun i hi => ?_⟩
  match i, hi with
  | 0, _ => exact h0
  | 1, _ => exact h1
  | 2, _ => exact h2
theorem bl_tri : ∀ x y : List UInt8, Op.bytesLess x y = false → Op.bytesLess y x = !(x == y)
  | [], [], _ => rfl
  | a :: x, [], _ => rfl
  | [], b :: y, h => by simp [Op.bytesLess] at h
  | a :: x, b :: y, h => by
    simp only [Op.bytesLess, Bool.or_eq_false_iff, Bool.and_eq_false_iff, decide_eq_false_iff_not] at h
    obtain ⟨h1, h2⟩ := h
    simp only [Op.bytesLess]
    by_cases hab : a = b
    · subst hab
      have h3 : Op.bytesLess x y = false := by
        rcases h2 with h2 | h2
        · simp at h2
        · exact h2
      rw [bl_tri x y h3]
      have : ¬ a < a := UInt8.lt_irrefl a
      simp [this]
    · have h4 : b < a := by
        rw [UInt8.lt_iff_toNat_lt] at h1 ⊢
        have : a.toNat ≠ b.toNat := fun e => hab (UInt8.toNat_inj.1 e)
        omega
      simp [h4, hab]
def rless (a b : Val) : Bool := if a.1 = b.1 then (if a.2.1 = b.2.1 then Op.bytesLess a.2.2.toList b.2.2.toList else decide (a.2.1 < b.2.1)) else decide (a.1 < b.1)
theorem vcmp_less (a b : Val) : vcmp a b = if rless a b then -1 else if rless b a then 1 else 0 := by
  obtain ⟨k, n, s⟩ := a
  obtain ⟨k', n', s'⟩ := b
  unfold vcmp rless cmpI cmpS
  simp only [orL]
  by_cases h1 : k = k'
  · subst h1
    have : ¬ k < k := by omega
    simp only [this, if_false, if_true]
    by_cases h2 : n = n'
    · subst h2
      have : ¬ n < n := by omega
      simp only [this, if_false, if_true]
      cases h3 : Op.bytesLess s.toList s'.toList with
      | true => simp
      | false =>
        rw [bl_tri _ _ h3]
        cases h4 : (s.toList == s'.toList) <;> simp
    · by_cases h3 : n < n'
      · simp [h2, h3]
      · have h4 : n' < n := by omega
        have h5 : ¬ n' = n := fun e => h2 e.symm
        simp [h2, h3, h4, h5]
  · by_cases h3 : k < k'
    · simp [h1, h3]
    · have h4 : k' < k := by omega
      have h5 : ¬ k' = k := fun e => h1 e.symm
      simp [h1, h3, h4, h5]
end Go.Proofs.Ytapcnpocaffeoab
