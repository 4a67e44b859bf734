/- Plain facts on integers: quotients and what is left of them. -/
namespace Go.Proofs.Ytapnkbamilkpoaa
theorem tdiv_bd (a b : Int) (ha : -9223372036854775808 ≤ a) (ha' : a ≤ 9223372036854775807) (h0 : b ≠ 0) (h1 : b ≠ -1) :
    -9223372036854775808 ≤ a.tdiv b ∧ a.tdiv b ≤ 9223372036854775807 ∧ (b ≠ 1 → -4611686018427387904 ≤ a.tdiv b) := by
  have h2 := Int.natAbs_tdiv a b
  have h3 : a.natAbs.div b.natAbs ≤ a.natAbs := Nat.div_le_self _ _
  rcases Nat.lt_or_ge b.natAbs 2 with hb | hb
  · have : b = 1 := by omega
    subst this; simp; omega
  · have h4 : a.natAbs.div b.natAbs ≤ 9223372036854775808 / 2 := Nat.le_trans (Nat.div_le_div_left hb (by omega)) (Nat.div_le_div_right (by omega))
    omega
theorem fdiv_of (a b : Int) (h0 : b ≠ 0) : a.fdiv b = if a.tmod b ≠ 0 ∧ (a < 0 ↔ 0 ≤ b) then a.tdiv b - 1 else a.tdiv b := by
  rw [Int.fdiv_eq_tdiv]
  have e : b ∣ a ↔ a.tmod b = 0 := Int.dvd_iff_tmod_eq_zero
  by_cases h : a.tmod b = 0
  · simp [e, h]
  · rw [if_neg (by rw [e]; exact h)]
    have sp : 0 < b → b.sign = 1 := Int.sign_eq_one_of_pos
    have sn : b < 0 → b.sign = -1 := Int.sign_eq_neg_one_of_neg
    by_cases ha : a < 0 <;> by_cases hb : b < 0 <;> simp [h, ha, hb] <;> (repeat' split) <;> omega
theorem fmod_of (a b : Int) (h0 : b ≠ 0) : a.fmod b = if a.tmod b ≠ 0 ∧ (a.tmod b < 0 ↔ 0 ≤ b) then a.tmod b + b else a.tmod b := by
  have h1 := Int.tmod_add_mul_tdiv a b
  have h2 := Int.fmod_add_mul_fdiv a b
  have h3 := fdiv_of a b h0
  have s : a.tmod b ≠ 0 → (a.tmod b < 0 ↔ a < 0) := by
    intro h
    have p1 := Int.tmod_nonneg b (a := a)
    have p2 := Int.tmod_nonneg b (a := -a)
    have p3 := Int.neg_tmod a b
    omega
  by_cases h : a.tmod b = 0
  · rw [if_neg (by simp [h])] at h3 ⊢
    rw [h3] at h2; omega
  · have := s h
    by_cases hc : (a < 0 ↔ 0 ≤ b)
    · rw [if_pos ⟨h, hc⟩] at h3
      rw [if_pos ⟨h, by rw [this]; exact hc⟩]
      rw [h3, Int.mul_sub] at h2; omega
    · rw [if_neg (by intro x; exact hc x.2)] at h3
      rw [if_neg (by rw [this]; intro x; exact hc x.2)]
      rw [h3] at h2; omega
theorem tmod_bd (a b : Int) (hb : -9223372036854775808 ≤ b) (hb' : b ≤ 9223372036854775807) (h0 : b ≠ 0) :
    -9223372036854775807 ≤ a.tmod b ∧ a.tmod b ≤ 9223372036854775807 ∧ (0 < b → a.tmod b < b ∧ -b < a.tmod b) ∧ (b < 0 → b < a.tmod b ∧ a.tmod b < -b) := by
  have p1 := Int.tmod_lt_of_pos a (b := b)
  have p2 := Int.tmod_lt_of_pos a (b := -b)
  have p3 := Int.tmod_lt_of_pos (-a) (b := b)
  have p4 := Int.tmod_lt_of_pos (-a) (b := -b)
  simp only [Int.tmod_neg, Int.neg_tmod] at p2 p3 p4
  omega
theorem fdiv_bd (a b : Int) (ha : -9223372036854775808 ≤ a) (ha' : a ≤ 9223372036854775807) (h0 : b ≠ 0) (h1 : b ≠ -1) :
    -9223372036854775808 ≤ a.fdiv b ∧ a.fdiv b ≤ 9223372036854775807 := by
  obtain ⟨k1, k2, k3⟩ := tdiv_bd a b ha ha' h0 h1
  rw [fdiv_of a b h0]
  split
  · rename_i h
    have : b ≠ 1 := by rintro rfl; simp at h
    have := k3 this
    omega
  · omega
theorem fmod_bd (a b : Int) (hb : -9223372036854775808 ≤ b) (hb' : b ≤ 9223372036854775807) (h0 : b ≠ 0) :
    -9223372036854775808 ≤ a.fmod b ∧ a.fmod b ≤ 9223372036854775807 ∧ (0 < b → 0 ≤ a.fmod b ∧ a.fmod b < b) ∧ (b < 0 → b < a.fmod b ∧ a.fmod b ≤ 0) := by
  obtain ⟨k1, k2, k3, k4⟩ := tmod_bd a b hb hb' h0
  rw [fmod_of a b h0]
  split <;> omega
end Go.Proofs.Ytapnkbamilkpoaa
