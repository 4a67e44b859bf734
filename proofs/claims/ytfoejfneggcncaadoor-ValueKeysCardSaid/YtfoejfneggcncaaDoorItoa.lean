/- Numerals: what a number's digits spell, and which rows of bytes are numerals. No program. -/
import Derived.Lib.ItoaMem
import Derived.Lib.ItoaLen
import Derived.Lib.ParseIntBCases
import Derived.Lib.Strings
namespace Go.Proofs.YtfoejfneggcncaaDoor
open Go.RowKit Lib
theorem pum_snoc (M : Nat) (c : UInt8) (hc : 48 ≤ c.toNat ∧ c.toNat ≤ 57) : ∀ (l : List UInt8) (acc v : Nat), parseUintM M acc l = .ok v → v < 1844674407370955162 → v * 10 + (c.toNat - 48) ≤ M → parseUintM M acc (l ++ [c]) = .ok (v * 10 + (c.toNat - 48))
  | [], acc, v, h, hv, hM => by
    simp only [parseUintM] at h
    injection h with h
    subst h
    simp only [List.nil_append, parseUintM]
    rw [if_pos hc, if_neg (by omega), if_neg (by omega)]
  | d :: l, acc, v, h, hv, hM => by
    simp only [parseUintM] at h
    by_cases h1 : 48 ≤ d.toNat ∧ d.toNat ≤ 57
    · rw [if_pos h1] at h
      by_cases h2 : 1844674407370955162 ≤ acc
      · rw [if_pos h2] at h; cases h
      · rw [if_neg h2] at h
        by_cases h3 : M < acc * 10 + (d.toNat - 48)
        · rw [if_pos h3] at h; cases h
        · rw [if_neg h3] at h
          simp only [List.cons_append, parseUintM]
          rw [if_pos h1, if_neg h2, if_neg h3]
          exact pum_snoc M c hc l _ v h hv hM
    · rw [if_neg h1] at h; cases h
theorem toNat_dig (k : Nat) (h : k < 10) : (UInt8.ofNat (48 + k)).toNat = 48 + k := by
  simp [UInt8.toNat_ofNat']; omega
theorem pum_dec (M : Nat) (hM : M ≤ 18446744073709551615) (u : Nat) (h : u ≤ M) : parseUintM M 0 (decDigits u) = .ok u := by
  induction u using Nat.strongRecOn with
  | _ u ih =>
    by_cases hu : u < 10
    · rw [decDigits_one hu]
      have := toNat_dig u hu
      simp only [parseUintM]
      rw [if_pos (by omega), if_neg (by omega), if_neg (by omega)]
      congr 1; omega
    · rw [decDigits, dif_neg hu]
      have hd := toNat_dig (u % 10) (by omega)
      have := pum_snoc M (UInt8.ofNat (48 + u % 10)) (by omega) (decDigits (u / 10)) 0 (u / 10) (ih (u / 10) (by omega) (by omega)) (by omega) (by omega)
      rw [this]; congr 1; omega
theorem dec_ne (u : Nat) : decDigits u ≠ [] := fun h => by have := decDigits_length u; have := nDigits_pos u; rw [h] at *; simp at *; omega
theorem puB_dec (u : Nat) (h : u ≤ 18446744073709551615) : parseUintB 64 (decDigits u) = .ok u := by
  unfold parseUintB
  rw [if_neg (dec_ne u)]
  exact pum_dec _ (by decide) u (by simpa using h)
def isDig (c : UInt8) : Bool := 48 ≤ c.toNat && c.toNat ≤ 57
/-- A numeral: digits, the first one no nought but in "0". -/
def numB (l : List UInt8) : Bool := !l.isEmpty && (!(l.head? == some 48) || l == [48]) && l.all isDig
theorem dec_dig (u : Nat) : (decDigits u).all isDig = true := by
  induction u using Nat.strongRecOn with
  | _ u ih =>
    by_cases hu : u < 10
    · rw [decDigits_one hu]
      have := toNat_dig u hu
      simp [isDig]; omega
    · rw [decDigits, dif_neg hu]
      have hd := toNat_dig (u % 10) (by omega)
      simp only [List.all_append, ih (u / 10) (by omega), Bool.true_and]
      simp [isDig]; omega
theorem dec_head (u : Nat) : (decDigits u).head? = some 48 → u = 0 := by
  induction u using Nat.strongRecOn with
  | _ u ih =>
    by_cases hu : u < 10
    · rw [decDigits_one hu]
      have := toNat_dig u hu
      intro h
      simp only [List.head?_cons] at h
      injection h with h
      rw [h] at this
      have : (48 : UInt8).toNat = 48 := rfl
      omega
    · rw [decDigits, dif_neg hu]
      intro h
      have hne := dec_ne (u / 10)
      have h2 : (decDigits (u / 10)).head? = some 48 := by
        cases e : decDigits (u / 10) with
        | nil => exact absurd e hne
        | cons a r => rw [e] at h; simpa using h
      have := ih (u / 10) (by omega) h2
      omega
theorem num_dec (u : Nat) : numB (decDigits u) = true := by
  unfold numB
  rw [dec_dig, Bool.and_true]
  have h1 : (decDigits u).isEmpty = false := by have := dec_ne u; cases h : decDigits u <;> simp_all
  rw [h1]
  by_cases h2 : (decDigits u).head? = some 48
  · have := dec_head u h2
    subst this
    rw [decDigits_one (by decide)]
    rfl
  · have h3 : ((decDigits u).head? == some 48) = false := by simpa using h2
    rw [h3]; rfl
theorem dec_not_minus (u : Nat) (p : List UInt8) : hasPrefix (decDigits u) (45 :: p) = false := by
  have h := dec_dig u
  unfold hasPrefix
  cases e : decDigits u with
  | nil => rfl
  | cons c r =>
    rw [e] at h
    simp only [List.all_cons, Bool.and_eq_true] at h
    have : (45 == c) = false := by
      apply beq_false_of_ne
      rintro rfl
      exact absurd h.1 (by decide)
    simp [List.isPrefixOf, this]
theorem dec_zero (u : Nat) : decDigits u = [48] ↔ u = 0 := by
  constructor
  · intro h; exact dec_head u (by rw [h]; rfl)
  · rintro rfl; rw [decDigits_one (by decide)]; rfl
end Go.Proofs.YtfoejfneggcncaaDoor
