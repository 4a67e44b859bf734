/- What a text of digits is worth, and what a number is spelled as. No program. -/
import Derived.Test.YtfoejfneggcncaaDoorItoa
import Derived.Test.YtfoejfneggcncaaDoorDig
namespace Go.Proofs.YtfoejfneggcncaaDoor
open Go.RowKit Lib
/-- Digits, read from the highest on, behind what was read. -/
def dreadV (acc : Nat) (l : List UInt8) : Nat := l.foldl (fun a c => a * 10 + (c.toNat - 48)) acc
theorem dread_nil (acc : Nat) : dreadV acc [] = acc := by unfold dreadV; rw [List.foldl_nil]
theorem dread_cons (acc : Nat) (c : UInt8) (r : List UInt8) : dreadV acc (c :: r) = dreadV (acc * 10 + (c.toNat - 48)) r := by unfold dreadV; rw [List.foldl_cons]
theorem dread_ge : ∀ (l : List UInt8) (acc : Nat), acc ≤ dreadV acc l
  | [], acc => by rw [dread_nil]; exact Nat.le_refl acc
  | c :: r, acc => by
    have := dread_ge r (acc * 10 + (c.toNat - 48))
    rw [dread_cons]
    omega
theorem pum_all (M : Nat) (hM : M ≤ 18446744073709551615) : ∀ (l : List UInt8) (acc : Nat), acc ≤ M → l.all isDig = true →
    (dreadV acc l ≤ M → parseUintM M acc l = .ok (dreadV acc l)) ∧ (M < dreadV acc l → parseUintM M acc l = .range)
  | [], acc, ha, _ => ⟨fun _ => by rw [dread_nil]; rfl, fun h => by rw [dread_nil] at h; omega⟩
  | c :: r, acc, ha, hd => by
    simp only [List.all_cons, Bool.and_eq_true] at hd
    obtain ⟨hc, hr⟩ := hd
    have hc' : 48 ≤ c.toNat ∧ c.toNat ≤ 57 := by simpa [isDig] using hc
    have hg := dread_ge r (acc * 10 + (c.toNat - 48))
    simp only [dread_cons, parseUintM]
    rw [if_pos hc']
    by_cases h2 : 1844674407370955162 ≤ acc
    · rw [if_pos h2]
      exact ⟨fun h => by omega, fun _ => rfl⟩
    · rw [if_neg h2]
      by_cases h3 : M < acc * 10 + (c.toNat - 48)
      · rw [if_pos h3]
        exact ⟨fun h => by omega, fun _ => rfl⟩
      · rw [if_neg h3]
        exact pum_all M hM r _ (by omega) hr
theorem puB_all (l : List UInt8) (hne : l ≠ []) (hd : l.all isDig = true) :
    (dreadV 0 l ≤ 18446744073709551615 → parseUintB 64 l = .ok (dreadV 0 l)) ∧ (18446744073709551615 < dreadV 0 l → parseUintB 64 l = .range) := by
  unfold parseUintB
  rw [if_neg hne]
  exact pum_all (2 ^ 64 - 1) (by decide) l 0 (Nat.zero_le _) hd
/-- Digits, the lowest first. -/
def dgs (l : List UInt8) : List Int := (l.map fun c => (c.toNat : Int) - 48).reverse
theorem dgs_len (l : List UInt8) : (dgs l).length = l.length := by simp [dgs]
theorem dgs_cons (c : UInt8) (l : List UInt8) : dgs (c :: l) = dgs l ++ [(c.toNat : Int) - 48] := by simp [dgs]
theorem dgs_digs : ∀ (l : List UInt8), l.all isDig = true → Digs (dgs l)
  | [], _ => fun d hd => by simp [dgs] at hd
  | c :: l, h => by
    simp only [List.all_cons, Bool.and_eq_true] at h
    have hc' : 48 ≤ c.toNat ∧ c.toNat ≤ 57 := by simpa [isDig] using h.1
    rw [dgs_cons]
    exact (dgs_digs l h.2).snoc (by omega) (by omega)
theorem dread_dgs : ∀ (l : List UInt8) (acc : Nat), l.all isDig = true → (dreadV acc l : Int) = dval (dgs l) + pw l.length * acc
  | [], acc, _ => by rw [dread_nil]; simp [dgs, dval, pw_zero]
  | c :: l, acc, h => by
    simp only [List.all_cons, Bool.and_eq_true] at h
    have hc' : 48 ≤ c.toNat ∧ c.toNat ≤ 57 := by simpa [isDig] using h.1
    rw [dread_cons, dread_dgs l _ h.2, dgs_cons, dval_snoc, dgs_len, List.length_cons, pw_succ]
    have e : ((acc * 10 + (c.toNat - 48) : Nat) : Int) = acc * 10 + ((c.toNat : Int) - 48) := by omega
    rw [e]
    generalize pw l.length = p
    grind
theorem dread_val (l : List UInt8) (h : l.all isDig = true) : dval (dgs l) = (dreadV 0 l : Int) := by
  rw [dread_dgs l 0 h]; simp
/-- The number that a text is the numeral of. -/
def parV (l : List UInt8) : Option Int :=
  if numB (trimPrefix l [45]) && !(hasPrefix l [45] && (trimPrefix l [45] == [48])) then some (if hasPrefix l [45] then -(dreadV 0 (trimPrefix l [45]) : Int) else dreadV 0 (trimPrefix l [45])) else none
/-- Digits as signs, the highest first. -/
def spell (ds : List Int) : List UInt8 := (ds.map fun d => UInt8.ofNat (48 + d.toNat)).reverse
theorem spell_snoc (ds : List Int) (d : Int) : spell (ds ++ [d]) = UInt8.ofNat (48 + d.toNat) :: spell ds := by simp [spell]
theorem canon_tail {d : Int} {ds : List Int} (h : Canon (d :: ds)) : Canon ds := by
  refine ⟨fun x hx => h.1 x (List.mem_cons_of_mem _ hx), fun i hn hi => ?_⟩
  have := h.2 (i + 1) (by simp) (by simp; omega)
  simpa using this
theorem spell_dec : ∀ (ds : List Int), ds ≠ [] → Canon ds → spell ds = decDigits (dval ds).toNat
  | [], h, _ => absurd rfl h
  | [d], _, h => by
    have hd := h.1 d (by simp)
    have e : (dval [d]).toNat = d.toNat := by simp [dval]
    rw [e, decDigits_one (by omega)]
    simp [spell]
  | d :: x :: r, _, h => by
    have hd := h.1 d (by simp)
    have ht := canon_tail h
    have ih := spell_dec (x :: r) (by simp) ht
    have hg := canon_ge ht (by simp)
    have hp := pw_pos ((x :: r).length - 1)
    have e : (dval (d :: x :: r)) = d + 10 * dval (x :: r) := rfl
    rw [e]
    generalize dval (x :: r) = V at *
    rw [decDigits, dif_neg (by omega)]
    have e1 : (d + 10 * V).toNat / 10 = V.toNat := by omega
    have e2 : (d + 10 * V).toNat % 10 = d.toNat := by omega
    rw [e1, e2, ← ih]
    simp [spell]
end Go.Proofs.YtfoejfneggcncaaDoor
