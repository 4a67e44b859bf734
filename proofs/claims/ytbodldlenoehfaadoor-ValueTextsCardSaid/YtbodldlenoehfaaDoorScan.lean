/- Texts of values, both ways, by the document and by the program. No program is walked here. -/
import Derived.Test.YtbodldlenoehfaaDoorLawVBack
namespace Go.Proofs.YtbodldlenoehfaaDoor
open Go.RowKit
/-- Numerals, digit by digit, are what the number is printed as. -/
theorem dread_snoc (d : List UInt8) (c : UInt8) : dreadV 0 (d ++ [c]) = dreadV 0 d * 10 + (c.toNat - 48) := by
  unfold dreadV
  rw [List.foldl_append, List.foldl_cons, List.foldl_nil]
theorem dread_pos : ∀ (d : List UInt8), d ≠ [] → d.all isDig = true → d.head? ≠ some 48 → 1 ≤ dreadV 0 d
  | [], h, _, _ => absurd rfl h
  | c :: r, _, hd, hh => by
    simp only [List.all_cons, Bool.and_eq_true] at hd
    have hc : 48 ≤ c.toNat ∧ c.toNat ≤ 57 := by simpa [isDig] using hd.1
    have hc0 : c.toNat ≠ 48 := fun e => hh (by rw [List.head?_cons]; congr 1; exact UInt8.toNat_inj.1 e)
    rw [dread_cons]
    have := dread_ge r (0 * 10 + (c.toNat - 48))
    omega
theorem dec_dread (n : Nat) : ∀ (d : List UInt8), d.length = n → d ≠ [] → d.all isDig = true → d.head? ≠ some 48 → Lib.decDigits (dreadV 0 d) = d := by
  induction n with
  | zero => intro d hl hn; exact absurd (List.eq_nil_of_length_eq_zero hl) hn
  | succ n ih =>
    intro d hl hn hd hh
    obtain ⟨r, c, rfl⟩ : ∃ r c, d = r ++ [c] := ⟨d.dropLast, d.getLast hn, (List.dropLast_concat_getLast hn).symm⟩
    rw [List.all_append, Bool.and_eq_true] at hd
    have hc : 48 ≤ c.toNat ∧ c.toNat ≤ 57 := by have := hd.2; simp [isDig] at this; exact this
    rw [dread_snoc]
    have hcc : UInt8.ofNat (48 + (c.toNat - 48)) = c := by
      have : 48 + (c.toNat - 48) = c.toNat := by omega
      rw [this]; simp
    cases hr : r with
    | nil =>
      subst hr
      have e : dreadV 0 ([] : List UInt8) * 10 + (c.toNat - 48) = c.toNat - 48 := by rw [dread_nil]; omega
      rw [e, Lib.decDigits_one (by omega), hcc]; rfl
    | cons x t =>
      have hrn : r ≠ [] := by rw [hr]; simp
      rw [← hr]
      have hh' : r.head? ≠ some 48 := by
        rw [hr] at hh ⊢
        simpa using hh
      have h1 := dread_pos r hrn hd.1 hh'
      have h2 := ih r (by simp at hl; omega) hrn hd.1 hh'
      rw [Lib.decDigits, dif_neg (by omega)]
      have e1 : (dreadV 0 r * 10 + (c.toNat - 48)) / 10 = dreadV 0 r := by omega
      have e2 : (dreadV 0 r * 10 + (c.toNat - 48)) % 10 = c.toNat - 48 := by omega
      rw [e1, e2, h2, hcc]
theorem numB_dec {d : List UInt8} (h : numB d = true) : Lib.decDigits (dreadV 0 d) = d := by
  unfold numB at h
  rw [Bool.and_eq_true, Bool.and_eq_true] at h
  obtain ⟨⟨h1, h2⟩, h3⟩ := h
  have hn : d ≠ [] := by rintro rfl; simp at h1
  by_cases hh : d.head? = some 48
  · have hd : d = [48] := by
      rw [hh] at h2
      simpa using h2
    subst hd
    have : dreadV 0 [48] = 0 := by rw [dread_cons, dread_nil]; rfl
    rw [this, Lib.decDigits_one (by decide)]; rfl
  · exact dec_dread d.length d rfl hn h3 hh
/-- What is a number's text is what the number is printed as. -/
theorem parV_print {l : List UInt8} {V : Int} (h : parV l = some V) : Lib.itoa V = l := by
  unfold parV at h
  cases hnum : numB (Lib.trimPrefix l [45]) with
  | false => rw [hnum] at h; simp at h
  | true =>
    cases hz : (Lib.hasPrefix l [45] && (Lib.trimPrefix l [45] == [48])) with
    | true => rw [hz] at h; simp at h
    | false =>
      rw [hnum, hz] at h
      simp only [Bool.not_false, Bool.and_self, if_true] at h
      injection h with h
      have hd := numB_dec hnum
      cases hp : Lib.hasPrefix l [45] with
      | true =>
        rw [hp] at h hz
        simp only [if_true] at h
        have ht : Lib.trimPrefix l [45] = l.drop 1 := by unfold Lib.trimPrefix; rw [hp]; rfl
        have hl : l = 45 :: l.drop 1 := by
          unfold Lib.hasPrefix at hp
          cases l with
          | nil => simp [List.isPrefixOf] at hp
          | cons c r => simp [List.isPrefixOf] at hp; simp [← hp]
        have hne : dreadV 0 (Lib.trimPrefix l [45]) ≠ 0 := by
          intro e
          rw [e, Lib.decDigits_one (by decide)] at hd
          have : (Lib.trimPrefix l [45] == [48]) = true := by rw [← hd]; rfl
          rw [this] at hz
          simp at hz
        have hV : V < 0 := by omega
        unfold Lib.itoa
        rw [if_pos hV]
        have e : V.natAbs = dreadV 0 (Lib.trimPrefix l [45]) := by omega
        rw [e, hd, ht]
        exact hl.symm
      | false =>
        rw [hp] at h
        simp only [Bool.false_eq_true, if_false] at h
        have ht : Lib.trimPrefix l [45] = l := by unfold Lib.trimPrefix; rw [hp]; rfl
        unfold Lib.itoa
        rw [if_neg (by omega)]
        have e : V.toNat = dreadV 0 (Lib.trimPrefix l [45]) := by omega
        rw [e, hd, ht]
/-- Quotes within, one of two taken: from some byte on, as far as there is one more behind. -/
def scan : List UInt8 → List UInt8
  | [] => []
  | [_] => []
  | c :: d :: r => if c = 39 then c :: scan r else c :: scan (d :: r)
theorem scan_dbl : ∀ s : List UInt8, scan (dbl s ++ [39]) = s
  | [] => rfl
  | c :: s => by
    have ih := scan_dbl s
    rw [dbl_cons]
    by_cases h : c = 39
    · subst h
      rw [if_pos rfl]
      show scan (39 :: 39 :: (dbl s ++ [39])) = 39 :: s
      rw [scan, if_pos rfl, ih]
    · rw [if_neg h]
      show scan (c :: (dbl s ++ [39])) = c :: s
      cases hd : dbl s ++ [39] with
      | nil => simp at hd
      | cons x t =>
        rw [hd] at ih
        rw [scan, if_neg h, ih]
def scanV (l : List UInt8) : Val := (2, 0, ⟨(scan (l.drop 1)).toArray⟩)
theorem vprint_two (s : ByteArray) : vprint (2, 0, s) = 39 :: (dbl s.data.toList ++ [39]) := rfl
theorem printOf_ne {v : Val} {l : List UInt8} (hl : l ≠ []) (h : printOf v = l) : vright v = true ∧ vprint v = l := by
  unfold printOf at h
  cases hr : vright v with
  | true => rw [hr] at h; exact ⟨rfl, h⟩
  | false => rw [hr] at h; exact absurd h.symm hl
/-- The text between quotes, however it is taken out, is the one whose print is the whole. -/
theorem inner_scan {l : List UInt8} (hl : l ≠ []) : (if printOf (innerV l) = l then some (innerV l) else none) = if vright (scanV l) = true ∧ vprint (scanV l) = l then some (scanV l) else none := by
  have key : ∀ s : ByteArray, vprint (2, 0, s) = l → innerV l = (2, 0, s) ∧ scanV l = (2, 0, s) := by
    intro s hs
    rw [vprint_two] at hs
    subst hs
    constructor
    · unfold innerV inner
      rw [trim_quotes, replaceAll_undbl, ← ba_eq s _ rfl]
    · unfold scanV
      show (2, 0, (⟨(scan (dbl s.data.toList ++ [39])).toArray⟩ : ByteArray)) = _
      rw [scan_dbl, ← ba_eq s _ rfl]
  by_cases h1 : printOf (innerV l) = l
  · obtain ⟨h2, h3⟩ := printOf_ne hl h1
    have hk := key _ h3
    have he : scanV l = innerV l := hk.2
    rw [if_pos h1, he, if_pos ⟨h2, h3⟩]
  · rw [if_neg h1]
    by_cases h2 : vright (scanV l) = true ∧ vprint (scanV l) = l
    · exfalso
      have hk := key _ h2.2
      have he : innerV l = scanV l := hk.1
      apply h1
      rw [he]
      unfold printOf
      rw [h2.1]
      exact h2.2
    · rw [if_neg h2]
end Go.Proofs.YtbodldlenoehfaaDoor
