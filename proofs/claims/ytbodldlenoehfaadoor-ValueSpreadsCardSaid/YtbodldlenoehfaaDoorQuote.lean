/- Texts between quotes, each quote within doubled. No program. -/
import Derived.Lib.ReplaceLaws
namespace Go.Proofs.YtbodldlenoehfaaDoor
open Go.Lib
/-- Each quote doubled. -/
def dbl (l : List UInt8) : List UInt8 := l.flatMap fun c => if c = 39 then [39, 39] else [c]
theorem dbl_cons (c : UInt8) (r : List UInt8) : dbl (c :: r) = (if c = 39 then [39, 39] else [c]) ++ dbl r := by simp [dbl]
theorem dbl_snoc (l : List UInt8) (c : UInt8) : dbl (l ++ [c]) = dbl l ++ (if c = 39 then [39, 39] else [c]) := by simp [dbl]
theorem dbl_len (l : List UInt8) : (dbl l).length ≤ 2 * l.length := by
  induction l with
  | nil => simp [dbl]
  | cons c r ih =>
    rw [dbl_cons, List.length_append, List.length_cons]
    split <;> simp <;> omega
theorem index_ne (c : UInt8) (r : List UInt8) (h : c ≠ 39) : index (c :: r) [39] = if index r [39] == -1 then -1 else index r [39] + 1 := by
  have : ((39 : UInt8) == c) = false := beq_false_of_ne (fun e => h e.symm)
  simp [index, List.isPrefixOf, this]
theorem index_eq (r : List UInt8) : index (39 :: r) [39] = 0 := by simp [index, List.isPrefixOf]
theorem replaceK_dbl : ∀ l : List UInt8, replaceK [39] [39, 39] (count l [39]) l = dbl l
  | [] => by
    have : count ([] : List UInt8) [39] = 0 := count_miss (by simp [index])
    rw [this]; rfl
  | c :: r => by
    have ih := replaceK_dbl r
    by_cases h : c = 39
    · subst h
      rw [count_cons_eq, Nat.add_comm, replaceK_hit [39] [39, 39] _ (39 :: r) 0 (by rw [index_eq]; rfl), dbl_cons, if_pos rfl]
      simp [ih]
    · rw [count_cons_ne c 39 r h, dbl_cons, if_neg h]
      cases hk : count r [39] with
      | zero =>
        rw [hk] at ih
        show c :: r = c :: dbl r
        rw [← ih]; rfl
      | succ k =>
        rw [hk] at ih
        obtain ⟨i, hi⟩ := index_of_count (s := r) (old := [39]) (by omega)
        rw [replaceK_hit [39] [39, 39] k r i hi] at ih
        rw [replaceK_hit [39] [39, 39] k (c :: r) (i + 1) (by rw [index_ne c r h, hi, if_neg (by intro e; have := beq_iff_eq.1 e; omega)]; omega)]
        rw [← ih]
        simp
theorem replaceAll_dbl (l : List UInt8) : replaceAll l [39] [39, 39] = dbl l := by
  unfold replaceAll replace replaceNum
  rw [if_neg (by decide), if_pos (.inl (by decide))]
  exact replaceK_dbl l
end Go.Proofs.YtbodldlenoehfaaDoor
