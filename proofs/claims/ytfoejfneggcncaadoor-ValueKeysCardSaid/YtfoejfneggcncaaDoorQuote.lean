/- Texts between quotes, each quote within doubled. No program. -/
import Derived.Lib.ReplaceLaws
namespace Go.Proofs.YtfoejfneggcncaaDoor
open Go.Lib
/-- Each quote doubled. -/
def dbl (l : List UInt8) : List UInt8 := l.flatMap fun c => if c = 39 then [39, 39] else [c]
theorem dbl_cons (c : UInt8) (r : List UInt8) : dbl (c :: r) = (if c = 39 then [39, 39] else [c]) ++ dbl r := by simp [dbl]
theorem dbl_snoc (l : List UInt8) (c : UInt8) : dbl (l ++ [c]) = dbl l ++ (if c = 39 then [39, 39] else [c]) := by simp [dbl]
theorem dbl_len (l : List UInt8) : (dbl l).length ≤ 2 * l.length := by
  induction l with
  | nil => simp [dbl]
  | cons c r ih =>
    rw [dbl_cons, List.length_append, List.length_cons]
    split <;> simp <;> omega
theorem index_ne (c : UInt8) (r : List UInt8) (h : c ≠ 39) : index (c :: r) [39] = if index r [39] == -1 then -1 else index r [39] + 1 := by
  have : ((39 : UInt8) == c) = false := beq_false_of_ne (fun e => h e.symm)
  simp [index, List.isPrefixOf, this]
theorem index_eq (r : List UInt8) : index (39 :: r) [39] = 0 := by simp [index, List.isPrefixOf]
theorem replaceK_dbl : ∀ l : List UInt8, replaceK [39] [39, 39] (count l [39]) l = dbl l
  | [] => by
    have : count ([] : List UInt8) [39] = 0 := count_miss (by simp [index])
    rw [this]; rfl
  | c :: r => by
    have ih := replaceK_dbl r
    by_cases h : c = 39
    · subst h
      rw [count_cons_eq, Nat.add_comm, replaceK_hit [39] [39, 39] _ (39 :: r) 0 (by rw [index_eq]; rfl), dbl_cons, if_pos rfl]
      simp [ih]
    · rw [count_cons_ne c 39 r h, dbl_cons, if_neg h]
      cases hk : count r [39] with
      | zero =>
        rw [hk] at ih
        show c :: r = c :: dbl r
        rw [← ih]; rfl
      | succ k =>
        rw [hk] at ih
        obtain ⟨i, hi⟩ := index_of_count (s := r) (old := [39]) (by omega)
        rw [replaceK_hit [39] [39, 39] k r i hi] at ih
        rw [replaceK_hit [39] [39, 39] k (c :: r) (i + 1) (by rw [index_ne c r h, hi, if_neg (by intro e; have := beq_iff_eq.1 e; omega)]; omega)]
        rw [← ih]
        simp
theorem replaceAll_dbl (l : List UInt8) : replaceAll l [39] [39, 39] = dbl l := by
  unfold replaceAll replace replaceNum
  rw [if_neg (by decide), if_pos (.inl (by decide))]
  exact replaceK_dbl l
theorem index2_ne (c : UInt8) (r : List UInt8) (h : c ≠ 39) : index (c :: r) [39, 39] = if index r [39, 39] == -1 then -1 else index r [39, 39] + 1 := by
  have : ((39 : UInt8) == c) = false := beq_false_of_ne (fun e => h e.symm)
  simp [index, List.isPrefixOf, this]
theorem index2_eq (r : List UInt8) : index (39 :: 39 :: r) [39, 39] = 0 := by simp [index, List.isPrefixOf]
theorem replaceK_undbl : ∀ l : List UInt8, replaceK [39, 39] [39] (count (dbl l) [39, 39]) (dbl l) = l
  | [] => by
    have : count ([] : List UInt8) [39, 39] = 0 := count_miss (by simp [index])
    show replaceK [39, 39] [39] (count [] [39, 39]) [] = []
    rw [this]; rfl
  | c :: r => by
    have ih := replaceK_undbl r
    by_cases h : c = 39
    · subst h
      rw [dbl_cons, if_pos rfl]
      show replaceK [39, 39] [39] (count (39 :: 39 :: dbl r) [39, 39]) (39 :: 39 :: dbl r) = 39 :: r
      rw [count_hit (i := 0) (by simp) (by rw [index2_eq]; rfl), Nat.add_comm, replaceK_hit [39, 39] [39] _ (39 :: 39 :: dbl r) 0 (by rw [index2_eq]; rfl)]
      simp [ih]
    · rw [dbl_cons, if_neg h]
      show replaceK [39, 39] [39] (count (c :: dbl r) [39, 39]) (c :: dbl r) = c :: r
      have hge := index_ge (dbl r) [39, 39]
      by_cases hi : index (dbl r) [39, 39] = -1
      · have h0 := count_miss hi
        have h1 : index (c :: dbl r) [39, 39] = -1 := by rw [index2_ne c _ h, hi]; rfl
        rw [h0] at ih
        rw [count_miss h1]
        show c :: dbl r = c :: r
        have : dbl r = r := ih
        rw [this]
      · obtain ⟨i, hi'⟩ : ∃ i : Nat, index (dbl r) [39, 39] = i := ⟨(index (dbl r) [39, 39]).toNat, by omega⟩
        have h1 : index (c :: dbl r) [39, 39] = ((i + 1 : Nat) : Int) := by rw [index2_ne c _ h, hi', if_neg (by intro e; have := beq_iff_eq.1 e; omega)]; omega
        have hc1 := count_hit (i := i) (s := dbl r) (sub := [39, 39]) (by simp) hi'
        have hc2 := count_hit (i := i + 1) (s := c :: dbl r) (sub := [39, 39]) (by simp) h1
        have e2 : (c :: dbl r).drop (i + 1 + [(39 : UInt8), 39].length) = (dbl r).drop (i + [(39 : UInt8), 39].length) := by simp
        rw [hc1, Nat.add_comm, replaceK_hit [39, 39] [39] _ _ i hi'] at ih
        rw [hc2, e2, Nat.add_comm, replaceK_hit [39, 39] [39] _ _ (i + 1) h1, e2]
        show c :: ((dbl r).take i ++ [39] ++ _) = c :: r
        rw [ih]
theorem replaceAll_undbl (l : List UInt8) : replaceAll (dbl l) [39, 39] [39] = l := by
  unfold replaceAll replace replaceNum
  rw [if_neg (by decide), if_pos (.inl (by decide))]
  exact replaceK_undbl l
theorem trim_quotes (d : List UInt8) : trimSuffix (trimPrefix (39 :: (d ++ [39])) [39]) [39] = d := by
  have h1 : trimPrefix (39 :: (d ++ [39])) [39] = d ++ [39] := by simp [trimPrefix, hasPrefix, List.isPrefixOf]
  rw [h1]
  have h2 : hasSuffix (d ++ [39]) [39] = true := by
    unfold hasSuffix
    rw [List.isSuffixOf_iff_suffix]
    exact ⟨d, rfl⟩
  unfold trimSuffix
  rw [h2, if_pos rfl]
  simp
theorem trimS_len (l p : List UInt8) : (trimSuffix l p).length ≤ l.length := by
  unfold trimSuffix
  split
  · simp
  · exact Nat.le_refl _
theorem trimP_len (l p : List UInt8) : (trimPrefix l p).length ≤ l.length := by
  unfold trimPrefix
  split
  · simp
  · exact Nat.le_refl _
end Go.Proofs.YtfoejfneggcncaaDoor
