/- Keys read back: texts. No program. -/
import Derived.Lib.CutLaws
namespace Go.Proofs.YtfoejfneggcncaaDoor
open Go.Lib
/-- A text's bytes out of a key: up to 00 01, of 00 ff the 00; and what stands behind. -/
def unesc : List UInt8 → Option (List UInt8 × List UInt8)
  | [] => none
  | c :: r =>
    if c = 0 then
      match r with
      | [] => none
      | d :: t => if d = 1 then some ([], t) else if d = 255 then (unesc t).map fun p => (0 :: p.1, p.2) else none
    else (unesc r).map fun p => (c :: p.1, p.2)
theorem unesc_zero (r : List UInt8) : unesc (0 :: r) = match r with | [] => none | d :: t => if d = 1 then some ([], t) else if d = 255 then (unesc t).map fun p => (0 :: p.1, p.2) else none := by
  rw [unesc.eq_def]; simp
theorem unesc_ne (c : UInt8) (r : List UInt8) (h : c ≠ 0) : unesc (c :: r) = (unesc r).map fun p => (c :: p.1, p.2) := by
  rw [unesc.eq_def]; simp [h]
theorem index0_ne (c : UInt8) (r : List UInt8) (h : c ≠ 0) : index (c :: r) [0] = if index r [0] == -1 then -1 else index r [0] + 1 := by
  have : ((0 : UInt8) == c) = false := beq_false_of_ne (fun e => h e.symm)
  simp [index, List.isPrefixOf, this]
theorem cut_zero : ∀ x : List UInt8, (cut x [0] = (x, [], false) ∧ unesc x = none) ∨ ∃ p r, x = p ++ 0 :: r ∧ cut x [0] = (p, r, true) ∧ unesc x = (unesc (0 :: r)).map fun q => (p ++ q.1, q.2)
  | [] => .inl ⟨by simp [cut, index], rfl⟩
  | c :: x => by
    by_cases h : c = 0
    · subst h
      refine .inr ⟨[], x, rfl, ?_, ?_⟩
      · have : index (0 :: x) [0] = 0 := by simp [index, List.isPrefixOf]
        simp [cut, this]
      · cases unesc (0 :: x) <;> simp
    · have hi := index0_ne c x h
      have hge := index_ge x [0]
      rcases cut_zero x with ⟨h1, h2⟩ | ⟨p, r, h1, h2, h3⟩
      · left
        have hm : ¬ 0 ≤ index x [0] := by
          intro hm
          unfold cut at h1
          rw [if_pos hm] at h1
          simp at h1
        refine ⟨?_, by rw [unesc_ne c x h, h2]; rfl⟩
        have hm1 : index x [0] = -1 := by omega
        rw [hm1] at hi
        unfold cut
        rw [hi]; simp
      · right
        refine ⟨c :: p, r, by rw [h1]; rfl, ?_, ?_⟩
        · have hm : 0 ≤ index x [0] := by
            refine Decidable.byContradiction fun hm => ?_
            unfold cut at h2
            rw [if_neg hm] at h2
            simp at h2
          rw [if_neg (by intro e; have := beq_iff_eq.1 e; omega)] at hi
          unfold cut at h2 ⊢
          rw [if_pos hm] at h2
          rw [hi, if_pos (by omega)]
          injection h2 with e1 e2
          injection e2 with e2 e3
          have e4 : (index x [0] + 1).toNat = (index x [0]).toNat + 1 := by omega
          rw [e4]
          simp only [List.take_succ_cons, e1]
          have e5 : (index x [0]).toNat + 1 + [(0 : UInt8)].length = ((index x [0]).toNat + [(0 : UInt8)].length) + 1 := by simp
          rw [e5, List.drop_succ_cons, e2]
        · rw [unesc_ne c x h, h3]
          cases unesc (0 :: r) <;> simp
end Go.Proofs.YtfoejfneggcncaaDoor
