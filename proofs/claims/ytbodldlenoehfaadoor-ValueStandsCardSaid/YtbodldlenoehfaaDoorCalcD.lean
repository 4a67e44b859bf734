/- Contracts of calc's quotients; the law's examples; the least and the greatest. -/
import Derived.Test.YtbodldlenoehfaaDoorCalcA
namespace Go.Proofs.YtbodldlenoehfaaDoor
open Go.RowKit
def divN (a b : Int) : Int := if b = 0 then 0 else okN (a.fdiv b)
def divE (a b : Int) : Int := if b = 0 then 3 else erN (a.fdiv b)
def modN (a b : Int) : Int := if b = 0 then 0 else a.fmod b
def modE (b : Int) : Int := if b = 0 then 3 else 0
theorem fdiv_m1 (a : Int) : a.fdiv (-1) = -a := by
  have := fdiv_of a (-1) (by decide)
  simpa using this

set_option maxHeartbeats 400000 in
theorem div_any (a b : Int) (ha : -9223372036854775808 ≤ a) (ha' : a ≤ 9223372036854775807) (w : World) :
    Calls Tryd.prog 39 #[.int .i64 a, .int .i64 b] w fun e w' => e = .returned (.tuple #[.int .i64 (divN a b), .int .i64 (divE a b)]) ∧ Below w.heap.size w w' := by
  by_cases h0 : b = 0
  · subst h0
    go_enter Tryd.func39, Tryd.ntmps39
    go_wp2
    go_ret2
    exact ⟨rfl, Below.refl _ _⟩
  by_cases h1 : b = -1
  · subst h1
    have e1 : divN a (-1) = okN (-a) := by unfold divN; rw [fdiv_m1]; simp
    have e2 : divE a (-1) = erN (-a) := by unfold divE; rw [fdiv_m1]; simp
    have E1 := Lib.hid e1
    have E2 := Lib.hid e2
    clear e1 e2 h0
    go_enter Tryd.func39, Tryd.ntmps39
    go_wp2_with (go_at_call 66; refine (neg_any a _ ha ha').mono ?_; rintro e w1 ⟨rfl, hb1⟩)
    go_ret2
    exact ⟨ret_ii E1.out.symm E2.out.symm, hb1⟩
  have k0 : (b == 0) = false := by simpa using h0
  have k1' : (b == -1) = false := by simpa using h1
  obtain ⟨k1, k2, k3⟩ := tdiv_bd a b ha ha' h0 h1
  obtain ⟨m1, m2⟩ := ok_in (fdiv_bd a b ha ha' h0 h1)
  have e1 : divN a b = a.fdiv b := by unfold divN; rw [if_neg h0, m1]
  have e2 : divE a b = 0 := by unfold divE; rw [if_neg h0, m2]
  have E1 := Lib.hid e1
  have E2 := Lib.hid e2
  have H := Lib.hid (fdiv_of a b h0)
  have K3 := Lib.hid k3
  clear e1 e2 m1 m2 k3
  go_enter Tryd.func39, Tryd.ntmps39
  go_wp2
  all_goals go_ret2
  · refine ⟨ret_ii ?_ E2.out.symm, Below.refl _ _⟩
    rw [E1.out, H.out, if_neg (by intro x; exact x.1 (by assumption))]
  · rename_i hr ht
    refine ⟨ret_ii ?_ E2.out.symm, Below.refl _ _⟩
    have hb1 : b ≠ 1 := by rintro rfl; simp at hr
    have := K3.out hb1
    rw [E1.out, H.out, if_pos ⟨hr, by have := ht.2; by_cases x : a < 0 <;> by_cases y : b < 0 <;> simp [x, y] at this ⊢ <;> omega⟩]
    unfold wrap64; omega
  · rename_i hr ht
    refine ⟨ret_ii ?_ E2.out.symm, Below.refl _ _⟩
    rw [E1.out, H.out, if_neg]
    rintro ⟨_, hs⟩
    rcases ht with ht | ht
    · exact hr (by simpa using ht)
    · by_cases x : a < 0 <;> by_cases y : b < 0 <;> simp [x, y] at ht hs <;> omega
set_option maxHeartbeats 400000 in
theorem mod_any (a b : Int) (hb : -9223372036854775808 ≤ b) (hb' : b ≤ 9223372036854775807) (w : World) :
    Calls Tryd.prog 40 #[.int .i64 a, .int .i64 b] w fun e w' => e = .returned (.tuple #[.int .i64 (modN a b), .int .i64 (modE b)]) ∧ w = w' := by
  by_cases h0 : b = 0
  · subst h0
    go_enter Tryd.func40, Tryd.ntmps40
    go_wp2
    go_ret2
    exact ⟨rfl, rfl⟩
  have k0 : (b == 0) = false := by simpa using h0
  obtain ⟨k1, k2, k3, k4⟩ := tmod_bd a b hb hb' h0
  have e1 : modN a b = a.fmod b := by unfold modN; rw [if_neg h0]
  have e2 : modE b = 0 := by unfold modE; rw [if_neg h0]
  have E1 := Lib.hid e1
  have E2 := Lib.hid e2
  have H := Lib.hid (fmod_of a b h0)
  clear e1 e2 
  have K3 := Lib.hid k3
  have K4 := Lib.hid k4
  clear k3 k4
  go_enter Tryd.func40, Tryd.ntmps40
  go_wp2
  all_goals go_ret2
  · rename_i hr
    refine ⟨ret_ii ?_ E2.out.symm, rfl⟩
    rw [E1.out, H.out, if_neg (by intro x; exact x.1 hr), hr]
  · rename_i hr ht
    refine ⟨ret_ii ?_ E2.out.symm, rfl⟩
    have := K3.out
    have := K4.out
    have hs : (a.tmod b < 0 ↔ 0 ≤ b) := by have := ht.2; by_cases x : a.tmod b < 0 <;> by_cases y : b < 0 <;> simp [x, y] at this ⊢ <;> omega
    rw [E1.out, H.out, if_pos ⟨hr, hs⟩]
    unfold wrap64; omega
  · rename_i hr ht
    refine ⟨ret_ii ?_ E2.out.symm, rfl⟩
    rw [E1.out, H.out, if_neg]
    rintro ⟨_, hs⟩
    rcases ht with ht | ht
    · exact hr (by simpa using ht)
    · by_cases x : a.tmod b < 0 <;> by_cases y : b < 0 <;> simp [x, y] at ht hs <;> omega
set_option maxHeartbeats 400000 in
theorem awake_any (w : World) :
    Calls Tryd.prog 10 #[] w fun e w' => e = .returned (.bool true) ∧ Below w.heap.size w w' := by
  go_enter Tryd.func10, Tryd.ntmps10
  go_wp2_with fail
  refine (div_any (-7) 2 (by decide) (by decide) _).mono ?_
  rintro e w1 ⟨rfl, hb1⟩
  have e1 : divN (-7) 2 = -4 := by decide
  have e2 : divE (-7) 2 = 0 := by decide
  go_wp2_with fail
  refine (mod_any (-7) 2 (by decide) (by decide) _).mono ?_
  rintro e w2 ⟨rfl, rfl⟩
  have e3 : modN (-7) 2 = 1 := by decide
  have e4 : modE 2 = 0 := by decide
  go_wp2_with fail
  refine (add_any _ _ _ [4611686018427387904, 4611686018427387904, -1] _ rfl (ints_three (by go_simp) (by go_simp) (by go_simp)) (fun z hz => by simp at hz; omega) (by decide)).mono ?_
  rintro e w3 ⟨rfl, hb3⟩
  have e5 : okN (sumL [4611686018427387904, 4611686018427387904, -1]) = 9223372036854775807 := by decide
  have e6 : erN (sumL [4611686018427387904, 4611686018427387904, -1]) = 0 := by decide
  go_wp2
  go_ret
  exact ⟨rfl, Below.thenB (hb1.alloc hb1.size _) (by simp; exact Nat.le_succ_of_le hb1.size) hb3⟩
end Go.Proofs.YtbodldlenoehfaaDoor
