/- Contracts of calc's quotients; the law's examples; the least and the greatest. -/
import Derived.Test.YtapnkbamilkpoaaCalcA
namespace Go.Proofs.Ytapnkbamilkpoaa
open Go.RowKit
def divN (a b : Int) : Int := if b = 0 then 0 else okN (a.fdiv b)
def divE (a b : Int) : Int := if b = 0 then 3 else erN (a.fdiv b)
def modN (a b : Int) : Int := if b = 0 then 0 else a.fmod b
def modE (b : Int) : Int := if b = 0 then 3 else 0
theorem fdiv_m1 (a : Int) : a.fdiv (-1) = -a := by
  have := fdiv_of a (-1) (by decide)
  simpa using this

set_option maxHeartbeats 400000 in
theorem mod_any (a b : Int) (hb : -9223372036854775808 ≤ b) (hb' : b ≤ 9223372036854775807) (w : World) :
    Calls Try.prog 66 #[.int .i64 a, .int .i64 b] w fun e w' => e = .returned (.tuple #[.int .i64 (modN a b), .int .i64 (modE b)]) ∧ w = w' := by
  by_cases h0 : b = 0
  · subst h0
    go_enter Try.func66, Try.ntmps66
    go_wp2
    go_ret2
    exact ⟨rfl, rfl⟩
  have k0 : (b == 0) = false := by simpa using h0
  obtain ⟨k1, k2, k3, k4⟩ := tmod_bd a b hb hb' h0
  have e1 : modN a b = a.fmod b := by unfold modN; rw [if_neg h0]
  have e2 : modE b = 0 := by unfold modE; rw [if_neg h0]
  have E1 := Lib.hid e1
  have E2 := Lib.hid e2
  have H := Lib.hid (fmod_of a b h0)
  clear e1 e2 
  have K3 := Lib.hid k3
  have K4 := Lib.hid k4
  clear k3 k4
  go_enter Try.func66, Try.ntmps66
  go_wp2
  all_goals go_ret2
  · rename_i hr
    refine ⟨ret_ii ?_ E2.out.symm, rfl⟩
    rw [E1.out, H.out, if_neg (by intro x; exact x.1 hr), hr]
  · rename_i hr ht
    refine ⟨ret_ii ?_ E2.out.symm, rfl⟩
    have := K3.out
    have := K4.out
    have hs : (a.tmod b < 0 ↔ 0 ≤ b) := by have := ht.2; by_cases x : a.tmod b < 0 <;> by_cases y : b < 0 <;> simp [x, y] at this ⊢ <;> omega
    rw [E1.out, H.out, if_pos ⟨hr, hs⟩]
    unfold wrap64; omega
  · rename_i hr ht
    refine ⟨ret_ii ?_ E2.out.symm, rfl⟩
    rw [E1.out, H.out, if_neg]
    rintro ⟨_, hs⟩
    rcases ht with ht | ht
    · exact hr (by simpa using ht)
    · by_cases x : a.tmod b < 0 <;> by_cases y : b < 0 <;> simp [x, y] at ht hs <;> omega
end Go.Proofs.Ytapnkbamilkpoaa
