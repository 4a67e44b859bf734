/- Contracts of calc.Total's methods. -/
import Derived.Test.YtapnkbamilkpoaaCalcW
namespace Go.Proofs.Ytapnkbamilkpoaa
open Go.RowKit

/-- The cells of a Total. -/
def TotalAt (w : World) (b : Nat) (V n : Int) : Prop :=
  w.cell? ⟨b, 0, none⟩ = some (.int .i64 (wdHi V)) ∧ w.cell? ⟨b, 1, none⟩ = some (.int .u64 (wdLo V)) ∧ w.cell? ⟨b, 2, none⟩ = some (.int .i64 n) ∧
  w.frozen? ⟨b, 0, none⟩ = false ∧ w.frozen? ⟨b, 1, none⟩ = false ∧ w.frozen? ⟨b, 2, none⟩ = false
def sumL (zs : List Int) : Int := zs.foldl (· + ·) 0
theorem sumL_snoc (zs : List Int) (x : Int) : sumL (zs ++ [x]) = sumL zs + x := by simp [sumL]
theorem sumL_bd {zs : List Int} (h : I64s zs) (k : Nat) (hk : k ≤ zs.length) :
    -9223372036854775808 * (k : Int) ≤ sumL (zs.take k) ∧ sumL (zs.take k) ≤ 9223372036854775807 * (k : Int) := by
  induction k with
  | zero => simp [sumL]
  | succ k ih =>
    have := ih (by omega)
    have b := h.at k (by omega)
    rw [take_snocD zs k (by omega), sumL_snoc]
    omega

/-- What a number is answered as: itself, or nothing where it is beyond. -/
def okN (V : Int) : Int := if -9223372036854775808 ≤ V ∧ V ≤ 9223372036854775807 then V else 0
def erN (V : Int) : Int := if -9223372036854775808 ≤ V ∧ V ≤ 9223372036854775807 then 0 else 2
theorem ok_in {V : Int} (h : -9223372036854775808 ≤ V ∧ V ≤ 9223372036854775807) : okN V = V ∧ erN V = 0 := by unfold okN erN; simp [h]
theorem ok_out {V : Int} (h : V < -9223372036854775808 ∨ 9223372036854775807 < V) : okN V = 0 ∧ erN V = 2 := by
  unfold okN erN
  rw [if_neg (by omega), if_neg (by omega)]; exact ⟨rfl, rfl⟩
theorem total_chg {S : Nat → Prop} {w w' : World} {b : Nat} {V n : Int} (h : TotalAt w b V n) (hc : Chg S w w') (hb : b < w.heap.size) (hs : ¬ S b) : TotalAt w' b V n := by
  obtain ⟨h1, h2⟩ := ccell hc
  obtain ⟨t1, t2, t3, t4, t5, t6⟩ := h
  exact ⟨by rw [h1 b _ hb hs]; exact t1, by rw [h1 b _ hb hs]; exact t2, by rw [h1 b _ hb hs]; exact t3, by rw [h2 b _ hb hs]; exact t4, by rw [h2 b _ hb hs]; exact t5, by rw [h2 b _ hb hs]; exact t6⟩
end Go.Proofs.Ytapnkbamilkpoaa
