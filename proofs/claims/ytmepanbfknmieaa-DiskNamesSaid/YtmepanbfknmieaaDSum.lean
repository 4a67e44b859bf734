/- How many bytes files have: a sum over those that are left. No walk. -/
import Derived.Test.YtmepanbfknmieaaDMap
namespace Go.Proofs.Ytmepanbfknmieaa
open Go.RowKit Go.Maps
theorem toD_at' (fs : List FEnt) (k : List UInt8) (z : DataW FRaw) : (toD fs).atKey (.string k) z = match fget fs k with | some f => .held f | none => z := by
  unfold toD DataW.atKey fget
  simp only
  induction fs with
  | nil => rfl
  | cons p r ih =>
    simp only [List.map_cons, List.find?_cons, entD, same_str]
    cases h : p.1 == k with
    | true => rfl
    | false => exact ih
def sumDL (left : Lit → Bool) (fs : List FEnt) : Int := (fs.map fun p => if left (.string p.1) = true then (p.2.2.1 : Int) else 0).sum
def usedF (fs : List FEnt) : Int := (fs.map fun p => (p.2.2.1 : Int)).sum
theorem sumDL_nonneg (left : Lit → Bool) (fs : List FEnt) : 0 ≤ sumDL left fs := by
  unfold sumDL
  induction fs with
  | nil => exact Int.le_refl _
  | cons p r ih =>
    rw [List.map_cons, List.sum_cons]
    have : (0 : Int) ≤ if left (.string p.1) = true then (p.2.2.1 : Int) else 0 := by split <;> omega
    omega
theorem sumDL_none {left : Lit → Bool} {fs : List FEnt} (h : ∀ kl, left kl = false) : sumDL left fs = 0 := by
  unfold sumDL
  induction fs with
  | nil => rfl
  | cons p r ih => rw [List.map_cons, List.sum_cons, ih, h]; rfl
theorem sumDL_all {left : Lit → Bool} {fs : List FEnt} (h : ∀ p ∈ fs, left (.string p.1) = true) : sumDL left fs = usedF fs := by
  unfold sumDL usedF
  congr 1
  refine List.map_congr_left fun p hp => ?_
  rw [h p hp]; rfl
theorem sumDL_off {left : Lit → Bool} {fs : List FEnt} {k : List UInt8} (h : k ∉ fs.map (·.1)) : sumDL (fun z => left z && !z.sameKey (.string k)) fs = sumDL left fs := by
  unfold sumDL
  congr 1
  refine List.map_congr_left fun p hp => ?_
  have hne : (p.1 == k) = false := beq_false_of_ne (fun e => h (e ▸ List.mem_map_of_mem hp))
  simp only [same_str, hne]; simp
theorem sumDL_step {left : Lit → Bool} {fs : List FEnt} {k : List UInt8} {f : FRaw} (hnd : (fs.map (·.1)).Nodup) (hf : fget fs k = some f) (hl : left (.string k) = true) : sumDL left fs = (f.2.1 : Int) + sumDL (fun z => left z && !z.sameKey (.string k)) fs := by
  induction fs with
  | nil => cases hf
  | cons p r ih =>
    rw [List.map_cons, List.nodup_cons] at hnd
    unfold fget at hf
    rw [List.find?_cons] at hf
    by_cases h : p.1 = k
    · have hb : (p.1 == k) = true := by simp [h]
      rw [hb] at hf
      simp only [Option.map_some, Option.some.injEq] at hf
      have hoff := sumDL_off (left := left) (fs := r) (k := k) (by rw [← h]; exact hnd.1)
      show (List.map _ (p :: r)).sum = _ + (List.map _ (p :: r)).sum
      rw [List.map_cons, List.map_cons, List.sum_cons, List.sum_cons]
      have e1 : (if left (.string p.1) = true then (p.2.2.1 : Int) else 0) = (f.2.1 : Int) := by rw [h, hl, ← hf]; rfl
      have e2 : (if (left (.string p.1) && !(Lit.string p.1).sameKey (.string k)) = true then (p.2.2.1 : Int) else 0) = 0 := by rw [same_str, hb]; simp
      rw [e1, e2]
      unfold sumDL at hoff
      rw [hoff]; omega
    · have hb : (p.1 == k) = false := beq_false_of_ne h
      rw [hb] at hf
      have hi := ih hnd.2 hf
      show (List.map _ (p :: r)).sum = _ + (List.map _ (p :: r)).sum
      rw [List.map_cons, List.map_cons, List.sum_cons, List.sum_cons]
      have e2 : (if (left (.string p.1) && !(Lit.string p.1).sameKey (.string k)) = true then (p.2.2.1 : Int) else 0) = (if left (.string p.1) = true then (p.2.2.1 : Int) else 0) := by rw [same_str, hb]; simp
      rw [e2]
      unfold sumDL at hi
      omega
end Go.Proofs.Ytmepanbfknmieaa
