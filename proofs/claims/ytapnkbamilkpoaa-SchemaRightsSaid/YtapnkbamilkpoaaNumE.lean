/- Contract of the document's sums. -/
import Derived.Test.YtapnkbamilkpoaaNumD
namespace Go.Proofs.Ytapnkbamilkpoaa
open Go.RowKit
theorem num_len {w : World} {x : Bool} {a : Option Addr} {n c : Nat} {V : Int} (h : NumP w x a n c V) (k : Nat) (hk : (V.natAbs : Int) < pw k) : n ≤ k := by
  obtain ⟨_, ds, hn, _, _, hcn, hv⟩ := h
  rw [← hn]; exact canon_len hcn (by rw [hv]; exact hk)
theorem pw30 : pw 30 = 1000000000000000000000000000000 := by decide
/-- A variable that is a Num, stored anew. -/
theorem num_set {w1 : World} {B : Nat} {t : TypeId} {y x : Bool} {a' a : Option Addr} {n' c' n c : Nat} {V : Int} (hblk : w1.heap[B]? = some (.cells #[.bool y, .slice a' n' c'] t)) (hn : NumP w1 x a n c V) :
    NumP ((w1.setCell ⟨B, 0, none⟩ (.bool x)).setCell ⟨B, 1, none⟩ (.slice a n c)) x a n c V ∧
    ((w1.setCell ⟨B, 0, none⟩ (.bool x)).setCell ⟨B, 1, none⟩ (.slice a n c)).heap[B]? = some (.cells #[.bool x, .slice a n c] t) := by
  refine ⟨hn.chg (S := (· = B)) (((Chg.refl (· = B) _).setCell (.inr rfl) _).setCell (.inr rfl) _) ?_, ?_⟩
  · intro hp y hy e
    obtain ⟨_, ds, hl, _, hz, _⟩ := hn
    exact ints_ne hblk hz (by rintro rfl; simp at hl; omega) y hy e
  · simp [World.setCell, Array.getElem?_modify, hblk]
/-- The cells of such a variable. -/
theorem num_has {w1 : World} {B : Nat} {t : TypeId} {y : Bool} {a' : Option Addr} {n' c' : Nat} (hblk : w1.heap[B]? = some (.cells #[.bool y, .slice a' n' c'] t)) :
    w1.cell? ⟨B, 0, none⟩ = some (.bool y) ∧ w1.cell? ⟨B, 1, none⟩ = some (.slice a' n' c') ∧ w1.frozen? ⟨B, 0, none⟩ = false ∧ w1.frozen? ⟨B, 1, none⟩ = false := by
  refine ⟨?_, ?_, ?_, ?_⟩ <;> simp [World.cell?, World.frozen?, hblk]
theorem blk_lt {w : World} {B : Nat} {o : Obj} (h : w.heap[B]? = some o) : B < w.heap.size := by
  refine Nat.lt_of_not_le fun hge => ?_
  rw [Array.getElem?_eq_none hge] at h; cases h
theorem blk_alloc {w : World} {B : Nat} {o : Obj} (h : w.heap[B]? = some o) (o' : Obj) : (w.alloc o').heap[B]? = some o := (Below.heap_alloc _ _ _ (blk_lt h)).trans h
theorem blk_set {w : World} {B C : Nat} {o : Obj} (h : w.heap[B]? = some o) (hne : B ≠ C) {i : Nat} {u : Value} : (w.setCell ⟨C, i, none⟩ u).heap[B]? = some o := (Below.heap_setCell _ _ _ _ hne).trans h
end Go.Proofs.Ytapnkbamilkpoaa
