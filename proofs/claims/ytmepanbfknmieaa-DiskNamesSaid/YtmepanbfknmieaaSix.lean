/- A struct's block of six cells. (XSCopy has the same: never import both.) -/
import Derived.Test.YtmepanbfknmieaaWorld
import Derived.Deep.OwnRows
namespace Go.Proofs.Ytmepanbfknmieaa
open Go.RowKit
def six6 (v0 v1 v2 v3 v4 v5 : Value) (j : Nat) : Value := match j with | 0 => v0 | 1 => v1 | 2 => v2 | 3 => v3 | 4 => v4 | _ => v5
theorem six6_new (w : World) (v0 v1 v2 v3 v4 v5 : Value) (T : TypeId) : (w.alloc (.cells #[v0, v1, v2, v3, v4, v5] T)).rowIs w.heap.size T 6 (six6 v0 v1 v2 v3 v4 v5) :=
  World.rowIs_alloc w #[v0, v1, v2, v3, v4, v5] T _ (fun i hi => by
    have : i < 6 := hi
    rcases (by omega : i = 0 ∨ i = 1 ∨ i = 2 ∨ i = 3 ∨ i = 4 ∨ i = 5) with rfl | rfl | rfl | rfl | rfl | rfl <;> rfl)
theorem six6_cells {w : World} {B : Nat} {T : TypeId} {v0 v1 v2 v3 v4 v5 : Value} (h : w.rowIs B T 6 (six6 v0 v1 v2 v3 v4 v5)) : (w.cell? ⟨B, 0, none⟩ = some v0 ∧ w.cell? ⟨B, 1, none⟩ = some v1 ∧ w.cell? ⟨B, 2, none⟩ = some v2 ∧ w.cell? ⟨B, 3, none⟩ = some v3 ∧ w.cell? ⟨B, 4, none⟩ = some v4 ∧ w.cell? ⟨B, 5, none⟩ = some v5) ∧ (w.frozen? ⟨B, 0, none⟩ = false ∧ w.frozen? ⟨B, 1, none⟩ = false ∧ w.frozen? ⟨B, 2, none⟩ = false ∧ w.frozen? ⟨B, 3, none⟩ = false ∧ w.frozen? ⟨B, 4, none⟩ = false ∧ w.frozen? ⟨B, 5, none⟩ = false) :=
  ⟨⟨h.cell (i := 0) (by decide), h.cell (i := 1) (by decide), h.cell (i := 2) (by decide), h.cell (i := 3) (by decide), h.cell (i := 4) (by decide), h.cell (i := 5) (by decide)⟩, h.frozen 0, h.frozen 1, h.frozen 2, h.frozen 3, h.frozen 4, h.frozen 5⟩
theorem six6_set1 {w : World} {B : Nat} {T : TypeId} {v0 v1 v2 v3 v4 v5 : Value} (h : w.rowIs B T 6 (six6 v0 v1 v2 v3 v4 v5)) (u : Value) : (w.setCell ⟨B, 1, none⟩ u).rowIs B T 6 (six6 v0 u v2 v3 v4 v5) :=
  (h.set 1 u).congr (fun i hi => by rcases (by omega : i = 0 ∨ i = 1 ∨ i = 2 ∨ i = 3 ∨ i = 4 ∨ i = 5) with rfl | rfl | rfl | rfl | rfl | rfl <;> rfl)
theorem six6_set2 {w : World} {B : Nat} {T : TypeId} {v0 v1 v2 v3 v4 v5 : Value} (h : w.rowIs B T 6 (six6 v0 v1 v2 v3 v4 v5)) (u : Value) : (w.setCell ⟨B, 2, none⟩ u).rowIs B T 6 (six6 v0 v1 u v3 v4 v5) :=
  (h.set 2 u).congr (fun i hi => by rcases (by omega : i = 0 ∨ i = 1 ∨ i = 2 ∨ i = 3 ∨ i = 4 ∨ i = 5) with rfl | rfl | rfl | rfl | rfl | rfl <;> rfl)
theorem six6_setAll {w : World} {B : Nat} {T : TypeId} {v0 v1 v2 v3 v4 v5 : Value} (h : w.rowIs B T 6 (six6 v0 v1 v2 v3 v4 v5)) (u0 u1 u2 u3 u4 u5 : Value) : ((((((w.setCell ⟨B, 0, none⟩ u0).setCell ⟨B, 1, none⟩ u1).setCell ⟨B, 2, none⟩ u2).setCell ⟨B, 3, none⟩ u3).setCell ⟨B, 4, none⟩ u4).setCell ⟨B, 5, none⟩ u5).rowIs B T 6 (six6 u0 u1 u2 u3 u4 u5) :=
  ((((((h.set 0 u0).set 1 u1).set 2 u2).set 3 u3).set 4 u4).set 5 u5).congr (fun i hi => by rcases (by omega : i = 0 ∨ i = 1 ∨ i = 2 ∨ i = 3 ∨ i = 4 ∨ i = 5) with rfl | rfl | rfl | rfl | rfl | rfl <;> rfl)
end Go.Proofs.Ytmepanbfknmieaa
