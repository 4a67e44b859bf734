/- The document's Same, of two schemas whose first columns are of unlike kinds. -/
import Derived.Test.YtapnkbamilkpoaaSEq2
import Derived.Test.YtapnkbamilkpoaaSCopy
namespace Go.Proofs.Ytapnkbamilkpoaa
open Go.RowKit
theorem own_rowIs {w : World} {B g : Nat} {t : TypeId} {k n c : Nat} {xs : List Value} (h : w.ownsRow B t k (.slice (some ⟨g, 0, none⟩) n c) n xs) : ∃ f : Nat → Value, w.rowIs g t (c * k) f ∧ (∀ j u, xs[j]? = some u → f j = u) ∧ n ≤ c := by
  rcases h.2 with ⟨hv, h0⟩ | ⟨g', cap, cur, hv, h3, hg, h4, h5, h6, h7⟩
  · cases hv
  · injection hv with ha hn hc
    injection ha with ha
    injection ha with ha1
    subst ha1 hc
    refine ⟨fun j => cur.toList.getD j (.bool false), ⟨cur, hg, h6, fun i hi => ?_⟩, fun j u hu => ?_, h4⟩
    · show cur[i]? = some (cur.toList.getD i (.bool false))
      rw [List.getD_eq_getElem?_getD, Array.getElem?_toList, Array.getElem?_eq_getElem (by omega)]; rfl
    · rw [← h7, List.getElem?_take] at hu
      split at hu
      · show cur.toList.getD j (.bool false) = u
        rw [List.getD_eq_getElem?_getD, hu]; rfl
      · cases hu
theorem own_some {w : World} {B : Nat} {t : TypeId} {k n c : Nat} {a : Option Addr} {xs : List Value} (h : w.ownsRow B t k (.slice a n c) n xs) (hn : 0 < n) : ∃ g, a = some ⟨g, 0, none⟩ ∧ B ≤ g ∧ g < w.heap.size := by
  rcases h.2 with ⟨hv, h0⟩ | ⟨g', cap, cur, hv, h3, hg, _⟩
  · omega
  · injection hv with ha _ _
    exact ⟨g', ha, h3, (Array.getElem?_eq_some_iff.1 hg).1⟩
set_option maxRecDepth 100000 in
set_option maxHeartbeats 4000000 in
theorem rssame_kind (name nm : ByteArray) (g b o cn cc cc' iN ic ic' : Nat) (ia ia' : Option Addr) (limit parts place k k' : Int) (w : World) (h0 : 0 < cn) (hm : cn ≤ 1048576) (_hi : iN ≤ 1048576) (hk : ¬ k = k')
    (x0 : w.cell? ⟨g, 0, none⟩ = some (.string nm)) (x1 : w.cell? ⟨g, 1, none⟩ = some (.int .i64 k)) (y0 : w.cell? ⟨b, o, none⟩ = some (.string nm)) (y1 : w.cell? ⟨b, o + 1, none⟩ = some (.int .i64 k')) :
    Calls Try.prog 10 #[.agg #[.string name, .slice (some ⟨g, 0, none⟩) cn cc, .slice ia iN ic, .int .i64 limit, .int .i64 parts, .int .i64 place], .agg #[.string name, .slice (some ⟨b, o, none⟩) cn cc', .slice ia' iN ic', .int .i64 limit, .int .i64 parts, .int .i64 place]] w fun e w' => e = .returned (.bool false) ∧ Below w.heap.size w w' := by
  obtain ⟨W1, hW1⟩ : ∃ W1, W1 = w.alloc (.cells #[.string name, .slice (some ⟨g, 0, none⟩) cn cc, .slice ia iN ic, .int .i64 limit, .int .i64 parts, .int .i64 place] 25) := ⟨_, rfl⟩
  have hA1 : Below w.heap.size w W1 := by rw [hW1]; exact (Below.refl _ _).alloc (Nat.le_refl _) _
  have hk1 : W1.heap[w.heap.size]? = some (.cells #[.string name, .slice (some ⟨g, 0, none⟩) cn cc, .slice ia iN ic, .int .i64 limit, .int .i64 parts, .int .i64 place] 25 (0, 0)) := by rw [hW1]; exact Array.getElem?_push_size
  have hs1 : W1.heap.size = w.heap.size + 1 := by rw [hW1]; simp
  obtain ⟨W2, hW2⟩ : ∃ W2, W2 = W1.alloc (.cells #[.string name, .slice (some ⟨b, o, none⟩) cn cc', .slice ia' iN ic', .int .i64 limit, .int .i64 parts, .int .i64 place] 25) := ⟨_, rfl⟩
  have hA2 : Below W1.heap.size W1 W2 := by rw [hW2]; exact (Below.refl _ _).alloc (Nat.le_refl _) _
  have hk2 : W2.heap[w.heap.size + 1]? = some (.cells #[.string name, .slice (some ⟨b, o, none⟩) cn cc', .slice ia' iN ic', .int .i64 limit, .int .i64 parts, .int .i64 place] 25 (0, 0)) := by rw [hW2, ← hs1]; exact Array.getElem?_push_size
  have hk12 := (hA2.block w.heap.size (by omega)).trans hk1
  have hB2 := Below.thenB hA1 (by omega) hA2
  obtain ⟨e0, e1, e2, e3, e4, e5⟩ := six_at hk12
  obtain ⟨f0, f1, f2, f3, f4, f5⟩ := six_at hk2
  have lg := lt_of_cell x0
  have lb := lt_of_cell y0
  have u0 := (hB2.cell (p := ⟨g, 0, none⟩) lg).trans x0
  have u1 := (hB2.cell (p := ⟨g, 1, none⟩) lg).trans x1
  have v0 := (hB2.cell (p := ⟨b, o, none⟩) lb).trans y0
  have v1 := (hB2.cell (p := ⟨b, o + 1, none⟩) lb).trans y1
  have HB2 := Lib.hid hB2
  have HW1 := Lib.hid hW1.symm
  have HW2 := Lib.hid hW2.symm
  have hc0 : decide ((0 : Int) < (cn : Int)) = true := decide_eq_true (by omega)
  have hcz : (0 : Int) < (cn : Int) := by omega
  clear hW1 hA1 hk1 hW2 hA2 hk2 hk12 hB2 x0 x1 y0 y1
  go_enter Try.func10, Try.ntmps10
  go_upto_region 1 with fail
  rw [HW1.out, HW2.out]
  clear HW1 HW2
  go_wp2
  refine wp_loop_rounds 1 ?_
  rw [rounds_succ]
  go_wp2_with fail
  go_quiet (fail)
  go_wp2
  go_ret
  exact ⟨rfl, bdrewN HB2.out _⟩
end Go.Proofs.Ytapnkbamilkpoaa
