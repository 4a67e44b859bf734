/- Contract of disk's Names, whatever there is; of crashed. -/
import Derived.Test.YtmepanbfknmieaaDisk18
import Derived.Test.YtmepanbfknmieaaDisk14
import Derived.Lib.BufferMore
namespace Go.Proofs.Ytmepanbfknmieaa
open Go.RowKit Go.Maps
set_option maxRecDepth 100000 in
set_option maxHeartbeats 1000000 in
theorem names_none (b : Nat) (D : Dk) (a : Option Addr) (m c : Nat) (w : World) (h : DAt w b D) (hm : D.mb = none) :
    Calls Try.prog 21 #[.pointer (some ⟨b, 0, none⟩), .slice a m c] w fun e w' => NamesRet w w' [] e ∧ Below w.heap.size w w' := by
  obtain ⟨on, uses, armed, left, room, mb⟩ := D
  simp only at hm
  subst hm
  obtain ⟨⟨c0, c1, c2, c3, c4, c5⟩, _⟩ := six6_cells h
  simp only [] at c0 c1 c2 c3 c4 c5
  clear h
  have hrg := run_range_nilMap (P := Try.prog) w 65 9 72 Try.underlying65
  have hnx : ∀ ty, (Instr.next (.pointer (some ⟨w.heap.size, 0, none⟩)) false ty).run Try.prog (w.alloc (.mapIter none 0 #[] 0)) = _ := fun ty => run_next_nilMap w ty 0 0 #[]
  have HST := Lib.hid (Try.slices_Sort_string_none none 0 (w.alloc (.mapIter none 0 #[] 0)))
  have HB := Lib.hid (show Below w.heap.size w (w.alloc (.mapIter none 0 #[] 0)) from (Below.refl _ _).alloc (Nat.le_refl _) _)
  have HN := Lib.hid (show NamesRet w (w.alloc (.mapIter none 0 #[] 0)) [] (.returned (.slice none 0 0)) from ⟨none, 0, rfl, World.ownsRow_nil _ _ _ _⟩)
  go_enter Try.func21, Try.ntmps21
  go_wp2
  refine wp_loop_rounds 1 ?_
  rw [rounds_succ]
  go_wp2_with fail
  refine HST.out.mono ?_
  rintro e w1 ⟨rfl, hE⟩
  subst hE
  go_wp2
  go_ret
  exact ⟨HN.out, HB.out⟩
/-- The names that are told. -/
def namesM (fs : List (List UInt8 × MF)) (fr : List ByteArray) : List (List UInt8) := (fs.map (·.1)).filter (wantB fr)
theorem DskIn.names {w : World} {b : Nat} {S : Nat → Prop} {M : DM} {mb : Option Nat} {L : List (List UInt8 × FX)} (h : DskIn w b S M mb L) (a : Option Addr) (m c : Nat) (fr : List ByteArray) (hl : fr.length = m) (hmm : m ≤ 1048576) (hz : Texts w a fr) :
    Calls Try.prog 21 #[.pointer (some ⟨b, 0, none⟩), .slice a m c] w fun e w' => NamesRet w w' (namesM M.files fr) e ∧ Below w.heap.size w w' := by
  have hfl : (mapV FX.raw L).length ≤ 100 := by
    rw [mapV_len]
    have := h.fine.2.1
    rwa [h.files, mapV_len] at this
  have he : namesM M.files fr = ((mapV FX.raw L).map (·.1)).filter (wantB fr) := by
    unfold namesM
    rw [h.files, mapV_keys, mapV_keys]
  rw [he]
  rcases h.map with ⟨hm, hL⟩ | ⟨mm, hm, hown⟩
  · rw [hL]
    exact names_none b (M.dk mb) a m c w h.at_ hm
  · have hr : Rising (mapV FX.raw L) := rising_mapV.2 h.rising
    by_cases hm0 : m = 0
    · exact names_all b mm (M.dk mb) _ a m c fr w h.at_ hm hown hr hfl hl hm0 hmm hz
    · exact names_some b mm (M.dk mb) _ a m c fr w h.at_ hm hown hr hfl hl hm0 hmm hz
/-- How many bytes of a file a crash leaves. -/
def keepN (len kept : Nat) (more : Int) : Nat := kept + min more.toNat (len - kept)
theorem keepN_le {len kept : Nat} (h : kept ≤ len) (more : Int) : keepN len kept more ≤ len ∧ kept ≤ keepN len kept more := by unfold keepN; omega
theorem crashed_core (a : Option Addr) (n c k : Nat) (more : Int) (sz : Nat) (w : World) (hk : k ≤ n) (hn : n ≤ 1048576) (hnc : n ≤ c) (hsz : (k : Int) + min (max more 0) ((n : Int) - (k : Int)) = (sz : Int)) (hsn : sz ≤ n) (ha : (a = none ∧ n = 0 ∧ c = 0) ∨ ∃ g, a = some ⟨g, 0, none⟩) :
    Calls Try.prog 49 #[.agg #[.slice a n c, .int .i64 (k : Int)], .int .i64 more] w fun e w' => e = .returned (.agg #[.slice a sz c, .int .i64 (sz : Int)]) ∧ Below w.heap.size w w' := by
  obtain ⟨W1, hW1⟩ : ∃ W, W = w.alloc (.cells #[.slice a n c, .int .i64 (k : Int)] 72) := ⟨_, rfl⟩
  have hB1 : Below w.heap.size w W1 := by rw [hW1]; exact (Below.refl _ _).alloc (Nat.le_refl _) _
  have hk1 : W1.heap[w.heap.size]? = some (.cells #[.slice a n c, .int .i64 (k : Int)] 72 (0, 0)) := by rw [hW1]; exact Array.getElem?_push_size
  have hs1 : W1.heap.size = w.heap.size + 1 := by rw [hW1]; simp
  obtain ⟨W2, hW2⟩ : ∃ W, W = W1.alloc (.cells #[.slice none 0 0, .int .i64 0] 72) := ⟨_, rfl⟩
  have hB2 : Below W1.heap.size W1 W2 := by rw [hW2]; exact (Below.refl _ _).alloc (Nat.le_refl _) _
  have hk2 : W2.heap[w.heap.size + 1]? = some (.cells #[.slice none 0 0, .int .i64 0] 72 (0, 0)) := by rw [hW2, ← hs1]; exact Array.getElem?_push_size
  have hk21 : W2.heap[w.heap.size]? = some (.cells #[.slice a n c, .int .i64 (k : Int)] 72 (0, 0)) := (hB2.block _ (by omega)).trans hk1
  have x0 := Lib.cell_of_heap hk21 0
  have x1 := Lib.cell_of_heap hk21 1
  have y0 := Lib.cell_of_heap hk2 0
  have y1 := Lib.cell_of_heap hk2 1
  have g0 := Lib.frozen_of_heap hk2 0
  have g1 := Lib.frozen_of_heap hk2 1
  have HW1 := Lib.hid hW1.symm
  have HW2 := Lib.hid hW2.symm
  have HB := Lib.hid (Below.thenB hB1 hB1.size hB2)
  have hl2 : W2.heap.size = w.heap.size + 2 := by rw [hW2]; simp [hs1]
  have hk3 : ((W2.setCell ⟨w.heap.size + 1, 0, none⟩ (.slice a sz c)).setCell ⟨w.heap.size + 1, 1, none⟩ (.int .i64 (sz : Int))).heap[w.heap.size + 1]? = some (.cells #[.slice a sz c, .int .i64 (sz : Int)] 72 (0, 0)) := by
    rw [Lib.heap_setCell_same (Lib.heap_setCell_same hk2 _)]; rfl
  obtain ⟨W3, hW3⟩ : ∃ W, W = (W2.setCell ⟨w.heap.size + 1, 0, none⟩ (.slice a sz c)).setCell ⟨w.heap.size + 1, 1, none⟩ (.int .i64 (sz : Int)) := ⟨_, rfl⟩
  rw [← hW3] at hk3
  have z0 := Lib.cell_of_heap hk3 0
  have z1 := Lib.cell_of_heap hk3 1
  have HB3 := Lib.hid (show Below w.heap.size w W3 by
    rw [hW3]
    exact ((Below.thenB hB1 hB1.size hB2).setCell (p := ⟨w.heap.size + 1, 0, none⟩) (Nat.le_succ _) _).setCell (p := ⟨w.heap.size + 1, 1, none⟩) (Nat.le_succ _) _)
  have HW3 := Lib.hid hW3.symm
  clear hW1 hW2 hB1 hB2 hk1 hs1 hk3 hW3 hl2
  go_enter Try.func49, Try.ntmps49
  go_upto_region 1 with fail
  rw [HW1.out, HW2.out]
  rcases ha with ⟨rfl, rfl, rfl⟩ | ⟨g, rfl⟩
  · obtain rfl : sz = 0 := by omega
    obtain rfl : k = 0 := by omega
    have hq : min (max more 0) 0 = 0 := by omega
    clear hsz
    simp only [Int.cast_ofNat_Int] at *
    go_wp2
    rw [HW3.out]
    simp [bodyPost, results, Try.results49, go_sem, z0, z1]
    exact HB3.out
  · have hsc : (sz : Int) ≤ (c : Int) := by omega
    go_wp2
    rw [HW3.out]
    simp [bodyPost, results, Try.results49, go_sem, z0, z1]
    exact HB3.out
theorem crashed_any {w : World} {x : FX} (hx : FRow w x) (hk : x.kept ≤ x.data.length) (hn : x.data.length ≤ 1048576) (more : Int) :
    Calls Try.prog 49 #[.agg #[x.row, .int .i64 (x.kept : Int)], .int .i64 more] w fun e w' => e = .returned (.agg #[.slice x.adr (keepN x.data.length x.kept more) x.cap, .int .i64 (keepN x.data.length x.kept more : Int)]) ∧ Below w.heap.size w w' := by
  have hle := keepN_le hk more
  have hcap : x.data.length ≤ x.cap ∧ ((x.adr = none ∧ x.data.length = 0 ∧ x.cap = 0) ∨ ∃ g, x.adr = some ⟨g, 0, none⟩) := by
    rcases hx.2 with ⟨hv, h0⟩ | ⟨g, cap, cur, fz, hv, _, _, hc, _⟩
    · injection hv with e1 e2 e3
      exact ⟨by omega, .inl ⟨e1, e2, e3⟩⟩
    · injection hv with e1 e2 e3
      exact ⟨by omega, .inr ⟨g, e1⟩⟩
  exact crashed_core x.adr x.data.length x.cap x.kept more (keepN x.data.length x.kept more) w hk hn hcap.1 (by unfold keepN; omega) hle.1 hcap.2
end Go.Proofs.Ytmepanbfknmieaa
