/- Contract of disk's Read. -/
import Derived.Test.YtmepanbfknmieaaDisk12
namespace Go.Proofs.Ytmepanbfknmieaa
open Go.RowKit Go.Maps
/-- What Read answers. -/
def readM (M : DM) (k : List UInt8) : List UInt8 × Int :=
  if M.on = false then ([], 7) else match fget M.files k with | some x => (x.1, 0) | none => ([], 8)
set_option maxRecDepth 100000 in
set_option maxHeartbeats 1000000 in
theorem DskIn.read {w : World} {b : Nat} {S : Nat → Prop} {M : DM} {mb : Option Nat} {L : List (List UInt8 × FX)} (h : DskIn w b S M mb L) (s : ByteArray) (hs : s.size ≤ maxLen) :
    Calls Try.prog 25 #[.pointer (some ⟨b, 0, none⟩), .string s] w fun e w' => e = .returned (.tuple #[.string ⟨(readM M s.data.toList).1.toArray⟩, .int .i64 (readM M s.data.toList).2]) ∧ Below w.heap.size w w' := by
  have HON := Lib.hid (dk_on (S := S) ⟨mb, L, h⟩)
  obtain ⟨R, hR⟩ : ∃ R, R = readM M s.data.toList := ⟨_, rfl⟩
  rw [← hR]
  unfold readM at hR
  obtain ⟨⟨c0, c1, c2, c3, c4, c5⟩, _⟩ := six6_cells h.at_
  simp only [DM.dk] at c0 c1 c2 c3 c4 c5
  cases hon : M.on with
  | false =>
    rw [hon] at HON
    rw [hon, if_pos rfl] at hR
    subst hR
    clear h c0 c1 c2 c3 c4 c5 hon
    go_enter Try.func25, Try.ntmps25
    go_wp2_with fail
    refine HON.out.mono ?_
    rintro e w1 ⟨rfl, hE⟩
    subst hE
    go_wp2
    go_ret2
    exact ⟨rfl, Below.refl _ _⟩
  | true =>
    rw [hon] at HON
    rw [hon, if_neg (by decide)] at hR
    have hlk := look_files_ok h.map s hs
    rw [mapV_get] at hlk
    rw [h.files, mapV_get] at hR
    cases hg : fget L s.data.toList with
    | none =>
      rw [hg] at hlk hR
      replace hlk : (Instr.lookup 65 (.map mb) (.string s) true).run Try.prog w = .ok (.tuple #[.agg #[.slice none 0 0, .int .i64 0], .bool false]) w := hlk
      replace hR : R = ([], 8) := hR
      subst hR
      have HB := Lib.hid ((Below.refl w.heap.size w).alloc (Nat.le_refl _) (.cells #[.slice none 0 0, .int .i64 0] 72))
      clear h hg hon
      go_enter Try.func25, Try.ntmps25
      go_wp2_with fail
      refine HON.out.mono ?_
      rintro e w1 ⟨rfl, hE⟩
      subst hE
      go_wp2
      go_ret2
      exact ⟨rfl, HB.out⟩
    | some x =>
      rw [hg] at hlk hR
      have hrow := h.rows _ (fget_mem hg)
      obtain ⟨adr, cap, data, kept⟩ := x
      replace hlk : (Instr.lookup 65 (.map mb) (.string s) true).run Try.prog w = .ok (.tuple #[.agg #[.slice adr data.length cap, .int .i64 (kept : Int)], .bool true]) w := hlk
      replace hR : R = (data, 0) := hR
      subst hR
      have hcvw := fun W1 (hB : Below w.heap.size w W1) => conv_rows (RowS.below hrow hB)
      simp only [FX.row] at hcvw
      obtain ⟨n, hn⟩ : ∃ n, n = data.length := ⟨_, rfl⟩
      obtain ⟨K, hK⟩ : ∃ K : Int, K = (kept : Int) := ⟨_, rfl⟩
      rw [← hn] at hlk hcvw
      rw [← hK] at hlk
      obtain ⟨W1, hW1⟩ : ∃ W, W = w.alloc (.cells #[.slice adr n cap, .int .i64 K] 72) := ⟨_, rfl⟩
      have hB : Below w.heap.size w W1 := by rw [hW1]; exact (Below.refl _ _).alloc (Nat.le_refl _) _
      have hk1 : W1.heap[w.heap.size]? = some (.cells #[.slice adr n cap, .int .i64 K] 72 (0, 0)) := by rw [hW1]; exact Array.getElem?_push_size
      have hcv := hcvw W1 hB
      have x0 := Lib.cell_of_heap hk1 0
      have x1 := Lib.cell_of_heap hk1 1
      have HB := Lib.hid hB
      have HW1 := Lib.hid hW1.symm
      clear h hg hon hrow hW1 hB hk1 hcvw hn hK
      go_enter Try.func25, Try.ntmps25
      go_wp2_with fail
      refine HON.out.mono ?_
      rintro e w1 ⟨rfl, hE⟩
      subst hE
      go_upto_region 6 with fail
      rw [HW1.out]
      go_wp2
      go_ret2
      exact ⟨rfl, HB.out⟩
end Go.Proofs.Ytmepanbfknmieaa
