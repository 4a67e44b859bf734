/- Contracts of the document's own reader: of one that is bad. -/
import Derived.Test.YtapcnpocaffeoabRdr9
namespace Go.Proofs.Ytapcnpocaffeoab
open Go.RowKit
/-- A part at block p: what is left, is it bad? -/
def PAt (w : World) (p : Nat) (s : ByteArray) (bad : Bool) : Prop := p < w.heap.size ∧ w.heap[p]? = some (.cells #[.string s, .bool bad] 58 (0, 0))
theorem PAt.below {w w' : World} {p : Nat} {s : ByteArray} {bad : Bool} (h : PAt w p s bad) (hb : Below w.heap.size w w') : PAt w' p s bad :=
  ⟨Nat.lt_of_lt_of_le h.1 hb.size, (hb.block p h.1).trans h.2⟩
theorem PAt.set {w : World} {p : Nat} {s : ByteArray} {bad : Bool} (h : PAt w p s bad) (t : ByteArray) : PAt (w.setCell ⟨p, 0, none⟩ (.string t)) p t bad :=
  ⟨by simpa using h.1, Lib.heap_setCell_same (i := 0) h.2 (.string t)⟩
theorem PAt.bad {w : World} {p : Nat} {s : ByteArray} {bad : Bool} (h : PAt w p s bad) : PAt (w.setCell ⟨p, 1, none⟩ (.bool true)) p s true :=
  ⟨by simpa using h.1, Lib.heap_setCell_same (i := 1) h.2 (.bool true)⟩
set_option maxHeartbeats 1000000 in
theorem pcut_bad (p : Nat) (s : ByteArray) (n : Int) (w : World) (h : PAt w p s true) : Calls Try.prog 64 #[.pointer (some ⟨p, 0, none⟩), .int .i64 n] w fun e w' => e = .returned (.string ⟨#[]⟩) ∧ PAt w' p s true ∧ Chg (· = p) w w' := by
  obtain ⟨⟨c0, c1⟩, f0, f1⟩ := two_at h.2
  have HP := Lib.hid h.bad
  have HC := Lib.hid ((Chg.refl (· = p) w).setCell (p := ⟨p, 1, none⟩) (.inr rfl) (.bool true))
  clear h
  go_enter Try.func64, Try.ntmps64
  go_wp2
  go_ret
  exact ⟨rfl, HP.out, HC.out⟩
set_option maxRecDepth 100000 in
set_option maxHeartbeats 1000000 in
theorem pnumber_bad (p : Nat) (s : ByteArray) (w : World) (h : PAt w p s true) : Calls Try.prog 63 #[.pointer (some ⟨p, 0, none⟩)] w fun e w' => e = .returned (.int .u64 0) ∧ PAt w' p s true ∧ Chg (· = p) w w' := by
  have HB := Lib.hid (pcut_bad p s 1 w h)
  clear h
  go_enter Try.func63, Try.ntmps63
  go_wp2_with fail
  refine HB.out.mono ?_
  rintro e w1 ⟨rfl, h1, hC1⟩
  obtain ⟨⟨c0, c1⟩, f0, f1⟩ := two_at h1.2
  have HP := Lib.hid h1.bad
  have HC := Lib.hid (hC1.setCell (p := ⟨p, 1, none⟩) (.inr rfl) (.bool true))
  clear h1 hC1 HB
  go_wp2
  go_ret
  exact ⟨rfl, HP.out, HC.out⟩
set_option maxRecDepth 100000 in
set_option maxHeartbeats 1000000 in
theorem psize_bad (p : Nat) (s : ByteArray) (most : Int) (w : World) (h : PAt w p s true) : Calls Try.prog 44 #[.pointer (some ⟨p, 0, none⟩), .int .i64 most] w fun e w' => e = .returned (.int .i64 0) ∧ PAt w' p s true ∧ Chg (· = p) w w' := by
  have HB := Lib.hid (pnumber_bad p s w h)
  clear h
  by_cases hm : most < 0
  · have hd : decide (most < 0) = true := decide_eq_true hm
    go_enter Try.func44, Try.ntmps44
    go_wp2_with fail
    refine HB.out.mono ?_
    rintro e w1 ⟨rfl, h1, hC1⟩
    obtain ⟨⟨c0, c1⟩, f0, f1⟩ := two_at h1.2
    have hb2 := h1.bad
    obtain ⟨⟨d0, d1⟩, _⟩ := two_at hb2.2
    have HP := Lib.hid hb2
    have HC := Lib.hid (hC1.setCell (p := ⟨p, 1, none⟩) (.inr rfl) (.bool true))
    clear h1 hC1 HB hb2
    go_wp2
    go_ret
    exact ⟨rfl, HP.out, HC.out⟩
  · obtain ⟨m, rfl⟩ : ∃ m : Nat, most = (m : Int) := ⟨most.toNat, by omega⟩
    have hd : decide ((m : Int) < 0) = false := decide_eq_false hm
    go_enter Try.func44, Try.ntmps44
    go_wp2_with fail
    refine HB.out.mono ?_
    rintro e w1 ⟨rfl, h1, hC1⟩
    obtain ⟨⟨c0, c1⟩, f0, f1⟩ := two_at h1.2
    have HP := Lib.hid h1
    have HC := Lib.hid hC1
    clear h1 hC1 HB
    go_wp2
    go_ret
    exact ⟨rfl, HP.out, HC.out⟩
end Go.Proofs.Ytapcnpocaffeoab
