/- Contracts of the document's own reader: of one that is bad, Signed, Text, Value, Row, Rows. -/
import Derived.Test.YtapcnpocaffeoabPart
namespace Go.Proofs.Ytapcnpocaffeoab
open Go.RowKit
set_option maxHeartbeats 1000000 in
theorem psigned_bad (p : Nat) (s : ByteArray) (w : World) (h : PAt w p s true) : Calls Try.prog 45 #[.pointer (some ⟨p, 0, none⟩)] w fun e w' => e = .returned (.int .i64 0) ∧ PAt w' p s true ∧ Chg (· = p) w w' := by
  have HB := Lib.hid (pnumber_bad p s w h)
  clear h
  go_enter Try.func45, Try.ntmps45
  go_wp2_with fail
  refine HB.out.mono ?_
  rintro e w1 ⟨rfl, h1, hC1⟩
  have HP := Lib.hid h1
  have HC := Lib.hid hC1
  clear h1 hC1 HB
  go_wp2
  go_ret
  exact ⟨rfl, HP.out, HC.out⟩
set_option maxHeartbeats 1000000 in
theorem ptext_bad (p : Nat) (s : ByteArray) (most : Int) (w : World) (h : PAt w p s true) : Calls Try.prog 46 #[.pointer (some ⟨p, 0, none⟩), .int .i64 most] w fun e w' => e = .returned (.string ⟨#[]⟩) ∧ PAt w' p s true ∧ Chg (· = p) w w' := by
  have HB := Lib.hid (psize_bad p s most w h)
  clear h
  go_enter Try.func46, Try.ntmps46
  go_wp2_with fail
  refine HB.out.mono ?_
  rintro e w1 ⟨rfl, h1, hC1⟩
  have HT := Lib.hid (pcut_bad p s 0 w1 h1)
  have HC := Lib.hid hC1
  clear h1 hC1 HB
  go_wp2_with fail
  refine HT.out.mono ?_
  rintro e w2 ⟨rfl, h2, hC2⟩
  have HP := Lib.hid h2
  have HC2 := Lib.hid (HC.out.trans hC2)
  clear h2 hC2 HT HC
  go_wp2
  go_ret
  exact ⟨rfl, HP.out, HC2.out⟩
set_option maxHeartbeats 1000000 in
theorem prow_bad (p : Nat) (s : ByteArray) (most : Int) (w : World) (h : PAt w p s true) : Calls Try.prog 50 #[.pointer (some ⟨p, 0, none⟩), .int .i64 most] w fun e w' => e = .returned (.slice none 0 0) ∧ PAt w' p s true ∧ Chg (· = p) w w' := by
  have HB := Lib.hid (psize_bad p s most w h)
  clear h
  go_enter Try.func50, Try.ntmps50
  go_wp2_with fail
  refine HB.out.mono ?_
  rintro e w1 ⟨rfl, h1, hC1⟩
  obtain ⟨⟨c0, c1⟩, f0, f1⟩ := two_at h1.2
  have HP := Lib.hid h1
  have HC := Lib.hid hC1
  clear h1 hC1 HB
  go_wp2
  refine wp_loop_rounds 1 ?_
  rw [rounds_succ]
  go_wp2
  go_ret
  exact ⟨rfl, HP.out, HC.out⟩
set_option maxHeartbeats 1000000 in
theorem prows_bad (p : Nat) (s : ByteArray) (most cols : Int) (w : World) (h : PAt w p s true) : Calls Try.prog 51 #[.pointer (some ⟨p, 0, none⟩), .int .i64 most, .int .i64 cols] w fun e w' => e = .returned (.slice none 0 0) ∧ PAt w' p s true ∧ Chg (· = p) w w' := by
  have HB := Lib.hid (psize_bad p s most w h)
  clear h
  go_enter Try.func51, Try.ntmps51
  go_wp2_with fail
  refine HB.out.mono ?_
  rintro e w1 ⟨rfl, h1, hC1⟩
  obtain ⟨⟨c0, c1⟩, f0, f1⟩ := two_at h1.2
  have HP := Lib.hid h1
  have HC := Lib.hid hC1
  clear h1 hC1 HB
  go_wp2
  refine wp_loop_rounds 1 ?_
  rw [rounds_succ]
  go_wp2
  go_ret
  exact ⟨rfl, HP.out, HC.out⟩
end Go.Proofs.Ytapcnpocaffeoab
