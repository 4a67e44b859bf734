/- Contracts of codec's readers: of none. -/
import Derived.Test.YtapcnpocaffeoabRdr6
namespace Go.Proofs.Ytapcnpocaffeoab
open Go.RowKit
theorem byte_nil (w : World) : Calls Try.prog 66 #[.pointer none] w fun e w' => e = .returned (.int .u8 0) ∧ w = w' := by
  have HT := Lib.hid (rtake_nil 1 w)
  go_enter Try.func66, Try.ntmps66
  go_wp2_with fail
  refine HT.out.mono ?_
  rintro e w1 ⟨rfl, rfl⟩
  go_wp2
  go_ret
  exact ⟨rfl, rfl⟩
set_option maxHeartbeats 1000000 in
theorem number_nil' (most : Nat) (w : World) : Calls Try.prog 55 #[.pointer none, .int .u64 (most : Int)] w fun e w' => e = .returned (.int .u64 0) ∧ w = w' := by
  have HB := Lib.hid (byte_nil w)
  have HT := Lib.hid (rtake_nil 0 w)
  have hw := width_any 0 (by omega) w
  have hd : decide ((most : Int) < 0) = false := decide_eq_false (by omega)
  rw [show (digs 8 0).length = 0 by rfl] at hw
  have HW := Lib.hid hw
  clear hw
  go_enter Try.func55, Try.ntmps55
  go_wp2_with fail
  refine HB.out.mono ?_
  rintro e w1 ⟨rfl, rfl⟩
  go_wp2_with fail
  refine HT.out.mono ?_
  rintro e w1 ⟨rfl, rfl⟩
  go_wp2
  refine wp_loop_rounds 1 ?_
  rw [rounds_succ]
  go_wp2_with fail
  refine HW.out.mono ?_
  rintro e w1 ⟨rfl, rfl⟩
  go_wp2
  go_ret
  exact ⟨rfl, rfl⟩
set_option maxHeartbeats 1000000 in
theorem rsize_nil (most : Int) (h1 : most ≤ 9223372036854775807) (w : World) : Calls Try.prog 35 #[.pointer none, .int .i64 most] w fun e w' => e = .returned (.int .i64 0) ∧ w = w' := by
  by_cases hm : most < 0
  · have hd : decide (most < 0) = true := decide_eq_true hm
    have HF := Lib.hid (fail_nil w)
    go_enter Try.func35, Try.ntmps35
    go_wp2_with fail
    refine HF.out.mono ?_
    rintro e w1 ⟨rfl, rfl⟩
    go_wp2
    go_ret
    exact ⟨rfl, rfl⟩
  · obtain ⟨m, rfl⟩ : ∃ m : Nat, most = (m : Int) := ⟨most.toNat, by omega⟩
    have hd : decide ((m : Int) < 0) = false := decide_eq_false hm
    have HN := Lib.hid (number_nil' m w)
    go_enter Try.func35, Try.ntmps35
    go_wp2_with fail
    refine HN.out.mono ?_
    rintro e w1 ⟨rfl, rfl⟩
    go_wp2
    go_ret
    exact ⟨rfl, rfl⟩
set_option maxHeartbeats 1000000 in
theorem rsigned_nil (w : World) : Calls Try.prog 29 #[.pointer none] w fun e w' => e = .returned (.int .i64 0) ∧ w = w' := by
  have HN := Lib.hid (number_nil' 18446744073709551615 w)
  have HU := Lib.hid (unfold_any 0 (by omega) w)
  go_enter Try.func29, Try.ntmps29
  go_wp2_with fail
  refine HN.out.mono ?_
  rintro e w1 ⟨rfl, rfl⟩
  go_wp2_with fail
  refine HU.out.mono ?_
  rintro e w1 ⟨rfl, rfl⟩
  go_wp2
  go_ret
  exact ⟨rfl, rfl⟩
set_option maxHeartbeats 1000000 in
theorem rtext_nil (most : Int) (h1 : most ≤ 9223372036854775807) (w : World) : Calls Try.prog 30 #[.pointer none, .int .i64 most] w fun e w' => e = .returned (.string ⟨#[]⟩) ∧ w = w' := by
  have HS := Lib.hid (rsize_nil most h1 w)
  have HT := Lib.hid (rtake_nil 0 w)
  have hcv := conv_in (w := w) (a := none) (out := []) (b := 0) (.inl rfl) 0
  rw [List.length_nil] at hcv
  go_enter Try.func30, Try.ntmps30
  go_wp2_with fail
  refine HS.out.mono ?_
  rintro e w1 ⟨rfl, rfl⟩
  go_wp2_with fail
  refine HT.out.mono ?_
  rintro e w1 ⟨rfl, rfl⟩
  go_wp2
  go_ret
  exact ⟨rfl, rfl⟩
theorem rstring_nil (w : World) : Calls Try.prog 33 #[.pointer none] w fun e w' => e = .returned (.string ⟨#[]⟩) ∧ w = w' := by
  go_enter Try.func33, Try.ntmps33
  go_wp2
  go_ret
  exact ⟨rfl, rfl⟩
theorem rend_nil (w : World) : Calls Try.prog 37 #[.pointer none] w fun e w' => e = .returned (.bool false) ∧ w = w' := by
  have HG := Lib.hid (good_nil w)
  go_enter Try.func37, Try.ntmps37
  go_wp2_with fail
  refine HG.out.mono ?_
  rintro e w1 ⟨rfl, rfl⟩
  go_wp2
  go_ret
  exact ⟨rfl, rfl⟩
end Go.Proofs.Ytapcnpocaffeoab
