/- Contracts of codec's readers: Size, Signed, Text, value, Value. -/
import Derived.Test.YtapcnpocaffeoabRdr
import Derived.Test.YtapcnpocaffeoabVals
namespace Go.Proofs.Ytapcnpocaffeoab
open Go.RowKit
theorem numberS_le (most : Nat) (l : List UInt8) (bad : Bool) : (numberS most l bad).1 ≤ most := by
  unfold numberS
  simp only
  split
  · rename_i h; exact h.2
  · exact Nat.zero_le _
def sizeS (most : Int) (l : List UInt8) (bad : Bool) : Nat × List UInt8 × Bool := if most < 0 then (0, [], true) else numberS most.toNat l bad
theorem sizeS_le (most : Int) (h : most ≤ 9223372036854775807) (l : List UInt8) (bad : Bool) : (sizeS most l bad).1 ≤ 9223372036854775807 := by
  unfold sizeS
  split
  · exact Nat.zero_le _
  · have := numberS_le most.toNat l bad; omega
set_option maxHeartbeats 1000000 in
theorem rsize_any (b : Nat) (most : Int) (h1 : most ≤ 9223372036854775807) (l : List UInt8) (bad : Bool) (w : World) (h : RAt w b l bad) :
    Calls Try.prog 35 #[.pointer (some ⟨b, 0, none⟩), .int .i64 most] w fun e w' => e = .returned (.int .i64 (((sizeS most l bad).1 : Nat) : Int)) ∧ RAt w' b (sizeS most l bad).2.1 (sizeS most l bad).2.2 ∧ Chg (· = b) w w' := by
  by_cases hm : most < 0
  · have hd : decide (most < 0) = true := decide_eq_true hm
    have hS : sizeS most l bad = (0, [], true) := by unfold sizeS; rw [if_pos hm]
    rw [hS]
    have H := Lib.hid h
    clear h hS
    go_enter Try.func35, Try.ntmps35
    go_wp2_with fail
    refine (fail_any b l bad _ H.out).mono ?_
    rintro e w1 ⟨rfl, hR, hC⟩
    have HR := Lib.hid hR
    have HC := Lib.hid hC
    clear hR hC
    go_wp2
    go_ret
    exact ⟨rfl, HR.out, HC.out⟩
  · have hd : decide (most < 0) = false := decide_eq_false hm
    have hS : sizeS most l bad = numberS most.toNat l bad := by unfold sizeS; rw [if_neg hm]
    rw [hS]
    obtain ⟨M, rfl⟩ : ∃ M : Nat, most = (M : Int) := ⟨most.toNat, by omega⟩
    rw [Int.toNat_natCast]
    have hle := numberS_le M l bad
    have hnum := number_any' b M l bad w h
    generalize numberS M l bad = S at *
    have hw : wrap64 ((S.1 : Nat) : Int) = ((S.1 : Nat) : Int) := IntWalk.wrap64_in _ ⟨by omega, by omega⟩
    have hwi : IntKind.i64.wrap ((S.1 : Nat) : Int) = ((S.1 : Nat) : Int) := IntWalk.i64_in _ ⟨by omega, by omega⟩
    have hS63 : S.1 ≤ 9223372036854775807 := by omega
    have HN := Lib.hid hnum
    clear hnum h hS
    go_enter Try.func35, Try.ntmps35
    go_wp2_with fail
    refine HN.out.mono ?_
    rintro e w1 ⟨rfl, hR, hC⟩
    have HR := Lib.hid hR
    have HC := Lib.hid hC
    clear hR hC
    go_wp2
    go_ret
    exact ⟨rfl, HR.out, HC.out⟩
def unfoldZ (u : Nat) : Int := if u % 2 = 1 then -((u / 2 : Nat) : Int) - 1 else ((u / 2 : Nat) : Int)
set_option maxHeartbeats 1000000 in
theorem unfold_any (u : Nat) (hu : u < 18446744073709551616) (w : World) : Calls Try.prog 54 #[.int .u64 (u : Int)] w fun e w' => e = .returned (.int .i64 (unfoldZ u)) ∧ w = w' := by
  have hw : wrap64 ((u : Int) / 2) = (u : Int) / 2 := IntWalk.wrap64_in _ ⟨by omega, by omega⟩
  have ha : bits .and .u64 (u : Int) 1 = ((u % 2 : Nat) : Int) := by
    have := u64_and_nat u 1 hu (by decide)
    rw [nat_mask1] at this; exact this
  by_cases h : u % 2 = 1
  · have hZ : unfoldZ u = -((u : Int) / 2) - 1 := by unfold unfoldZ; rw [if_pos h]; omega
    have h1 : ((u : Int) % 2 == 1) = true := by rw [show (u : Int) % 2 = 1 by omega]; rfl
    have h1' : (u : Int) % 2 = 1 := by omega
    rw [hZ]
    have HZ := Lib.hid hZ
    clear hZ h
    go_enter Try.func54, Try.ntmps54
    go_wp2
    go_ret
    exact ⟨rfl, rfl⟩
  · have hZ : unfoldZ u = (u : Int) / 2 := by unfold unfoldZ; rw [if_neg h]; omega
    have h1 : ((u : Int) % 2 == 1) = false := beq_false_of_ne (by omega)
    have h1' : (u : Int) % 2 = 0 := by omega
    rw [hZ]
    clear hZ h
    go_enter Try.func54, Try.ntmps54
    go_wp2
    go_ret
    exact ⟨rfl, rfl⟩
def signedS (l : List UInt8) (bad : Bool) : Int × List UInt8 × Bool := (unfoldZ (numberS 18446744073709551615 l bad).1, (numberS 18446744073709551615 l bad).2)
set_option maxHeartbeats 1000000 in
theorem rsigned_any (b : Nat) (l : List UInt8) (bad : Bool) (w : World) (h : RAt w b l bad) :
    Calls Try.prog 29 #[.pointer (some ⟨b, 0, none⟩)] w fun e w' => e = .returned (.int .i64 (signedS l bad).1) ∧ RAt w' b (signedS l bad).2.1 (signedS l bad).2.2 ∧ Chg (· = b) w w' := by
  have hle := numberS_le 18446744073709551615 l bad
  have hnum := number_any' b 18446744073709551615 l bad w h
  unfold signedS
  generalize numberS 18446744073709551615 l bad = S at *
  have HU := Lib.hid (unfold_any S.1 (by omega))
  have HN := Lib.hid hnum
  clear hnum h
  go_enter Try.func29, Try.ntmps29
  go_wp2_with fail
  refine HN.out.mono ?_
  rintro e w1 ⟨rfl, hR, hC⟩
  have HR := Lib.hid hR
  have HC := Lib.hid hC
  clear hR hC
  go_wp2_with fail
  refine (HU.out _).mono ?_
  rintro e w2 ⟨rfl, rfl⟩
  go_wp2
  go_ret
  exact ⟨rfl, HR.out, HC.out⟩
theorem conv_in {w : World} {a : Option Addr} {out : List UInt8} {b : Nat} (h : BytesIn w a out b) (c : Nat) : (convert 39 9 (.slice a out.length c)).run Try.prog w = .ok (.string ⟨out.toArray⟩) w := by
  rcases h with rfl | ⟨k, o, rfl, _, _, hj⟩
  · cases a with
    | none =>
      rw [List.length_nil, run_convert_bytes_string w 39 9 5 none 0 c Try.underlying39 Try.underlying5 Try.underlying9]
      simp [Conv.bytesToString]
      rfl
    | some ad => exact conv_block w ad c [] (fun j hj => by simp at hj)
  · refine conv_block w ⟨k, o, none⟩ c out (fun j hj' => ?_)
    have hadd : (⟨k, o, none⟩ : Addr).add j = ⟨k, o + j, none⟩ := by unfold Addr.add; split <;> simp_all
    rw [hadd]
    exact hj j out[j] (List.getElem?_eq_getElem hj')
def textS (most : Int) (l : List UInt8) (bad : Bool) : List UInt8 × List UInt8 × Bool := takeS (sizeS most l bad).1 (sizeS most l bad).2.1 (sizeS most l bad).2.2
set_option maxHeartbeats 1000000 in
theorem rtext_any (b : Nat) (most : Int) (h1 : most ≤ 9223372036854775807) (l : List UInt8) (bad : Bool) (w : World) (h : RAt w b l bad) :
    Calls Try.prog 30 #[.pointer (some ⟨b, 0, none⟩), .int .i64 most] w fun e w' => e = .returned (.string ⟨(textS most l bad).1.toArray⟩) ∧ RAt w' b (textS most l bad).2.1 (textS most l bad).2.2 ∧ Chg (· = b) w w' := by
  have hsz := rsize_any b most h1 l bad w h
  have hle := sizeS_le most h1 l bad
  unfold textS
  generalize sizeS most l bad = S at *
  have htk := fun W hW => rtake_any b S.1 hle S.2.1 S.2.2 W hW
  generalize takeS S.1 S.2.1 S.2.2 = T at *
  have HS := Lib.hid hsz
  have HT := Lib.hid htk
  clear hsz htk h
  go_enter Try.func30, Try.ntmps30
  go_wp2_with fail
  refine HS.out.mono ?_
  rintro e w1 ⟨rfl, hR, hC⟩
  have HR := Lib.hid hR
  have HC := Lib.hid hC
  clear hR hC
  go_wp2_with fail
  refine (HT.out _ HR.out).mono ?_
  rintro e w2 ⟨⟨a, c, rfl, hB⟩, hR2, hC2⟩
  have hcv := conv_in hB c
  have HR2 := Lib.hid hR2
  have HC2 := Lib.hid (HC.out.trans hC2)
  clear hB hR2 hC2
  go_wp2
  go_ret
  exact ⟨rfl, HR2.out, HC2.out⟩
end Go.Proofs.Ytapcnpocaffeoab
