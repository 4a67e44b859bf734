/- The walk of layer 6's example. -/
import Derived.Test.YtmepanbfknmieaaDB
namespace Go.Proofs.Ytmepanbfknmieaa
open Go.RowKit Go.Maps
theorem db_kept {w0 w : World} {b : Nat} {M : DM} (h : DB w0 w b M) (s : ByteArray) (hs : s.size ≤ maxLen) : Calls Try.prog 32 #[.pointer (some ⟨b, 0, none⟩), .string s] w fun e w' => e = .returned (.int .i64 (keptM M.files s.data.toList)) ∧ w = w' := by
  obtain ⟨⟨S, hd, h2⟩, h3⟩ := h
  exact dk_kept hd s hs
theorem db_free {w0 w : World} {b : Nat} {M : DM} (h : DB w0 w b M) : Calls Try.prog 31 #[.pointer (some ⟨b, 0, none⟩)] w fun e w' => e = .returned (.int .i64 (M.room - (totF M.files : Int))) ∧ DB w0 w' b M := by
  obtain ⟨⟨S, hd, h2⟩, h3⟩ := id h
  refine (dk_free hd).mono ?_
  rintro e w' ⟨rfl, hb⟩
  exact ⟨rfl, h.below hb⟩
theorem db_used {w0 w : World} {b : Nat} {M : DM} (h : DB w0 w b M) : Calls Try.prog 26 #[.pointer (some ⟨b, 0, none⟩)] w fun e w' => e = .returned (.int .i64 (totF M.files : Int)) ∧ DB w0 w' b M := by
  obtain ⟨⟨S, hd, h2⟩, h3⟩ := id h
  refine (dk_used hd).mono ?_
  rintro e w' ⟨rfl, hb⟩
  exact ⟨rfl, h.below hb⟩
theorem db_uses {w0 w : World} {b : Nat} {M : DM} (h : DB w0 w b M) : Calls Try.prog 30 #[.pointer (some ⟨b, 0, none⟩)] w fun e w' => e = .returned (.int .i64 M.uses) ∧ w = w' := by
  obtain ⟨⟨S, hd, h2⟩, h3⟩ := h
  exact dk_uses hd
set_option maxRecDepth 100000 in
set_option maxHeartbeats 2000000 in
theorem awake6 (w : World) : Calls Try.prog 9 #[] w fun e w' => e = .returned (.bool true) ∧ Below w.heap.size w w' := by
  have HN := Lib.hid (db_new 100 (by omega) (by omega) w)
  go_enter Try.func9, Try.ntmps9
  go_wp2_with fail
  refine HN.out.mono ?_
  rintro e w1 ⟨rfl, h1⟩
  have c1 := db_append h1 ⟨#[97]⟩ (by decide) #[.string ⟨#[120]⟩, .string ⟨#[121]⟩] [⟨#[120]⟩, ⟨#[121]⟩] 2 rfl (by omega) rfl (fun x hx => by simp at hx; rcases hx with rfl | rfl <;> decide)
  rw [show appM ⟨true, 0, false, 0, 100, []⟩ ⟨#[97]⟩ (joinB [⟨#[120]⟩, ⟨#[121]⟩]) = (⟨true, 1, false, 0, 100, [([97], ([120, 121], 0))]⟩, 0) from by kernel_rfl] at c1
  have C1 := Lib.hid c1
  clear c1 h1 HN
  go_wp2_with fail
  refine C1.out.mono ?_
  rintro e w2 ⟨rfl, h2⟩
  have c2 := db_sync h2 #[.string ⟨#[97]⟩] [⟨#[97]⟩] 1 rfl (by omega) rfl (fun x hx => by simp at hx; subst hx; decide)
  rw [show syncM ⟨true, 1, false, 0, 100, [([97], ([120, 121], 0))]⟩ [⟨#[97]⟩] = (⟨true, 2, false, 0, 100, [([97], ([120, 121], 2))]⟩, 0) from by kernel_rfl] at c2
  have C2 := Lib.hid c2
  clear c2 h2 C1
  go_wp2_with fail
  refine C2.out.mono ?_
  rintro e w3 ⟨rfl, h3⟩
  have c3 := db_append h3 ⟨#[97]⟩ (by decide) #[.string ⟨#[122, 119]⟩] [⟨#[122, 119]⟩] 1 rfl (by omega) rfl (fun x hx => by simp at hx; subst hx; decide)
  rw [show appM ⟨true, 2, false, 0, 100, [([97], ([120, 121], 2))]⟩ ⟨#[97]⟩ (joinB [⟨#[122, 119]⟩]) = (⟨true, 3, false, 0, 100, [([97], ([120, 121, 122, 119], 2))]⟩, 0) from by kernel_rfl] at c3
  have C3 := Lib.hid c3
  clear c3 h3 C2
  go_wp2_with fail
  refine C3.out.mono ?_
  rintro e w4 ⟨rfl, h4⟩
  have c4 := db_crash1 h4 1 (by decide)
  rw [show crashM ⟨true, 3, false, 0, 100, [([97], ([120, 121, 122, 119], 2))]⟩ [1] = ⟨true, 3, false, 0, 100, [([97], ([120, 121, 122], 3))]⟩ from rfl] at c4
  have C4 := Lib.hid c4
  clear c4 h4 C3
  go_wp2_with fail
  refine C4.out.mono ?_
  rintro e w5 ⟨rfl, h5⟩
  have c5 := db_read h5 ⟨#[97]⟩ (by decide)
  rw [show readM ⟨true, 3, false, 0, 100, [([97], ([120, 121, 122], 3))]⟩ (⟨#[97]⟩ : ByteArray).data.toList = ([120, 121, 122], 0) from rfl, show ([120, 121, 122] : List UInt8).toArray = #[120, 121, 122] from rfl] at c5
  have C5 := Lib.hid c5
  clear c5 h5 C4
  go_wp2_with fail
  refine C5.out.mono ?_
  rintro e w6 ⟨rfl, h6⟩
  have C6 := Lib.hid (db_kept h6 ⟨#[97]⟩ (by decide))
  rw [show keptM (⟨true, 3, false, 0, 100, [([97], ([120, 121, 122], 3))]⟩ : DM).files (⟨#[97]⟩ : ByteArray).data.toList = 3 from rfl] at C6
  have C7 := Lib.hid (db_free h6)
  rw [show (⟨true, 3, false, 0, 100, [([97], ([120, 121, 122], 3))]⟩ : DM).room - (totF (⟨true, 3, false, 0, 100, [([97], ([120, 121, 122], 3))]⟩ : DM).files : Int) = 97 from rfl] at C7
  clear h6 C5
  go_wp2_with fail
  refine C6.out.mono ?_
  rintro e w7 ⟨rfl, hE⟩
  subst hE
  go_wp2_with fail
  refine C7.out.mono ?_
  rintro e w8 ⟨rfl, h8⟩
  have C8 := Lib.hid (db_uses h8)
  rw [show (⟨true, 3, false, 0, 100, [([97], ([120, 121, 122], 3))]⟩ : DM).uses = 3 from rfl] at C8
  have HB := Lib.hid h8.bel
  clear h8 C6 C7
  go_wp2_with fail
  refine C8.out.mono ?_
  rintro e w9 ⟨rfl, hE⟩
  subst hE
  go_wp2
  go_ret
  exact ⟨rfl, HB.out⟩
end Go.Proofs.Ytmepanbfknmieaa
