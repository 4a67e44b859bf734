/- The document's examples of values. -/
import Derived.Test.YtfoejfneggcncaaDoorPrint
namespace Go.Proofs.YtfoejfneggcncaaDoor
open Go.RowKit
theorem vals_two {w : World} {b : Nat} {v0 v1 : Val} (h0 : w.cell? ⟨b, 0, none⟩ = some (.int .i64 v0.1)) (h1 : w.cell? ⟨b, 1, none⟩ = some (.int .i64 v0.2.1)) (h2 : w.cell? ⟨b, 2, none⟩ = some (.string v0.2.2))
    (h3 : w.cell? ⟨b, 3, none⟩ = some (.int .i64 v1.1)) (h4 : w.cell? ⟨b, 4, none⟩ = some (.int .i64 v1.2.1)) (h5 : w.cell? ⟨b, 5, none⟩ = some (.string v1.2.2)) : Vals w (some ⟨b, 0, none⟩) [v0, v1] := by
  refine .inr ⟨by simp, b, 0, rfl, lt_of_cell h0, fun i v hi => ?_⟩
  match i, hi with
  | 0, hi =>
    obtain rfl : v0 = v := by simpa using hi
    exact ⟨h0, h1, h2⟩
  | 1, hi =>
    obtain rfl : v1 = v := by simpa using hi
    exact ⟨h3, h4, h5⟩
theorem key_ex : rowKey [(1, 1, ⟨#[]⟩), (2, 0, ⟨#[97]⟩)] = [1, 128, 0, 0, 0, 0, 0, 0, 1, 2, 97, 0, 1] := by decide +kernel
theorem print_ex : vprint (2, 0, ⟨#[105, 116, 39, 115]⟩) = [39, 105, 116, 39, 39, 115, 39] := by decide +kernel
set_option maxRecDepth 100000 in
set_option maxHeartbeats 1000000 in
theorem awake2_any (w : World) (hmx : IntCell w 1) : Calls Tryd.prog 8 #[] w fun e w' => e = .returned (.bool true) ∧ Below w.heap.size w w' := by
  have HM := Lib.hid hmx
  clear hmx
  go_enter Tryd.func8, Tryd.ntmps8
  go_wp2_with fail
  refine (int_any 1 _).mono ?_
  rintro e w1 ⟨rfl, hb1⟩
  go_wp2_with fail
  refine (text_any ⟨#[97]⟩ _).mono ?_
  rintro e w2 ⟨rfl, hb2⟩
  have hb02 := Below.thenB hb1 hb1.size hb2
  have hz2 := hb02.size
  go_wp2_with fail
  refine (key_any _ 2 2 [(1, 1, ⟨#[]⟩), (2, 0, ⟨#[97]⟩)] _ rfl (by decide) (vals_two (by go_simp) (by go_simp) (by go_simp) (by go_simp) (by go_simp) (by go_simp)) (by
    intro v hv
    simp only [List.mem_cons, List.not_mem_nil, or_false] at hv
    rcases hv with rfl | rfl
    · exact ⟨by decide, by decide, by decide⟩
    · exact ⟨by decide, by decide, by decide⟩)).mono ?_
  rintro e w3 ⟨rfl, hb3⟩
  rw [key_ex]
  have hb03 : Below w.heap.size w w3 := Below.thenB (hb02.alloc hz2 _) (by simp; omega) hb3
  have hz3 := hb03.size
  go_wp2_with fail
  refine (text_any ⟨#[105, 116, 39, 115]⟩ _).mono ?_
  rintro e w4 ⟨rfl, hb4⟩
  have hb04 := Below.thenB hb03 hz3 hb4
  have hz4 := hb04.size
  go_wp2_with fail
  refine (print2 ⟨#[105, 116, 39, 115]⟩ (by decide) _ (HM.out.below hb04)).mono ?_
  rintro e w5 ⟨rfl, hb5⟩
  rw [print_ex]
  have hb05 := Below.thenB hb04 hz4 hb5
  have hz5 := hb05.size
  go_wp2_with fail
  refine (bool_t _).mono ?_
  rintro e w6 ⟨rfl, hb6⟩
  have hb06 := Below.thenB hb05 hz5 hb6
  have hz6 := hb06.size
  go_wp2_with fail
  refine (print31 _).mono ?_
  rintro e w7 ⟨rfl, hb7⟩
  go_wp2
  go_ret
  exact ⟨rfl, Below.thenB hb06 hz6 hb7⟩
end Go.Proofs.YtfoejfneggcncaaDoor
