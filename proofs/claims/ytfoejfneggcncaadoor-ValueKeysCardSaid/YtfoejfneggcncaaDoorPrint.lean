/- Contract of Print, and of the document's examples. -/
import Derived.Test.YtfoejfneggcncaaDoorKey3
import Derived.Test.YtfoejfneggcncaaDoorQuote
import Derived.Test.YtfoejfneggcncaaDoorCalcP
import Derived.Test.YtfoejfneggcncaaDoorDoor
namespace Go.Proofs.YtfoejfneggcncaaDoor
open Go.RowKit
/-- A right value's print. -/
def vprint (v : Val) : List UInt8 :=
  if v.1 = 1 then Lib.itoa v.2.1 else if v.1 = 2 then 39 :: (dbl v.2.2.data.toList ++ [39]) else if v.2.1 = 1 then [116, 114, 117, 101] else [102, 97, 108, 115, 101]
def printOf (v : Val) : List UInt8 := if vright v then vprint v else []
theorem app_str (a b : List UInt8) : (⟨a.toArray⟩ : ByteArray) ++ ⟨b.toArray⟩ = ⟨(a ++ b).toArray⟩ := by
  apply ByteArray.ext
  simp
theorem countB_one (s : ByteArray) : Lib.countB s ⟨#[39]⟩ ≤ s.size := Lib.countB_le ⟨#[39]⟩ (by decide) s.size s (Nat.le_refl _)
set_option maxRecDepth 100000 in
set_option maxHeartbeats 1000000 in
theorem print_no (v : Val) (w : World) (hv : vright v = false) : Calls Tryd.prog 30 #[vagg v] w fun e w' => e = .returned (.string ⟨#[]⟩) ∧ Below w.heap.size w w' := by
  obtain ⟨k, n, s⟩ := v
  have HV := Lib.hid hv
  clear hv
  unfold vagg
  go_enter Tryd.func30, Tryd.ntmps30
  go_wp2_with fail
  refine (right_any (k, n, s) _).mono ?_
  rintro e w1 ⟨rfl, hb1⟩
  rw [HV.out]
  go_wp2
  go_ret
  exact ⟨rfl, Below.thenB ((Below.refl _ _).alloc (Nat.le_refl _) _) (by simp) hb1⟩
set_option maxRecDepth 100000 in
set_option maxHeartbeats 1000000 in
theorem print1 (n : Int) (h0 : -9223372036854775808 ≤ n) (h1 : n ≤ 9223372036854775807) (w : World) (htab : Lib.TabIs Tryd.prog w "internal/strconv.uint64pow10" .u64 Lib.pow10Tab) :
    Calls Tryd.prog 30 #[.agg #[.int .i64 1, .int .i64 n, .string ⟨#[]⟩]] w fun e w' => e = .returned (.string ⟨(Lib.itoa n).toArray⟩) ∧ Below w.heap.size w w' := by
  have HT := Lib.hid htab
  clear htab
  go_enter Tryd.func30, Tryd.ntmps30
  go_wp2_with fail
  refine (right_any (1, n, ⟨#[]⟩) _).mono ?_
  rintro e w1 ⟨rfl, hb1⟩
  obtain ⟨hc1, hf1⟩ := bcell hb1
  have hz1 := hb1.size
  simp at hz1
  have c0 := hc1 w.heap.size 0 (by simp)
  have c1 := hc1 w.heap.size 1 (by simp)
  have c2 := hc1 w.heap.size 2 (by simp)
  clear hc1 hf1
  have hr : vright (1, n, ⟨#[]⟩) = true := rfl
  rw [hr]
  go_wp2_with fail
  refine (bool_t _).mono ?_
  rintro e w2 ⟨rfl, hb2⟩
  obtain ⟨hc2, hf2⟩ := bcell hb2
  have hz2 := hb2.size
  have d0 := (hc2 w.heap.size 0 (by omega)).trans c0
  have d1 := (hc2 w.heap.size 1 (by omega)).trans c1
  clear hc2 hf2 c0 c1 c2
  go_wp2_with fail
  refine (bool_f _).mono ?_
  rintro e w3 ⟨rfl, hb3⟩
  obtain ⟨hc3, hf3⟩ := bcell hb3
  have hz3 := hb3.size
  have e0 := (hc3 w.heap.size 0 (by omega)).trans d0
  have e1 := (hc3 w.heap.size 1 (by omega)).trans d1
  clear hc3 hf3 d0 d1
  have hb03 : Below w.heap.size w w3 := Below.thenB (Below.thenB (Below.thenB ((Below.refl _ _).alloc (Nat.le_refl _) _) (by simp) hb1) (by omega) hb2) (by omega) hb3
  go_wp2_with fail
  refine (print_any n h0 h1 _ (tab_below HT.out hb03)).mono ?_
  rintro e w4 ⟨rfl, hb4⟩
  go_wp2
  go_ret
  exact ⟨rfl, Below.thenB hb03 (by omega) hb4⟩
set_option maxRecDepth 100000 in
set_option maxHeartbeats 1000000 in
theorem print2 (s : ByteArray) (hs : s.size ≤ 200) (w : World) (hmx : IntCell w 1) :
    Calls Tryd.prog 30 #[.agg #[.int .i64 2, .int .i64 0, .string s]] w fun e w' => e = .returned (.string ⟨(vprint (2, 0, s)).toArray⟩) ∧ Below w.heap.size w w' := by
  go_enter Tryd.func30, Tryd.ntmps30
  go_wp2_with fail
  refine (right_any (2, 0, s) _).mono ?_
  rintro e w1 ⟨rfl, hb1⟩
  obtain ⟨hc1, hf1⟩ := bcell hb1
  have hz1 := hb1.size
  simp at hz1
  have c0 := hc1 w.heap.size 0 (by simp)
  have c1 := hc1 w.heap.size 1 (by simp)
  have c2 := hc1 w.heap.size 2 (by simp)
  clear hc1 hf1
  have hr : vright (2, 0, s) = true := by unfold vright; simp; exact hs
  rw [hr]
  clear hr
  go_wp2_with fail
  refine (bool_t _).mono ?_
  rintro e w2 ⟨rfl, hb2⟩
  obtain ⟨hc2, hf2⟩ := bcell hb2
  have hz2 := hb2.size
  have d0 := (hc2 w.heap.size 0 (by omega)).trans c0
  have d1 := (hc2 w.heap.size 2 (by omega)).trans c2
  clear hc2 hf2 c0 c1 c2
  go_wp2_with fail
  refine (bool_f _).mono ?_
  rintro e w3 ⟨rfl, hb3⟩
  obtain ⟨hc3, hf3⟩ := bcell hb3
  have hz3 := hb3.size
  have e0 := (hc3 w.heap.size 0 (by omega)).trans d0
  have e1 := (hc3 w.heap.size 2 (by omega)).trans d1
  clear hc3 hf3 d0 d1
  have hb03 : Below w.heap.size w w3 := Below.thenB (Below.thenB (Below.thenB ((Below.refl _ _).alloc (Nat.le_refl _) _) (by simp) hb1) (by omega) hb2) (by omega) hb3
  have HC := Lib.hid (hmx.below hb03)
  obtain ⟨_, mx, hmx3⟩ := HC.out
  have hcb := countB_one s
  go_wp2_with fail
  refine (Tryd.strings_ReplaceAll s ⟨#[39]⟩ ⟨#[39, 39]⟩ mx _ (by omega) hmx3 (by decide) (by show s.size + Lib.countB s ⟨#[39]⟩ * 2 ≤ _; omega)).mono ?_
  rintro e w4 ⟨rfl, hb4⟩
  have hd : Lib.replaceAll s.data.toList (ByteArray.mk #[39]).data.toList (ByteArray.mk #[39, 39]).data.toList = dbl s.data.toList := replaceAll_dbl _
  rw [hd]
  have hdl : (dbl s.data.toList).length ≤ 400 := by
    have := dbl_len s.data.toList
    rw [← Lib.size_eq] at this
    omega
  clear hd hmx3 hcb
  go_wp2
  go_ret
  refine ⟨?_, Below.thenB hb03 (by omega) hb4⟩
  show Ending.returned (.string ((⟨[39].toArray⟩ : ByteArray) ++ ⟨(dbl s.data.toList).toArray⟩ ++ ⟨[39].toArray⟩)) = _
  rw [app_str, app_str]
  rfl
set_option maxRecDepth 100000 in
set_option maxHeartbeats 1000000 in
theorem print30 (w : World) : Calls Tryd.prog 30 #[.agg #[.int .i64 3, .int .i64 0, .string ⟨#[]⟩]] w fun e w' => e = .returned (.string ⟨[102, 97, 108, 115, 101].toArray⟩) ∧ Below w.heap.size w w' := by
  go_enter Tryd.func30, Tryd.ntmps30
  go_wp2_with fail
  refine (right_any (3, 0, ⟨#[]⟩) _).mono ?_
  rintro e w1 ⟨rfl, hb1⟩
  obtain ⟨hc1, hf1⟩ := bcell hb1
  have hz1 := hb1.size
  simp at hz1
  have c0 := hc1 w.heap.size 0 (by simp)
  have c1 := hc1 w.heap.size 1 (by simp)
  have c2 := hc1 w.heap.size 2 (by simp)
  clear hc1 hf1
  have hr : vright (3, 0, ⟨#[]⟩) = true := rfl
  rw [hr]
  go_wp2_with fail
  refine (bool_t _).mono ?_
  rintro e w2 ⟨rfl, hb2⟩
  have hz2 := hb2.size
  clear c0 c1 c2
  go_wp2_with fail
  refine (bool_f _).mono ?_
  rintro e w3 ⟨rfl, hb3⟩
  have hz3 := hb3.size
  have hb03 : Below w.heap.size w w3 := Below.thenB (Below.thenB (Below.thenB ((Below.refl _ _).alloc (Nat.le_refl _) _) (by simp) hb1) (by omega) hb2) (by omega) hb3
  go_wp2
  go_ret
  exact ⟨rfl, hb03⟩
set_option maxRecDepth 100000 in
set_option maxHeartbeats 1000000 in
theorem print31 (w : World) : Calls Tryd.prog 30 #[.agg #[.int .i64 3, .int .i64 1, .string ⟨#[]⟩]] w fun e w' => e = .returned (.string ⟨[116, 114, 117, 101].toArray⟩) ∧ Below w.heap.size w w' := by
  go_enter Tryd.func30, Tryd.ntmps30
  go_wp2_with fail
  refine (right_any (3, 1, ⟨#[]⟩) _).mono ?_
  rintro e w1 ⟨rfl, hb1⟩
  obtain ⟨hc1, hf1⟩ := bcell hb1
  have hz1 := hb1.size
  simp at hz1
  have c0 := hc1 w.heap.size 0 (by simp)
  have c1 := hc1 w.heap.size 1 (by simp)
  have c2 := hc1 w.heap.size 2 (by simp)
  clear hc1 hf1
  have hr : vright (3, 1, ⟨#[]⟩) = true := rfl
  rw [hr]
  go_wp2_with fail
  refine (bool_t _).mono ?_
  rintro e w2 ⟨rfl, hb2⟩
  have hz2 := hb2.size
  clear c0 c1 c2
  have hb02 : Below w.heap.size w w2 := Below.thenB (Below.thenB ((Below.refl _ _).alloc (Nat.le_refl _) _) (by simp) hb1) (by omega) hb2
  go_wp2
  go_ret
  exact ⟨rfl, hb02⟩
theorem vprint_any (v : Val) (h0 : -9223372036854775808 ≤ v.2.1) (h1 : v.2.1 ≤ 9223372036854775807) (w : World) (htab : Lib.TabIs Tryd.prog w "internal/strconv.uint64pow10" .u64 Lib.pow10Tab) (hmx : IntCell w 1) :
    Calls Tryd.prog 30 #[vagg v] w fun e w' => e = .returned (.string ⟨(printOf v).toArray⟩) ∧ Below w.heap.size w w' := by
  cases hr : vright v with
  | false =>
    have e : printOf v = [] := by unfold printOf; rw [hr]; rfl
    rw [e]; exact print_no v w hr
  | true =>
    have e : printOf v = vprint v := by unfold printOf; rw [hr]; rfl
    rw [e]
    obtain ⟨k, n, s⟩ := v
    rcases right_kinds hr with ⟨h, h'⟩ | ⟨h, h', h''⟩ | ⟨h, h', h''⟩
    · simp only [] at h h'; subst h h'; exact print1 n h0 h1 w htab
    · simp only [] at h h' h''; subst h h'; exact print2 s h'' w hmx
    · simp only [] at h h' h''; subst h h''
      rcases h' with h' | h'
      · subst h'; exact print30 w
      · subst h'; exact print31 w
end Go.Proofs.YtfoejfneggcncaaDoor
