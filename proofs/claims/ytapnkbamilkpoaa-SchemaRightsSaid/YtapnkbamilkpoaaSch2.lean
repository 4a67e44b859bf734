/- Contracts of schema: no two of a list of numbers are the same. -/
import Derived.Test.YtapnkbamilkpoaaSch1
import Derived.Deep.Cut
namespace Go.Proofs.Ytapnkbamilkpoaa
open Go.RowKit
theorem eqint_any (x y : Int) (w : World) : Calls Try.prog 77 #[.int .i64 x, .int .i64 y] w fun e w' => e = .returned (.bool (decide (x = y))) ∧ w = w' := by
  go_enter Try.func77, Try.ntmps77
  go_wp2
  go_ret
  exact ⟨rfl, rfl⟩
theorem clo_int (x y : Int) (B1 B2 : Nat) (w : World) (h1 : w.heap[B1]? = some (.cells #[.func (.func 77) #[] #[]] 106 (0, 0))) (h2 : w.heap[B2]? = some (.cells #[.int .i64 y] 3 (0, 0))) :
    Calls Try.prog 85 #[.int .i64 x, .pointer (some ⟨B1, 0, none⟩), .pointer (some ⟨B2, 0, none⟩)] w fun e w' => e = .returned (.bool (decide (x = y))) ∧ Below w.heap.size w w' := by
  have d1 := Lib.cell_of_heap h1 0
  have d2 := Lib.cell_of_heap h2 0
  have HE := Lib.hid (eqint_any x y w)
  clear h1 h2
  go_enter Try.func85, Try.ntmps85
  go_wp2_with fail
  refine HE.out.mono ?_
  rintro e w1 ⟨rfl, hE⟩
  subst hE
  go_wp2
  go_ret
  exact ⟨rfl, Below.refl _ _⟩
/-- An index that is told where one is, and below 0 where none is. -/
def IdxRet (b : Bool) (e : Ending) : Prop := ∃ r : Int, e = .returned (.int .i64 r) ∧ decide (0 ≤ r) = b
set_option maxRecDepth 100000 in
set_option maxHeartbeats 1000000 in
theorem idxf_int (a : Option Addr) (m c : Nat) (zs : List Int) (y : Int) (B1 B2 : Nat) (w : World) (hm : m ≤ zs.length) (hm2 : zs.length ≤ 1048576) (hz : Ints .i64 w a zs) (h1 : w.heap[B1]? = some (.cells #[.func (.func 77) #[] #[]] 106 (0, 0))) (h2 : w.heap[B2]? = some (.cells #[.int .i64 y] 3 (0, 0))) :
    Calls Try.prog 92 #[.slice a m c, .func (.func 85) #[] #[.pointer (some ⟨B1, 0, none⟩), .pointer (some ⟨B2, 0, none⟩)]] w fun e w' => IdxRet (decide (y ∈ zs.take m)) e ∧ Below w.heap.size w w' := by
  have l1 : B1 < w.heap.size := (Array.getElem?_eq_some_iff.1 h1).1
  have l2 : B2 < w.heap.size := (Array.getElem?_eq_some_iff.1 h2).1
  have HZ := Lib.hid hz
  have H1 := Lib.hid h1
  have H2 := Lib.hid h2
  clear hz h1 h2
  go_enter Try.func92, Try.ntmps92
  go_wp2
  go_loopw [8] (fun i wr => ∃ k : Nat, k ≤ m ∧ i = .int .i64 (k : Int) ∧ Hid (y ∉ zs.take k) ∧ Below w.heap.size w wr) (fun i _ => m - (intOf i).toNat)
  case atStart => exact ⟨0, Nat.zero_le _, rfl, Lib.hid (by simp), Below.refl _ _⟩
  case round =>
    obtain ⟨k, hk, rfl, hno, hbel⟩ := hrel
    have hsz := hbel.size
    by_cases hlt : k < m
    · have hlt' : decide ((k : Int) < (m : Int)) = true := decide_eq_true (by omega)
      rcases HZ.out with hv0 | ⟨hnn, bs, o, rfl, hbs, hcz⟩
      · rw [hv0] at hm
        simp at hm
        omega
      have hc := (hbel.cell (p := ⟨bs, o + k, none⟩) hbs).trans (hcz k (by omega))
      have htk : zs.take (k + 1) = zs.take k ++ [zs.getD k 0] := take_snocD zs k (by omega)
      have hmem : zs.getD k 0 ∈ zs.take m := by
        have h3 : (zs.take m)[k]? = some (zs.getD k 0) := by
          rw [List.getElem?_take_of_lt hlt, List.getElem?_eq_getElem (by omega), List.getD_eq_getElem?_getD, List.getElem?_eq_getElem (by omega)]; rfl
        exact List.mem_of_getElem? h3
      generalize zs.getD k 0 = z at hc htk hmem
      have HE := Lib.hid (clo_int z y B1 B2 wr ((hbel.block B1 l1).trans H1.out) ((hbel.block B2 l2).trans H2.out))
      have HBL := Lib.hid hbel
      clear hcz hbel
      by_cases he : z = y
      · subst he
        have HT := Lib.hid (show decide (z ∈ zs.take m) = true from decide_eq_true hmem)
        rw [decide_eq_true rfl] at HE
        clear hmem htk hno
        go_wp2_with fail
        refine HE.out.mono ?_
        rintro e w1 ⟨rfl, hb1⟩
        have HB1 := Lib.hid (Below.thenB HBL.out hsz hb1)
        clear hb1
        go_wp2
        go_ret
        exact ⟨⟨_, rfl, by rw [HT.out]; exact decide_eq_true (by omega)⟩, HB1.out⟩
      · have hno' : Hid (y ∉ zs.take (k + 1)) := by
          show y ∉ zs.take (k + 1)
          rw [htk]
          simp only [List.mem_append, List.mem_singleton, not_or]
          exact ⟨hno.out, fun h => he h.symm⟩
        rw [decide_eq_false he] at HE
        clear hmem htk hno he
        go_wp2_with fail
        refine HE.out.mono ?_
        rintro e w1 ⟨rfl, hb1⟩
        have HB1 := Lib.hid (Below.thenB HBL.out hsz hb1)
        clear hb1 hc HE HBL
        go_wp2
        go_roundw
        case rel => exact ⟨k + 1, by omega, by go_num, hno', HB1.out⟩
        case measure => simp [intOf]; omega
    · have hlt' : decide ((k : Int) < (m : Int)) = false := decide_eq_false (by omega)
      have hkm : m = k := by omega
      have HT := Lib.hid (show decide (y ∈ zs.take m) = false from decide_eq_false (by rw [hkm]; exact hno.out))
      have HBL := Lib.hid hbel
      clear hno hbel
      go_wp2
      go_ret
      exact ⟨⟨_, rfl, by rw [HT.out]; rfl⟩, HBL.out⟩
set_option maxHeartbeats 1000000 in
theorem contf_int (a : Option Addr) (m c : Nat) (zs : List Int) (y : Int) (B1 B2 : Nat) (w : World) (hm : m ≤ zs.length) (hm2 : zs.length ≤ 1048576) (hz : Ints .i64 w a zs) (h1 : w.heap[B1]? = some (.cells #[.func (.func 77) #[] #[]] 106 (0, 0))) (h2 : w.heap[B2]? = some (.cells #[.int .i64 y] 3 (0, 0))) :
    Calls Try.prog 84 #[.slice a m c, .func (.func 85) #[] #[.pointer (some ⟨B1, 0, none⟩), .pointer (some ⟨B2, 0, none⟩)]] w fun e w' => e = .returned (.bool (decide (y ∈ zs.take m))) ∧ Below w.heap.size w w' := by
  have HI := Lib.hid (idxf_int a m c zs y B1 B2 w hm hm2 hz h1 h2)
  generalize decide (y ∈ zs.take m) = t at HI ⊢
  clear hz h1 h2
  go_enter Try.func84, Try.ntmps84
  go_wp2_with fail
  refine HI.out.mono ?_
  rintro e w1 ⟨⟨r, rfl, hr⟩, hb1⟩
  go_wp2
  go_ret
  exact ⟨rfl, hb1⟩
set_option maxRecDepth 100000 in
set_option maxHeartbeats 1000000 in
theorem unlike_int (a : Option Addr) (m c : Nat) (zs : List Int) (w : World) (hl : zs.length = m) (hmc : m ≤ c) (hm : m ≤ 1048576) (hz : Ints .i64 w a zs) :
    Calls Try.prog 76 #[.slice a m c, .func (.func 77) #[] #[]] w fun e w' => e = .returned (.bool (decide zs.Nodup)) ∧ Below w.heap.size w w' := by
  obtain ⟨R, hR⟩ : ∃ R, R = decide zs.Nodup := ⟨_, rfl⟩
  rw [← hR]
  obtain ⟨W1, hW1⟩ : ∃ W1, W1 = w.alloc (.cells #[.func (.func 77) #[] #[]] 106) := ⟨_, rfl⟩
  have hA1 : Below w.heap.size w W1 := by rw [hW1]; exact (Below.refl _ _).alloc (Nat.le_refl _) _
  have hk1 : W1.heap[w.heap.size]? = some (.cells #[.func (.func 77) #[] #[]] 106 (0, 0)) := by rw [hW1]; exact Array.getElem?_push_size
  have hs1 : w.heap.size < W1.heap.size := by rw [hW1]; simp
  have HR := Lib.hid hR
  have HL := Lib.hid hl
  have HZ := Lib.hid hz
  have HK := Lib.hid hk1
  have HA := Lib.hid hA1
  have HW1 := Lib.hid hW1.symm
  clear hR hl hz hk1 hA1 hW1
  go_enter Try.func76, Try.ntmps76
  go_upto_region 1 with fail
  rw [HW1.out]
  clear HW1
  go_wp2
  go_loopw [9] (fun i wr => ∃ k : Nat, k ≤ m ∧ i = .int .i64 (k : Int) ∧ Hid ((zs.take k).Nodup) ∧ w.heap.size < wr.heap.size ∧ wr.heap[w.heap.size]? = some (.cells #[.func (.func 77) #[] #[]] 106 (0, 0)) ∧ Below w.heap.size w wr) (fun i _ => m - (intOf i).toNat)
  case atStart => exact ⟨0, Nat.zero_le _, rfl, Lib.hid (by simp), hs1, HK.out, HA.out⟩
  case round =>
    obtain ⟨k, hk, rfl, hnd, hsz, hkb, hbel⟩ := hrel
    by_cases hlt : k < m
    · have hlt' : decide ((k : Int) < (m : Int)) = true := decide_eq_true (by omega)
      have hzr := HZ.out.below hbel
      rcases HZ.out with hv0 | ⟨hnn, bs, o, rfl, hbs, hcz⟩
      · have := HL.out
        rw [hv0] at this
        simp at this
        omega
      have hc := (hbel.cell (p := ⟨bs, o + k, none⟩) hbs).trans (hcz k (by rw [HL.out]; exact hlt))
      have htk : zs.take (k + 1) = zs.take k ++ [zs.getD k 0] := take_snocD zs k (by rw [HL.out]; exact hlt)
      have hpre : (zs.take (k + 1)).Nodup ∨ ¬ zs.Nodup := by
        by_cases h : zs.Nodup
        · exact .inl (h.sublist (List.take_sublist _ _))
        · exact .inr h
      generalize zs.getD k 0 = z at hc htk
      obtain ⟨W2, hW2⟩ : ∃ W2, W2 = wr.alloc (.cells #[.int .i64 z] 3) := ⟨_, rfl⟩
      have hA2 : Below wr.heap.size wr W2 := by rw [hW2]; exact (Below.refl _ _).alloc (Nat.le_refl _) _
      have hk2 : W2.heap[wr.heap.size]? = some (.cells #[.int .i64 z] 3 (0, 0)) := by rw [hW2]; exact Array.getElem?_push_size
      have hcf := contf_int (some ⟨bs, o, none⟩) k c zs z w.heap.size wr.heap.size W2 (by rw [HL.out]; omega) (by rw [HL.out]; exact hm) (hzr.below hA2) ((hA2.block _ hsz).trans hkb) hk2
      have HCF := Lib.hid hcf
      have HB2 := Lib.hid (Below.thenB hbel (Nat.le_of_lt hsz) hA2)
      have HKB := Lib.hid ((hA2.block _ hsz).trans hkb)
      have hs2 : w.heap.size < W2.heap.size := Nat.lt_of_lt_of_le hsz hA2.size
      have HW2 := Lib.hid hW2.symm
      have hk0 : (0 : Int) ≤ (k : Int) := by omega
      have hkc : (k : Int) ≤ (c : Int) := by omega
      clear hcz hbel hW2 hA2 hk2 hcf hkb
      by_cases he : z ∈ zs.take k
      · have HF := Lib.hid (show R = false by
          rw [HR.out]
          refine decide_eq_false (fun h => ?_)
          have h2 : (zs.take (k + 1)).Nodup := h.sublist (List.take_sublist _ _)
          rw [htk, List.nodup_append] at h2
          exact h2.2.2 z he z (List.mem_singleton.2 rfl) rfl)
        rw [decide_eq_true he] at HCF
        clear hpre htk hnd he
        go_wp2_with fail
        rw [HW2.out]
        refine HCF.out.mono ?_
        rintro e w3 ⟨rfl, hb3⟩
        have HB3 := Lib.hid (Below.thenB HB2.out (Nat.le_of_lt hs2) hb3)
        clear hb3
        go_wp2
        go_ret
        exact ⟨by rw [HF.out]; rfl, HB3.out⟩
      · have hnd' : Hid ((zs.take (k + 1)).Nodup) := by
          show (zs.take (k + 1)).Nodup
          rw [htk, List.nodup_append]
          refine ⟨hnd.out, by simp, fun x hx y hy => ?_⟩
          rw [List.mem_singleton] at hy
          subst hy
          rintro rfl
          exact he hx
        rw [decide_eq_false he] at HCF
        clear hpre htk hnd he
        go_wp2_with fail
        rw [HW2.out]
        refine HCF.out.mono ?_
        rintro e w3 ⟨rfl, hb3⟩
        have HB3 := Lib.hid (Below.thenB HB2.out (Nat.le_of_lt hs2) hb3)
        have HK3 := Lib.hid ((hb3.block _ hs2).trans HKB.out)
        have hs3 : w.heap.size < w3.heap.size := Nat.lt_of_lt_of_le hs2 hb3.size
        clear hb3 HCF HB2 HKB HW2 hc
        go_wp2
        go_roundw
        case rel => exact ⟨k + 1, by omega, by go_num, hnd', hs3, HK3.out, HB3.out⟩
        case measure => simp [intOf]; omega
    · have hlt' : decide ((k : Int) < (m : Int)) = false := decide_eq_false (by omega)
      have HT := Lib.hid (show R = true by
        have := hnd.out
        rw [List.take_of_length_le (by rw [HL.out]; omega)] at this
        rw [HR.out]; exact decide_eq_true this)
      have HBL := Lib.hid hbel
      clear hnd hbel hkb
      go_wp2
      go_ret
      exact ⟨by rw [HT.out]; rfl, HBL.out⟩
end Go.Proofs.Ytapnkbamilkpoaa
