/- Walk of the law CalcEnds. -/
import Derived.Test.YtaipkmgpjkbapaaCalcD
import Derived.Test.YtaipkmgpjkbapaaOpen
namespace Go.Proofs.Ytaipkmgpjkbapaa
open Go.RowKit
def leastL (a : Int) (zs : List Int) : Int := zs.foldl min a
def mostL (a : Int) (zs : List Int) : Int := zs.foldl max a
theorem leastL_snoc (a : Int) (zs : List Int) (x : Int) : leastL a (zs ++ [x]) = min (leastL a zs) x := by simp [leastL]
theorem mostL_snoc (a : Int) (zs : List Int) (x : Int) : mostL a (zs ++ [x]) = max (mostL a zs) x := by simp [mostL]
set_option maxHeartbeats 400000 in
theorem least_any (x : Int) (a : Option Addr) (m c : Nat) (zs : List Int) (w : World) (hm : zs.length = m) (hz : Ints .i64 w a zs) (hl : m ≤ 1048576) :
    Calls Try.prog 23 #[.int .i64 x, .slice a m c] w fun e w' => e = .returned (.int .i64 (leastL x zs)) ∧ w = w' := by
  subst hm
  rcases hz with rfl | ⟨hnn, bs, o, rfl, hbs, hz⟩
  · go_enter Try.func23, Try.ntmps23
    go_wp2
    refine wp_loop_rounds 1 ?_
    rw [rounds_succ]
    go_wp2
    go_ret
    exact ⟨rfl, rfl⟩
  · have HZs := Lib.hid hz
    clear hz
    go_enter Try.func23, Try.ntmps23
    go_wp2
    go_loop [0, 9] (fun s i => ∃ k : Nat, k ≤ zs.length ∧ i = .int .i64 k ∧ s = .int .i64 (leastL x (zs.take k))) (fun _ i => zs.length - (intOf i).toNat)
    case atStart => exact ⟨0, Nat.zero_le _, rfl, rfl⟩
    case round =>
      obtain ⟨k, hk, rfl, rfl⟩ := hrel
      by_cases hlt : k < zs.length
      · have hzk := HZs.out k hlt
        have hs := leastL_snoc x (zs.take k) (zs.getD k 0)
        rw [← take_snocD zs k hlt] at hs
        generalize zs.getD k 0 = z at *
        have HS := Lib.hid hs
        clear hs
        go_wp2
        all_goals
          go_round
          case rel => exact ⟨k + 1, by omega, by go_num, by rw [HS.out]; congr 1; first | rfl | (split <;> omega) | omega⟩
          case measure => simp [intOf]; omega
      · obtain rfl : k = zs.length := by omega
        clear hlt
        rw [List.take_length]
        go_wp2
        go_ret
        exact ⟨rfl, rfl⟩
set_option maxHeartbeats 400000 in
theorem most_any (x : Int) (a : Option Addr) (m c : Nat) (zs : List Int) (w : World) (hm : zs.length = m) (hz : Ints .i64 w a zs) (hl : m ≤ 1048576) :
    Calls Try.prog 24 #[.int .i64 x, .slice a m c] w fun e w' => e = .returned (.int .i64 (mostL x zs)) ∧ w = w' := by
  subst hm
  rcases hz with rfl | ⟨hnn, bs, o, rfl, hbs, hz⟩
  · go_enter Try.func24, Try.ntmps24
    go_wp2
    refine wp_loop_rounds 1 ?_
    rw [rounds_succ]
    go_wp2
    go_ret
    exact ⟨rfl, rfl⟩
  · have HZs := Lib.hid hz
    clear hz
    go_enter Try.func24, Try.ntmps24
    go_wp2
    go_loop [0, 9] (fun s i => ∃ k : Nat, k ≤ zs.length ∧ i = .int .i64 k ∧ s = .int .i64 (mostL x (zs.take k))) (fun _ i => zs.length - (intOf i).toNat)
    case atStart => exact ⟨0, Nat.zero_le _, rfl, rfl⟩
    case round =>
      obtain ⟨k, hk, rfl, rfl⟩ := hrel
      by_cases hlt : k < zs.length
      · have hzk := HZs.out k hlt
        have hs := mostL_snoc x (zs.take k) (zs.getD k 0)
        rw [← take_snocD zs k hlt] at hs
        generalize zs.getD k 0 = z at *
        have HS := Lib.hid hs
        clear hs
        go_wp2
        all_goals
          go_round
          case rel => exact ⟨k + 1, by omega, by go_num, by rw [HS.out]; congr 1; first | rfl | (split <;> omega) | omega⟩
          case measure => simp [intOf]; omega
      · obtain rfl : k = zs.length := by omega
        clear hlt
        rw [List.take_length]
        go_wp2
        go_ret
        exact ⟨rfl, rfl⟩
theorem least_le (a : Int) (zs : List Int) : leastL a zs ≤ a ∧ ∀ z ∈ zs, leastL a zs ≤ z := by
  unfold leastL
  induction zs generalizing a with
  | nil => simp
  | cons x r ih =>
    have h := ih (min a x)
    simp only [List.foldl_cons, List.mem_cons]
    refine ⟨by omega, ?_⟩
    rintro z (rfl | hz)
    · omega
    · exact h.2 z hz
theorem le_most (a : Int) (zs : List Int) : a ≤ mostL a zs ∧ ∀ z ∈ zs, z ≤ mostL a zs := by
  unfold mostL
  induction zs generalizing a with
  | nil => simp
  | cons x r ih =>
    have h := ih (max a x)
    simp only [List.foldl_cons, List.mem_cons]
    refine ⟨by omega, ?_⟩
    rintro z (rfl | hz)
    · omega
    · exact h.2 z hz
theorem least_mem (a : Int) (zs : List Int) : leastL a zs = a ∨ leastL a zs ∈ zs := by
  unfold leastL
  induction zs generalizing a with
  | nil => simp
  | cons x r ih =>
    simp only [List.foldl_cons, List.mem_cons]
    rcases ih (min a x) with h | h
    · rw [h]; rcases Int.le_total a x with k | k
      · left; omega
      · right; left; omega
    · right; right; exact h
theorem most_mem (a : Int) (zs : List Int) : mostL a zs = a ∨ mostL a zs ∈ zs := by
  unfold mostL
  induction zs generalizing a with
  | nil => simp
  | cons x r ih =>
    simp only [List.foldl_cons, List.mem_cons]
    rcases ih (max a x) with h | h
    · rw [h]; rcases Int.le_total a x with k | k
      · right; left; omega
      · left; omega
    · right; right; exact h
theorem mem_iff_take {x : Int} {zs : List Int} (a : Int) (h : x = a ∨ x ∈ zs) : (x == a || zs.contains x) = true := by
  rcases h with h | h <;> simp [h]
theorem contains_snoc (l : List Int) (z x : Int) : (l ++ [z]).contains x = (l.contains x || x == z) := by
  rw [Bool.eq_iff_iff]; simp
theorem getD_mem {zs : List Int} {k : Nat} (h : k < zs.length) : zs.getD k 0 ∈ zs := by rw [List.getD_eq_getElem?_getD, List.getElem?_eq_getElem h]; simp
set_option maxHeartbeats 1000000 in
theorem ends_walk (v0 : Value) (a : Int) (v1 : Value) (zs : List Int) (w : World) (y0 : v0 = .int .i64 a ∧ (Lit.int .i64 a).wf = true) (y1 : RInts .i64 w v1 zs) :
    Calls Try.prog 5 #[v0, v1] w fun e w' => e = .returned (.bool true) ∧ Below w.heap.size w w' := by
  obtain ⟨rfl, w0⟩ := y0
  obtain ⟨p, n, c, rfl, hm, hnc, hcm, hz, hwf⟩ := y1
  unfold maxLen at hcm
  subst hm
  by_cases hlong : 100 < zs.length
  · have hd : decide ((100 : Int) < (zs.length : Int)) = true := by simp; omega
    go_enter Try.func5, Try.ntmps5
    go_wp2_with (go_at_call 8; refine (awake_any _).mono ?_; rintro e w5 ⟨rfl, hb5⟩)
    go_ret
    exact ⟨rfl, hb5⟩
  · have hd : decide ((100 : Int) < (zs.length : Int)) = false := by simp; omega
    have hl : zs.length ≤ 1048576 := by omega
    obtain ⟨l1, l2⟩ := least_le a zs
    obtain ⟨g1, g2⟩ := le_most a zs
    have l3 := mem_iff_take a (least_mem a zs)
    have g3 := mem_iff_take a (most_mem a zs)
    have L2 := Lib.hid l2
    have L3 := Lib.hid l3
    have G2 := Lib.hid g2
    have G3 := Lib.hid g3
    clear l2 l3 g2 g3
    go_enter Try.func5, Try.ntmps5
    go_wp2_with (first
      | (go_at_call 23; refine (least_any a p _ c zs _ rfl hz hl).mono ?_; rintro e w5 ⟨rfl, rfl⟩)
      | (go_at_call 24; refine (most_any a p _ c zs _ rfl hz hl).mono ?_; rintro e w5 ⟨rfl, rfl⟩))
    generalize hlo : leastL a zs = lo at *
    generalize hhi : mostL a zs = hi at *
    clear hlo hhi
    go_loop [7, 8, 9] (fun s o i => ∃ k : Nat, k ≤ zs.length ∧ i = .int .i64 k ∧ s = .bool (lo == a || (zs.take k).contains lo) ∧ o = .bool (hi == a || (zs.take k).contains hi)) (fun _ _ i => zs.length - (intOf i).toNat)
    case atStart => exact ⟨0, Nat.zero_le _, rfl, by simp, by simp⟩
    case round =>
      obtain ⟨k, hk, rfl, rfl, rfl⟩ := hrel
      by_cases hlt : k < zs.length
      · rcases hz with rfl | ⟨hnn, bs, o, rfl, hbs, hz⟩
        · simp at hlt
        have hzk := hz k hlt
        have hmem := getD_mem hlt
        have q1 := L2.out _ hmem
        have q2 := G2.out _ hmem
        have hts := take_snocD zs k hlt
        have t1 := contains_snoc (zs.take k) (zs.getD k 0) lo
        have t2 := contains_snoc (zs.take k) (zs.getD k 0) hi
        rw [← hts] at t1 t2
        clear hmem hts hz
        generalize zs.getD k 0 = z at *
        have T1 := Lib.hid t1
        have T2 := Lib.hid t2
        clear t1 t2
        generalize hA : (lo == a || (zs.take k).contains lo) = A at *
        generalize hB : (hi == a || (zs.take k).contains hi) = B at *
        have HA := Lib.hid hA
        have HB := Lib.hid hB
        clear hA hB
        cases A <;> cases B
        all_goals
          go_wp2
          go_round
          case rel => exact ⟨k + 1, by omega, by go_num, by rw [T1.out, ← Bool.or_assoc, HA.out]; simp, by rw [T2.out, ← Bool.or_assoc, HB.out]; simp⟩
          case measure => simp [intOf]; omega
      · obtain rfl : k = zs.length := by omega
        clear hlt
        rw [List.take_length, L3.out, G3.out]
        go_wp2_with (go_at_call 8; refine (awake_any _).mono ?_; rintro e w5 ⟨rfl, hb5⟩)
        go_ret
        exact ⟨rfl, hb5⟩
end Go.Proofs.Ytaipkmgpjkbapaa
