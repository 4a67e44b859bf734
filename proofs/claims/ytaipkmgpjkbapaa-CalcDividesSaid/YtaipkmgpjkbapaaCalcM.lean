/- Contracts of calc's products, and of what they call. -/
import Derived.Test.YtaipkmgpjkbapaaCalcA
import Derived.Test.YtaipkmgpjkbapaaShelf
namespace Go.Proofs.Ytaipkmgpjkbapaa
open Go.RowKit
theorem mul64_any (x y : Int) (h1 : 0 ≤ x) (h2 : x ≤ 18446744073709551615) (h3 : 0 ≤ y) (h4 : y ≤ 18446744073709551615) (w : World) :
    Calls Try.prog 30 #[.int .u64 x, .int .u64 y] w fun e w' => e = .returned (.tuple #[.int .u64 (x * y / 18446744073709551616), .int .u64 (x * y % 18446744073709551616)]) ∧ w = w' := by
  obtain ⟨x, rfl⟩ := Int.eq_ofNat_of_zero_le h1
  obtain ⟨y, rfl⟩ := Int.eq_ofNat_of_zero_le h3
  refine (Try.bits_Mul64 x y (by omega) (by omega) w).mono ?_
  rintro e w' ⟨rfl, rfl⟩
  exact ⟨by simp, rfl⟩
/-- A number's size. -/
def mag (n : Int) : Int := n.natAbs
theorem mag_bd (n : Int) (h : -9223372036854775808 ≤ n) (h' : n ≤ 9223372036854775807) : 0 ≤ mag n ∧ mag n ≤ 18446744073709551615 := by unfold mag; omega
set_option maxHeartbeats 400000 in
theorem magnitude_any (n : Int) (h : -9223372036854775808 ≤ n) (h' : n ≤ 9223372036854775807) (w : World) :
    Calls Try.prog 31 #[.int .i64 n] w fun e w' => e = .returned (.int .u64 (mag n)) ∧ w = w' := by
  by_cases hn : n < 0
  · go_enter Try.func31, Try.ntmps31
    go_wp2
    go_ret
    exact ⟨ret_int (by simp [IntKind.wrap, IntKind.bits, IntKind.signed, mag]; omega), rfl⟩
  · go_enter Try.func31, Try.ntmps31
    go_wp2
    go_ret
    exact ⟨ret_int (by simp [mag]; omega), rfl⟩

/-- The first place of v, or -1. -/
def idxF (v : Int) (zs : List Int) : Int := if v ∈ zs then (zs.idxOf v : Int) else -1
theorem idxF_hit {v : Int} {zs : List Int} {k : Nat} (hk : k < zs.length) (hv : zs.getD k 0 = v) (hno : ∀ j, j < k → zs.getD j 0 ≠ v) : idxF v zs = k := by
  have e : zs[k] = v := by rw [← hv, List.getD_eq_getElem?_getD, List.getElem?_eq_getElem hk]; rfl
  have hm : v ∈ zs := by rw [← e]; exact List.getElem_mem hk
  unfold idxF
  rw [if_pos hm]
  congr 1
  have h1 : zs.idxOf v < zs.length := List.idxOf_lt_length_iff.2 hm
  have h2 : zs[zs.idxOf v] = v := List.getElem_idxOf h1
  have h3 : zs.idxOf v ≤ k := by
    refine Nat.le_of_not_lt fun hlt => ?_
    have := List.not_of_lt_findIdx (p := (· == v)) (xs := zs) (i := k) (by simpa [List.idxOf] using hlt)
    simp [e] at this
  have h4 : ¬ zs.idxOf v < k := fun hlt => hno _ hlt (by rw [List.getD_eq_getElem?_getD, List.getElem?_eq_getElem h1]; exact h2)
  omega
theorem idxF_none {v : Int} {zs : List Int} (hno : ∀ j, j < zs.length → zs.getD j 0 ≠ v) : idxF v zs = -1 := by
  unfold idxF
  rw [if_neg]
  intro hm
  obtain ⟨k, hk, he⟩ := List.mem_iff_getElem.1 hm
  exact hno k hk (by rw [List.getD_eq_getElem?_getD, List.getElem?_eq_getElem hk]; exact he)
set_option maxHeartbeats 400000 in
theorem index_any (a : Option Addr) (m c : Nat) (zs : List Int) (v : Int) (w : World) (hm : zs.length = m) (hz : Ints .i64 w a zs) (hl : m ≤ 1048576) :
    Calls Try.prog 42 #[.slice a m c, .int .i64 v] w fun e w' => e = .returned (.int .i64 (idxF v zs)) ∧ w = w' := by
  subst hm
  rcases hz with rfl | ⟨hnn, bs, o, rfl, hbs, hz⟩
  · go_enter Try.func42, Try.ntmps42
    go_wp2
    refine wp_loop_rounds 1 ?_
    rw [rounds_succ]
    go_wp2
    go_ret
    exact ⟨by simp [idxF], rfl⟩
  · have HZs := Lib.hid hz
    clear hz
    go_enter Try.func42, Try.ntmps42
    go_wp2
    go_loop [8] (fun i => ∃ k : Nat, k ≤ zs.length ∧ i = .int .i64 k ∧ ∀ j, j < k → zs.getD j 0 ≠ v) (fun i => zs.length - (intOf i).toNat)
    case atStart => exact ⟨0, Nat.zero_le _, rfl, fun j hj => by omega⟩
    case round =>
      obtain ⟨k, hk, rfl, hno⟩ := hrel
      have hno' := Lib.hid hno
      clear hno
      by_cases hlt : k < zs.length
      · have hzk := HZs.out k hlt
        generalize hzz : zs.getD k 0 = z at *
        have HZ := Lib.hid hzz
        clear hzz
        by_cases hv : v = z
        · subst hv
          go_wp2
          go_ret
          exact ⟨ret_int (idxF_hit hlt HZ.out hno'.out).symm, rfl⟩
        · have hv' : (v == z) = false := by simpa using hv
          go_wp2
          go_round
          case rel => exact ⟨k + 1, by omega, by go_num, fun j hj => by
            rcases Nat.lt_or_ge j k with h | h
            · exact hno'.out j h
            · obtain rfl : j = k := by omega
              rw [HZ.out]; exact Ne.symm hv⟩
          case measure => simp [intOf]; omega
      · obtain rfl : k = zs.length := by omega
        clear hlt
        go_wp2
        go_ret
        exact ⟨ret_int (idxF_none hno'.out).symm, rfl⟩
set_option maxHeartbeats 400000 in
theorem contains_any (a : Option Addr) (m c : Nat) (zs : List Int) (v : Int) (w : World) (hm : zs.length = m) (hz : Ints .i64 w a zs) (hl : m ≤ 1048576) :
    Calls Try.prog 29 #[.slice a m c, .int .i64 v] w fun e w' => e = .returned (.bool (decide (v ∈ zs))) ∧ w = w' := by
  have h : decide (idxF v zs ≥ 0) = decide (v ∈ zs) := by unfold idxF; split <;> simp [*]
  have H := Lib.hid h
  clear h
  go_enter Try.func29, Try.ntmps29
  go_wp2_with (go_at_call 42; refine (index_any a m c zs v _ hm hz hl).mono ?_; rintro e w' ⟨rfl, rfl⟩)
  go_ret
  exact ⟨ret_bool (by rw [← H.out]), rfl⟩
def prodL (zs : List Int) : Int := zs.foldl (· * ·) 1
theorem prodL_snoc (zs : List Int) (x : Int) : prodL (zs ++ [x]) = prodL zs * x := by simp [prodL]
theorem mag_mul (a b : Int) : mag (a * b) = mag a * mag b := by unfold mag; rw [Int.natAbs_mul]; simp
theorem mag_pos {a : Int} (h : a ≠ 0) : 1 ≤ mag a := by unfold mag; omega
theorem neg_mul_iff {a b : Int} (ha : a ≠ 0) (hb : b ≠ 0) : decide (a * b < 0) = (decide (a < 0) != decide (b < 0)) := by
  rcases Int.lt_or_gt_of_ne ha with h | h <;> rcases Int.lt_or_gt_of_ne hb with k | k
  · have := Int.mul_pos_of_neg_of_neg h k; rw [decide_eq_false (by omega), decide_eq_true h, decide_eq_true k]; rfl
  · have := Int.mul_neg_of_neg_of_pos h k; rw [decide_eq_true (by omega), decide_eq_true h, decide_eq_false (by omega)]; rfl
  · have := Int.mul_neg_of_pos_of_neg h k; rw [decide_eq_true (by omega), decide_eq_true k, decide_eq_false (by omega)]; rfl
  · have := Int.mul_pos h k; rw [decide_eq_false (by omega), decide_eq_false (by omega), decide_eq_false (by omega)]; rfl
theorem prod_zero {zs : List Int} (h : (0 : Int) ∈ zs) : prodL zs = 0 := by
  have key : ∀ (l : List Int) (p : Int), (p = 0 ∨ (0 : Int) ∈ l) → l.foldl (· * ·) p = 0 := by
    intro l
    induction l with
    | nil => intro p h; simpa using h
    | cons x r ih => intro p h; simp only [List.foldl_cons]; apply ih; simp only [List.mem_cons] at h; rcases h with rfl | rfl | h <;> simp [*]
  exact key zs 1 (.inr h)
theorem prod_ne {zs : List Int} (h : (0 : Int) ∉ zs) (k : Nat) (hk : k ≤ zs.length) : prodL (zs.take k) ≠ 0 := by
  induction k with
  | zero => simp [prodL]
  | succ k ih =>
    rw [take_snocD zs k (by omega), prodL_snoc]
    have : zs.getD k 0 ∈ zs := by rw [List.getD_eq_getElem?_getD, List.getElem?_eq_getElem (by omega)]; simp
    exact Int.mul_ne_zero (ih (by omega)) (fun e => h (e ▸ this))
theorem prod_grows {zs : List Int} (h : (0 : Int) ∉ zs) (k : Nat) : ∀ d, k + d ≤ zs.length → mag (prodL (zs.take k)) ≤ mag (prodL (zs.take (k + d))) := by
  intro d
  induction d with
  | zero => intro _; exact Int.le_refl _
  | succ d ih =>
    intro hd
    rw [← Nat.add_assoc, take_snocD zs (k + d) (by omega), prodL_snoc, mag_mul]
    have : zs.getD (k + d) 0 ∈ zs := by rw [List.getD_eq_getElem?_getD, List.getElem?_eq_getElem (by omega)]; simp
    have h1 := mag_pos (a := zs.getD (k + d) 0) (fun e => h (e ▸ this))
    have h2 := ih (by omega)
    have h3 : 0 ≤ mag (prodL (zs.take (k + d))) := by unfold mag; omega
    have h4 := Int.mul_le_mul_of_nonneg_left h1 h3
    omega
theorem prod_far {zs : List Int} (h : (0 : Int) ∉ zs) (k : Nat) (hk : k < zs.length) (hb : 18446744073709551616 ≤ mag (prodL (zs.take k)) * mag (zs.getD k 0)) : okN (prodL zs) = 0 ∧ erN (prodL zs) = 2 := by
  have h1 := prod_grows h (k + 1) (zs.length - (k + 1)) (by omega)
  rw [show k + 1 + (zs.length - (k + 1)) = zs.length from by omega, List.take_length, take_snocD zs k hk, prodL_snoc, mag_mul] at h1
  unfold mag at h1 hb
  unfold okN erN
  rw [if_neg (by omega), if_neg (by omega)]
  exact ⟨rfl, rfl⟩
set_option maxHeartbeats 1000000 in
theorem mul_any (a : Option Addr) (m c : Nat) (zs : List Int) (w : World) (hm : zs.length = m) (hz : Ints .i64 w a zs) (hi : I64s zs) (hl : m ≤ 1048576) :
    Calls Try.prog 10 #[.slice a m c] w fun e w' => e = .returned (.tuple #[.int .i64 (okN (prodL zs)), .int .i64 (erN (prodL zs))]) ∧ Below w.heap.size w w' := by
  by_cases h0 : (0 : Int) ∈ zs
  · have hp := Lib.hid (prod_zero h0)
    have hd : decide ((0 : Int) ∈ zs) = true := by simpa using h0
    clear h0
    go_enter Try.func10, Try.ntmps10
    go_wp2_with (go_at_call 29; refine (contains_any a m c zs 0 _ hm hz hl).mono ?_; rintro e w' ⟨rfl, rfl⟩)
    go_ret2
    exact ⟨ret_ii (by rw [hp.out]; rfl) (by rw [hp.out]; rfl), Below.refl _ _⟩
  · have hd : decide ((0 : Int) ∈ zs) = false := by simpa using h0
    have H0 := Lib.hid h0
    clear h0
    subst hm
    go_enter Try.func10, Try.ntmps10
    go_wp2_with (go_at_call 29; refine (contains_any a _ c zs 0 _ rfl hz hl).mono ?_; rintro e w' ⟨rfl, rfl⟩)
    rcases hz with rfl | ⟨hnn, bs, o, rfl, hbs, hz⟩
    · refine wp_loop_rounds 1 ?_
      rw [rounds_succ]
      go_wp2_with fail
      refine (signed_pos 1 (by decide) (by decide) _).mono ?_
      rintro e w1 ⟨rfl, hb1⟩
      go_wp2
      go_ret2
      exact ⟨rfl, hb1⟩
    · have HZs := Lib.hid hz
      clear hz
      go_loop [4, 5, 14] (fun s b i => ∃ k : Nat, k ≤ zs.length ∧ i = .int .i64 k ∧ s = .int .u64 (mag (prodL (zs.take k))) ∧ b = .bool (decide (prodL (zs.take k) < 0)) ∧ mag (prodL (zs.take k)) ≤ 18446744073709551615) (fun _ _ i => zs.length - (intOf i).toNat)
      case atStart => exact ⟨0, Nat.zero_le _, rfl, by simp [prodL, mag], by simp [prodL], by simp [prodL, mag]⟩
      case round =>
        obtain ⟨k, hk, rfl, rfl, rfl, hP⟩ := hrel
        have hP0 : 0 ≤ mag (prodL (zs.take k)) := by unfold mag; omega
        by_cases hlt : k < zs.length
        · have hzk := HZs.out k hlt
          have hzb := hi.at k hlt
          obtain ⟨hzb1, hzb2⟩ := hzb
          have hfar := fun hb => prod_far H0.out k hlt hb
          have hz0 : zs.getD k 0 ≠ 0 := by
            have : zs.getD k 0 ∈ zs := by rw [List.getD_eq_getElem?_getD, List.getElem?_eq_getElem hlt]; simp
            exact fun e => H0.out (e ▸ this)
          have hts := take_snocD zs k hlt
          have hne := prod_ne H0.out k hk
          generalize hzz : zs.getD k 0 = z at *
          clear hzz
          generalize hPP : prodL (zs.take k) = P at *
          have hnx : prodL (zs.take (k + 1)) = P * z := by rw [hts, prodL_snoc, hPP]
          have hmm := mag_mul P z
          have hng := neg_mul_iff hne hz0
          obtain ⟨hmz, hmz'⟩ := mag_bd z hzb1 hzb2
          have HN := Lib.hid hnx
          have HM := Lib.hid hmm
          have HG := Lib.hid hng
          have HF := Lib.hid hfar
          clear hts hPP hnx hmm hng hfar hne hz0
          have hp0 : 0 ≤ mag P * mag z := Int.mul_nonneg hP0 hmz
          by_cases hov : 18446744073709551616 ≤ mag P * mag z
          · have hq : (mag P * mag z / 18446744073709551616 != 0) = true := by rw [bne_iff_ne]; omega
            go_wp2_with (first
              | (go_at_call 31; refine (magnitude_any z hzb1 hzb2 _).mono ?_; rintro e w' ⟨rfl, rfl⟩)
              | (go_at_call 30; refine (mul64_any _ _ hP0 hP hmz hmz' _).mono ?_; rintro e w' ⟨rfl, rfl⟩))
            go_ret2
            exact ⟨ret_ii (HF.out hov).1.symm (HF.out hov).2.symm, Below.refl _ _⟩
          · have hq : (mag P * mag z / 18446744073709551616 != 0) = false := by rw [bne_eq_false_iff_eq]; omega
            have hr : mag P * mag z % 18446744073709551616 = mag P * mag z := by omega
            have HR := Lib.hid hr
            clear hr
            go_wp2_with (first
              | (go_at_call 31; refine (magnitude_any z hzb1 hzb2 _).mono ?_; rintro e w' ⟨rfl, rfl⟩)
              | (go_at_call 30; refine (mul64_any _ _ hP0 hP hmz hmz' _).mono ?_; rintro e w' ⟨rfl, rfl⟩))
            go_round
            case rel => exact ⟨k + 1, by omega, by go_num, by rw [HN.out, HM.out, HR.out], by rw [HN.out, HG.out]; cases decide (P < 0) <;> cases decide (z < 0) <;> rfl, by rw [HN.out, HM.out]; omega⟩
            case measure => simp [intOf]; omega
        · obtain rfl : k = zs.length := by omega
          clear hlt
          rw [List.take_length] at hP hP0 ⊢
          by_cases hs : prodL zs < 0
          · have hs' : decide (prodL zs < 0) = true := by simpa using hs
            have hm : mag (prodL zs) = - prodL zs := by unfold mag; omega
            have HM := Lib.hid hm
            clear hm
            go_wp2_with (go_at_call 32; refine (signed_neg _ hP0 hP _).mono ?_; rintro e w1 ⟨rfl, hb1⟩)
            go_ret2
            exact ⟨ret_ii (by rw [HM.out, Int.neg_neg]) (by rw [HM.out, Int.neg_neg]), hb1⟩
          · have hs' : decide (prodL zs < 0) = false := by simpa using hs
            have hm : mag (prodL zs) = prodL zs := by unfold mag; omega
            have HM := Lib.hid hm
            clear hm
            go_wp2_with (go_at_call 32; refine (signed_pos _ hP0 hP _).mono ?_; rintro e w1 ⟨rfl, hb1⟩)
            go_ret2
            exact ⟨ret_ii (by rw [HM.out]) (by rw [HM.out]), hb1⟩
#print axioms mul_any
end Go.Proofs.Ytaipkmgpjkbapaa
