/- The document's Named, same, Fits, of schemas. -/
import Derived.Test.YtapnkbamilkpoaaFits
import Derived.Test.YtapnkbamilkpoaaGreat
namespace Go.Proofs.Ytapnkbamilkpoaa
open Go.RowKit
def namedAt (l : List UInt8) (k : Nat) : Bool := (decide (0 < k) || letterB (l.headD 0)) && (l.drop k).all nameB
theorem namedAt_step {l : List UInt8} {k : Nat} {c : UInt8} (h : l[k]? = some c) : namedAt l k = ((decide (0 < k) || letterB c) && nameB c && namedAt l (k + 1)) := by
  obtain ⟨h1, h2⟩ := List.getElem?_eq_some_iff.1 h
  unfold namedAt
  rw [List.drop_eq_getElem_cons h1, List.all_cons, h2, decide_eq_true (by omega : 0 < k + 1), Bool.true_or, Bool.true_and]
  cases k with
  | zero =>
    have : l.headD 0 = c := by
      cases l with
      | nil => simp at h1
      | cons x r => simpa using h2
    rw [this, Bool.and_assoc]
  | succ k => simp
set_option maxRecDepth 100000 in
set_option maxHeartbeats 2000000 in
theorem rnamed_any (s : ByteArray) (w : World) (hs : s.size ≤ 281474976710656) : Calls Try.prog 17 #[.string s] w fun e w' => e = .returned (.bool (namedB s.data.toList)) ∧ w = w' := by
  obtain ⟨R, hR⟩ : ∃ R, R = namedB s.data.toList := ⟨_, rfl⟩
  rw [← hR]
  have hl : s.data.toList.length = s.size := Array.length_toList
  unfold namedB at hR
  by_cases h0 : s.size < 1
  · have d0 : decide ((s.size : Int) < 1) = true := decide_eq_true (by omega)
    have HT := Lib.hid (show R = false by rw [hR, hl, decide_eq_false (by omega : ¬ 1 ≤ s.size)]; rfl)
    clear hR hl
    go_enter Try.func17, Try.ntmps17
    go_wp2
    go_ret
    exact ⟨by rw [HT.out]; rfl, rfl⟩
  have d0 : decide ((s.size : Int) < 1) = false := decide_eq_false (by omega)
  by_cases h16 : 16 < s.size
  · have d1 : decide ((16 : Int) < (s.size : Int)) = true := decide_eq_true (by omega)
    have HT := Lib.hid (show R = false by rw [hR, hl, decide_eq_false (by omega : ¬ s.size ≤ 16)]; simp)
    clear hR hl
    go_enter Try.func17, Try.ntmps17
    go_wp2
    go_ret
    exact ⟨by rw [HT.out]; rfl, rfl⟩
  have d1 : decide ((16 : Int) < (s.size : Int)) = false := decide_eq_false (by omega)
  have HR0 := Lib.hid (show R = namedAt s.data.toList 0 by
    rw [hR, hl, decide_eq_true (by omega : 1 ≤ s.size), decide_eq_true (by omega : s.size ≤ 16)]; unfold namedAt; simp)
  have HSL := Lib.hid hl
  clear hR hl
  go_enter Try.func17, Try.ntmps17
  go_wp2
  go_loop [3] (fun i => ∃ k : Nat, k ≤ s.size ∧ i = .int .i64 (k : Int) ∧ Hid (R = namedAt s.data.toList k)) (fun i => s.size - (intOf i).toNat)
  case atStart => exact ⟨0, Nat.zero_le _, rfl, HR0⟩
  case round =>
    obtain ⟨k, hk, rfl, HR⟩ := hrel
    clear HR0
    by_cases hlt : k < s.size
    · have hlt' : decide ((k : Int) < (s.size : Int)) = true := decide_eq_true (by omega)
      have hki : (k : Int) < (s.size : Int) := by omega
      have hst := namedAt_step (l := s.data.toList) (k := k) (c := s[k]) (by rw [List.getElem?_eq_getElem (by rw [HSL.out]; exact hlt)]; rfl)
      rw [← HR.out] at hst
      unfold nameB letterB digitB at hst
      have hb := s[k].toNat_lt
      obtain ⟨n, hn⟩ : ∃ n : Nat, n = s[k].toNat := ⟨_, rfl⟩
      have hBn : (s[k].toNat : Int) = (n : Int) := by rw [hn]
      rw [← hn] at hst hb
      obtain ⟨N, hN⟩ : ∃ N, N = namedAt s.data.toList (k + 1) := ⟨_, rfl⟩
      rw [← hN] at hst
      have HN := Lib.hid hN
      clear HR hn hN
      by_cases g1 : 97 ≤ n ∧ n ≤ 122
      · have q1 : decide ((97 : Int) ≤ (n : Int)) = true := decide_eq_true (by omega)
        have q2 : decide ((n : Int) ≤ 122) = true := decide_eq_true (by omega)
        rw [decide_eq_true g1.1, decide_eq_true g1.2] at hst
        have HR1 := Lib.hid (show R = namedAt s.data.toList (k + 1) by rw [hst, ← HN.out]; simp)
        clear hst g1
        go_wp2
        go_round
        case rel => exact ⟨k + 1, by omega, by go_num, HR1⟩
        case measure => simp [intOf]; omega
      have hf : (decide (97 ≤ n) && decide (n ≤ 122)) = false := by
        rw [Bool.and_eq_false_iff]
        by_cases h : 97 ≤ n
        · exact .inr (decide_eq_false (by omega))
        · exact .inl (decide_eq_false h)
      rw [hf] at hst
      by_cases gk : k = 0
      · have HT := Lib.hid (show R = false by rw [hst, gk]; simp)
        have dk : ((k : Int) == 0) = true := by rw [gk]; rfl
        clear hst hf gk
        by_cases g97 : 97 ≤ n
        · have q1 : decide ((97 : Int) ≤ (n : Int)) = true := decide_eq_true (by omega)
          have q2 : decide ((n : Int) ≤ 122) = false := decide_eq_false (by omega)
          clear g1
          go_wp2
          go_ret
          exact ⟨by rw [HT.out]; rfl, rfl⟩
        · have q1 : decide ((97 : Int) ≤ (n : Int)) = false := decide_eq_false (by omega)
          clear g1
          go_wp2
          go_ret
          exact ⟨by rw [HT.out]; rfl, rfl⟩
      have dk : ((k : Int) == 0) = false := beq_false_of_ne (by omega)
      rw [decide_eq_true (by omega : 0 < k), Bool.true_or, Bool.true_and, Bool.false_or] at hst
      have hcase : (48 ≤ n ∧ n ≤ 57) ∨ n = 95 ∨ (¬ (48 ≤ n ∧ n ≤ 57) ∧ n ≠ 95) := by omega
      rcases hcase with g2 | g2 | ⟨g2, g3⟩
      · have p1 : decide ((97 : Int) ≤ (n : Int)) = false := decide_eq_false (by omega)
        have p2 : decide ((48 : Int) ≤ (n : Int)) = true := decide_eq_true (by omega)
        have p3 : decide ((n : Int) ≤ 57) = true := decide_eq_true (by omega)
        have HR1 := Lib.hid (show R = namedAt s.data.toList (k + 1) by rw [hst, ← HN.out, decide_eq_true g2.1, decide_eq_true g2.2]; simp)
        clear hst hf g1 g2
        go_wp2
        go_round
        case rel => exact ⟨k + 1, by omega, by go_num, HR1⟩
        case measure => simp [intOf]; omega
      · have p1 : decide ((97 : Int) ≤ (n : Int)) = false := decide_eq_false (by omega)
        have p2 : decide ((48 : Int) ≤ (n : Int)) = true := decide_eq_true (by omega)
        have p3 : decide ((n : Int) ≤ 57) = false := decide_eq_false (by omega)
        have p4 : ((n : Int) == 95) = true := by simp; omega
        have HR1 := Lib.hid (show R = namedAt s.data.toList (k + 1) by rw [hst, ← HN.out, decide_eq_true g2]; simp)
        clear hst hf g1 g2
        go_wp2
        go_round
        case rel => exact ⟨k + 1, by omega, by go_num, HR1⟩
        case measure => simp [intOf]; omega
      · have hd : (decide (48 ≤ n) && decide (n ≤ 57)) = false := by
          rw [Bool.and_eq_false_iff]
          by_cases h : 48 ≤ n
          · exact .inr (decide_eq_false (by omega))
          · exact .inl (decide_eq_false h)
        have HT := Lib.hid (show R = false by rw [hst, hd, decide_eq_false g3]; rfl)
        have p4 : ((n : Int) == 95) = false := beq_false_of_ne (by omega)
        clear hst hf hd
        by_cases g97 : 97 ≤ n
        · have q1 : decide ((97 : Int) ≤ (n : Int)) = true := decide_eq_true (by omega)
          have q2 : decide ((n : Int) ≤ 122) = false := decide_eq_false (by omega)
          have q3 : decide ((48 : Int) ≤ (n : Int)) = true := decide_eq_true (by omega)
          have q4 : decide ((n : Int) ≤ 57) = false := decide_eq_false (by omega)
          clear g1 g2
          go_wp2
          go_ret
          exact ⟨by rw [HT.out]; rfl, rfl⟩
        · have q1 : decide ((97 : Int) ≤ (n : Int)) = false := decide_eq_false (by omega)
          by_cases g48 : 48 ≤ n
          · have q3 : decide ((48 : Int) ≤ (n : Int)) = true := decide_eq_true (by omega)
            have q4 : decide ((n : Int) ≤ 57) = false := decide_eq_false (by omega)
            clear g1 g2
            go_wp2
            go_ret
            exact ⟨by rw [HT.out]; rfl, rfl⟩
          · have q3 : decide ((48 : Int) ≤ (n : Int)) = false := decide_eq_false (by omega)
            clear g1 g2
            go_wp2
            go_ret
            exact ⟨by rw [HT.out]; rfl, rfl⟩
    · have hlt' : decide ((k : Int) < (s.size : Int)) = false := decide_eq_false (by omega)
      have HT := Lib.hid (show R = true by
        have hkk : k = s.size := by omega
        rw [HR.out, hkk]; unfold namedAt
        rw [List.drop_eq_nil_of_le (by rw [HSL.out]; exact Nat.le_refl _), decide_eq_true (by omega)]; rfl)
      clear HR
      go_wp2
      go_ret
      exact ⟨by rw [HT.out]; rfl, rfl⟩
theorem ints_at {w w' : World} {a : Option Addr} {zs : List Int} {m k : Nat} (h : Ints .i64 w a zs) (hl : zs.length = m) (hk : k < m) (hb : Below w.heap.size w w') : ∃ b o z, a = some ⟨b, o, none⟩ ∧ b < w.heap.size ∧ zs[k]? = some z ∧ w'.cell? ⟨b, o + k, none⟩ = some (.int .i64 z) := by
  rcases h with h | ⟨_, b, o, rfl, hlt, hc⟩
  · rw [h] at hl; simp at hl; omega
  · have hk' : k < zs.length := by omega
    have h2 := (hb.cell (p := ⟨b, o + k, none⟩) hlt).trans (hc k hk')
    refine ⟨b, o, zs[k], rfl, hlt, List.getElem?_eq_getElem hk', ?_⟩
    rw [h2, List.getD_eq_getElem?_getD, List.getElem?_eq_getElem hk']; rfl
theorem eq_of_take {xs ys : List Int} {k : Nat} (hl : xs.length = ys.length) (h : xs.take k = ys.take k) (hk : xs.length ≤ k) : xs = ys := by
  rwa [List.take_of_length_le hk, List.take_of_length_le (by omega)] at h
theorem take_snoc' {α : Type} {xs : List α} {k : Nat} {x : α} (h : xs[k]? = some x) : xs.take (k + 1) = xs.take k ++ [x] := by rw [List.take_add_one, h]; rfl
set_option maxRecDepth 100000 in
set_option maxHeartbeats 1000000 in
/-- The document's same: two lists of places. -/
theorem rsame_any (a a' : Option Addr) (m c m' c' : Nat) (xs ys : List Int) (w : World) (hl : xs.length = m) (hl' : ys.length = m') (hm : m ≤ 281474976710656) (hm' : m' ≤ 281474976710656) (hx : Ints .i64 w a xs) (hy : Ints .i64 w a' ys) :
    Calls Try.prog 33 #[.slice a m c, .slice a' m' c'] w fun e w' => e = .returned (.bool (decide (xs = ys))) ∧ Below w.heap.size w w' := by
  obtain ⟨R, hR⟩ : ∃ R, R = decide (xs = ys) := ⟨_, rfl⟩
  rw [← hR]
  by_cases hmm : m = m'
  · subst hmm
    have HR := Lib.hid hR
    have HL := Lib.hid hl
    have HL' := Lib.hid hl'
    have HX := Lib.hid hx
    have HY := Lib.hid hy
    clear hR hl hl' hx hy
    go_enter Try.func33, Try.ntmps33
    go_wp2
    go_loopw [5] (fun i wr => ∃ k : Nat, k ≤ m ∧ i = .int .i64 (k : Int) ∧ Hid (xs.take k = ys.take k) ∧ Below w.heap.size w wr) (fun i _ => m - (intOf i).toNat)
    case atStart => exact ⟨0, Nat.zero_le _, rfl, Lib.hid (by simp), Below.refl _ _⟩
    case round =>
      obtain ⟨k, hk, rfl, hh, hbel⟩ := hrel
      by_cases hlt : k < m
      · have hlt' : decide ((k : Int) < (m : Int)) = true := decide_eq_true (by omega)
        obtain ⟨b, o, x, rfl, hb, hxk, c0⟩ := ints_at HX.out HL.out hlt hbel
        obtain ⟨b', o', y, rfl, hb', hyk, e0⟩ := ints_at HY.out HL'.out hlt hbel
        have hk0 : (0 : Int) ≤ (k : Int) := by omega
        have hk1 : (k : Int) < (m : Int) := by omega
        by_cases hxy : x = y
        · have hd : (x == y) = true := by simp [hxy]
          have HN := Lib.hid (show xs.take (k + 1) = ys.take (k + 1) by rw [take_snoc' hxk, take_snoc' hyk, hh.out, hxy])
          clear hxk hyk hh hxy
          go_wp2_with fail
          go_quiet (fail)
          go_wp2
          go_roundw
          case rel => exact ⟨k + 1, by omega, by go_num, HN, bdrewN hbel _⟩
          case measure => simp [intOf]; omega
        · have hd : (x == y) = false := beq_false_of_ne hxy
          have HT := Lib.hid (show R = false by
            rw [HR.out]; refine decide_eq_false fun e => hxy ?_
            rw [e, hyk] at hxk
            injection hxk with h; exact h.symm)
          clear hxk hyk hh hxy
          go_wp2_with fail
          go_quiet (fail)
          go_wp2
          go_ret
          exact ⟨by rw [HT.out]; rfl, bdrewN hbel _⟩
      · have hlt' : decide ((k : Int) < (m : Int)) = false := decide_eq_false (by omega)
        have HT := Lib.hid (show R = true by
          rw [HR.out]; exact decide_eq_true (eq_of_take (by rw [HL.out, HL'.out]) hh.out (by rw [HL.out]; omega)))
        clear hh
        go_wp2
        go_ret
        exact ⟨by rw [HT.out]; rfl, hbel⟩
  · have hd : ((m : Int) == (m' : Int)) = false := beq_false_of_ne (by omega)
    have HT := Lib.hid (show R = false by rw [hR]; refine decide_eq_false fun e => hmm ?_; rw [← hl, ← hl', e])
    clear hR hl hl' hx hy
    go_enter Try.func33, Try.ntmps33
    go_wp2
    go_ret
    exact ⟨by rw [HT.out]; rfl, Below.refl _ _⟩
end Go.Proofs.Ytapnkbamilkpoaa
