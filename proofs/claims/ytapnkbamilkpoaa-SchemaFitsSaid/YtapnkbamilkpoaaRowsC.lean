/- Contracts of Rows: which of two rows stands first. -/
import Derived.Test.YtapnkbamilkpoaaCmp
import Derived.Test.YtapnkbamilkpoaaOwn3
namespace Go.Proofs.Ytapnkbamilkpoaa
open Go.RowKit
/-- Which of two rows stands first. -/
def vrows : List Val → List Val → Int
  | [], [] => 0
  | [], _ :: _ => -1
  | _ :: _, [] => 1
  | x :: r, y :: t => if vcmp x y = 0 then vrows r t else vcmp x y
theorem vrows_step {a b : List Val} {k : Nat} {u v : Val} (hu : a[k]? = some u) (hv : b[k]? = some v) : vrows (a.drop k) (b.drop k) = if vcmp u v = 0 then vrows (a.drop (k + 1)) (b.drop (k + 1)) else vcmp u v := by
  obtain ⟨h1, h2⟩ := List.getElem?_eq_some_iff.1 hu
  obtain ⟨h3, h4⟩ := List.getElem?_eq_some_iff.1 hv
  rw [List.drop_eq_getElem_cons h1, List.drop_eq_getElem_cons h3, h2, h4]
  rfl
theorem vrows_end {a b : List Val} {k : Nat} (h : a.length ≤ k) (hk : k ≤ b.length) (hk' : k ≤ a.length) : vrows (a.drop k) (b.drop k) = if a.length < b.length then -1 else 0 := by
  rw [List.drop_eq_nil_of_le h]
  by_cases hl : a.length < b.length
  · rw [if_pos hl, List.drop_eq_getElem_cons (by omega)]; rfl
  · rw [if_neg hl, List.drop_eq_nil_of_le (by omega)]; rfl
theorem vrows_more {a b : List Val} {k : Nat} (h : b.length ≤ k) (hk : k < a.length) : vrows (a.drop k) (b.drop k) = 1 := by
  rw [List.drop_eq_nil_of_le h, List.drop_eq_getElem_cons hk]; rfl
set_option maxRecDepth 100000 in
set_option maxHeartbeats 2000000 in
theorem rrows_any (a a' : Option Addr) (m c m' c' : Nat) (us vs : List Val) (w : World) (hl : us.length = m) (hl' : vs.length = m') (hm : m ≤ 1048576) (_hm' : m' ≤ 1048576) (hu : Vals w a us) (hv : Vals w a' vs) :
    Calls Try.prog 29 #[.slice a m c, .slice a' m' c'] w fun e w' => e = .returned (.int .i64 (vrows us vs)) ∧ Below w.heap.size w w' := by
  obtain ⟨r, hr⟩ : ∃ r, r = vrows us vs := ⟨_, rfl⟩
  rw [← hr]
  have HL := Lib.hid hl
  have HL' := Lib.hid hl'
  have HR0 : Hid (r = vrows (us.drop 0) (vs.drop 0)) := by rw [List.drop_zero, List.drop_zero]; exact hr
  clear hl hl' hr
  go_enter Try.func29, Try.ntmps29
  go_wp2
  go_loopw [5] (fun i wr => ∃ k : Nat, k ≤ m ∧ k ≤ m' ∧ i = .int .i64 (k : Int) ∧ Hid (r = vrows (us.drop k) (vs.drop k)) ∧ Below w.heap.size w wr) (fun i _ => m - (intOf i).toNat)
  case atStart => exact ⟨0, Nat.zero_le _, Nat.zero_le _, rfl, HR0, Below.refl _ _⟩
  case round =>
    obtain ⟨k, hk, hk', rfl, HR, hbel⟩ := hrel
    clear HR0
    have hszr := hbel.size
    by_cases hlt : k < m
    · have hlt1 : decide ((k : Int) < (m : Int)) = true := decide_eq_true (by omega)
      by_cases hlt2 : k < m'
      · have hlt2' : decide ((k : Int) < (m' : Int)) = true := decide_eq_true (by omega)
        obtain ⟨b, o, u, rfl, hb, huk, c0, c1, c2⟩ := Vals.at3 hu HL.out hlt hbel
        obtain ⟨b', o', v, rfl, hb', hvk, e0, e1, e2⟩ := Vals.at3 hv HL'.out hlt2 hbel
        obtain ⟨uk, un, us'⟩ := u
        obtain ⟨vk, vn, vs'⟩ := v
        simp only [] at c0 c1 c2 e0 e1 e2
        have hstep := vrows_step huk hvk
        rw [← HR.out] at hstep
        have HS := Lib.hid hstep
        clear huk hvk hstep HR
        have hk0 : (0 : Int) ≤ (k : Int) := by omega
        have hk1 : (k : Int) < (m : Int) := by omega
        have hk2 : (k : Int) < (m' : Int) := by omega
        go_wp2
        go_region_held3 (fun W => W.cell? ⟨b, o + k * 3, none⟩ = some (.int .i64 uk) ∧ W.cell? ⟨b, o + k * 3 + 1, none⟩ = some (.int .i64 un) ∧ W.cell? ⟨b, o + k * 3 + 2, none⟩ = some (.string us') ∧ W.cell? ⟨b', o' + k * 3, none⟩ = some (.int .i64 vk) ∧ W.cell? ⟨b', o' + k * 3 + 1, none⟩ = some (.int .i64 vn) ∧ W.cell? ⟨b', o' + k * 3 + 2, none⟩ = some (.string vs'))
          (first | (with_reducible exact ⟨q0, q1, q2, q3, q4, q5⟩) | go_keep)
          ((go_at_call 52; refine (rcmp_any (uk, un, us') (vk, vn, vs') _).mono ?_; rintro e w1 ⟨rfl, hb1⟩; obtain ⟨hc1, hf1⟩ := bcell hb1; have q0 := (hc1 b (o + k * 3) (by show b < wr.heap.size; omega)).trans (by exact c0); have q1 := (hc1 b (o + k * 3 + 1) (by show b < wr.heap.size; omega)).trans (by exact c1); have q2 := (hc1 b (o + k * 3 + 2) (by show b < wr.heap.size; omega)).trans (by exact c2); have q3 := (hc1 b' (o' + k * 3) (by show b' < wr.heap.size; omega)).trans (by exact e0); have q4 := (hc1 b' (o' + k * 3 + 1) (by show b' < wr.heap.size; omega)).trans (by exact e1); have q5 := (hc1 b' (o' + k * 3 + 2) (by show b' < wr.heap.size; omega)).trans (by exact e2); clear hc1 hf1))
        have hB2 : Below w.heap.size w w1 := Below.thenB hbel.drew (by show w.heap.size ≤ wr.heap.size; omega) hb1
        generalize vcmp (uk, un, us') (vk, vn, vs') = C at *
        by_cases h0 : C = 0
        · have hd0 : (C == 0) = true := by simp [h0]
          have h := HS.out
          rw [if_pos h0] at h
          have H := Lib.hid h
          clear h h0
          go_wp2
          go_roundw
          case rel => exact ⟨k + 1, by omega, by omega, by go_num, H, hB2⟩
          case measure => simp [intOf]; omega
        · have hd0 : (C == 0) = false := beq_false_of_ne h0
          have h := HS.out
          rw [if_neg h0] at h
          have H := Lib.hid h
          clear h h0
          go_wp2
          go_ret
          exact ⟨by rw [H.out]; rfl, hB2⟩
      · have hlt2' : decide ((k : Int) < (m' : Int)) = false := decide_eq_false (by omega)
        have h1 : r = 1 := by rw [HR.out]; exact vrows_more (by rw [HL'.out]; omega) (by rw [HL.out]; exact hlt)
        have H := Lib.hid h1
        have hmm : m' < m := by omega
        have hd : ((m : Int) == (m' : Int)) = false := beq_false_of_ne (by omega)
        have hd' : decide (m < m') = false := decide_eq_false (by omega)
        have hd2 : (m == m') = false := beq_false_of_ne (by omega)
        clear h1 HR
        go_wp2
        go_ret
        exact ⟨by rw [H.out]; rfl, hbel⟩
    · have hlt' : decide ((k : Int) < (m : Int)) = false := decide_eq_false (by omega)
      have he : r = if m < m' then -1 else 0 := by
        have := vrows_end (a := us) (b := vs) (k := k) (by rw [HL.out]; omega) (by rw [HL'.out]; omega) (by rw [HL.out]; omega)
        rw [HL.out, HL'.out] at this
        rw [HR.out]; exact this
      by_cases hmm : m < m'
      · have hd : decide (m < m') = true := decide_eq_true hmm
        have hd' : ((m : Int) == (m' : Int)) = false := beq_false_of_ne (by omega)
        have hd2 : (m == m') = false := beq_false_of_ne (by omega)
        rw [if_pos hmm] at he
        have H := Lib.hid he
        clear he hmm HR
        go_wp2
        go_ret
        exact ⟨by rw [H.out]; rfl, hbel⟩
      · have hmeq : m = m' := by omega
        have hd' : ((m : Int) == (m' : Int)) = true := by simp [hmeq]
        have hd2 : (m == m') = true := by simp [hmeq]
        rw [if_neg hmm] at he
        have H := Lib.hid he
        clear he hmm HR hmeq
        go_wp2
        go_ret
        exact ⟨by rw [H.out]; rfl, hbel⟩
end Go.Proofs.Ytapnkbamilkpoaa
