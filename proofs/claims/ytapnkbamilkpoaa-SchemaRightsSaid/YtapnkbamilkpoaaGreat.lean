/- The document's Great and All, of rows of values. -/
import Derived.Test.YtapnkbamilkpoaaRV
namespace Go.Proofs.Ytapnkbamilkpoaa
open Go.RowKit
def greatB (vs : List Val) : Bool := decide (30 < vs.length) || vs.any fun v => decide (300 < v.2.2.size)
set_option maxRecDepth 100000 in
set_option maxHeartbeats 1000000 in
theorem great_any (a : Option Addr) (m c : Nat) (vs : List Val) (w : World) (hl : vs.length = m) (hm : m ≤ maxLen) (hv : Vals w a vs) (hok : ValsOk vs) :
    Calls Try.prog 19 #[.slice a m c] w fun e w' => e = .returned (.bool (greatB vs)) ∧ w = w' := by
  unfold maxLen at hm
  obtain ⟨r, hr⟩ : ∃ r, r = greatB vs := ⟨_, rfl⟩
  rw [← hr]
  by_cases h30 : 30 < m
  · have hd : decide ((30 : Int) < (m : Int)) = true := decide_eq_true (by omega)
    have hrt : r = true := by rw [hr]; unfold greatB; rw [decide_eq_true (by omega)]; rfl
    have H := Lib.hid hrt
    clear hr hrt
    go_enter Try.func19, Try.ntmps19
    go_wp2
    go_ret
    exact ⟨by rw [H.out]; rfl, rfl⟩
  · have hd : decide ((30 : Int) < (m : Int)) = false := decide_eq_false (by omega)
    have hr0 : r = (vs.drop 0).any fun v => decide (300 < v.2.2.size) := by rw [hr]; unfold greatB; rw [decide_eq_false (by omega), List.drop_zero]; rfl
    have HR0 := Lib.hid hr0
    have HL := Lib.hid hl
    have HOK := Lib.hid hok
    clear hr hr0 hl hok
    go_enter Try.func19, Try.ntmps19
    go_wp2
    go_loop [3] (fun i => ∃ k : Nat, k ≤ m ∧ i = .int .i64 (k : Int) ∧ Hid (r = (vs.drop k).any fun v => decide (300 < v.2.2.size))) (fun i => m - (intOf i).toNat)
    case atStart => exact ⟨0, Nat.zero_le _, rfl, HR0⟩
    case round =>
      obtain ⟨k, hk, rfl, HR⟩ := hrel
      clear HR0
      by_cases hlt : k < m
      · have hlt' : decide ((k : Int) < (m : Int)) = true := decide_eq_true (by omega)
        rcases hv with hv | ⟨hne, b, o, rfl, hb, hz⟩
        · have := HL.out
          rw [hv] at this
          simp at this
          omega
        obtain ⟨v, hvk⟩ : ∃ v, vs[k]? = some v := ⟨_, List.getElem?_eq_getElem (by rw [HL.out]; exact hlt)⟩
        obtain ⟨z0, z1, z2⟩ := hz k v hvk
        have hsz := (HOK.out v (List.mem_of_getElem? hvk)).2.2
        unfold maxLen at hsz
        have hdr : r = (decide (300 < v.2.2.size) || (vs.drop (k + 1)).any fun v => decide (300 < v.2.2.size)) := by
          rw [HR.out, List.drop_eq_getElem_cons (by rw [HL.out]; exact hlt), List.any_cons]
          rw [List.getElem?_eq_getElem (by rw [HL.out]; exact hlt)] at hvk
          injection hvk with hvk
          rw [hvk]
        have HD := Lib.hid hdr
        clear hz z0 z1 hvk HR hdr
        by_cases hs : 300 < v.2.2.size
        · have hd2 : decide ((300 : Int) < (v.2.2.size : Int)) = true := decide_eq_true (by omega)
          have hrt : r = true := by rw [HD.out, decide_eq_true hs]; rfl
          have H := Lib.hid hrt
          clear hrt hs
          go_wp2
          go_ret
          exact ⟨by rw [H.out]; rfl, rfl⟩
        · have hd2 : decide ((300 : Int) < (v.2.2.size : Int)) = false := decide_eq_false (by omega)
          have hrt : r = (vs.drop (k + 1)).any fun v => decide (300 < v.2.2.size) := by rw [HD.out, decide_eq_false hs]; rfl
          have H := Lib.hid hrt
          clear hrt hs
          go_wp2
          go_round
          case rel => exact ⟨k + 1, by omega, by go_num, H⟩
          case measure => simp [intOf]; omega
      · have hlt' : decide ((k : Int) < (m : Int)) = false := decide_eq_false (by omega)
        have hrt : r = false := by rw [HR.out, List.drop_eq_nil_of_le (by rw [HL.out]; omega)]; rfl
        have H := Lib.hid hrt
        clear hrt HR
        go_wp2
        go_ret
        exact ⟨by rw [H.out]; rfl, rfl⟩
theorem great_not {vs : List Val} (h : greatB vs = false) : vs.length ≤ 30 ∧ ∀ v ∈ vs, v.2.2.size ≤ 300 := by
  unfold greatB at h
  rw [Bool.or_eq_false_iff] at h
  refine ⟨by have := of_decide_eq_false h.1; omega, fun v hv => ?_⟩
  have := List.any_eq_false.1 h.2 v hv
  simp at this
  exact this
set_option maxRecDepth 100000 in
set_option maxHeartbeats 1000000 in
theorem rall_any (a : Option Addr) (m c : Nat) (vs : List Val) (w : World) (hl : vs.length = m) (hm : m ≤ 1048576) (hv : Vals w a vs) :
    Calls Try.prog 38 #[.slice a m c] w fun e w' => e = .returned (.bool (vs.all vright)) ∧ Below w.heap.size w w' := by
  obtain ⟨r, hr⟩ : ∃ r, r = vs.all vright := ⟨_, rfl⟩
  rw [← hr]
  have HL := Lib.hid hl
  have HR0 : Hid (r = (vs.drop 0).all vright) := by rw [List.drop_zero]; exact hr
  clear hl hr
  go_enter Try.func38, Try.ntmps38
  go_wp2
  go_loopw [3] (fun i wr => ∃ k : Nat, k ≤ m ∧ i = .int .i64 (k : Int) ∧ Hid (r = (vs.drop k).all vright) ∧ Below w.heap.size w wr) (fun i _ => m - (intOf i).toNat)
  case atStart => exact ⟨0, Nat.zero_le _, rfl, HR0, Below.refl _ _⟩
  case round =>
    obtain ⟨k, hk, rfl, HR, hbel⟩ := hrel
    clear HR0
    have hszr := hbel.size
    by_cases hlt : k < m
    · have hlt' : decide ((k : Int) < (m : Int)) = true := decide_eq_true (by omega)
      rcases hv with hv | ⟨hne, b, o, rfl, hb, hz⟩
      · have := HL.out
        rw [hv] at this
        simp at this
        omega
      obtain ⟨v, hvk⟩ : ∃ v, vs[k]? = some v := ⟨_, List.getElem?_eq_getElem (by rw [HL.out]; exact hlt)⟩
      obtain ⟨z0, z1, z2⟩ := hz k v hvk
      clear hz
      have hdr : r = (vright v && (vs.drop (k + 1)).all vright) := by
        rw [HR.out, List.drop_eq_getElem_cons (by rw [HL.out]; exact hlt), List.all_cons]
        rw [List.getElem?_eq_getElem (by rw [HL.out]; exact hlt)] at hvk
        injection hvk with hvk
        rw [hvk]
      have c0 := (hbel.cell (p := ⟨b, o + k * 3, none⟩) hb).trans z0
      have c1 := (hbel.cell (p := ⟨b, o + k * 3 + 1, none⟩) hb).trans z1
      have c2 := (hbel.cell (p := ⟨b, o + k * 3 + 2, none⟩) hb).trans z2
      clear z0 z1 z2 hvk HR
      have HD := Lib.hid hdr
      clear hdr
      go_wp2_with fail
      refine (rright_any v _).mono ?_
      rintro e w1 ⟨rfl, hb1⟩
      have hb2 := Below.thenB hbel hszr hb1
      cases hvr : vright v with
      | false =>
        have hrf := HD.out
        rw [hvr, Bool.false_and] at hrf
        have HF := Lib.hid hrf
        clear hrf hvr
        go_wp2
        go_ret
        exact ⟨by rw [HF.out]; rfl, hb2⟩
      | true =>
        have hrt := HD.out
        rw [hvr, Bool.true_and] at hrt
        have HT := Lib.hid hrt
        clear hrt hvr
        go_wp2
        go_roundw
        case rel => exact ⟨k + 1, by omega, by go_num, HT, hb2⟩
        case measure => simp [intOf]; omega
    · have hlt' : decide ((k : Int) < (m : Int)) = false := decide_eq_false (by omega)
      have hrt : r = true := by rw [HR.out, List.drop_eq_nil_of_le (by rw [HL.out]; omega)]; rfl
      have HT := Lib.hid hrt
      clear hrt HR
      go_wp2
      go_ret
      exact ⟨by rw [HT.out]; rfl, hbel⟩
end Go.Proofs.Ytapnkbamilkpoaa
