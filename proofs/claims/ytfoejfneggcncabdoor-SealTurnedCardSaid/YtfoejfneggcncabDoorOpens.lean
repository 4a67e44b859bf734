/- Contracts of Open, All: what is framed. -/
import Derived.Test.YtfoejfneggcncabDoorFrame
namespace Go.Proofs.YtfoejfneggcncabDoor
open Go.RowKit
/-- How many bytes a frame's beginning tells. -/
def told (l : List UInt8) : Nat := num4 (l.getD 0 0) (l.getD 1 0) (l.getD 2 0) (l.getD 3 0)
/-- Is a frame of n bytes whole? -/
def wholeB (l : List UInt8) (n : Nat) : Bool := decide ((l.drop (4 + n)).take 8 = le8 (crc (l.take (4 + n))))
/-- What is framed at the beginning, how many bytes the frame has, and what it is. -/
def openB (l : List UInt8) : List UInt8 × Nat × Nat :=
  if l.length < 4 then ([], 0, 1) else if 65536 < told l then ([], 0, 2) else if l.length < told l + 12 then ([], 0, 1) else if wholeB l (told l) then ((l.drop 4).take (told l), told l + 12, 0) else ([], 0, 2)
def openE (r : List UInt8 × Nat × Nat) : Ending := .returned (.tuple #[.string ⟨r.1.toArray⟩, .int .i64 (r.2.1 : Int), .int .i64 (r.2.2 : Int)])
theorem ext_list (s : ByteArray) (i j : Nat) : (s.extract i j).data.toList = (s.data.toList.drop i).take (j - i) := by
  simp
set_option maxHeartbeats 400000 in
theorem clone_str (s : ByteArray) (w : World) (hs : s.size ≤ 281474976710656) : Calls Tryd.prog 19 #[.string s] w fun e w' => e = .returned (.string s) ∧ Below w.heap.size w w' := by
  go_enter Tryd.func19, Tryd.ntmps19
  go_wp2_with fail
  refine (Tryd.stringslite_Clone s _ hs).mono ?_
  rintro e w1 ⟨rfl, hb1⟩
  go_wp2
  go_ret
  exact ⟨rfl, hb1⟩
set_option maxRecDepth 100000 in
set_option maxHeartbeats 1000000 in
theorem seal_open (s : ByteArray) (hs : s.size ≤ 1073741824) (w : World) (hN : Nibs w) :
    Calls Tryd.prog 9 #[.string s] w fun e w' => e = openE (openB s.data.toList) ∧ Below w.heap.size w w' := by
  obtain ⟨R, hR⟩ : ∃ R, R = openB s.data.toList := ⟨_, rfl⟩
  rw [← hR]
  have hsl : s.data.toList.length = s.size := by rw [Lib.size_eq]
  have HN := Lib.hid hN
  clear hN
  unfold openB at hR
  rw [hsl] at hR
  by_cases h4 : s.size < 4
  · have h4' : decide ((s.size : Int) < 4) = true := decide_eq_true (by omega)
    rw [if_pos h4] at hR
    have HR := Lib.hid hR
    clear hR
    go_enter Tryd.func9, Tryd.ntmps9
    go_wp2
    go_ret3
    exact ⟨by rw [HR.out]; rfl, Below.refl _ _⟩
  · have h4' : decide ((s.size : Int) < 4) = false := decide_eq_false (by omega)
    have h4i : (4 : Int) ≤ (s.size : Int) := by omega
    rw [if_neg h4] at hR
    obtain ⟨H, hH⟩ : ∃ H : ByteArray, H = s.extract 0 4 := ⟨_, rfl⟩
    have hHs : H.size = 4 := by rw [hH, Lib.size_eq, ext_list, List.length_take, List.length_drop]; omega
    have htold := seal_told H hHs w
    have e : num4 (H.data.toList.getD 0 0) (H.data.toList.getD 1 0) (H.data.toList.getD 2 0) (H.data.toList.getD 3 0) = told s.data.toList := by
      rw [hH, ext_list]
      simp [told, List.getD_eq_getElem?_getD]
    rw [e] at htold
    clear e
    obtain ⟨n, hn⟩ : ∃ n, n = told s.data.toList := ⟨_, rfl⟩
    rw [← hn] at hR htold
    have hnb : n < 4294967296 := by
      rw [hn]; unfold told num4
      have a := (s.data.toList.getD 0 0).toNat_lt
      have b := (s.data.toList.getD 1 0).toNat_lt
      have c := (s.data.toList.getD 2 0).toNat_lt
      have d := (s.data.toList.getD 3 0).toNat_lt
      omega
    have HTO := Lib.hid htold
    have hHe := hH.symm
    have HHS := Lib.hid hHs
    clear hHs htold hn hH hsl
    by_cases h6 : 65536 < n
    · have h6' : decide ((65536 : Int) < (n : Int)) = true := decide_eq_true (by omega)
      rw [if_pos h6] at hR
      have HR := Lib.hid hR
      clear hR
      go_enter Tryd.func9, Tryd.ntmps9
      go_wp2_with fail
      refine HTO.out.mono ?_
      rintro e w1 ⟨rfl, rfl⟩
      go_wp2
      go_ret3
      exact ⟨by rw [HR.out]; rfl, Below.refl _ _⟩
    · have h6' : decide ((65536 : Int) < (n : Int)) = false := decide_eq_false (by omega)
      rw [if_neg h6] at hR
      by_cases h12 : s.size < n + 12
      · have h12' : decide ((s.size : Int) < 4 + (n : Int) + 8) = true := decide_eq_true (by omega)
        rw [if_pos h12] at hR
        have HR := Lib.hid hR
        clear hR
        go_enter Tryd.func9, Tryd.ntmps9
        go_wp2_with fail
        refine HTO.out.mono ?_
        rintro e w1 ⟨rfl, rfl⟩
        go_wp2
        go_ret3
        exact ⟨by rw [HR.out]; rfl, Below.refl _ _⟩
      · have h12' : decide ((s.size : Int) < 4 + (n : Int) + 8) = false := decide_eq_false (by omega)
        rw [if_neg h12] at hR
        have HR := Lib.hid hR
        clear hR
        go_enter Tryd.func9, Tryd.ntmps9
        go_wp2_with fail
        refine HTO.out.mono ?_
        rintro e w1 ⟨rfl, rfl⟩
        go_wp2_with fail
        have k1 : IntKind.i64.wrap (4 + (n : Int) + 8) = 4 + (n : Int) + 8 := IntWalk.i64_in _ ⟨by omega, by omega⟩
        have k2 : (4 + (n : Int)).toNat = 4 + n := by omega
        have k3 : (4 + (n : Int) + 8).toNat = 4 + n + 8 := by omega
        have k4 : (0 : Int) ≤ 4 + (n : Int) := by omega
        have k5 : 4 + (n : Int) ≤ 4 + (n : Int) + 8 := by omega
        have k6 : 4 + (n : Int) + 8 ≤ (s.size : Int) := by omega
        have k7 : 4 + (n : Int) ≤ (s.size : Int) := by omega
        have k8 : 4 + n ≤ s.size := by omega
        have k9 : 4 + n + 8 ≤ s.size := by omega
        obtain ⟨X, hX⟩ : ∃ X : ByteArray, X = s.extract 0 (4 + n) := ⟨_, rfl⟩
        have hXs : X.size ≤ 1073741824 := by rw [hX, Lib.size_eq, ext_list, List.length_take, List.length_drop]; have := Lib.size_eq s; omega
        have hXl : X.data.toList = s.data.toList.take (4 + n) := by rw [hX, ext_list]; simp
        have hA : Below w.heap.size w (w.alloc (.cells #[.string X] 9)).drew := ((Below.refl _ _).alloc (Nat.le_refl _) _).drew
        have hof := seal_of (some ⟨w.heap.size, 0, none⟩) 1 1 [X] (w.alloc (.cells #[.string X] 9)).drew rfl (by omega) (fun s hs => by simp at hs; subst hs; unfold maxLen; omega) (one_text w X) (HN.out.below hA)
        rw [show joinB [X] = s.data.toList.take (4 + n) by simp [joinB, hXl]] at hof
        have hC := crc_lt (s.data.toList.take (4 + n))
        have HW := HR.out
        unfold wholeB at HW
        generalize crc (s.data.toList.take (4 + n)) = C at hof hC HW
        have HOF := Lib.hid hof
        have hXe := hX.symm
        have HR := Lib.hid HW
        clear hof hX HW hXl
        obtain ⟨E, hE⟩ : ∃ E : ByteArray, E = s.extract (4 + n) (4 + n + 8) := ⟨_, rfl⟩
        have hEl : E.toList = (s.data.toList.drop (4 + n)).take 8 := by rw [hE, ByteArray.toList_eq, ext_list, show 4 + n + 8 - (4 + n) = 8 by omega]
        have hEe := hE.symm
        by_cases hw : (s.data.toList.drop (4 + n)).take 8 = le8 C
        · have hb : (E.toList == le8 C) = true := by rw [hEl, hw]; simp
          have HR1 : Hid (R = ((s.data.toList.drop 4).take n, n + 12, 0)) := by rw [HR.out, decide_eq_true hw, if_pos rfl]; exact rfl
          clear HR hw hE hEl
          go_region_with
            (first
              | (go_at_call 7; refine HOF.out.mono ?_; rintro e w1 ⟨rfl, hb1⟩)
              | (go_at_call 17; refine (seal_tail C hC _).mono ?_; rintro e w2 ⟨rfl, hb2⟩))
          all_goals
            have hB2 := Below.thenB (Below.thenB hA (by simp) hb1) (by have := hb1.size; simp at this; omega) hb2
            obtain ⟨D, hD⟩ : ∃ D : ByteArray, D = s.extract 4 (4 + n) := ⟨_, rfl⟩
            have hDe := hD.symm
            have hDl : D.data.toList = (s.data.toList.drop 4).take n := by rw [hD, ext_list, show 4 + n - 4 = n by omega]
            have hDs : D.size ≤ 281474976710656 := by rw [Lib.size_eq, hDl, List.length_take, List.length_drop]; have := Lib.size_eq s; omega
            have hDd : (D : ByteArray) = ⟨((s.data.toList.drop 4).take n).toArray⟩ := by rw [← hDl]
            have HD := Lib.hid hDd
            have j1 : (4 : Int) ≤ 4 + (n : Int) := by omega
            clear hD hDl hDd
            go_wp2_with fail
            refine (clone_str D _ hDs).mono ?_
            rintro e w3 ⟨rfl, hb3⟩
            have hB3 := Below.thenB hB2 hB2.size hb3
            go_wp2
            go_ret3
            exact ⟨by rw [HR1.out, HD.out]; unfold openE; simp only []; rw [show ((n + 12 : Nat) : Int) = 4 + (n : Int) + 8 by omega]; rfl, hB3⟩
        · have hb : (E.toList == le8 C) = false := by rw [hEl]; exact beq_false_of_ne hw
          have HR1 : Hid (R = ([], 0, 2)) := by rw [HR.out, decide_eq_false hw]; exact rfl
          clear HR hw hE hEl
          go_region_with
            (first
              | (go_at_call 7; refine HOF.out.mono ?_; rintro e w1 ⟨rfl, hb1⟩)
              | (go_at_call 17; refine (seal_tail C hC _).mono ?_; rintro e w2 ⟨rfl, hb2⟩))
          all_goals
            have hB2 := Below.thenB (Below.thenB hA (by simp) hb1) (by have := hb1.size; simp at this; omega) hb2
            go_wp2
            go_ret3
            exact ⟨by rw [HR1.out]; rfl, hB2⟩
end Go.Proofs.YtfoejfneggcncabDoor
