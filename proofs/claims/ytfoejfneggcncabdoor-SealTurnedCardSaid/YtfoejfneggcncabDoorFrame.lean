/- Contracts of frames: Frame, told, Open, All. -/
import Derived.Test.YtfoejfneggcncabDoorStep
import Derived.Test.YtfoejfneggcncabDoorShelf
import Derived.Lib.Join
import Derived.IntWalk
namespace Go.Proofs.YtfoejfneggcncabDoor
open Go.RowKit
/-- A frame's bytes. -/
def frameB (l : List UInt8) : List UInt8 := hd4 l.length ++ l ++ le8 (crc (hd4 l.length ++ l))
theorem joinB_of : ∀ ss : List ByteArray, Lib.join (ss.map (·.data.toList)) [] = joinB ss
  | [] => rfl
  | [s] => by simp [Lib.join, joinB]
  | s :: t :: r => by
    have ih := joinB_of (t :: r)
    simp only [List.map_cons, Lib.join, List.intercalate, List.intersperse] at ih ⊢
    have e : joinB (s :: t :: r) = s.data.toList ++ joinB (t :: r) := by simp [joinB]
    rw [e, ← ih]; simp
theorem seal_join (a : Option Addr) (m c : Nat) (ss : List ByteArray) (w : World) (hm : ss.length = m) (hl : m ≤ 1048576) (hc : m ≤ c) (hlen : (joinB ss).length ≤ 1048576) (hT : Texts w a ss) :
    Calls Tryd.prog 16 #[.slice a m c, .string ⟨#[]⟩] w fun e w' => e = .returned (.string ⟨(joinB ss).toArray⟩) ∧ Below w.heap.size w w' := by
  subst hm
  rcases hT with rfl | ⟨hn, b, o, rfl, hb, hcell⟩
  · refine (Tryd.strings_Join_none a c ⟨#[]⟩ w).mono ?_
    rintro e w' ⟨rfl, rfl⟩
    exact ⟨rfl, Below.refl _ _⟩
  · have := Tryd.strings_Join b o c ss ⟨#[]⟩ w (fun j x hx => hcell j x hx) hb (by omega) hc (by have := joinB_of ss; show (Lib.join _ []).length ≤ _; rw [this]; omega)
    rw [show (Lib.join (ss.map (·.data.toList)) (⟨#[]⟩ : ByteArray).data.toList) = joinB ss from joinB_of ss] at this
    exact this
theorem str_two (a b : List UInt8) : (⟨a.toArray⟩ : ByteArray) ++ ⟨b.toArray⟩ = ⟨(a ++ b).toArray⟩ := by
  apply ByteArray.ext
  simp
theorem ba_len (l : List UInt8) : (⟨l.toArray⟩ : ByteArray).size = l.length := by show l.toArray.size = _; simp
theorem joinB_le (ss : List ByteArray) (k : Nat) : (joinB (ss.take k)).length ≤ (joinB ss).length := by
  have e : joinB ss = joinB (ss.take k) ++ joinB (ss.drop k) := by
    rw [joinB, joinB, joinB, ← List.flatMap_append, List.take_append_drop]
  rw [e, List.length_append]; omega
theorem one_text (w : World) (x : ByteArray) : Texts (w.alloc (.cells #[.string x] 9)) (some ⟨w.heap.size, 0, none⟩) [x] := by
  refine .inr ⟨by simp, w.heap.size, 0, rfl, by simp, fun i s hi => ?_⟩
  cases i with
  | zero => simp at hi; subst hi; go_simp
  | succ i => simp at hi
set_option maxRecDepth 100000 in
set_option maxHeartbeats 1000000 in
theorem seal_frame (a : Option Addr) (m c : Nat) (ss : List ByteArray) (w : World) (hm : ss.length = m) (hl : m ≤ 1048576) (hmc : m ≤ c) (hlen : (joinB ss).length ≤ 65536) (hT : Texts w a ss) (hN : Nibs w) :
    Calls Tryd.prog 8 #[.slice a m c] w fun e w' => e = .returned (.tuple #[.string ⟨(frameB (joinB ss)).toArray⟩, .bool true]) ∧ Below w.heap.size w w' := by
  have HM := Lib.hid hm
  have HN := Lib.hid hN
  have HT := Lib.hid hT
  have HLE := Lib.hid (joinB_le ss)
  clear hm hN hT
  go_enter Tryd.func8, Tryd.ntmps8
  go_wp2
  go_loop [4, 10] (fun z i => ∃ k : Nat, k ≤ m ∧ i = .int .i64 (k : Int) ∧ z = .int .i64 (((joinB (ss.take k)).length : Nat) : Int)) (fun _ i => m - (intOf i).toNat)
  case atStart => exact ⟨0, Nat.zero_le _, rfl, by simp [joinB]⟩
  case round =>
    obtain ⟨k, hk, rfl, rfl⟩ := hrel
    by_cases hlt : k < m
    · have hlt' : decide ((k : Int) < (m : Int)) = true := decide_eq_true (by omega)
      rcases HT.out with hv0 | ⟨hnn, bs, o, rfl, hbs, hcz⟩
      · have := HM.out
        rw [hv0] at this
        simp at this
        omega
      obtain ⟨s, hsk⟩ : ∃ s, ss[k]? = some s := ⟨_, List.getElem?_eq_getElem (by rw [HM.out]; exact hlt)⟩
      have hc := hcz k s hsk
      have hts : ss.take (k + 1) = ss.take k ++ [s] := by
        rw [List.take_add_one, hsk]; rfl
      have hn : (joinB (ss.take (k + 1))).length = (joinB (ss.take k)).length + s.size := by rw [hts, joinB_snoc, List.length_append, ← Lib.size_eq]
      have hle := HLE.out (k + 1)
      rw [hn] at hle
      have HNX := Lib.hid hn
      clear hcz hsk hts hn
      generalize (joinB (ss.take k)).length = T at *
      have hle1 : ¬ (65536 - (T : Int)) < (s.size : Int) := by omega
      have hle2 : decide ((65536 - (T : Int)) < (s.size : Int)) = false := decide_eq_false hle1
      go_wp2
      go_round
      case rel => exact ⟨k + 1, by omega, by go_num, by rw [HNX.out]; go_num⟩
      case measure => simp [intOf]; omega
    · have hlt' : decide ((k : Int) < (m : Int)) = false := decide_eq_false (by omega)
      have he : ss.take k = ss := List.take_of_length_le (by rw [HM.out]; omega)
      rw [he]
      clear he
      obtain ⟨L, hL⟩ : ∃ L, L = joinB ss := ⟨_, rfl⟩
      rw [← hL] at hlen ⊢
      have HL := Lib.hid hL
      clear hL
      go_wp2_with fail
      refine (seal_head L.length (by omega) _).mono ?_
      rintro e w1 ⟨rfl, hb1⟩
      go_wp2_with fail
      refine (seal_join a m c ss _ HM.out hl hmc (by rw [← HL.out]; omega) (HT.out.below hb1)).mono ?_
      rintro e w2 ⟨rfl, hb2⟩
      rw [← HL.out]
      have hB2 := Below.thenB hb1 hb1.size hb2
      obtain ⟨X, hX⟩ : ∃ X : ByteArray, X = ⟨(hd4 L.length).toArray⟩ := ⟨_, rfl⟩
      obtain ⟨J, hJ⟩ : ∃ J : ByteArray, J = ⟨L.toArray⟩ := ⟨_, rfl⟩
      rw [← hX, ← hJ]
      have hXs : X.size ≤ 4 := by rw [hX, ba_len]; exact Nat.le_refl _
      have hJs : J.size ≤ 65536 := by rw [hJ, ba_len]; exact hlen
      obtain ⟨Y, hY⟩ : ∃ Y : ByteArray, Y = X ++ J := ⟨_, rfl⟩
      have hYl : Y.data.toList = hd4 L.length ++ L := by rw [hY, hX, hJ, str_two]
      have hYs : Y.size ≤ 65540 := by rw [Lib.size_eq, hYl, List.length_append]; have : (hd4 L.length).length = 4 := rfl; omega
      have HYL := Lib.hid hYl
      have hYe := hY.symm
      clear hX hJ hYl hY
      have hA : Below w2.heap.size w2 (w2.alloc (.cells #[.string Y] 9)) := (Below.refl _ _).alloc (Nat.le_refl _) _
      have hof := seal_of (some ⟨w2.heap.size, 0, none⟩) 1 1 [Y] (w2.alloc (.cells #[.string Y] 9)) rfl (by omega) (fun s hs => by simp at hs; subst hs; unfold maxLen; omega) (one_text w2 Y) ((HN.out.below hB2).below hA)
      have HOF := Lib.hid hof
      clear hof
      go_wp2_with fail
      refine HOF.out.mono ?_
      rintro e w3 ⟨rfl, hb3⟩
      have hB3 := Below.thenB (Below.thenB hB2 hB2.size hA) (by have := hB2.size; simp; omega) hb3
      rw [show joinB [Y] = hd4 L.length ++ L by simp [joinB, HYL.out]]
      go_wp2_with fail
      refine (seal_tail _ (crc_lt _) _).mono ?_
      rintro e w4 ⟨rfl, hb4⟩
      have hB4 := Below.thenB hB3 hB3.size hb4
      obtain ⟨Z, hZ⟩ : ∃ Z : ByteArray, Z = ⟨(le8 (crc (hd4 L.length ++ L))).toArray⟩ := ⟨_, rfl⟩
      rw [← hZ]
      have hZs : Z.size ≤ 8 := by rw [hZ, ba_len]; exact Nat.le_refl _
      have hF : Y ++ Z = ⟨(frameB L).toArray⟩ := by
        apply ByteArray.ext
        have e1 : Y.data = (hd4 L.length ++ L).toArray := by rw [← HYL.out]
        show (Y ++ Z).data = _
        rw [ByteArray.data_append, e1, hZ]
        simp [frameB]
      have HF := Lib.hid hF
      clear hF hZ
      go_wp2
      go_ret2
      exact ⟨by rw [HF.out, HL.out]; rfl, hB4⟩
set_option maxRecDepth 100000 in
set_option maxHeartbeats 1000000 in
theorem seal_frame_no (a : Option Addr) (m c : Nat) (ss : List ByteArray) (w : World) (hm : ss.length = m) (hl : m ≤ 1048576) (hz : ∀ s ∈ ss, s.size ≤ maxLen) (hlen : 65536 < (joinB ss).length) (hT : Texts w a ss) :
    Calls Tryd.prog 8 #[.slice a m c] w fun e w' => e = .returned (.tuple #[.string ⟨#[]⟩, .bool false]) ∧ w = w' := by
  have HM := Lib.hid hm
  have HT := Lib.hid hT
  have HZ := Lib.hid hz
  clear hm hT hz
  go_enter Tryd.func8, Tryd.ntmps8
  go_wp2
  go_loop [4, 10] (fun z i => ∃ k : Nat, k ≤ m ∧ i = .int .i64 (k : Int) ∧ z = .int .i64 (((joinB (ss.take k)).length : Nat) : Int) ∧ (joinB (ss.take k)).length ≤ 65536) (fun _ i => m - (intOf i).toNat)
  case atStart => exact ⟨0, Nat.zero_le _, rfl, by simp [joinB], by simp [joinB]⟩
  case round =>
    obtain ⟨k, hk, rfl, rfl, hT6⟩ := hrel
    by_cases hlt : k < m
    · have hlt' : decide ((k : Int) < (m : Int)) = true := decide_eq_true (by omega)
      rcases HT.out with hv0 | ⟨hnn, bs, o, rfl, hbs, hcz⟩
      · have := HM.out
        rw [hv0] at this
        simp at this
        omega
      obtain ⟨s, hsk⟩ : ∃ s, ss[k]? = some s := ⟨_, List.getElem?_eq_getElem (by rw [HM.out]; exact hlt)⟩
      have hc := hcz k s hsk
      have hsz := HZ.out s (List.mem_of_getElem? hsk)
      unfold maxLen at hsz
      have hts : ss.take (k + 1) = ss.take k ++ [s] := by
        rw [List.take_add_one, hsk]; rfl
      have hn : (joinB (ss.take (k + 1))).length = (joinB (ss.take k)).length + s.size := by rw [hts, joinB_snoc, List.length_append, ← Lib.size_eq]
      have HNX := Lib.hid hn
      clear hcz hsk hts hn
      generalize (joinB (ss.take k)).length = T at *
      by_cases hle1 : (65536 - (T : Int)) < (s.size : Int)
      · have hle2 : decide ((65536 - (T : Int)) < (s.size : Int)) = true := decide_eq_true hle1
        go_wp2
        go_ret2
        exact ⟨rfl, rfl⟩
      · have hle2 : decide ((65536 - (T : Int)) < (s.size : Int)) = false := decide_eq_false hle1
        go_wp2
        go_round
        case rel => exact ⟨k + 1, by omega, by go_num, by rw [HNX.out]; go_num, by rw [HNX.out]; omega⟩
        case measure => simp [intOf]; omega
    · exfalso
      have he : ss.take k = ss := List.take_of_length_le (by rw [HM.out]; omega)
      rw [he] at hT6
      omega
/-- A number of four bytes. -/
def num4 (a b c d : UInt8) : Nat := 16777216 * a.toNat + 65536 * b.toNat + 256 * c.toNat + d.toNat
theorem or_i64 (A c : Nat) (hA : A < 4294967296) (hc : c < 256) : bits .or .i64 ((A : Int) * 256) (c : Int) = ((A * 256 + c : Nat) : Int) := by
  have e : (A : Int) * 256 = ((A * 256 : Nat) : Int) := by omega
  have h1 : (BitVec.ofInt 64 ((A * 256 : Nat) : Int)).toNat = A * 256 := by
    rw [BitVec.ofInt_natCast, BitVec.toNat_ofNat]; exact Nat.mod_eq_of_lt (by omega)
  have h2 : (BitVec.ofInt 64 (c : Int)).toNat = c := by
    rw [BitVec.ofInt_natCast, BitVec.toNat_ofNat]; exact Nat.mod_eq_of_lt (by omega)
  rw [e]
  show IntKind.i64.wrap ((BitVec.ofInt 64 ((A * 256 : Nat) : Int) ||| BitVec.ofInt 64 (c : Int)).toNat : Int) = _
  rw [BitVec.toNat_or, h1, h2, nat_join 8 _ _ (by omega) (by omega)]
  exact IntWalk.i64_in _ ⟨by omega, by omega⟩
set_option maxRecDepth 100000 in
set_option maxHeartbeats 1000000 in
theorem seal_told (s : ByteArray) (hs : s.size = 4) (w : World) :
    Calls Tryd.prog 18 #[.string s] w fun e w' => e = .returned (.int .i64 ((num4 (s.data.toList.getD 0 0) (s.data.toList.getD 1 0) (s.data.toList.getD 2 0) (s.data.toList.getD 3 0) : Nat) : Int)) ∧ w = w' := by
  have h0 : 0 < s.size := by omega
  have h1 : 1 < s.size := by omega
  have h2 : 2 < s.size := by omega
  have h3 : 3 < s.size := by omega
  have b0 := s[0].toNat_lt
  have b1 := s[1].toNat_lt
  have b2 := s[2].toNat_lt
  have b3 := s[3].toNat_lt
  have hsl : s.data.toList.length = s.size := by rw [Lib.size_eq]
  have g0 : s.data.toList.getD 0 0 = s[0] := by rw [List.getD_eq_getElem?_getD, List.getElem?_eq_getElem (by omega)]; rfl
  have g1 : s.data.toList.getD 1 0 = s[1] := by rw [List.getD_eq_getElem?_getD, List.getElem?_eq_getElem (by omega)]; rfl
  have g2 : s.data.toList.getD 2 0 = s[2] := by rw [List.getD_eq_getElem?_getD, List.getElem?_eq_getElem (by omega)]; rfl
  have g3 : s.data.toList.getD 3 0 = s[3] := by rw [List.getD_eq_getElem?_getD, List.getElem?_eq_getElem (by omega)]; rfl
  rw [g0, g1, g2, g3]
  clear g0 g1 g2 g3 hsl
  have HS := Lib.hid hs
  clear hs
  have o0 := or_i64 0 s[0].toNat (by omega) b0
  rw [show ((0 : Nat) : Int) * 256 = 0 from rfl, Nat.zero_mul, Nat.zero_add] at o0
  have o1 := or_i64 s[0].toNat s[1].toNat (by omega) b1
  obtain ⟨T1, hT1⟩ : ∃ T1, T1 = s[0].toNat * 256 + s[1].toNat := ⟨_, rfl⟩
  rw [← hT1] at o1
  have o2 := or_i64 T1 s[2].toNat (by omega) b2
  obtain ⟨T2, hT2⟩ : ∃ T2, T2 = T1 * 256 + s[2].toNat := ⟨_, rfl⟩
  rw [← hT2] at o2
  have o3 := or_i64 T2 s[3].toNat (by omega) b3
  obtain ⟨T3, hT3⟩ : ∃ T3, T3 = T2 * 256 + s[3].toNat := ⟨_, rfl⟩
  rw [← hT3] at o3
  have hr : num4 s[0] s[1] s[2] s[3] = T3 := by unfold num4; omega
  rw [hr]
  have bT1 : T1 < 65536 := by omega
  have bT2 : T2 < 16777216 := by omega
  have bT3 : T3 < 4294967296 := by omega
  clear hr hT1 hT2 hT3
  go_enter Tryd.func18, Tryd.ntmps18
  go_wp2
  refine wp_loop_rounds 5 ?_
  rw [rounds_succ]
  go_wp2
  rw [rounds_succ]
  go_wp2
  rw [rounds_succ]
  go_wp2
  rw [rounds_succ]
  go_wp2
  rw [rounds_succ]
  go_wp2
  go_ret
  exact ⟨rfl, rfl⟩
end Go.Proofs.YtfoejfneggcncabDoor
