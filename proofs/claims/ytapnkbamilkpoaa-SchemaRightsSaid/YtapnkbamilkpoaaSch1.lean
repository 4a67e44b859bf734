/- Contracts of schema: between, letter, digit, rightKind, named, Named. -/
import Derived.Test.YtapnkbamilkpoaaTexts
import Derived.Lib.AtoiErrMem
import Derived.Lib.CutLaws
namespace Go.Proofs.Ytapnkbamilkpoaa
open Go.RowKit
theorem between_any (lo n hi : Int) (w : World) : Calls Try.prog 41 #[.int .i64 lo, .int .i64 n, .int .i64 hi] w fun e w' => e = .returned (.bool (decide (lo ≤ n) && decide (n ≤ hi))) ∧ w = w' := by
  by_cases h1 : lo ≤ n
  · have d1 : decide (lo ≤ n) = true := decide_eq_true h1
    rw [d1]
    generalize hr : decide (n ≤ hi) = r
    go_enter Try.func41, Try.ntmps41
    go_wp2
    go_ret
    exact ⟨by simp, rfl⟩
  · have d1 : decide (lo ≤ n) = false := decide_eq_false h1
    rw [d1]
    go_enter Try.func41, Try.ntmps41
    go_wp2
    go_ret
    exact ⟨rfl, rfl⟩
theorem kind_any (n : Int) (w : World) : Calls Try.prog 37 #[.int .i64 n] w fun e w' => e = .returned (.bool (decide (1 ≤ n) && decide (n ≤ 3))) ∧ w = w' := by
  have HB := Lib.hid (between_any 1 n 3 w)
  generalize (decide (1 ≤ n) && decide (n ≤ 3)) = r at HB ⊢
  go_enter Try.func37, Try.ntmps37
  go_wp2_with fail
  refine HB.out.mono ?_
  rintro e w1 ⟨rfl, hE⟩
  subst hE
  go_wp2
  go_ret
  exact ⟨rfl, rfl⟩
def letterB (c : UInt8) : Bool := decide (97 ≤ c.toNat) && decide (c.toNat ≤ 122)
def digitB (c : UInt8) : Bool := decide (48 ≤ c.toNat) && decide (c.toNat ≤ 57)
def nameB (c : UInt8) : Bool := letterB c || digitB c || decide (c.toNat = 95)
theorem letter_any (c : UInt8) (w : World) : Calls Try.prog 60 #[.int .u8 (c.toNat : Int)] w fun e w' => e = .returned (.bool (letterB c)) ∧ w = w' := by
  unfold letterB
  have hc := c.toNat_lt
  generalize c.toNat = n at hc ⊢
  by_cases h1 : 97 ≤ n
  · have d1 : decide ((97 : Int) ≤ (n : Int)) = true := decide_eq_true (by omega)
    rw [decide_eq_true h1]
    by_cases h2 : n ≤ 122
    · have d2 : decide ((n : Int) ≤ 122) = true := decide_eq_true (by omega)
      rw [decide_eq_true h2]
      go_enter Try.func60, Try.ntmps60
      go_wp2
      go_ret
      exact ⟨rfl, rfl⟩
    · have d2 : decide ((n : Int) ≤ 122) = false := decide_eq_false (by omega)
      rw [decide_eq_false h2]
      go_enter Try.func60, Try.ntmps60
      go_wp2
      go_ret
      exact ⟨rfl, rfl⟩
  · have d1 : decide ((97 : Int) ≤ (n : Int)) = false := decide_eq_false (by omega)
    rw [decide_eq_false h1]
    go_enter Try.func60, Try.ntmps60
    go_wp2
    go_ret
    exact ⟨rfl, rfl⟩
theorem digit_any (c : UInt8) (w : World) : Calls Try.prog 61 #[.int .u8 (c.toNat : Int)] w fun e w' => e = .returned (.bool (digitB c)) ∧ w = w' := by
  unfold digitB
  have hc := c.toNat_lt
  generalize c.toNat = n at hc ⊢
  by_cases h1 : 48 ≤ n
  · have d1 : decide ((48 : Int) ≤ (n : Int)) = true := decide_eq_true (by omega)
    rw [decide_eq_true h1]
    by_cases h2 : n ≤ 57
    · have d2 : decide ((n : Int) ≤ 57) = true := decide_eq_true (by omega)
      rw [decide_eq_true h2]
      go_enter Try.func61, Try.ntmps61
      go_wp2
      go_ret
      exact ⟨rfl, rfl⟩
    · have d2 : decide ((n : Int) ≤ 57) = false := decide_eq_false (by omega)
      rw [decide_eq_false h2]
      go_enter Try.func61, Try.ntmps61
      go_wp2
      go_ret
      exact ⟨rfl, rfl⟩
  · have d1 : decide ((48 : Int) ≤ (n : Int)) = false := decide_eq_false (by omega)
    rw [decide_eq_false h1]
    go_enter Try.func61, Try.ntmps61
    go_wp2
    go_ret
    exact ⟨rfl, rfl⟩
def namedB (l : List UInt8) : Bool := decide (1 ≤ l.length) && decide (l.length ≤ 16) && letterB (l.headD 0) && l.all nameB
set_option maxRecDepth 100000 in
set_option maxHeartbeats 2000000 in
theorem named_any (s : ByteArray) (w : World) : Calls Try.prog 42 #[.string s] w fun e w' => e = .returned (.bool (namedB s.data.toList)) ∧ Below w.heap.size w w' := by
  obtain ⟨R, hR⟩ : ∃ R, R = namedB s.data.toList := ⟨_, rfl⟩
  rw [← hR]
  unfold namedB at hR
  have hl : s.data.toList.length = s.size := Array.length_toList
  obtain ⟨l, hls⟩ : ∃ l, l = s.data.toList := ⟨_, rfl⟩
  rw [← hls] at hR hl
  by_cases h0 : s.size = 0
  · have hs : s = ⟨#[]⟩ := by
      cases s with | mk d => congr 1; exact Array.eq_empty_of_size_eq_zero h0
    have hrf : R = false := by rw [hR, hl, h0]; rfl
    have HT := Lib.hid hrf
    clear hR hrf hl hls
    subst hs
    go_enter Try.func42, Try.ntmps42
    go_wp2
    go_ret
    exact ⟨by rw [HT.out]; rfl, Below.refl _ _⟩
  have hne : ¬ s = ⟨#[]⟩ := by rintro rfl; exact h0 rfl
  have hnl : ¬ s.toList = (⟨#[]⟩ : ByteArray).toList := fun e => by
    rw [ByteArray.toList_eq, ByteArray.toList_eq] at e
    have := congrArg List.length e
    rw [Array.length_toList] at this
    exact h0 (by simpa using this)
  have hE : s.toList.isEmpty = false := by
    rw [ByteArray.toList_eq]
    cases hx : s.data.toList with
    | nil => have := congrArg List.length hx; rw [Array.length_toList] at this; exact absurd (by simpa using this) h0
    | cons => rfl
  clear hne hnl
  by_cases h16 : 16 < s.size
  · have d1 : decide ((16 : Int) < (s.size : Int)) = true := decide_eq_true (by omega)
    have hrf : R = false := by rw [hR, hl, decide_eq_false (by omega : ¬ s.size ≤ 16)]; simp
    have HT := Lib.hid hrf
    clear hR hrf hl hls
    go_enter Try.func42, Try.ntmps42
    go_wp2
    go_ret
    exact ⟨by rw [HT.out]; rfl, Below.refl _ _⟩
  have d1 : decide ((16 : Int) < (s.size : Int)) = false := decide_eq_false (by omega)
  have hp : 0 < s.size := by omega
  have hhd : l.headD 0 = s[0] := by
    rw [hls]
    have h1 : 0 < s.data.toList.length := by rw [Array.length_toList]; exact hp
    have h2 : s.data.toList[0]? = some s[0] := by
      rw [List.getElem?_eq_getElem h1]; simp [ByteArray.getElem_eq_getElem_data]
    cases hx : s.data.toList with
    | nil => rw [hx] at h1; simp at h1
    | cons c r => rw [hx] at h2; simpa using h2
  have HLT := Lib.hid (letter_any s[0] w)
  rw [decide_eq_true (by omega : 1 ≤ l.length), decide_eq_true (by omega : l.length ≤ 16), hhd] at hR
  simp only [Bool.true_and] at hR
  generalize hlb : letterB s[0] = lb at HLT hR
  cases lb with
  | false =>
    have HT := Lib.hid (show R = false by rw [hR]; rfl)
    clear hR hl hls hlb hhd
    go_enter Try.func42, Try.ntmps42
    go_wp2_with fail
    refine HLT.out.mono ?_
    rintro e w1 ⟨rfl, hE⟩
    subst hE
    go_wp2
    go_ret
    exact ⟨by rw [HT.out]; rfl, Below.refl _ _⟩
  | true =>
    rw [Bool.true_and] at hR
    have hcv := Lib.run_convert_string_bytes w 9 91 5 s Try.underlying9 Try.underlying91 Try.underlying5
    obtain ⟨W1, hW1⟩ : ∃ W1, W1 = Lib.bytesWorld w 5 s := ⟨_, rfl⟩
    have hB : ∀ j, j < s.size → W1.cell? ⟨w.heap.size, j, none⟩ = some (.int .u8 (s.data.toList.getD j 0).toNat) := fun j hj => by rw [hW1]; exact Lib.bytesWorld_cell w 5 s j hj
    have hbw : Below w.heap.size w W1 := by rw [hW1]; exact Lib.bytesWorld_below w 5 s
    rw [← hW1] at hcv
    rw [← hls] at hB
    have HB := Lib.hid hB
    have HBW := Lib.hid hbw
    have HR := Lib.hid hR
    clear hB hbw hW1 hR hls hlb hhd
    go_enter Try.func42, Try.ntmps42
    go_wp2_with fail
    refine HLT.out.mono ?_
    rintro e w1 ⟨rfl, hE⟩
    subst hE
    go_wp2
    go_loopw [21] (fun vi wr => ∃ k : Nat, vi = .int .i64 (k : Int) ∧ wr = W1 ∧ k ≤ s.size ∧ Hid (R = (l.drop k).all nameB)) (fun vi _ => s.size - (intOf vi).toNat)
    case atStart => exact ⟨0, rfl, rfl, Nat.zero_le _, HR⟩
    case round =>
      obtain ⟨k, rfl, rfl, hk, hh⟩ := hrel
      clear hcv
      by_cases hkn : k < s.size
      · have hlt' : decide ((k : Int) < (s.size : Int)) = true := decide_eq_true (by omega)
        have hc := HB.out k hkn
        have hh1 := hh.out
        rw [List.drop_eq_getElem_cons (by omega), List.all_cons] at hh1
        have hget : l.getD k 0 = l[k]'(by omega) := by simp [List.getD, List.getElem?_eq_getElem (show k < l.length by omega)]
        rw [hget] at hc
        generalize l[k]'(by omega) = c at hc hh1
        have hc256 : c.toNat < 256 := c.toNat_lt
        have HLc := Lib.hid (letter_any c wr)
        have HDc := Lib.hid (digit_any c wr)
        unfold nameB at hh1
        have hh2 : R = ((letterB c || digitB c || decide (c.toNat = 95)) && (l.drop (k + 1)).all nameB) := hh1
        clear hget hh hh1
        generalize letterB c = lc at HLc hh2
        generalize digitB c = dc at HDc hh2
        cases lc with
        | true =>
          have hh := Lib.hid (show R = (l.drop (k + 1)).all nameB by rw [hh2]; simp)
          clear hh2
          go_wp2_with fail
          refine HLc.out.mono ?_
          rintro e w2 ⟨rfl, hE⟩
          subst hE
          go_wp2
          go_roundw
          case rel => exact ⟨k + 1, by go_num, trivial, by omega, hh⟩
          case measure => simp [intOf]; omega
        | false =>
          cases dc with
          | true =>
            have hh := Lib.hid (show R = (l.drop (k + 1)).all nameB by rw [hh2]; simp)
            clear hh2
            go_wp2_with fail
            refine HLc.out.mono ?_
            rintro e w2 ⟨rfl, hE⟩
            subst hE
            go_wp2_with fail
            refine HDc.out.mono ?_
            rintro e w2 ⟨rfl, hE⟩
            subst hE
            go_wp2
            go_roundw
            case rel => exact ⟨k + 1, by go_num, trivial, by omega, hh⟩
            case measure => simp [intOf]; omega
          | false =>
            by_cases h95 : c.toNat = 95
            · have hh := Lib.hid (show R = (l.drop (k + 1)).all nameB by rw [hh2, decide_eq_true h95]; simp)
              have h95i : (c.toNat : Int) = 95 := by omega
              clear hh2
              rw [h95i] at hc HLc HDc
              go_wp2_with fail
              refine HLc.out.mono ?_
              rintro e w2 ⟨rfl, hE⟩
              subst hE
              go_wp2_with fail
              refine HDc.out.mono ?_
              rintro e w2 ⟨rfl, hE⟩
              subst hE
              go_wp2
              go_roundw
              case rel => exact ⟨k + 1, by go_num, trivial, by omega, hh⟩
              case measure => simp [intOf]; omega
            · have HT := Lib.hid (show R = false by rw [hh2, decide_eq_false h95]; rfl)
              have h95i : ¬ (c.toNat : Int) = 95 := by omega
              have h95b : ((c.toNat : Int) == 95) = false := beq_false_of_ne h95i
              clear hh2
              go_wp2_with fail
              refine HLc.out.mono ?_
              rintro e w2 ⟨rfl, hE⟩
              subst hE
              go_wp2_with fail
              refine HDc.out.mono ?_
              rintro e w2 ⟨rfl, hE⟩
              subst hE
              go_wp2
              go_ret
              exact ⟨by rw [HT.out]; rfl, HBW.out⟩
      · have hlt' : decide ((k : Int) < (s.size : Int)) = false := decide_eq_false (by omega)
        have HT := Lib.hid (show R = true by rw [hh.out, List.drop_eq_nil_of_le (by omega)]; rfl)
        clear hh
        go_wp2
        go_ret
        exact ⟨by rw [HT.out]; rfl, HBW.out⟩
set_option maxRecDepth 100000 in
set_option maxHeartbeats 1000000 in
theorem Named_any (a : Option Addr) (m c : Nat) (ss : List ByteArray) (w : World) (hm : ss.length = m) (hm2 : m ≤ 1048576) (hT : Texts w a ss) :
    Calls Try.prog 16 #[.slice a m c] w fun e w' => e = .returned (.bool (ss.all fun s => namedB s.data.toList)) ∧ Below w.heap.size w w' := by
  obtain ⟨R, hR⟩ : ∃ R, R = ss.all fun s => namedB s.data.toList := ⟨_, rfl⟩
  rw [← hR]
  have HR := Lib.hid hR
  have HM := Lib.hid hm
  have HT := Lib.hid hT
  clear hR hm hT
  go_enter Try.func16, Try.ntmps16
  go_wp2
  go_loopw [7] (fun i wr => ∃ k : Nat, k ≤ m ∧ i = .int .i64 (k : Int) ∧ Hid ((ss.take k).all (fun s => namedB s.data.toList) = true) ∧ Below w.heap.size w wr) (fun i _ => m - (intOf i).toNat)
  case atStart => exact ⟨0, Nat.zero_le _, rfl, Lib.hid (by simp), Below.refl _ _⟩
  case round =>
    obtain ⟨k, hk, rfl, hall, hbel⟩ := hrel
    have hsz := hbel.size
    by_cases hlt : k < m
    · have hlt' : decide ((k : Int) < (m : Int)) = true := decide_eq_true (by omega)
      rcases HT.out with hv0 | ⟨hnn, bs, o, rfl, hbs, hcz⟩
      · have := HM.out
        rw [hv0] at this
        simp at this
        omega
      obtain ⟨s, hsk⟩ : ∃ s, ss[k]? = some s := ⟨_, List.getElem?_eq_getElem (by rw [HM.out]; exact hlt)⟩
      have hc := (hbel.cell (p := ⟨bs, o + k, none⟩) hbs).trans (hcz k s hsk)
      have hn := named_any s wr
      obtain ⟨t, ht⟩ : ∃ t, t = namedB s.data.toList := ⟨_, rfl⟩
      rw [← ht] at hn
      have HN := Lib.hid hn
      have HBL := Lib.hid hbel
      cases t with
      | true =>
        have hall' : Hid ((ss.take (k + 1)).all (fun s => namedB s.data.toList) = true) := by
          show (ss.take (k + 1)).all (fun s => namedB s.data.toList) = true
          rw [List.take_add_one, hsk, List.all_append, hall.out]
          simpa using ht.symm
        clear hcz hsk hn ht hall hbel
        go_wp2_with fail
        refine HN.out.mono ?_
        rintro e w2 ⟨rfl, hb2⟩
        have HB2 := Lib.hid (Below.thenB HBL.out hsz hb2)
        clear hb2 HN HBL hc
        go_wp2
        go_roundw
        case rel => exact ⟨k + 1, by omega, by go_num, hall', HB2.out⟩
        case measure => simp [intOf]; omega
      | false =>
        have HF := Lib.hid (show R = false by
          rw [HR.out]
          refine List.all_eq_false.2 ⟨s, List.mem_of_getElem? hsk, ?_⟩
          simpa using ht.symm)
        clear hcz hsk hn ht hall hbel
        go_wp2_with fail
        refine HN.out.mono ?_
        rintro e w2 ⟨rfl, hb2⟩
        have HB2 := Lib.hid (Below.thenB HBL.out hsz hb2)
        clear hb2 HN HBL hc
        go_wp2
        go_ret
        exact ⟨by rw [HF.out]; rfl, HB2.out⟩
    · have hlt' : decide ((k : Int) < (m : Int)) = false := decide_eq_false (by omega)
      have HF := Lib.hid (show R = true by
        have := hall.out
        rw [List.take_of_length_le (by rw [HM.out]; omega)] at this
        rw [HR.out]; exact this)
      have HBL := Lib.hid hbel
      clear hall hbel
      go_wp2
      go_ret
      exact ⟨by rw [HF.out]; rfl, HBL.out⟩
end Go.Proofs.Ytapnkbamilkpoaa
