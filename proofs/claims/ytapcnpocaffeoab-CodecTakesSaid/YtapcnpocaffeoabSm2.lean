/- The walk of law04's same. -/
import Derived.Test.YtapcnpocaffeoabSm1
import Derived.Deep.DeepCutAuto
import Derived.Deep.RegionHeld3
import Derived.Deep.DrawnRows
import Derived.Deep.QuietTactic
namespace Go.Proofs.Ytapcnpocaffeoab
open Go.RowKit
attribute [local go_sem ↓] Go.wp_at_zero Go.wp_at_succ
def vask (k n m : Int) : Value := .agg #[.int .i64 k, .int .i64 n, .int .i64 m]
/-- What a reader and the document's answer alike to what is asked next. -/
def Alike (x : Option Addr) (p : Nat) (k n m : Int) (l : List UInt8) (bd : Bool) : Prop :=
  ∃ l1 b1, l1.length ≤ l.length ∧
    (k = 0 → ∃ z : Int, OpR x l bd 35 #[.pointer x, .int .i64 n] (.int .i64 z) l1 b1 ∧ OpP p l bd 44 #[.pointer (some ⟨p, 0, none⟩), .int .i64 n] (.int .i64 z) l1 b1) ∧
    (k = 1 → ∃ z : Int, OpR x l bd 29 #[.pointer x] (.int .i64 z) l1 b1 ∧ OpP p l bd 45 #[.pointer (some ⟨p, 0, none⟩)] (.int .i64 z) l1 b1) ∧
    (k = 2 → ∃ z : ByteArray, OpR x l bd 30 #[.pointer x, .int .i64 n] (.string z) l1 b1 ∧ OpP p l bd 46 #[.pointer (some ⟨p, 0, none⟩), .int .i64 n] (.string z) l1 b1) ∧
    (k = 3 → ∃ (y z : Int) (t : ByteArray), OpR x l bd 47 #[.pointer x] (.agg #[.int .i64 y, .int .i64 z, .string t]) l1 b1 ∧ OpP p l bd 48 #[.pointer (some ⟨p, 0, none⟩)] (.agg #[.int .i64 y, .int .i64 z, .string t]) l1 b1) ∧
    (k = 4 → ∃ vs : List Val, vs.length ≤ 1048576 ∧ OpRV x l bd 36 #[.pointer x, .int .i64 n] (fun B => FreshVals B vs) l1 b1 ∧ OpPV p l bd 50 #[.pointer (some ⟨p, 0, none⟩), .int .i64 n] (fun B => FreshVals B vs) l1 b1) ∧
    (k = 5 → ∃ rs : List (List Val), rs.length ≤ 1048576 ∧ RowsLen rs ∧ OpRV x l bd 32 #[.pointer x, .int .i64 n, .int .i64 m] (fun B => FreshRows B rs) l1 b1 ∧ OpPV p l bd 51 #[.pointer (some ⟨p, 0, none⟩), .int .i64 n, .int .i64 m] (fun B => FreshRows B rs) l1 b1)
set_option maxRecDepth 100000 in
set_option maxHeartbeats 8000000 in
theorem same_walk (x : Option Addr) (p : Nat) (k n m : Int) (l : List UInt8) (bd : Bool) (w : World) (h : St x p w l bd) (hA : Alike x p k n m l bd) :
    Calls Try.prog 27 #[.pointer x, .pointer (some ⟨p, 0, none⟩), vask k n m] w fun e w' => e = .returned (.bool true) ∧ (∃ l' b', St x p w' l' b' ∧ l'.length ≤ l.length) ∧ Chg (SBlk x p) w w' := by
  unfold vask
  obtain ⟨l1, b1, hl1, H0, H1, H2, H3, H4, H5⟩ := hA
  obtain ⟨W0, hW0⟩ : ∃ W0, W0 = w.alloc (.cells #[.int .i64 k, .int .i64 n, .int .i64 m] 61) := ⟨_, rfl⟩
  have hA0 : Below w.heap.size w W0 := by rw [hW0]; exact (Below.refl _ _).alloc (Nat.le_refl _) _
  have hb0 : W0.heap[w.heap.size]? = some (.cells #[.int .i64 k, .int .i64 n, .int .i64 m] 61 (0, 0)) := by rw [hW0]; exact Array.getElem?_push_size
  have lt0 : w.heap.size < W0.heap.size := by rw [hW0]; simp
  have q00 := Lib.cell_of_heap hb0 0
  have q01 := Lib.cell_of_heap hb0 1
  have q02 := Lib.cell_of_heap hb0 2
  have ltD : w.heap.size < W0.drew.heap.size := lt0
  have qD1 : W0.drew.cell? ⟨w.heap.size, 1, none⟩ = some (.int .i64 n) := q01
  have qD2 : W0.drew.cell? ⟨w.heap.size, 2, none⟩ = some (.int .i64 m) := q02
  have rA : RSt x W0.drew l bd := h.1.below hA0.drew
  have pA : PSt W0.drew p l bd := h.2.below hA0.drew
  have CA : Chg (SBlk x p) w W0.drew := Chg.ofBelow hA0.drew
  have rA' : RSt x W0 l bd := h.1.below hA0
  have pA' : PSt W0 p l bd := h.2.below hA0
  have CA' : Chg (SBlk x p) w W0 := Chg.ofBelow hA0
  have hr := h.1
  have hp := h.2
  have HW0 := Lib.hid hW0.symm
  have G0 := Lib.hid H0
  have G1 := Lib.hid H1
  have G2 := Lib.hid H2
  have G3 := Lib.hid H3
  have G4 := Lib.hid H4
  have G5 := Lib.hid H5
  clear hW0 hA0 hb0 H0 H1 H2 H3 H4 H5
  go_enter Try.func27, Try.ntmps27
  go_upto_region 2 with fail
  iterate 12 (first | (with_reducible show Code.wp _ (Code.block _ _) _ _ _) | go_step)
  rw [HW0.out]
  go_cut [7] (fun s7 wx => s7 = .bool true ∧ (∃ l' b', St x p wx l' b' ∧ l'.length ≤ l.length) ∧ Chg (SBlk x p) w wx)
  case first =>
    by_cases hk0 : k = 0
    · subst hk0
      obtain ⟨z, hR, hP⟩ := G0.out rfl
      have HR := Lib.hid hR
      have HP := Lib.hid hP
      clear G0 G1 G2 G3 G4 G5 hR hP rA' pA' CA'
      go_wp2_with fail
      go_region_held3 (fun W => W.cell? ⟨w.heap.size, 1, none⟩ = some (.int .i64 n))
        (first | (with_reducible exact q21) | (with_reducible exact q11) | go_keep)
        (first
          | (go_at_call 35; refine (HR.out _ rG).mono ?_; rintro e w2 ⟨rfl, r2, hC2⟩; have p2 := pG.far rG hC2; have q21 := cell_R hr (Nat.le_refl _) lt1 hC2 q11; have C2 := C1.thenR hC2)
          | (go_at_call 44; refine (HP.out _ pF).mono ?_; rintro e w2 ⟨rfl, p2, hC2⟩; have r2 := rF.farP pF hC2; have q21 := cell_P hp (Nat.le_refl _) lt1 hC2 q11; have C2 := C1.thenP hC2)
          | (go_at_call 35; refine (HR.out _ rA).mono ?_; rintro e w1 ⟨rfl, rF, hC1⟩; have pF := pA.far rA hC1; have q11 := cell_R hr (Nat.le_refl _) ltD hC1 qD1; have C1 := CA.thenR hC1; have lt1 : w.heap.size < w1.heap.size := Nat.lt_of_lt_of_le ltD hC1.size)
          | (go_at_call 44; refine (HP.out _ pA).mono ?_; rintro e w1 ⟨rfl, pG, hC1⟩; have rG := rA.farP pA hC1; have q11 := cell_P hp (Nat.le_refl _) ltD hC1 qD1; have C1 := CA.thenP hC1; have lt1 : w.heap.size < w1.heap.size := Nat.lt_of_lt_of_le ltD hC1.size))
      all_goals (go_wp2_with fail; go_meet)
      all_goals exact ⟨rfl, ⟨_, _, ⟨r2, p2⟩, hl1⟩, C2⟩
    by_cases hk1 : k = 1
    · subst hk1
      obtain ⟨z, hR, hP⟩ := G1.out rfl
      have HR := Lib.hid (hR _ rA')
      have HP := Lib.hid hP
      clear G0 G1 G2 G3 G4 G5 hR hP rA pA CA
      go_wp2_with fail
      refine HR.out.mono ?_
      rintro e w1 ⟨rfl, r1, hC1⟩
      have p1 := pA'.far rA' hC1
      have HP1 := Lib.hid (HP.out _ p1)
      have C1 := CA'.thenR hC1
      clear HR HP
      go_wp2_with fail
      refine HP1.out.mono ?_
      rintro e w2 ⟨rfl, p2, hC2⟩
      have r2 := r1.farP p1 hC2
      have C2 := C1.thenP hC2
      go_wp2_with fail
      go_meet
      exact ⟨rfl, ⟨_, _, ⟨r2, p2⟩, hl1⟩, C2⟩
    by_cases hk2 : k = 2
    · subst hk2
      obtain ⟨z, hR, hP⟩ := G2.out rfl
      have HR := Lib.hid hR
      have HP := Lib.hid hP
      clear G0 G1 G2 G3 G4 G5 hR hP rA' pA' CA'
      go_wp2_with fail
      go_region_held3 (fun W => W.cell? ⟨w.heap.size, 1, none⟩ = some (.int .i64 n))
        (first | (with_reducible exact q21) | (with_reducible exact q11) | go_keep)
        (first
          | (go_at_call 30; refine (HR.out _ rG).mono ?_; rintro e w2 ⟨rfl, r2, hC2⟩; have p2 := pG.far rG hC2; have q21 := cell_R hr (Nat.le_refl _) lt1 hC2 q11; have C2 := C1.thenR hC2)
          | (go_at_call 46; refine (HP.out _ pF).mono ?_; rintro e w2 ⟨rfl, p2, hC2⟩; have r2 := rF.farP pF hC2; have q21 := cell_P hp (Nat.le_refl _) lt1 hC2 q11; have C2 := C1.thenP hC2)
          | (go_at_call 30; refine (HR.out _ rA).mono ?_; rintro e w1 ⟨rfl, rF, hC1⟩; have pF := pA.far rA hC1; have q11 := cell_R hr (Nat.le_refl _) ltD hC1 qD1; have C1 := CA.thenR hC1; have lt1 : w.heap.size < w1.heap.size := Nat.lt_of_lt_of_le ltD hC1.size)
          | (go_at_call 46; refine (HP.out _ pA).mono ?_; rintro e w1 ⟨rfl, pG, hC1⟩; have rG := rA.farP pA hC1; have q11 := cell_P hp (Nat.le_refl _) ltD hC1 qD1; have C1 := CA.thenP hC1; have lt1 : w.heap.size < w1.heap.size := Nat.lt_of_lt_of_le ltD hC1.size))
      all_goals (go_wp2_with fail; go_meet)
      all_goals exact ⟨rfl, ⟨_, _, ⟨r2, p2⟩, hl1⟩, C2⟩
    by_cases hk3 : k = 3
    · subst hk3
      obtain ⟨y, z, t, hR, hP⟩ := G3.out rfl
      have HR := Lib.hid (hR _ rA')
      have HP := Lib.hid hP
      clear G0 G1 G2 G3 G4 G5 hR hP rA pA CA
      go_wp2_with fail
      refine HR.out.mono ?_
      rintro e w1 ⟨rfl, r1, hC1⟩
      have p1 := pA'.far rA' hC1
      have HP1 := Lib.hid (HP.out _ p1)
      have C1 := CA'.thenR hC1
      clear HR HP
      go_wp2_with fail
      refine HP1.out.mono ?_
      rintro e w2 ⟨rfl, p2, hC2⟩
      have r2 := r1.farP p1 hC2
      have C2 := C1.thenP hC2
      go_wp2_with fail
      go_meet
      exact ⟨rfl, ⟨_, _, ⟨r2, p2⟩, hl1⟩, C2⟩
    by_cases hk4 : k = 4
    · subst hk4
      obtain ⟨vs, hln, hR, hP⟩ := G4.out rfl
      have HR := Lib.hid hR
      have HP := Lib.hid hP
      clear G0 G1 G2 G3 G4 G5 hR hP rA' pA' CA'
      go_wp2_with fail
      go_region_held3 (fun W => W.cell? ⟨w.heap.size, 1, none⟩ = some (.int .i64 n))
        (first | (with_reducible exact q31) | (with_reducible exact q21) | (with_reducible exact q11) | go_keep)
        (first
          | (go_at_call 49; refine (same_any a1 a2 vs.length _ vs.length _ vs vs _ rfl rfl hln hln hk1 hv2).mono ?_; rintro e w3 ⟨rfl, hb3⟩; rw [vsame_self]; have r3 := r2.below hb3; have p3 := p2.below hb3; have C3 := C2.thenB hb3; have q31 := (hb3.cell (p := ⟨w.heap.size, 1, none⟩) (Nat.lt_of_lt_of_le lt1 hC2.size)).trans q21)
          | (go_at_call 49; refine (same_any a2 a1 vs.length _ vs.length _ vs vs _ rfl rfl hln hln hv2 hk1).mono ?_; rintro e w3 ⟨rfl, hb3⟩; rw [vsame_self]; have r3 := r2.below hb3; have p3 := p2.below hb3; have C3 := C2.thenB hb3; have q31 := (hb3.cell (p := ⟨w.heap.size, 1, none⟩) (Nat.lt_of_lt_of_le lt1 hC2.size)).trans q21)
          | (go_at_call 36; refine (HR.out _ rG).mono ?_; rintro e w2 ⟨⟨a2, c2, rfl, hv2, hf2⟩, r2, hC2⟩; have hk1 := Vals.afterR hv1 hf1 hr (Nat.le_of_lt ltD) hC2; have p2 := pG.far rG hC2; have q21 := cell_R hr (Nat.le_refl _) lt1 hC2 q11; have C2 := C1.thenR hC2)
          | (go_at_call 50; refine (HP.out _ pF).mono ?_; rintro e w2 ⟨⟨a2, c2, rfl, hv2, hf2⟩, p2, hC2⟩; have hk1 := Vals.afterP hv1 hf1 hp (Nat.le_of_lt ltD) hC2; have r2 := rF.farP pF hC2; have q21 := cell_P hp (Nat.le_refl _) lt1 hC2 q11; have C2 := C1.thenP hC2)
          | (go_at_call 36; refine (HR.out _ rA).mono ?_; rintro e w1 ⟨⟨a1, c1, rfl, hv1, hf1⟩, rF, hC1⟩; have pF := pA.far rA hC1; have q11 := cell_R hr (Nat.le_refl _) ltD hC1 qD1; have C1 := CA.thenR hC1; have lt1 : w.heap.size < w1.heap.size := Nat.lt_of_lt_of_le ltD hC1.size)
          | (go_at_call 50; refine (HP.out _ pA).mono ?_; rintro e w1 ⟨⟨a1, c1, rfl, hv1, hf1⟩, pG, hC1⟩; have rG := rA.farP pA hC1; have q11 := cell_P hp (Nat.le_refl _) ltD hC1 qD1; have C1 := CA.thenP hC1; have lt1 : w.heap.size < w1.heap.size := Nat.lt_of_lt_of_le ltD hC1.size))
      all_goals (go_wp2_with fail; go_meet)
      all_goals exact ⟨rfl, ⟨_, _, ⟨r3, p3⟩, hl1⟩, C3⟩
    by_cases hk5 : k = 5
    · subst hk5
      obtain ⟨rs, hln, hrl, hR, hP⟩ := G5.out rfl
      have HR := Lib.hid hR
      have HP := Lib.hid hP
      clear G0 G1 G2 G3 G4 G5 hR hP rA' pA' CA'
      go_wp2_with fail
      go_region_held3 (fun W => W.cell? ⟨w.heap.size, 1, none⟩ = some (.int .i64 n) ∧ W.cell? ⟨w.heap.size, 2, none⟩ = some (.int .i64 m))
        (first | (with_reducible exact ⟨q31, q32⟩) | (with_reducible exact ⟨q21, q22⟩) | (with_reducible exact ⟨q11, q12⟩) | go_keep)
        (first
          | (go_at_call 31; refine (same4_any a1 a2 rs.length _ rs.length _ rs rs _ rfl rfl hln hln hk1 hv2 hrl hrl).mono ?_; rintro e w3 ⟨rfl, hb3⟩; rw [rsame_self]; have r3 := r2.below hb3; have p3 := p2.below hb3; have C3 := C2.thenB hb3; have q31 := (hb3.cell (p := ⟨w.heap.size, 1, none⟩) (Nat.lt_of_lt_of_le lt1 hC2.size)).trans q21; have q32 := (hb3.cell (p := ⟨w.heap.size, 2, none⟩) (Nat.lt_of_lt_of_le lt1 hC2.size)).trans q22)
          | (go_at_call 31; refine (same4_any a2 a1 rs.length _ rs.length _ rs rs _ rfl rfl hln hln hv2 hk1 hrl hrl).mono ?_; rintro e w3 ⟨rfl, hb3⟩; rw [rsame_self]; have r3 := r2.below hb3; have p3 := p2.below hb3; have C3 := C2.thenB hb3; have q31 := (hb3.cell (p := ⟨w.heap.size, 1, none⟩) (Nat.lt_of_lt_of_le lt1 hC2.size)).trans q21; have q32 := (hb3.cell (p := ⟨w.heap.size, 2, none⟩) (Nat.lt_of_lt_of_le lt1 hC2.size)).trans q22)
          | (go_at_call 32; refine (HR.out _ rG).mono ?_; rintro e w2 ⟨⟨a2, c2, rfl, hv2⟩, r2, hC2⟩; have hk1 := RowsAt.afterR hv1 hr (Nat.le_of_lt ltD) hC2; have p2 := pG.far rG hC2; have q21 := cell_R hr (Nat.le_refl _) lt1 hC2 q11; have q22 := cell_R hr (Nat.le_refl _) lt1 hC2 q12; have C2 := C1.thenR hC2)
          | (go_at_call 51; refine (HP.out _ pF).mono ?_; rintro e w2 ⟨⟨a2, c2, rfl, hv2⟩, p2, hC2⟩; have hk1 := RowsAt.afterP hv1 hp (Nat.le_of_lt ltD) hC2; have r2 := rF.farP pF hC2; have q21 := cell_P hp (Nat.le_refl _) lt1 hC2 q11; have q22 := cell_P hp (Nat.le_refl _) lt1 hC2 q12; have C2 := C1.thenP hC2)
          | (go_at_call 32; refine (HR.out _ rA).mono ?_; rintro e w1 ⟨⟨a1, c1, rfl, hv1⟩, rF, hC1⟩; have pF := pA.far rA hC1; have q11 := cell_R hr (Nat.le_refl _) ltD hC1 qD1; have q12 := cell_R hr (Nat.le_refl _) ltD hC1 qD2; have C1 := CA.thenR hC1; have lt1 : w.heap.size < w1.heap.size := Nat.lt_of_lt_of_le ltD hC1.size)
          | (go_at_call 51; refine (HP.out _ pA).mono ?_; rintro e w1 ⟨⟨a1, c1, rfl, hv1⟩, pG, hC1⟩; have rG := rA.farP pA hC1; have q11 := cell_P hp (Nat.le_refl _) ltD hC1 qD1; have q12 := cell_P hp (Nat.le_refl _) ltD hC1 qD2; have C1 := CA.thenP hC1; have lt1 : w.heap.size < w1.heap.size := Nat.lt_of_lt_of_le ltD hC1.size))
      all_goals (go_wp2_with fail; go_meet)
      all_goals exact ⟨rfl, ⟨_, _, ⟨r3, p3⟩, hl1⟩, C3⟩
    have HF := Lib.hid (st_fail x l bd W0 rA')
    clear G0 G1 G2 G3 G4 G5 rA pA CA
    go_wp2_with fail
    refine HF.out.mono ?_
    rintro e w1 ⟨rfl, r1, hC1⟩
    have p1 := pA'.far rA' hC1
    have C1 := CA'.thenR hC1
    obtain ⟨sp, pp1, _⟩ := p1
    have hp1 : p < w1.heap.size := pp1.1
    obtain ⟨⟨c0, c1⟩, f0, f1⟩ := two_at pp1.2
    have p2 := pp1.bad
    have hC2 := (Chg.refl (· = p) w1).setCell (p := ⟨p, 1, none⟩) (.inr rfl) (.bool true)
    have r2 := r1.far pp1 hC2
    have C2 := C1.thenP hC2
    go_wp2_with fail
    go_meet
    exact ⟨rfl, ⟨[], true, ⟨r2, _, p2, fun h => (by cases h)⟩, Nat.zero_le _⟩, C2⟩
  case rest =>
  clear hr hp ltD qD1 qD2 rA rA' pA pA' CA CA' q00 q01 q02 G0 G1 G2 G3 G4 G5 h HW0
  obtain ⟨rfl, ⟨l', b', ⟨hr, s', hp, hl⟩, hl0⟩, hC⟩ := hcut
  have HC := Lib.hid hC
  have hp0 : p < wc.heap.size := hp.1
  obtain ⟨⟨c0, c1⟩, f0, f1⟩ := two_at hp.2
  have HST := Lib.hid (show St x p wc l' b' from ⟨hr, s', hp, hl⟩)
  have hrN : ∀ n, RSt x (wc.drewN n) l' b' := fun n => hr.below (bdrewN (Below.refl _ _) n)
  have HG := Lib.hid (fun n => Calls.quiet_of_same (st_good x l' b' (wc.drewN n) (hrN n)))
  cases b' with
  | true =>
    obtain rfl : l' = [] := hr.nil rfl
    have HL := Lib.hid (fun n => Calls.quiet_of_same (st_len x [] true (wc.drewN n) (hrN n)))
    have HS := Lib.hid (fun n => Calls.quiet_of_same (st_string x [] true (wc.drewN n) (hrN n)))
    have HE := Lib.hid (fun n => Calls.quiet_of_same (st_end x [] true (wc.drewN n) (hrN n)))
    clear hrN hr hp hl hC
    go_wp2_with fail
    go_quiet (first
      | (go_at_call 34; exact HG.out _)
      | (go_at_call 53; exact HL.out _)
      | (go_at_call 33; exact HS.out _)
      | (go_at_call 37; exact HE.out _))
    go_wp2
    go_ret
    exact ⟨rfl, ⟨_, _, HST.out.below (bdrewN (Below.refl _ _) _), hl0⟩, HC.out.drewN _⟩
  | false =>
    have hls := (hl rfl).symm
    have hla : (⟨l'.toArray⟩ : ByteArray) = s' := by rw [hls]
    have hll : (l'.length : Int) = (s'.size : Int) := by rw [hls, Array.length_toList]; rfl
    obtain ⟨e0, he0⟩ : ∃ e0, e0 = l'.isEmpty := ⟨_, rfl⟩
    have hze : ((s'.size : Int) == 0) = e0 := by rw [he0, ← hll]; cases l' <;> simp <;> omega
    have HL := Lib.hid (fun n => hll ▸ Calls.quiet_of_same (st_len x l' false (wc.drewN n) (hrN n)))
    have HS := Lib.hid (fun n => hla ▸ Calls.quiet_of_same (st_string x l' false (wc.drewN n) (hrN n)))
    have HE := Lib.hid (fun n => he0 ▸ Calls.quiet_of_same (st_end x l' false (wc.drewN n) (hrN n)))
    clear hrN hr hp hl hC hls hla hll he0
    go_wp2_with fail
    go_quiet (first
      | (go_at_call 34; exact HG.out _)
      | (go_at_call 53; exact HL.out _)
      | (go_at_call 33; exact HS.out _)
      | (go_at_call 37; exact HE.out _))
    go_wp2
    go_ret
    exact ⟨by simp, ⟨_, _, HST.out.below (bdrewN (Below.refl _ _) _), hl0⟩, HC.out.drewN _⟩
end Go.Proofs.Ytapcnpocaffeoab
