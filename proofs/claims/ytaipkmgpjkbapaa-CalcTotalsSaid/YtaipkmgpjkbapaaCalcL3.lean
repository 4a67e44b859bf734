/- Walk of the law CalcTotals. -/
import Derived.Test.YtaipkmgpjkbapaaCalcD
import Derived.Test.YtaipkmgpjkbapaaNumE
import Derived.Test.YtaipkmgpjkbapaaRead
namespace Go.Proofs.Ytaipkmgpjkbapaa
open Go.RowKit
set_option maxHeartbeats 400000 in
theorem take_nil (a : Option Addr) (n c : Nat) (w : World) : Calls Try.prog 25 #[.pointer none, .slice a n c] w fun e w' => e = .returned (.tuple #[]) ∧ w = w' := by
  go_enter Try.func25, Try.ntmps25
  go_wp2
  exact bodyPost_ret (v := .tuple #[]) (by simp [results, Try.results25, go_sem]) rfl ⟨rfl, rfl⟩
set_option maxHeartbeats 400000 in
theorem put_nil (a : Option Addr) (n c : Nat) (w : World) : Calls Try.prog 26 #[.pointer none, .slice a n c] w fun e w' => e = .returned (.tuple #[]) ∧ w = w' := by
  go_enter Try.func26, Try.ntmps26
  go_wp2
  exact bodyPost_ret (v := .tuple #[]) (by simp [results, Try.results26, go_sem]) rfl ⟨rfl, rfl⟩
set_option maxHeartbeats 400000 in
theorem count_nil (w : World) : Calls Try.prog 28 #[.pointer none] w fun e w' => e = .returned (.int .i64 0) ∧ w = w' := by
  go_enter Try.func28, Try.ntmps28
  go_wp2
  go_ret
  exact ⟨rfl, rfl⟩
set_option maxHeartbeats 400000 in
theorem count_any (b : Nat) (V n : Int) (w : World) (ht : TotalAt w b V n) : Calls Try.prog 28 #[.pointer (some ⟨b, 0, none⟩)] w fun e w' => e = .returned (.int .i64 n) ∧ w = w' := by
  obtain ⟨t1, t2, t3, t4, t5, t6⟩ := ht
  go_enter Try.func28, Try.ntmps28
  go_wp2
  go_ret
  exact ⟨rfl, rfl⟩
/-- An act: whether it takes, and the numbers. -/
def RAct : Rdr (Bool × List Int) := R2 1 RB (RL 1 (RI .i64))
theorem op_acts (H : Type) (enc : TypeId × Value → H) (W : World) : Op enc Try.prog W 43 (RL 2 RAct) :=
  op_list Try.underlying43 (by kernel_rfl) (by decide) (op_2 Try.underlying51 rfl (by kernel_rfl) rfl (by kernel_rfl) (op_bool Try.underlying4) (op_list Try.underlying22 (by kernel_rfl) (by decide) (op_int Try.underlying2)))
theorem NumP.drew {w : World} {x : Bool} {a : Option Addr} {n c : Nat} {V : Int} (h : NumP w x a n c V) : NumP w.drew x a n c V := h
theorem I64.sum {zs : List Int} (h : I64s zs) (hl : zs.length ≤ 20) : -184467440737095516160 ≤ sumL zs ∧ sumL zs ≤ 184467440737095516140 := by
  have := sumL_bd h zs.length (Nat.le_refl _)
  rw [List.take_length] at this
  omega
def actStep (s : Int × Int) (x : Bool × List Int) : Int × Int := if x.1 then (s.1 - sumL x.2, s.2 - x.2.length) else (s.1 + sumL x.2, s.2 + x.2.length)
def actsV (l : List (Bool × List Int)) : Int × Int := l.foldl actStep (0, 0)
theorem actsV_snoc (l : List (Bool × List Int)) (x : Bool × List Int) : actsV (l ++ [x]) = actStep (actsV l) x := by simp [actsV]
set_option maxRecDepth 100000 in
set_option maxHeartbeats 4000000 in
theorem totals_walk (v0 : Value) (acts : List (Bool × List Int)) (w : World) (y0 : RL 2 RAct w [v0] acts) :
    Calls Try.prog 6 #[v0] w fun e w' => e = .returned (.bool true) ∧ Below w.heap.size w w' := by
  obtain ⟨p, n, c, hv, hm, hnc, hcm, hel⟩ := y0
  simp at hv
  subst hv hm
  unfold maxLen at hcm
  by_cases hlong : 30 < acts.length
  · have hd : decide ((30 : Int) < (acts.length : Int)) = true := by simp; omega
    go_enter Try.func6, Try.ntmps6
    go_wp2_with (go_at_call 8; refine (awake_any _).mono ?_; rintro e w5 ⟨rfl, hb5⟩)
    go_ret
    exact ⟨rfl, hb5⟩
  · have hd : decide ((30 : Int) < (acts.length : Int)) = false := by simp; omega
    have hl30 : acts.length ≤ 30 := by omega
    go_enter Try.func6, Try.ntmps6
    go_wp2
    go_loopw [6, 7] (fun cn i wr => ∃ (k : Nat) (x : Bool) (a : Option Addr) (nn cc : Nat) (V N : Int), k ≤ acts.length ∧ i = .int .i64 k ∧ cn = .int .i64 N ∧ (V, N) = actsV (acts.take k) ∧
        -184467440737095516160 * (k : Int) ≤ V ∧ V ≤ 184467440737095516160 * (k : Int) ∧ -20 * (k : Int) ≤ N ∧ N ≤ 20 * (k : Int) ∧
        TotalAt wr w.heap.size V N ∧ wr.heap[w.heap.size + 1]? = some (.cells #[.bool x, .slice a nn cc] 32) ∧ NumP wr x a nn cc V ∧ Fresh (w.heap.size + 1) a ∧ Below w.heap.size w wr) (fun _ i _ => acts.length - (intOf i).toNat)
    case atStart =>
      refine ⟨0, false, none, 0, 0, 0, 0, Nat.zero_le _, rfl, rfl, rfl, by simp, by simp, by simp, by simp, total_chg (S := fun _ => False) (total_new w) ((Chg.refl _ _).alloc _) (by simp) (fun f => f), by have := (MapKept.heap_alloc (w.alloc (.cells #[.int .i64 0, .int .u64 0, .int .i64 0] 49)) (.cells #[.bool false, .slice none 0 0] 32)).1; simpa using this, ⟨by simp, [], rfl, Nat.le_refl _, .inl rfl, canon_nil, by simp [dval]⟩, (fun y hy => by cases hy), ((Below.refl _ _).alloc (Nat.le_refl _) _).alloc (by simp) _⟩
    case round =>
      obtain ⟨k, x, a, nn, cc, V, N, hk, rfl, rfl, hVN, v1, v2, v3, v4, hT, hsb, hP, hfr, hbel⟩ := hrel
      have HVN := Lib.hid hVN
      clear hVN
      by_cases hlt : k < acts.length
      · rcases hel with rfl | ⟨_, b, o, rfl, hb, hel⟩
        · simp at hlt
        obtain ⟨cs, q1, q2, q3, q4⟩ := hel k acts[k] (List.getElem?_eq_getElem hlt)
        have hts : acts.take (k + 1) = acts.take k ++ [acts[k]] := by rw [List.take_succ_eq_append_getElem hlt]
        have hnx := actsV_snoc (acts.take k) acts[k]
        rw [← hts, ← HVN.out] at hnx
        generalize acts[k] = act at *
        obtain ⟨tk, zs⟩ := act
        obtain ⟨la, ln, lc, q5, q6, q7, q8, q9, q10⟩ := ints_of_RL q4
        have hcs : cs = [.bool tk, .slice la ln lc] := by
          have := List.take_append_drop 1 cs
          rw [q5] at this
          have q3' : cs.take 1 = [.bool tk] := q3
          rw [q3'] at this
          exact this.symm
        subst hcs
        subst q6
        have e0 := q2 0 (by decide)
        have e1 := q2 1 (by decide)
        simp only [List.getElem?_cons_zero, List.getElem?_cons_succ, Nat.add_zero] at e0 e1
        rw [← hbel.cell (p := ⟨b, o + k * 2, none⟩) hb] at e0
        rw [← hbel.cell (p := ⟨b, o + (k * 2 + 1), none⟩) hb] at e1
        rw [← Nat.add_assoc] at e1
        have HNX := Lib.hid hnx
        clear hnx hts hel q2 q3 q4 q5
        have hbT : ¬ b = w.heap.size := by omega
        have hbr : b < wr.heap.size := Nat.lt_of_lt_of_le hb hbel.size
        have hI := q9.below hbel
        have hw64 : I64s zs := fun z hz => wf_i64 (q10 z hz)
        have hszr := hbel.size
        have hT' := hT
        obtain ⟨T1, T2, T3, T4, T5, T6⟩ := hT'
        clear T1 T2 T3 T4 T5 T6
        by_cases hln : 20 < zs.length
        · have d20 : decide ((20 : Int) < (zs.length : Int)) = true := by simp; omega
          go_wp2_with (go_at_call 8; refine (awake_any _).mono ?_; rintro e w5 ⟨rfl, hb5⟩)
          go_ret
          exact ⟨rfl, Below.thenB hbel hszr hb5⟩
        · have d20 : decide ((20 : Int) < (zs.length : Int)) = false := by simp; omega
          cases tk
          · go_wp2_with fail
            refine (put_any w.heap.size V N la _ lc zs _ rfl hT hI (q9.old (Nat.le_refl _)) hw64 (by omega) (by omega) (by omega) (by omega) (by omega)).mono ?_
            rintro e w1 ⟨rfl, hT1, hc1⟩
            have _hT1 := hT1
            have a0 := (hc1.cell (p := ⟨b, o + k * 2, none⟩) hbr hbT).trans e0
            have a1 := (hc1.cell (p := ⟨b, o + k * 2 + 1, none⟩) hbr hbT).trans e1
            have hsb1 := (hc1.block (w.heap.size + 1) (blk_lt hsb) (by omega)).trans hsb
            have hP1 := hP.chg hc1 (fun _ y hy e => by have := hfr y hy; omega)
            have hI1 := hI.chg hc1 (q9.old (Nat.le_refl _))
            have hbel1 : Below w.heap.size w w1 := hbel.trans (hc1.below (by omega) (fun k _ e => by omega))
            go_wp2_with fail
            refine (put_nil la _ lc _).mono ?_
            rintro e w' ⟨rfl, rfl⟩
            have HN := Lib.hid hbT
            obtain ⟨s0, s1, s2, s3⟩ := num_has hsb1
            have hs1 := blk_lt hsb1
            have hnn := num_len hP1 30 (by rw [pw30]; omega)
            have hIs := (hI1 : Ints .i64 w1 la zs)
            have hbr1 : b < w1.heap.size := Nat.lt_of_lt_of_le hbr hc1.size
            have hV1 := I64.sum hw64 (by omega : zs.length ≤ 20)
            have hnm := d20
            go_wp2_with fail
            go_region_with
              (first
                | (go_at_call 14; refine (sum_pos la _ lc zs _ rfl (Ints.drew hIs) hw64 (by omega)).mono ?_; rintro e w2 ⟨x3, a3, n3, c3, rfl, hnum3, hb2, hfr2⟩; obtain ⟨hc2, hf2⟩ := bcell hb2; have sb2 := (hb2.block (w.heap.size + 1) (by exact hs1)).trans (by exact hsb1); obtain ⟨m0, m1, m2, m3⟩ := num_has sb2; have hP2 := (NumP.drew hP1).below hb2; have hn3 := num_len hnum3 30 (by rw [pw30]; omega); have z1 := (hc2 b (o + k * 2) (by exact hbr1)).trans (by exact a0); have z2 := (hc2 b (o + k * 2 + 1) (by exact hbr1)).trans (by exact a1); clear hc2 hf2)
                | (go_at_call 16; refine (plus_num x x3 a a3 nn cc n3 c3 _ _ _ hP2 hnum3 (by omega) (by omega)).mono ?_; rintro e w4 ⟨x5, a5, n5, c5, rfl, hnum5, hb4, hfr4⟩; have sb4 := (hb4.block (w.heap.size + 1) (blk_lt sb2)).trans sb2; obtain ⟨g0, g1, g2, g3⟩ := num_has sb4))
            all_goals
              have hsz2 : w1.heap.size ≤ w2.heap.size := hb2.size
              have hn5 := num_len hnum5 30 (by rw [pw30]; omega)
              obtain ⟨r1, r2⟩ := num_set sb4 hnum5
              have hch := ((((Chg.refl (· = w.heap.size + 1) w1).drew.thenB hb2).thenB hb4).setCell (p := ⟨w.heap.size + 1, 0, none⟩) (.inr rfl) (.bool x5)).setCell (p := ⟨w.heap.size + 1, 1, none⟩) (.inr rfl) (.slice a5 n5 c5)
              have hT5 := total_chg hT1 hch (by omega) (by omega)
              have hsz5 := hch.size
              go_wp2_with fail
              refine (sum_any w.heap.size _ _ _ hT5).mono ?_
              rintro e w6 ⟨rfl, hb6⟩
              have sb6 := (hb6.block (w.heap.size + 1) (blk_lt r2)).trans r2
              obtain ⟨f0, f1, f2, f3⟩ := num_has sb6
              have hT6 := total_chg hT5 (Chg.ofBelow (S := fun _ => False) hb6) (by omega) (fun f => f)
              have hP6 := r1.below hb6
              have hsz6 := hb6.size
              go_wp2_with fail
              refine (told_any x5 a5 n5 c5 _ _ hP6 (by omega)).mono ?_
              rintro e w7 ⟨rfl, hb7⟩
              have hT7 := total_chg hT6 (Chg.ofBelow (S := fun _ => False) hb7) (by omega) (fun f => f)
              have hP7 := hP6.below hb7
              have hsz7 := hb7.size
              have sb7 := (hb7.block (w.heap.size + 1) (blk_lt sb6)).trans sb6
              go_wp2_with fail
              refine (count_any w.heap.size _ _ _ hT7).mono ?_
              rintro e w8 ⟨rfl, rfl⟩
              have hfin : Below w.heap.size w w7 := hbel1.trans (((hch.below (B := w.heap.size) (by omega) (fun k _ e => by omega)).trans (hb6.mono (by omega))).trans (hb7.mono (by omega)))
              clear hb2 hb4 hb6 hb7 hch sb2 sb4 r1 r2
              go_wp2
              go_roundw
              case rel => exact ⟨k + 1, x5, a5, n5, c5, _, _, by omega, by go_num, rfl, by rw [HNX.out]; simp [actStep], by omega, by omega, by omega, by omega, hT7, sb7, hP7, hfr4.mono (by omega), hfin⟩
              case measure => simp [intOf]; omega
          · go_wp2_with fail
            refine (take_any w.heap.size V N la _ lc zs _ rfl hT hI (q9.old (Nat.le_refl _)) hw64 (by omega) (by omega) (by omega) (by omega) (by omega)).mono ?_
            rintro e w1 ⟨rfl, hT1, hc1⟩
            rw [Int.sub_eq_add_neg] at hT1
            have a0 := (hc1.cell (p := ⟨b, o + k * 2, none⟩) hbr hbT).trans e0
            have a1 := (hc1.cell (p := ⟨b, o + k * 2 + 1, none⟩) hbr hbT).trans e1
            have hsb1 := (hc1.block (w.heap.size + 1) (blk_lt hsb) (by omega)).trans hsb
            have hP1 := hP.chg hc1 (fun _ y hy e => by have := hfr y hy; omega)
            have hI1 := hI.chg hc1 (q9.old (Nat.le_refl _))
            have hbel1 : Below w.heap.size w w1 := hbel.trans (hc1.below (by omega) (fun k _ e => by omega))
            go_wp2_with fail
            refine (take_nil la _ lc _).mono ?_
            rintro e w' ⟨rfl, rfl⟩
            have HN := Lib.hid hbT
            obtain ⟨s0, s1, s2, s3⟩ := num_has hsb1
            have hs1 := blk_lt hsb1
            have hnn := num_len hP1 30 (by rw [pw30]; omega)
            have hIs := (hI1 : Ints .i64 w1 la zs)
            have hbr1 : b < w1.heap.size := Nat.lt_of_lt_of_le hbr hc1.size
            have hV1 := I64.sum hw64 (by omega : zs.length ≤ 20)
            have hnm := d20
            go_wp2_with fail
            go_region_with
              (first
                | (go_at_call 14; refine (sum_neg la _ lc zs _ rfl (Ints.drew hIs) hw64 (by omega)).mono ?_; rintro e w2 ⟨x3, a3, n3, c3, rfl, hnum3, hb2, hfr2⟩; obtain ⟨hc2, hf2⟩ := bcell hb2; have sb2 := (hb2.block (w.heap.size + 1) (by exact hs1)).trans (by exact hsb1); obtain ⟨m0, m1, m2, m3⟩ := num_has sb2; have hP2 := (NumP.drew hP1).below hb2; have hn3 := num_len hnum3 30 (by rw [pw30]; omega); have z1 := (hc2 b (o + k * 2) (by exact hbr1)).trans (by exact a0); have z2 := (hc2 b (o + k * 2 + 1) (by exact hbr1)).trans (by exact a1); clear hc2 hf2)
                | (go_at_call 16; refine (plus_num x x3 a a3 nn cc n3 c3 _ _ _ hP2 hnum3 (by omega) (by omega)).mono ?_; rintro e w4 ⟨x5, a5, n5, c5, rfl, hnum5, hb4, hfr4⟩; have sb4 := (hb4.block (w.heap.size + 1) (blk_lt sb2)).trans sb2; obtain ⟨g0, g1, g2, g3⟩ := num_has sb4))
            all_goals
              have hsz2 : w1.heap.size ≤ w2.heap.size := hb2.size
              have hn5 := num_len hnum5 30 (by rw [pw30]; omega)
              obtain ⟨r1, r2⟩ := num_set sb4 hnum5
              have hch := ((((Chg.refl (· = w.heap.size + 1) w1).drew.thenB hb2).thenB hb4).setCell (p := ⟨w.heap.size + 1, 0, none⟩) (.inr rfl) (.bool x5)).setCell (p := ⟨w.heap.size + 1, 1, none⟩) (.inr rfl) (.slice a5 n5 c5)
              have hT5 := total_chg hT1 hch (by omega) (by omega)
              have hsz5 := hch.size
              go_wp2_with fail
              refine (sum_any w.heap.size _ _ _ hT5).mono ?_
              rintro e w6 ⟨rfl, hb6⟩
              have sb6 := (hb6.block (w.heap.size + 1) (blk_lt r2)).trans r2
              obtain ⟨f0, f1, f2, f3⟩ := num_has sb6
              have hT6 := total_chg hT5 (Chg.ofBelow (S := fun _ => False) hb6) (by omega) (fun f => f)
              have hP6 := r1.below hb6
              have hsz6 := hb6.size
              go_wp2_with fail
              refine (told_any x5 a5 n5 c5 _ _ hP6 (by omega)).mono ?_
              rintro e w7 ⟨rfl, hb7⟩
              have hT7 := total_chg hT6 (Chg.ofBelow (S := fun _ => False) hb7) (by omega) (fun f => f)
              have hP7 := hP6.below hb7
              have hsz7 := hb7.size
              have sb7 := (hb7.block (w.heap.size + 1) (blk_lt sb6)).trans sb6
              go_wp2_with fail
              refine (count_any w.heap.size _ _ _ hT7).mono ?_
              rintro e w8 ⟨rfl, rfl⟩
              have hfin : Below w.heap.size w w7 := hbel1.trans (((hch.below (B := w.heap.size) (by omega) (fun k _ e => by omega)).trans (hb6.mono (by omega))).trans (hb7.mono (by omega)))
              clear hb2 hb4 hb6 hb7 hch sb2 sb4 r1 r2
              go_wp2
              go_roundw
              case rel => exact ⟨k + 1, x5, a5, n5, c5, _, _, by omega, by go_num, rfl, by rw [HNX.out]; simp [actStep, Int.sub_eq_add_neg], by omega, by omega, by omega, by omega, hT7, sb7, hP7, hfr4.mono (by omega), hfin⟩
              case measure => simp [intOf]; omega
      · obtain rfl : k = acts.length := by omega
        clear hlt
        go_wp2_with fail
        refine (sum_nil _).mono ?_
        rintro e w' ⟨rfl, rfl⟩
        go_wp2_with fail
        refine (count_nil _).mono ?_
        rintro e w' ⟨rfl, rfl⟩
        go_wp2_with fail
        refine (awake_any _).mono ?_
        rintro e w5 ⟨rfl, hb5⟩
        go_wp2
        go_ret
        exact ⟨rfl, Below.thenB hbel hbel.size hb5⟩
end Go.Proofs.Ytaipkmgpjkbapaa
