/- Contract of cutKey: one value out of a key. -/
import Derived.Test.YtfoejfneggcncaaDoorCutText
import Derived.Test.YtfoejfneggcncaaDoorNumber
namespace Go.Proofs.YtfoejfneggcncaaDoor
open Go.RowKit
/-- A value out of a key's bytes, and what stands behind. -/
def vcut : List UInt8 → Option ((Int × Int × ByteArray) × List UInt8)
  | [] => none
  | k :: r =>
    if k = 1 ∧ 8 ≤ r.length then some ((1, (num8 (r.take 8) : Int) - 9223372036854775808, ⟨#[]⟩), r.drop 8)
    else if k = 2 then (unesc r).map fun p => ((2, 0, ⟨p.1.toArray⟩), p.2)
    else if k = 3 then match r with | [] => none | d :: t => some ((3, (d.toNat : Int), ⟨#[]⟩), t)
    else none
def ckret (o : Option ((Int × Int × ByteArray) × List UInt8)) : Ending := match o with
  | some p => .returned (.tuple #[.agg #[.int .i64 p.1.1, .int .i64 p.1.2.1, .string p.1.2.2], .string ⟨p.2.toArray⟩, .bool true])
  | none => .returned (.tuple #[.agg #[.int .i64 0, .int .i64 0, .string ⟨#[]⟩], .string ⟨#[]⟩, .bool false])
theorem exA {rb : ByteArray} {r : List UInt8} (h : rb = ⟨r.toArray⟩) : rb.extract 0 8 = ⟨(r.take 8).toArray⟩ := by
  refine ba_eq _ _ ?_
  subst h
  simp
theorem exB {rb : ByteArray} {r : List UInt8} (h : rb = ⟨r.toArray⟩) : rb.extract 8 rb.size = ⟨(r.drop 8).toArray⟩ := by
  refine ba_eq _ _ ?_
  subst h
  simp [ba_size]
  exact List.take_of_length_le (by simp)
set_option maxRecDepth 100000 in
set_option maxHeartbeats 4000000 in
theorem cutkey_any (k : UInt8) (r : List UInt8) (hs : r.length ≤ 99999) (w : World) (hmx : IntCell w 1) :
    Calls Tryd.prog 34 #[.string ⟨(k :: r).toArray⟩] w fun e w' => e = ckret (vcut (k :: r)) ∧ Below w.heap.size w w' := by
  obtain ⟨s, hS⟩ : ∃ s : ByteArray, s = ⟨(k :: r).toArray⟩ := ⟨_, rfl⟩
  rw [← hS]
  obtain ⟨R, hR⟩ : ∃ R, R = vcut (k :: r) := ⟨_, rfl⟩
  rw [← hR]
  have HR0 := Lib.hid hR
  have h0 : 0 < s.size := by rw [hS, ba_size]; simp
  have h01 : 1 ≤ (s.size : Int) := by omega
  have hg : s[0] = k := rb0 hS h0
  have hx0 := ex1 hS
  obtain ⟨rb, hrb⟩ : ∃ rb : ByteArray, rb = ⟨r.toArray⟩ := ⟨_, rfl⟩
  rw [← hrb] at hx0
  have hrs : rb.size = r.length := by rw [hrb, ba_size]
  have HRB := Lib.hid hrb
  have HRS := Lib.hid hrs
  have HM := Lib.hid hmx
  have HG := Lib.hid hg
  clear hR hS hmx hrb hrs hg
  obtain ⟨W0, hW0⟩ : ∃ W0, W0 = (w.alloc (.cells #[.int .i64 0, .int .i64 0, .string ⟨#[]⟩] 54)) := ⟨_, rfl⟩
  have hA2 : Below w.heap.size w W0 := by rw [hW0]; exact (Below.refl _ _).alloc (Nat.le_refl _) _
  have hz0 : W0.heap.size = w.heap.size + 1 := by rw [hW0]; simp
  have hbA : W0.heap[w.heap.size]? = some (.cells #[.int .i64 0, .int .i64 0, .string ⟨#[]⟩] 54 (0, 0)) := by
    rw [hW0]; exact Array.getElem?_push_size
  have HBA := Lib.hid hbA
  have HW0 := Lib.hid hW0
  clear hbA hW0
  go_enter Tryd.func34, Tryd.ntmps34
  go_wp2_with fail
  rw [← HW0.out]
  go_quiet (fail)
  clear HW0
  have hA1 := bdrewN hA2 nq
  have HB1 : Hid ((W0.drewN nq).heap[w.heap.size]? = some (.cells #[.int .i64 0, .int .i64 0, .string ⟨#[]⟩] 54 (0, 0))) := HBA.out
  have hz1 : (W0.drewN nq).heap.size = w.heap.size + 1 := hz0
  clear hA2 HBA hz0
  generalize W0.drewN nq = W1 at hA1 HB1 hz1 ⊢
  clear W0
  have hm1 := HM.out.below hA1
  have HM1 := Lib.hid hm1
  clear hm1 h01 hx0
  by_cases hk1 : k = 1
  · have e1 : ((s[0].toNat : Int) == 1) = true := by rw [HG.out, hk1]; rfl
    by_cases h8 : 8 ≤ r.length
    · have hge : decide ((8 : Int) ≤ (rb.size : Int)) = true := decide_eq_true (by rw [HRS.out]; omega)
      have hge' : decide (8 ≤ rb.size) = true := decide_eq_true (by rw [HRS.out]; omega)
      have h81 : (8 : Int) ≤ (rb.size : Int) := by rw [HRS.out]; omega
      have h82 : 8 ≤ rb.size := by rw [HRS.out]; omega
      have hRi : Hid (R = some ((1, (num8 (r.take 8) : Int) - 9223372036854775808, ⟨#[]⟩), r.drop 8)) := by
        rw [HR0.out]; simp [vcut, hk1, h8, Hid]
      clear hk1 h8
      obtain ⟨n8, hn8⟩ : ∃ n8 : ByteArray, n8 = ⟨(r.take 8).toArray⟩ := ⟨_, rfl⟩
      have hxa := exA HRB.out
      rw [← hn8] at hxa
      have hxb := exB HRB.out
      have hns : n8.size = 8 := by have := HRS.out; rw [hn8, ba_size, List.length_take]; omega
      have hnl : n8.data.toList = r.take 8 := by rw [hn8]
      have HR : Hid (R = some ((1, (num8 n8.data.toList : Int) - 9223372036854775808, ⟨#[]⟩), r.drop 8)) := by rw [hnl]; exact hRi
      have hnb0 : num8 n8.data.toList < 18446744073709551616 := by have := num8_lt 8 n8.data.toList (by rw [← Lib.size_eq]; exact hns); simpa using this
      have hcn := Lib.hid (vnumber_any n8 hns)
      clear hn8 hRi hnl hns
      generalize num8 n8.data.toList = U at HR hcn hnb0
      obtain ⟨I, hI⟩ : ∃ I : Int, I = (U : Int) - 9223372036854775808 := ⟨_, rfl⟩
      rw [← hI] at HR hcn
      clear hI hnb0
      go_wp2_with fail
      go_region_with
        (first
          | (go_at_call 47; refine (hcn.out _).mono ?_; rintro e w3 ⟨rfl, hb3⟩)
          | (go_at_call 28; refine (int_any I _).mono ?_; rintro e w4 ⟨rfl, hb4⟩; have hz3 := hb3.size; have a3 := (hb3.block w.heap.size (by show w.heap.size < W1.heap.size; omega)).trans (show W1.drew.heap[w.heap.size]? = _ from HB1.out); have a4 := (hb4.block w.heap.size (by have : W1.heap.size ≤ w3.heap.size := hz3; omega)).trans a3; have A4 := Lib.hid a4; obtain ⟨⟨c0, c1, c2⟩, f0, f1, f2⟩ := val_has a4; clear a3 a4))
      all_goals
        have hs5 := val_set A4.out (.int .i64 1) (.int .i64 I) (.string ⟨#[]⟩)
        have hb5 := chg3 (B := w.heap.size) (Below.thenB (Below.thenB hA1.drew (by show w.heap.size ≤ W1.heap.size; omega) hb3) (by have : W1.heap.size ≤ w3.heap.size := hz3; omega) hb4) (.int .i64 1) (.int .i64 I) (.string ⟨#[]⟩)
        go_wp2
        generalize (((w4.setCell ⟨w.heap.size, 0, none⟩ (.int .i64 1)).setCell ⟨w.heap.size, 1, none⟩ (.int .i64 I)).setCell ⟨w.heap.size, 2, none⟩ (.string ⟨#[]⟩)) = w5 at hs5 hb5 ⊢
        obtain ⟨⟨c0', c1', c2'⟩, _⟩ := val_has hs5
        have hRR := HR.out
        simp [bodyPost, results, Tryd.results34, go_sem, hRR, ckret, c0', c1', c2']
        first | exact hb5 | exact hb5.drew
    · have hge : decide ((8 : Int) ≤ (rb.size : Int)) = false := decide_eq_false (by rw [HRS.out]; omega)
      have hge' : decide (8 ≤ rb.size) = false := decide_eq_false (by rw [HRS.out]; omega)
      have HR : Hid (R = none) := by
        rw [HR0.out, hk1]; simp [vcut, h8, Hid]
      have e2 : ((s[0].toNat : Int) == 2) = false := by rw [HG.out, hk1]; rfl
      have e3 : ((s[0].toNat : Int) == 3) = false := by rw [HG.out, hk1]; rfl
      clear hk1 h8
      obtain ⟨⟨c0, c1, c2⟩, f0, f1, f2⟩ := val_has HB1.out
      have hs5 := val_set HB1.out (.int .i64 0) (.int .i64 0) (.string ⟨#[]⟩)
      have hb5 := chg3 (B := w.heap.size) (hA1) (.int .i64 0) (.int .i64 0) (.string ⟨#[]⟩)
      go_wp2
      generalize (((W1.setCell ⟨w.heap.size, 0, none⟩ (.int .i64 0)).setCell ⟨w.heap.size, 1, none⟩ (.int .i64 0)).setCell ⟨w.heap.size, 2, none⟩ (.string ⟨#[]⟩)) = w5 at hs5 hb5 ⊢
      obtain ⟨⟨c0', c1', c2'⟩, _⟩ := val_has hs5
      have hRR := HR.out
      simp [bodyPost, results, Tryd.results34, go_sem, hRR, ckret, c0', c1', c2']
      first | exact hb5 | exact hb5.drew
  · have e1 : ((s[0].toNat : Int) == 1) = false := by
      rw [HG.out]; exact beq_false_of_ne (fun e => hk1 (UInt8.toNat_inj.1 (Int.ofNat_inj.1 e)))
    by_cases hk2 : k = 2
    · have e2 : ((s[0].toNat : Int) == 2) = true := by rw [HG.out, hk2]; rfl
      have hR1 : R = (unesc r).map fun p => ((2, 0, ⟨p.1.toArray⟩), p.2) := by
        rw [HR0.out, hk2]; simp [vcut]
      have HR1 := Lib.hid hR1
      clear hk1 hk2 hR1
      go_wp2_with fail
      refine (cuttext_any rb (by rw [HRS.out]; omega) _ HM1.out).mono ?_
      rintro e w2 ⟨rfl, hb2⟩
      have hdl : rb.data.toList = r := by rw [HRB.out]
      rw [hdl]
      have a2 := (hb2.block w.heap.size (by omega)).trans HB1.out
      have A2 := Lib.hid a2
      have hA3 := Below.thenB hA1 (by omega) hb2
      clear hdl a2
      cases hu : unesc r with
      | none =>
        have HR : Hid (R = none) := by rw [HR1.out, hu]; exact rfl
        clear hu
        obtain ⟨⟨c0, c1, c2⟩, f0, f1, f2⟩ := val_has A2.out
        unfold cret
        have hs5 := val_set A2.out (.int .i64 0) (.int .i64 0) (.string ⟨#[]⟩)
        have hb5 := chg3 (B := w.heap.size) (hA3) (.int .i64 0) (.int .i64 0) (.string ⟨#[]⟩)
        go_wp2
        generalize (((w2.setCell ⟨w.heap.size, 0, none⟩ (.int .i64 0)).setCell ⟨w.heap.size, 1, none⟩ (.int .i64 0)).setCell ⟨w.heap.size, 2, none⟩ (.string ⟨#[]⟩)) = w5 at hs5 hb5 ⊢
        obtain ⟨⟨c0', c1', c2'⟩, _⟩ := val_has hs5
        have hRR := HR.out
        simp [bodyPost, results, Tryd.results34, go_sem, hRR, ckret, c0', c1', c2']
        first | exact hb5 | exact hb5.drew
      | some p =>
        have HR : Hid (R = some ((2, 0, ⟨p.1.toArray⟩), p.2)) := by rw [HR1.out, hu]; exact rfl
        clear hu
        obtain ⟨⟨c0, c1, c2⟩, f0, f1, f2⟩ := val_has A2.out
        unfold cret
        have hs5 := val_set A2.out (.int .i64 2) (.int .i64 0) (.string ⟨p.1.toArray⟩)
        have hb5 := chg3 (B := w.heap.size) (hA3) (.int .i64 2) (.int .i64 0) (.string ⟨p.1.toArray⟩)
        go_wp2
        generalize (((w2.setCell ⟨w.heap.size, 0, none⟩ (.int .i64 2)).setCell ⟨w.heap.size, 1, none⟩ (.int .i64 0)).setCell ⟨w.heap.size, 2, none⟩ (.string ⟨p.1.toArray⟩)) = w5 at hs5 hb5 ⊢
        obtain ⟨⟨c0', c1', c2'⟩, _⟩ := val_has hs5
        have hRR := HR.out
        simp [bodyPost, results, Tryd.results34, go_sem, hRR, ckret, c0', c1', c2']
        first | exact hb5 | exact hb5.drew
    · have e2 : ((s[0].toNat : Int) == 2) = false := by
        rw [HG.out]; exact beq_false_of_ne (fun e => hk2 (UInt8.toNat_inj.1 (Int.ofNat_inj.1 e)))
      by_cases hk3 : k = 3
      · have e3 : ((s[0].toNat : Int) == 3) = true := by rw [HG.out, hk3]; rfl
        rcases r with _ | ⟨d, t⟩
        · have HR : Hid (R = none) := by
            rw [HR0.out, hk3]; simp [vcut, Hid]
          have hre : rb = ⟨#[]⟩ := HRB.out
          clear HRB hk1 hk2 hk3
          subst hre
          obtain ⟨⟨c0, c1, c2⟩, f0, f1, f2⟩ := val_has HB1.out
          have hs5 := val_set HB1.out (.int .i64 0) (.int .i64 0) (.string ⟨#[]⟩)
          have hb5 := chg3 (B := w.heap.size) (hA1) (.int .i64 0) (.int .i64 0) (.string ⟨#[]⟩)
          go_wp2
          generalize (((W1.setCell ⟨w.heap.size, 0, none⟩ (.int .i64 0)).setCell ⟨w.heap.size, 1, none⟩ (.int .i64 0)).setCell ⟨w.heap.size, 2, none⟩ (.string ⟨#[]⟩)) = w5 at hs5 hb5 ⊢
          obtain ⟨⟨c0', c1', c2'⟩, _⟩ := val_has hs5
          have hRR := HR.out
          simp [bodyPost, results, Tryd.results34, go_sem, hRR, ckret, c0', c1', c2']
          first | exact hb5 | exact hb5.drew
        · have HR : Hid (R = some ((3, (d.toNat : Int), ⟨#[]⟩), t)) := by
            rw [HR0.out, hk3]; simp [vcut, Hid]
          have hre : rb.toList.isEmpty = false := ne_empty (by rw [HRS.out]; simp)
          have hr0 : 0 < rb.size := by rw [HRS.out]; simp
          have hr1 : 1 ≤ (rb.size : Int) := by omega
          have hrg : rb[0] = d := rb0 HRB.out hr0
          have hxt := ex1 HRB.out
          clear hk1 hk2 hk3
          have hd256 : d.toNat < 256 := d.toNat_lt
          have hwr : IntKind.i64.wrap (rb[0].toNat : Int) = (d.toNat : Int) := by rw [hrg]; simp [IntKind.wrap, IntKind.bits, IntKind.signed]; omega
          clear hrg
          obtain ⟨⟨c0, c1, c2⟩, f0, f1, f2⟩ := val_has HB1.out
          go_wp2_with fail
          go_region
          all_goals
            have hs5 := val_set HB1.out (.int .i64 3) (.int .i64 (d.toNat : Int)) (.string ⟨#[]⟩)
            have hb5 := chg3 (B := w.heap.size) (hA1) (.int .i64 3) (.int .i64 (d.toNat : Int)) (.string ⟨#[]⟩)
            go_wp2
            generalize (((W1.setCell ⟨w.heap.size, 0, none⟩ (.int .i64 3)).setCell ⟨w.heap.size, 1, none⟩ (.int .i64 (d.toNat : Int))).setCell ⟨w.heap.size, 2, none⟩ (.string ⟨#[]⟩)) = w5 at hs5 hb5 ⊢
            obtain ⟨⟨c0', c1', c2'⟩, _⟩ := val_has hs5
            have hRR := HR.out
            simp [bodyPost, results, Tryd.results34, go_sem, hRR, ckret, c0', c1', c2']
            first | exact hb5 | exact hb5.drew
      · have e3 : ((s[0].toNat : Int) == 3) = false := by
          rw [HG.out]; exact beq_false_of_ne (fun e => hk3 (UInt8.toNat_inj.1 (Int.ofNat_inj.1 e)))
        have HR : Hid (R = none) := by
          rw [HR0.out]; simp [vcut, hk1, hk2, hk3, Hid]
        clear hk1 hk2 hk3
        obtain ⟨⟨c0, c1, c2⟩, f0, f1, f2⟩ := val_has HB1.out
        have hs5 := val_set HB1.out (.int .i64 0) (.int .i64 0) (.string ⟨#[]⟩)
        have hb5 := chg3 (B := w.heap.size) (hA1) (.int .i64 0) (.int .i64 0) (.string ⟨#[]⟩)
        go_wp2
        generalize (((W1.setCell ⟨w.heap.size, 0, none⟩ (.int .i64 0)).setCell ⟨w.heap.size, 1, none⟩ (.int .i64 0)).setCell ⟨w.heap.size, 2, none⟩ (.string ⟨#[]⟩)) = w5 at hs5 hb5 ⊢
        obtain ⟨⟨c0', c1', c2'⟩, _⟩ := val_has hs5
        have hRR := HR.out
        simp [bodyPost, results, Tryd.results34, go_sem, hRR, ckret, c0', c1', c2']
        first | exact hb5 | exact hb5.drew
end Go.Proofs.YtfoejfneggcncaaDoor
