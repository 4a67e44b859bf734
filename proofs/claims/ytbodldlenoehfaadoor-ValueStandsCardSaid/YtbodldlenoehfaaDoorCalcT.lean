/- Contracts of calc.Total's methods. -/
import Derived.Test.YtbodldlenoehfaaDoorCalcW
namespace Go.Proofs.YtbodldlenoehfaaDoor
open Go.RowKit

/-- The cells of a Total. -/
def TotalAt (w : World) (b : Nat) (V n : Int) : Prop :=
  w.cell? ⟨b, 0, none⟩ = some (.int .i64 (wdHi V)) ∧ w.cell? ⟨b, 1, none⟩ = some (.int .u64 (wdLo V)) ∧ w.cell? ⟨b, 2, none⟩ = some (.int .i64 n) ∧
  w.frozen? ⟨b, 0, none⟩ = false ∧ w.frozen? ⟨b, 1, none⟩ = false ∧ w.frozen? ⟨b, 2, none⟩ = false
def sumL (zs : List Int) : Int := zs.foldl (· + ·) 0
theorem sumL_snoc (zs : List Int) (x : Int) : sumL (zs ++ [x]) = sumL zs + x := by simp [sumL]
theorem sumL_bd {zs : List Int} (h : I64s zs) (k : Nat) (hk : k ≤ zs.length) :
    -9223372036854775808 * (k : Int) ≤ sumL (zs.take k) ∧ sumL (zs.take k) ≤ 9223372036854775807 * (k : Int) := by
  induction k with
  | zero => simp [sumL]
  | succ k ih =>
    have := ih (by omega)
    have b := h.at k (by omega)
    rw [take_snocD zs k (by omega), sumL_snoc]
    omega

/-- What a number is answered as: itself, or nothing where it is beyond. -/
def okN (V : Int) : Int := if -9223372036854775808 ≤ V ∧ V ≤ 9223372036854775807 then V else 0
def erN (V : Int) : Int := if -9223372036854775808 ≤ V ∧ V ≤ 9223372036854775807 then 0 else 2
theorem ok_in {V : Int} (h : -9223372036854775808 ≤ V ∧ V ≤ 9223372036854775807) : okN V = V ∧ erN V = 0 := by unfold okN erN; simp [h]
theorem ok_out {V : Int} (h : V < -9223372036854775808 ∨ 9223372036854775807 < V) : okN V = 0 ∧ erN V = 2 := by
  unfold okN erN
  rw [if_neg (by omega), if_neg (by omega)]; exact ⟨rfl, rfl⟩
set_option maxHeartbeats 400000 in
theorem sum_yes (b : Nat) (V n : Int) (h1 : -9223372036854775808 ≤ V) (h2 : V ≤ 9223372036854775807) (w : World) (ht : TotalAt w b V n) :
    Calls Tryd.prog 68 #[.pointer (some ⟨b, 0, none⟩)] w fun e w' => e = .returned (.tuple #[.int .i64 V, .int .i64 0]) ∧ Below w.heap.size w w' := by
  obtain ⟨t1, t2, t3, t4, t5, t6⟩ := ht
  go_enter Tryd.func68, Tryd.ntmps68
  go_wp2_with (go_at_call 73; refine (narrow_yes V h1 h2 _).mono ?_; rintro e w1 ⟨rfl, hb1⟩)
  go_ret2
  exact ⟨rfl, hb1⟩
set_option maxHeartbeats 400000 in
theorem sum_no (b : Nat) (V n : Int) (h : V < -9223372036854775808 ∨ 9223372036854775807 < V) (w : World) (ht : TotalAt w b V n) :
    Calls Tryd.prog 68 #[.pointer (some ⟨b, 0, none⟩)] w fun e w' => e = .returned (.tuple #[.int .i64 0, .int .i64 2]) ∧ Below w.heap.size w w' := by
  obtain ⟨t1, t2, t3, t4, t5, t6⟩ := ht
  go_enter Tryd.func68, Tryd.ntmps68
  go_wp2_with (go_at_call 73; refine (narrow_no V h _).mono ?_; rintro e w1 ⟨rfl, hb1⟩)
  go_ret2
  exact ⟨rfl, hb1⟩

theorem sum_any (b : Nat) (V n : Int) (w : World) (ht : TotalAt w b V n) :
    Calls Tryd.prog 68 #[.pointer (some ⟨b, 0, none⟩)] w fun e w' => e = .returned (.tuple #[.int .i64 (okN V), .int .i64 (erN V)]) ∧ Below w.heap.size w w' := by
  unfold okN erN
  by_cases h : -9223372036854775808 ≤ V ∧ V ≤ 9223372036854775807
  · simpa [h] using sum_yes b V n h.1 h.2 w ht
  · simpa [h] using sum_no b V n (by omega) w ht
set_option maxHeartbeats 400000 in
theorem sum_nil (w : World) :
    Calls Tryd.prog 68 #[.pointer none] w fun e w' => e = .returned (.tuple #[.int .i64 0, .int .i64 0]) ∧ w = w' := by
  go_enter Tryd.func68, Tryd.ntmps68
  go_wp2
  go_ret2
  exact ⟨rfl, rfl⟩
theorem total_chg {S : Nat → Prop} {w w' : World} {b : Nat} {V n : Int} (h : TotalAt w b V n) (hc : Chg S w w') (hb : b < w.heap.size) (hs : ¬ S b) : TotalAt w' b V n := by
  obtain ⟨h1, h2⟩ := ccell hc
  obtain ⟨t1, t2, t3, t4, t5, t6⟩ := h
  exact ⟨by rw [h1 b _ hb hs]; exact t1, by rw [h1 b _ hb hs]; exact t2, by rw [h1 b _ hb hs]; exact t3, by rw [h2 b _ hb hs]; exact t4, by rw [h2 b _ hb hs]; exact t5, by rw [h2 b _ hb hs]; exact t6⟩
set_option maxHeartbeats 1000000 in
theorem put_any (b : Nat) (V n : Int) (a : Option Addr) (m c : Nat) (zs : List Int) (w : World) (hm : zs.length = m) (ht : TotalAt w b V n) (hz : Ints .i64 w a zs) (hne : zs ≠ [] → ∀ x, a = some x → x.block ≠ b)
    (hi : I64s zs) (hl : zs.length ≤ 1048576) (hV : -85070591730234615865843651857942052864 ≤ V) (hV' : V ≤ 85070591730234615865843651857942052864) (hn : -4611686018427387904 ≤ n) (hn' : n ≤ 4611686018427387904) :
    Calls Tryd.prog 67 #[.pointer (some ⟨b, 0, none⟩), .slice a m c] w fun e w' => e = .returned (.tuple #[]) ∧ TotalAt w' b (V + sumL zs) (n + zs.length) ∧ Chg (· = b) w w' := by
  subst hm
  rcases hz with rfl | ⟨hnn, bs, o, rfl, hbs, hz⟩
  · obtain ⟨t1, t2, t3, t4, t5, t6⟩ := ht
    go_enter Tryd.func67, Tryd.ntmps67
    go_wp2
    refine wp_loop_rounds 1 ?_
    rw [rounds_succ]
    go_wp2
    go_end0
    exact ⟨rfl, ⟨by go_simp; simp [sumL], by go_simp; simp [sumL], by go_simp, by go_simp, by go_simp, by go_simp⟩, (Chg.refl (· = b) _).setCell (.inr rfl) _⟩
  · have hb := lt_of_cell ht.1
    have hne : bs ≠ b := hne hnn _ rfl
    go_enter Tryd.func67, Tryd.ntmps67
    go_wp2
    go_loopw [10] (fun i wr => ∃ k : Nat, k ≤ zs.length ∧ i = .int .i64 k ∧ TotalAt wr b (V + sumL (zs.take k)) n ∧ Chg (· = b) w wr) (fun i _ => zs.length - (intOf i).toNat)
    case atStart => exact ⟨0, Nat.zero_le _, rfl, by simpa [sumL] using ht, Chg.refl _ _⟩
    case round =>
      obtain ⟨k, hk, rfl, ht, hch⟩ := hrel
      have hs := sumL_bd hi k hk
      obtain ⟨t1, t2, t3, t4, t5, t6⟩ := ht
      by_cases hlt : k < zs.length
      · have hzk := hz k hlt
        rw [← hch.cell (p := ⟨bs, o + k, none⟩) hbs hne] at hzk
        have hzb := hi.at k hlt
        obtain ⟨hzb1, hzb2⟩ := hzb
        generalize hzz : zs.getD k 0 = z at *
        have hts := take_snocD zs k hlt
        rw [hzz] at hts
        have HS := Lib.hid hts
        clear hts hzz
        have B1 : -170141183460469231731687303715884105728 ≤ V + sumL (List.take k zs) := by omega
        have B2 : V + sumL (List.take k zs) ≤ 170141183460469231731687303715884105727 := by omega
        have B3 : -170141183460469231731687303715884105728 ≤ V + sumL (List.take k zs) + z := by omega
        have B4 : V + sumL (List.take k zs) + z ≤ 170141183460469231731687303715884105727 := by omega
        have hbr := lt_of_cell t1
        generalize hS : V + sumL (List.take k zs) = T at *
        have HT := Lib.hid hS
        clear hS
        go_wp2
        go_region_with
          (first
            | (go_at_call 95; refine (widen_any z hzb1 hzb2 _).mono ?_; rintro e w1 ⟨rfl, hb1⟩; obtain ⟨hc1, hf1⟩ := bcell hb1; have hz1 := Nat.lt_of_lt_of_le hbr hb1.size; have k0 := (hc1 b 0 hbr).trans t1; have k1 := (hc1 b 1 hbr).trans t2; have k2 := (hc1 b 2 hbr).trans t3; have g0 := (hf1 b 0 hbr).trans t4; have g1 := (hf1 b 1 hbr).trans t5; have g2 := (hf1 b 2 hbr).trans t6; clear hc1 hf1)
            | (go_at_call 94; refine (plus_any T z B1 B2 (by omega) (by omega) B3 B4 _).mono ?_; rintro e w2 ⟨rfl, hb2⟩; obtain ⟨hc1, hf1⟩ := bcell hb2; have l0 := (hc1 b 0 hz1).trans k0; have l1 := (hc1 b 1 hz1).trans k1; have l2 := (hc1 b 2 hz1).trans k2; have m0 := (hf1 b 0 hz1).trans g0; have m1 := (hf1 b 1 hz1).trans g1; have m2 := (hf1 b 2 hz1).trans g2; clear hc1 hf1))
        all_goals go_wp2
        all_goals
          refine ⟨⟨k + 1, by omega, by go_num, ?_, ?_⟩, by simp [intOf]; omega⟩
          · have e : V + sumL (List.take (k + 1) zs) = T + z := by rw [HS.out, sumL_snoc, ← HT.out]; omega
            rw [e]
            exact ⟨by go_simp, by go_simp, by go_simp, by go_simp, by go_simp, by go_simp⟩
          · exact (((hch.drew.thenB hb1).thenB hb2).setCell (.inr rfl) _).setCell (.inr rfl) _
      · obtain rfl : k = zs.length := by omega
        clear hlt
        rw [List.take_length] at t1 t2
        go_wp2
        go_end0
        refine ⟨rfl, ?_, hch.setCell (.inr rfl) _⟩
        exact ⟨by go_simp, by go_simp, by go_simp, by go_simp, by go_simp, by go_simp⟩
set_option maxHeartbeats 1000000 in
theorem take_any (b : Nat) (V n : Int) (a : Option Addr) (m c : Nat) (zs : List Int) (w : World) (hm : zs.length = m) (ht : TotalAt w b V n) (hz : Ints .i64 w a zs) (hne : zs ≠ [] → ∀ x, a = some x → x.block ≠ b)
    (hi : I64s zs) (hl : zs.length ≤ 1048576) (hV : -85070591730234615865843651857942052864 ≤ V) (hV' : V ≤ 85070591730234615865843651857942052864) (hn : -4611686018427387904 ≤ n) (hn' : n ≤ 4611686018427387904) :
    Calls Tryd.prog 117 #[.pointer (some ⟨b, 0, none⟩), .slice a m c] w fun e w' => e = .returned (.tuple #[]) ∧ TotalAt w' b (V - sumL zs) (n - zs.length) ∧ Chg (· = b) w w' := by
  subst hm
  rcases hz with rfl | ⟨hnn, bs, o, rfl, hbs, hz⟩
  · obtain ⟨t1, t2, t3, t4, t5, t6⟩ := ht
    go_enter Tryd.func117, Tryd.ntmps117
    go_wp2
    refine wp_loop_rounds 1 ?_
    rw [rounds_succ]
    go_wp2
    go_end0
    exact ⟨rfl, ⟨by go_simp; simp [sumL], by go_simp; simp [sumL], by go_simp, by go_simp, by go_simp, by go_simp⟩, (Chg.refl (· = b) _).setCell (.inr rfl) _⟩
  · have hb := lt_of_cell ht.1
    have hne : bs ≠ b := hne hnn _ rfl
    go_enter Tryd.func117, Tryd.ntmps117
    go_wp2
    go_loopw [10] (fun i wr => ∃ k : Nat, k ≤ zs.length ∧ i = .int .i64 k ∧ TotalAt wr b (V - sumL (zs.take k)) n ∧ Chg (· = b) w wr) (fun i _ => zs.length - (intOf i).toNat)
    case atStart => exact ⟨0, Nat.zero_le _, rfl, by simpa [sumL] using ht, Chg.refl _ _⟩
    case round =>
      obtain ⟨k, hk, rfl, ht, hch⟩ := hrel
      have hs := sumL_bd hi k hk
      obtain ⟨t1, t2, t3, t4, t5, t6⟩ := ht
      by_cases hlt : k < zs.length
      · have hzk := hz k hlt
        rw [← hch.cell (p := ⟨bs, o + k, none⟩) hbs hne] at hzk
        have hzb := hi.at k hlt
        obtain ⟨hzb1, hzb2⟩ := hzb
        generalize hzz : zs.getD k 0 = z at *
        have hts := take_snocD zs k hlt
        rw [hzz] at hts
        have HS := Lib.hid hts
        clear hts hzz
        have B1 : -170141183460469231731687303715884105728 ≤ V - sumL (List.take k zs) := by omega
        have B2 : V - sumL (List.take k zs) ≤ 170141183460469231731687303715884105727 := by omega
        have B3 : -170141183460469231731687303715884105728 ≤ V - sumL (List.take k zs) - z := by omega
        have B4 : V - sumL (List.take k zs) - z ≤ 170141183460469231731687303715884105727 := by omega
        have hbr := lt_of_cell t1
        generalize hS : V - sumL (List.take k zs) = T at *
        have HT := Lib.hid hS
        clear hS
        go_wp2
        go_region_with
          (first
            | (go_at_call 95; refine (widen_any z hzb1 hzb2 _).mono ?_; rintro e w1 ⟨rfl, hb1⟩; obtain ⟨hc1, hf1⟩ := bcell hb1; have hz1 := Nat.lt_of_lt_of_le hbr hb1.size; have k0 := (hc1 b 0 hbr).trans t1; have k1 := (hc1 b 1 hbr).trans t2; have k2 := (hc1 b 2 hbr).trans t3; have g0 := (hf1 b 0 hbr).trans t4; have g1 := (hf1 b 1 hbr).trans t5; have g2 := (hf1 b 2 hbr).trans t6; clear hc1 hf1)
            | (go_at_call 72; refine (less_any T z B1 B2 (by omega) (by omega) B3 B4 _).mono ?_; rintro e w2 ⟨rfl, hb2⟩; obtain ⟨hc1, hf1⟩ := bcell hb2; have l0 := (hc1 b 0 hz1).trans k0; have l1 := (hc1 b 1 hz1).trans k1; have l2 := (hc1 b 2 hz1).trans k2; have m0 := (hf1 b 0 hz1).trans g0; have m1 := (hf1 b 1 hz1).trans g1; have m2 := (hf1 b 2 hz1).trans g2; clear hc1 hf1))
        all_goals go_wp2
        all_goals
          refine ⟨⟨k + 1, by omega, by go_num, ?_, ?_⟩, by simp [intOf]; omega⟩
          · have e : V - sumL (List.take (k + 1) zs) = T - z := by rw [HS.out, sumL_snoc, ← HT.out]; omega
            rw [e]
            exact ⟨by go_simp, by go_simp, by go_simp, by go_simp, by go_simp, by go_simp⟩
          · exact (((hch.drew.thenB hb1).thenB hb2).setCell (.inr rfl) _).setCell (.inr rfl) _
      · obtain rfl : k = zs.length := by omega
        clear hlt
        rw [List.take_length] at t1 t2
        go_wp2
        go_end0
        refine ⟨rfl, ?_, hch.setCell (.inr rfl) _⟩
        exact ⟨by go_simp, by go_simp, by go_simp, by go_simp, by go_simp, by go_simp⟩
#print axioms put_any
#print axioms take_any
end Go.Proofs.YtbodldlenoehfaaDoor
