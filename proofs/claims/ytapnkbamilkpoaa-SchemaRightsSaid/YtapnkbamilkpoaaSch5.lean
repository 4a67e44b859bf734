/- Contracts of schema: rightIndexes, Right. -/
import Derived.Test.YtapnkbamilkpoaaSch4
namespace Go.Proofs.Ytapnkbamilkpoaa
open Go.RowKit
set_option maxRecDepth 100000 in
set_option maxHeartbeats 2000000 in
theorem idxs_any (a : Option Addr) (m c : Nat) (zs : List Idx) (n : Int) (hn0 : 0 ≤ n) (hn1 : n ≤ 1000000) (w : World) (hl : zs.length = m) (hmc : m ≤ c) (hm : m ≤ 281474976710656) (hz : Idxs w a zs) :
    Calls Try.prog 40 #[.slice a m c, .int .i64 n] w fun e w' => e = .returned (.bool (idxsB n zs)) ∧ Below w.heap.size w w' := by
  obtain ⟨R, hR⟩ : ∃ R, R = idxsB n zs := ⟨_, rfl⟩
  rw [← hR]
  have HBT := Lib.hid (fun W => between_any 1 (m : Int) 4 W)
  by_cases hlen : 1 ≤ m ∧ m ≤ 4
  · rw [decide_eq_true (by omega : (1 : Int) ≤ (m : Int)), decide_eq_true (by omega : (m : Int) ≤ 4)] at HBT
    simp only [Bool.and_true] at HBT
    have HR := Lib.hid hR
    have HL := Lib.hid hl
    have HZ := Lib.hid hz
    have HUN := Lib.hid (fun W (hb : Below w.heap.size w W) => unlike_idx a m c zs W hl hmc (by omega) (hz.below hb))
    obtain ⟨b0, o0, z0, ha0, hb0, hz0, q0, q1, _⟩ := Idxs.at hz hl (by omega : 0 < m) (Below.refl _ _)
    rw [Nat.zero_mul, Nat.add_zero] at q0 q1
    obtain ⟨u0, hu0⟩ : ∃ u, u = z0.u := ⟨_, rfl⟩
    rw [← hu0] at q1
    have hhead : headU zs = u0 := by rw [hu0]; exact headU_of hz0
    have hm0 : (0 : Int) < (m : Int) := by omega
    subst ha0
    cases u0 with
    | false =>
      have HF := Lib.hid (show R = false by rw [hR]; unfold idxsB; rw [hhead]; simp)
      clear hR hl hz hz0 HL HR HZ HUN hhead hu0
      go_enter Try.func40, Try.ntmps40
      go_wp2_with fail
      refine (HBT.out _).mono ?_
      rintro e w1 ⟨rfl, hE⟩
      subst hE
      go_wp2
      go_ret
      exact ⟨by rw [HF.out]; rfl, Below.refl _ _⟩
    | true =>
    have HHD := Lib.hid hhead
    clear hR hl hz hz0 hhead hu0
    go_enter Try.func40, Try.ntmps40
    go_wp2_with fail
    refine (HBT.out _).mono ?_
    rintro e w1 ⟨rfl, hE⟩
    subst hE
    clear HBT
    go_wp2
    go_loopw [20] (fun i wr => ∃ k : Nat, k ≤ m ∧ i = .int .i64 (k : Int) ∧ Hid ((zs.take k).all (fun x => placesB n x.ps) = true) ∧ Below w.heap.size w wr) (fun i _ => m - (intOf i).toNat)
    case atStart => exact ⟨0, Nat.zero_le _, rfl, Lib.hid (by simp), Below.refl _ _⟩
    case round =>
      obtain ⟨k, hk, rfl, hall, hbel⟩ := hrel
      have hsz := hbel.size
      by_cases hlt : k < m
      · have hlt' : decide ((k : Int) < (m : Int)) = true := decide_eq_true (by omega)
        obtain ⟨bs, o, z, hae, hbs, hzk, c0, c1, hzi, hzl, hzc, hzb⟩ := Idxs.at HZ.out HL.out hlt hbel
        injection hae with hae
        injection hae with hae1 hae2
        subst hae1 hae2
        have hstep : ∀ t, t = ((fun x => placesB n x.ps)) z → (t = true → Hid ((zs.take (k + 1)).all (fun x => placesB n x.ps) = true)) ∧ (t = false → R = false) := by
          intro t ht
          constructor
          · intro h
            show (zs.take (k + 1)).all (fun x => placesB n x.ps) = true
            rw [List.take_add_one, hzk, List.all_append, hall.out]
            simpa [h] using (ht.symm.trans h)
          · intro h
            rw [HR.out]
            unfold idxsB
            have : zs.all (fun x => placesB n x.ps) = false := List.all_eq_false.2 ⟨z, List.mem_of_getElem? hzk, by rw [ht] at h; simpa using h⟩
            rw [this]; simp
        obtain ⟨za, zn, zc, zp, zu⟩ := z
        simp only [] at c0 c1 hzi hzl hzc hzb
        obtain ⟨W2, hW2⟩ : ∃ W2, W2 = wr.alloc (.cells #[.slice za zn zc, .bool zu] 34) := ⟨_, rfl⟩
        have hA2 : Below wr.heap.size wr W2 := by rw [hW2]; exact (Below.refl _ _).alloc (Nat.le_refl _) _
        have hk2 : W2.heap[wr.heap.size]? = some (.cells #[.slice za zn zc, .bool zu] 34 (0, 0)) := by rw [hW2]; exact Array.getElem?_push_size
        have hpl := places_any za zn zc zp n hn0 hn1 W2 hzl hzc hzb (hzi.below hA2)
        obtain ⟨t, ht⟩ : ∃ t, t = placesB n zp := ⟨_, rfl⟩
        rw [← ht] at hpl
        obtain ⟨hs1', hs2'⟩ := hstep t ht
        have HPL := Lib.hid hpl
        have HB2 := Lib.hid (Below.thenB hbel hsz hA2)
        have HW2 := Lib.hid hW2.symm
        obtain ⟨⟨e20, e21⟩, _⟩ := two_at2 hk2
        clear hpl hk2 hW2 hA2 ht hstep hall hbel hzk hzi
        cases t with
        | true =>
          have hok := hs1' rfl
          clear hs1' hs2'
          go_upto_region 6 with fail
          rw [HW2.out]
          go_wp2_with fail
          refine HPL.out.mono ?_
          rintro e w4 ⟨rfl, hb4⟩
          have HB4 := Lib.hid (Below.thenB HB2.out HB2.out.size hb4)
          clear hb4 HB2 HPL HW2 c0 c1 e20 e21
          go_wp2
          go_roundw
          case rel => exact ⟨k + 1, by omega, by go_num, hok, HB4.out⟩
          case measure => simp [intOf]; omega
        | false =>
          have HF := Lib.hid (hs2' rfl)
          clear hs1' hs2'
          go_upto_region 6 with fail
          rw [HW2.out]
          go_wp2_with fail
          refine HPL.out.mono ?_
          rintro e w4 ⟨rfl, hb4⟩
          have HB4 := Lib.hid (Below.thenB HB2.out HB2.out.size hb4)
          clear hb4
          go_wp2
          go_ret
          exact ⟨by rw [HF.out]; rfl, HB4.out⟩
      · have hlt' : decide ((k : Int) < (m : Int)) = false := decide_eq_false (by omega)
        have hun := HUN.out wr hbel
        have HT := Lib.hid (show decide (zs.map (fun x : Idx => x.ps)).Nodup = R by
          have := hall.out
          rw [List.take_of_length_le (by rw [HL.out]; omega)] at this
          rw [HR.out]; unfold idxsB
          rw [HL.out, this, decide_eq_true hlen.1, decide_eq_true hlen.2]
          rw [HHD.out]
          simp)
        rw [HT.out] at hun
        have HU2 := Lib.hid hun
        have HBL := Lib.hid hbel
        clear hall hbel hun
        go_wp2_with fail
        refine HU2.out.mono ?_
        rintro e w3 ⟨rfl, hb3⟩
        have hB := Below.thenB HBL.out hsz hb3
        go_wp2
        go_ret
        exact ⟨rfl, hB⟩
  · have hor : decide ((1 : Int) ≤ (m : Int)) = false ∨ decide ((m : Int) ≤ 4) = false := by
      rcases (by omega : ¬ 1 ≤ m ∨ ¬ m ≤ 4) with h | h
      · exact .inl (decide_eq_false (by omega))
      · exact .inr (decide_eq_false (by omega))
    have hbt : (decide ((1 : Int) ≤ (m : Int)) && decide ((m : Int) ≤ 4)) = false := by rcases hor with h | h <;> rw [h] <;> simp
    rw [hbt] at HBT
    have HT := Lib.hid (show R = false by
      rw [hR]; unfold idxsB
      rw [hl]
      rcases (by omega : ¬ 1 ≤ m ∨ ¬ m ≤ 4) with h | h
      · rw [decide_eq_false h]; simp
      · rw [decide_eq_false h]; simp)
    clear hR hl hz hor hbt
    go_enter Try.func40, Try.ntmps40
    go_wp2_with fail
    refine (HBT.out _).mono ?_
    rintro e w1 ⟨rfl, hE⟩
    subst hE
    go_wp2
    go_ret
    exact ⟨by rw [HT.out]; rfl, Below.refl _ _⟩
end Go.Proofs.Ytapnkbamilkpoaa
