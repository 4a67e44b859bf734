/- The walk of SchemaPicks. -/
import Derived.Test.YtapnkbamilkpoaaAwake3
import Derived.Test.YtapnkbamilkpoaaSame
import Derived.Test.YtapnkbamilkpoaaGreat
import Derived.Test.YtapnkbamilkpoaaRdVal
import Derived.Test.YtapnkbamilkpoaaRdInts
namespace Go.Proofs.Ytapnkbamilkpoaa
open Go.RowKit
set_option maxRecDepth 100000 in
set_option maxHeartbeats 2000000 in
theorem rpick_any (a : Option Addr) (m c : Nat) (vs : List Val) (a' : Option Addr) (m' c' : Nat) (ps : List Int) (w : World) (hl : vs.length = m) (hv : Vals w a vs) (hl' : ps.length = m') (hm' : m' ≤ 1048576) (hp : Ints .i64 w a' ps) (hall : ∀ p ∈ ps, 0 ≤ p ∧ p < (m : Int)) :
    Calls Try.prog 28 #[.slice a m c, .slice a' m' c'] w fun e w' => RowRet w.heap.size (pickL vs ps) e w' ∧ Below w.heap.size w w' := by
  obtain ⟨i0, hi, iz0, iz1, iz2⟩ := info_parts info3_val
  have HL := Lib.hid hl
  have HV := Lib.hid hv
  have HL' := Lib.hid hl'
  have HP := Lib.hid hp
  have HAL := Lib.hid hall
  clear hl hv hl' hp hall
  go_enter Try.func28, Try.ntmps28
  go_wp2
  go_loopw [5, 6] (fun sl iv wr => ∃ (k : Nat) (oa : Option Addr) (oc : Nat), k ≤ m' ∧ iv = .int .i64 (k : Int) ∧ sl = .slice oa k oc ∧ wr.ownsRow w.heap.size 55 3 (.slice oa k oc) k (rowcs (pickL vs (ps.take k))) ∧ Below w.heap.size w wr) (fun _ iv _ => m' - (intOf iv).toNat)
  case atStart => exact ⟨0, none, 0, Nat.zero_le _, rfl, rfl, by rw [List.take_zero]; exact World.ownsRow_nil _ _ _ _, Below.refl _ _⟩
  case round =>
    obtain ⟨k, oa, oc, hk, rfl, rfl, hown, hbel⟩ := hrel
    have hsz := hbel.size
    by_cases hlt : k < m'
    · have hlt' : decide ((k : Int) < (m' : Int)) = true := decide_eq_true (by omega)
      rcases HP.out with hv0 | ⟨hnn, bs, o, rfl, hbs, hcz⟩
      · have := HL'.out
        rw [hv0] at this
        simp at this
        omega
      have hc := (hbel.cell (p := ⟨bs, o + k, none⟩) hbs).trans (hcz k (by rw [HL'.out]; exact hlt))
      have htk : ps.take (k + 1) = ps.take k ++ [ps.getD k 0] := take_snocD ps k (by rw [HL'.out]; exact hlt)
      have hmem : ps.getD k 0 ∈ ps := by
        have h3 : ps[k]? = some (ps.getD k 0) := by rw [List.getD_eq_getElem?_getD, List.getElem?_eq_getElem (by rw [HL'.out]; exact hlt)]; rfl
        exact List.mem_of_getElem? h3
      have hin := HAL.out _ hmem
      generalize ps.getD k 0 = z at hc htk hmem hin
      obtain ⟨q, rfl⟩ : ∃ q : Nat, z = (q : Int) := ⟨z.toNat, by omega⟩
      have hq : q < m := by omega
      obtain ⟨bv, ov, v, rfl, hbv, hvk, e0, e1, e2⟩ := Vals.at3 HV.out HL.out hq hbel
      have hgv : vs.getD q (0, 0, ⟨#[]⟩) = v := by rw [List.getD_eq_getElem?_getD, hvk]; rfl
      obtain ⟨vk, vn, vt⟩ := v
      simp only [] at e0 e1 e2
      have hrc := rowcs_pick vs (ps.take k) (q : Int)
      rw [← htk, Int.toNat_natCast, hgv] at hrc
      have HRC := Lib.hid hrc
      have HO := Lib.hid hown
      have HBL := Lib.hid hbel
      have hlt4 := hown.lt
      have hq0 : (0 : Int) ≤ (q : Int) := by omega
      have hq1 : (q : Int) < (m : Int) := by omega
      have hk0 : (0 : Int) ≤ (k : Int) := by omega
      have hk1 : (k : Int) < (m' : Int) := by omega
      clear hown hbel hrc htk hmem hvk hgv hin hcz
      go_wp2_with (at_builtin; refine wpList_append_lies _ rfl (.tmp 13) (.tmp 21) 35 rfl w.heap.size 55 i0 (.agg #[.int .i64 0, .int .i64 0, .string ⟨#[]⟩]) 3 32 Try.underlying35 hi iz0 iz1 iz2 rfl (by decide) _ k (rowcs (pickL vs (ps.take k))) rfl (HO.out.alloc _) ⟨wr.heap.size, 0, none⟩ 1 1 [.int .i64 vk, .int .i64 vn, .string vt] rfl rfl (three_new _ _ _ _ _) ?c1 (by decide) ?c2 ?c3 ?c4 (wr.heap.size + 1) ?c5 ?_)
      case c1 => simp [Value.oneCell']
      case c2 => unfold maxLen; omega
      case c3 => omega
      case c4 => first | omega | (simp; omega)
      try (case c5 => simp)
      intro g cap w5 hown5 hgrow hat hgl
      have hB5 : Below w.heap.size w w5 := by
        have hA4 : Below wr.heap.size wr (wr.alloc (.cells #[.int .i64 vk, .int .i64 vn, .string vt] 55)) := (Below.refl _ _).alloc (Nat.le_refl _) _
        have hc0 : Chg (fun _ => False) w (wr.alloc (.cells #[.int .i64 vk, .int .i64 vn, .string vt] 55)) := (Chg.ofBelow HBL.out).thenB' hsz hA4
        have hc5 := hc0.grown hgrow (fun k hk => .inl (hlt4 k hk).1)
        exact hc5.below (Nat.le_refl _) (fun _ _ h => h.elim)
      rw [← HRC.out] at hown5
      have HO5 := Lib.hid hown5
      have HB5 := Lib.hid hB5
      clear hown5 hgrow hat hgl hB5 hlt4 HO HBL hc e0 e1 e2
      go_wp2
      go_roundw
      case rel => exact ⟨k + 1, some ⟨g, 0, none⟩, cap, by omega, by go_num, rfl, HO5.out, HB5.out⟩
      case measure => simp [intOf]; omega
    · have hlt' : decide ((k : Int) < (m' : Int)) = false := decide_eq_false (by omega)
      have hkm : m' = k := by omega
      have hte : ps.take k = ps := List.take_of_length_le (by rw [HL'.out]; omega)
      rw [hte] at hown
      have hlp : (pickL vs ps).length = k := by unfold pickL; rw [List.length_map, HL'.out, hkm]
      have HO := Lib.hid hown
      have HLP := Lib.hid hlp
      have HBL := Lib.hid hbel
      clear hown hbel hte hlp
      go_wp2
      go_ret
      exact ⟨⟨oa, oc, by rw [HLP.out]; rfl, own3_vals HO.out, fun _ => own3_fresh HO.out⟩, HBL.out⟩
set_option maxRecDepth 100000 in
set_option maxHeartbeats 4000000 in
theorem picks_walk (v0 : Value) (x0 : List Val) (v1 : Value) (x1 : List Int) (w : World) (y0 : VArg w v0 x0) (y1 : IArg w v1 x1) : Calls Try.prog 5 #[v0, v1] w fun e w' => e = .returned (.bool true) ∧ Below w.heap.size w w' := by
  obtain ⟨a0, m0, c0, rfl, hl0, hmc0, hc0, hz0, hi0⟩ := y0
  obtain ⟨a1, m1, c1, rfl, hl1, hz1, hi1⟩ := y1
  have HA := Lib.hid awake3
  have hg := great_any a0 m0 c0 x0 w hl0 (by omega) hz0 hi0
  obtain ⟨G, hG⟩ : ∃ G, G = greatB x0 := ⟨_, rfl⟩
  rw [← hG] at hg
  have HG := Lib.hid hg
  have hGn : G = false → m0 ≤ 30 := fun h => by
    rw [hG] at h
    unfold greatB at h
    rw [Bool.or_eq_false_iff] at h
    have := of_decide_eq_false h.1
    omega
  have HL0 := Lib.hid hl0
  have HL1 := Lib.hid hl1
  have HZ0 := Lib.hid hz0
  have HZ1 := Lib.hid hz1
  clear hg hG hl0 hl1 hz0 hz1 hi0 hc0
  cases G with
  | true =>
    clear hGn
    go_enter Try.func5, Try.ntmps5
    go_wp2_with fail
    refine HG.out.mono ?_
    rintro e w1 ⟨rfl, hE⟩
    subst hE
    go_wp2_with fail
    refine (HA.out _).mono ?_
    rintro e w2 ⟨rfl, hb2⟩
    go_wp2
    go_ret
    exact ⟨rfl, hb2⟩
  | false =>
  have h030 := hGn rfl
  have hmx : m0 ≤ 281474976710656 := by omega
  clear hGn
  by_cases h1 : 30 < m1
  · have d1 : decide ((30 : Int) < (m1 : Int)) = true := decide_eq_true (by omega)
    go_enter Try.func5, Try.ntmps5
    go_wp2_with fail
    refine HG.out.mono ?_
    rintro e w1 ⟨rfl, hE⟩
    subst hE
    go_wp2_with fail
    refine (HA.out _).mono ?_
    rintro e w2 ⟨rfl, hb2⟩
    go_wp2
    go_ret
    exact ⟨rfl, hb2⟩
  have d1 : decide ((30 : Int) < (m1 : Int)) = false := decide_eq_false (by omega)
  go_enter Try.func5, Try.ntmps5
  go_wp2_with fail
  refine HG.out.mono ?_
  rintro e w1 ⟨rfl, hE⟩
  subst hE
  go_wp2
  go_loopw [5, 6] (fun tv iv wr => ∃ (k : Nat) (t : Bool), k ≤ m1 ∧ iv = .int .i64 (k : Int) ∧ tv = .bool t ∧ Hid (t = (x1.take k).all (therB m0)) ∧ wr = w) (fun _ iv _ => m1 - (intOf iv).toNat)
  case atStart => exact ⟨0, true, Nat.zero_le _, rfl, rfl, Lib.hid (by simp), rfl⟩
  case round =>
    obtain ⟨k, t, hk, rfl, rfl, ht, rfl⟩ := hrel
    by_cases hlt : k < m1
    · have hlt' : decide ((k : Int) < (m1 : Int)) = true := decide_eq_true (by omega)
      rcases HZ1.out with hv0 | ⟨hnn, bs, o, rfl, hbs, hcz⟩
      · have := HL1.out
        rw [hv0] at this
        simp at this
        omega
      have hc := hcz k (by rw [HL1.out]; exact hlt)
      have htk : x1.take (k + 1) = x1.take k ++ [x1.getD k 0] := take_snocD x1 k (by rw [HL1.out]; exact hlt)
      generalize x1.getD k 0 = z at hc htk
      have hk0 : (0 : Int) ≤ (k : Int) := by omega
      have hk1 : (k : Int) < (m1 : Int) := by omega
      have hst : (x1.take (k + 1)).all (therB m0) = (t && therB m0 z) := by rw [htk, List.all_append, ← ht.out]; simp
      have hth : therB m0 z = (decide (0 ≤ z) && decide (z < (m0 : Int))) := by
        unfold therB
        congr 1
        exact decide_eq_decide.2 (by omega)
      rw [hth] at hst
      clear htk ht hcz hth
      cases t with
      | false =>
        have hok := Lib.hid (show false = (x1.take (k + 1)).all (therB m0) by rw [hst]; simp)
        clear hst
        go_wp2
        go_roundw
        case rel => exact ⟨k + 1, false, by omega, by go_num, rfl, hok, trivial⟩
        case measure => simp [intOf]; omega
      | true =>
        by_cases hz0 : 0 ≤ z
        · have d0 : decide ((0 : Int) ≤ z) = true := decide_eq_true hz0
          by_cases hz1 : z < (m0 : Int)
          · have d2 : decide (z < (m0 : Int)) = true := decide_eq_true hz1
            have hok := Lib.hid (show true = (x1.take (k + 1)).all (therB m0) by rw [hst, d0, d2]; rfl)
            clear hst
            go_wp2
            go_roundw
            case rel => exact ⟨k + 1, true, by omega, by go_num, rfl, hok, trivial⟩
            case measure => simp [intOf]; omega
          · have d2 : decide (z < (m0 : Int)) = false := decide_eq_false hz1
            have hok := Lib.hid (show false = (x1.take (k + 1)).all (therB m0) by rw [hst, d0, d2]; rfl)
            clear hst
            go_wp2
            go_roundw
            case rel => exact ⟨k + 1, false, by omega, by go_num, rfl, hok, trivial⟩
            case measure => simp [intOf]; omega
        · have d0 : decide ((0 : Int) ≤ z) = false := decide_eq_false hz0
          have hok := Lib.hid (show false = (x1.take (k + 1)).all (therB m0) by rw [hst, d0]; rfl)
          clear hst
          go_wp2
          go_roundw
          case rel => exact ⟨k + 1, false, by omega, by go_num, rfl, hok, trivial⟩
          case measure => simp [intOf]; omega
    · have hlt' : decide ((k : Int) < (m1 : Int)) = false := decide_eq_false (by omega)
      have hte : x1.take k = x1 := List.take_of_length_le (by rw [HL1.out]; omega)
      have ht1 := ht.out
      rw [hte] at ht1
      have hpk := pick_any a0 m0 c0 x0 a1 m1 c1 x1 wr HL0.out hmx HZ0.out HL1.out (by omega) HZ1.out
      rw [← ht1] at hpk
      cases t with
      | false =>
        rw [if_neg (by decide)] at hpk
        have HPK := Lib.hid hpk
        clear hpk ht ht1 hte
        go_wp2_with fail
        refine HPK.out.mono ?_
        rintro e w2 ⟨⟨pa, pc, rfl, _⟩, hb2⟩
        have HB2 := Lib.hid hb2
        clear hb2
        go_wp2_with fail
        refine (HA.out _).mono ?_
        rintro e w3 ⟨rfl, hb3⟩
        have hB := Below.thenB HB2.out HB2.out.size hb3
        go_wp2
        go_ret
        exact ⟨rfl, hB⟩
      | true =>
        rw [if_pos rfl] at hpk
        have hin : ∀ p ∈ x1, 0 ≤ p ∧ p < (m0 : Int) := by
          intro p hp
          have h2 := List.all_eq_true.1 ht1.symm p hp
          unfold therB at h2
          simp only [Bool.and_eq_true, decide_eq_true_eq] at h2
          omega
        have hlen : (pickL x0 x1).length = m1 := by unfold pickL; rw [List.length_map, HL1.out]
        have hrp := fun W (hb : Below wr.heap.size wr W) => rpick_any a0 m0 c0 x0 a1 m1 c1 x1 W HL0.out (HZ0.out.below hb) HL1.out (by omega) (HZ1.out.below hb) hin
        have HRP := Lib.hid hrp
        generalize pickL x0 x1 = P at hpk HRP hlen
        have HPK := Lib.hid hpk
        have HPL := Lib.hid hlen
        clear hpk ht ht1 hte hin hrp
        clear hlen
        go_wp2_with fail
        refine HPK.out.mono ?_
        rintro e w2 ⟨⟨pa, pc, rfl, hpv, hpf⟩, hb2⟩
        have HPV := Lib.hid hpv
        have HB2 := Lib.hid hb2
        clear hpv hb2 hpf HPK
        go_wp2_with fail
        refine (HRP.out _ HB2.out).mono ?_
        rintro e w3 ⟨⟨qa, qc, rfl, hqv, hqf⟩, hb3⟩
        have hsm := same_any pa qa P.length pc P.length qc P P w3 rfl rfl (by rw [HPL.out]; omega) (by rw [HPL.out]; omega) (HPV.out.below hb3) hqv
        rw [show vsame P P = true by simp [vsame]] at hsm
        have HSM := Lib.hid hsm
        have HB3 := Lib.hid (Below.thenB HB2.out HB2.out.size hb3)
        clear hqv hqf hb3 hsm HRP
        go_wp2_with fail
        refine HSM.out.mono ?_
        rintro e w4 ⟨rfl, hb4⟩
        have HB4 := Lib.hid (Below.thenB HB3.out HB3.out.size hb4)
        clear hb4
        go_wp2_with fail
        refine (HA.out _).mono ?_
        rintro e w5 ⟨rfl, hb5⟩
        have hB := Below.thenB HB4.out HB4.out.size hb5
        go_wp2
        go_ret
        exact ⟨rfl, hB⟩
end Go.Proofs.Ytapnkbamilkpoaa
