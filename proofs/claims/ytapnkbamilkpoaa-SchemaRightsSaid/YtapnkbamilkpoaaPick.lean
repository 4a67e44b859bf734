/- Contracts of schema's Pick and of the document's. -/
import Derived.Test.YtapnkbamilkpoaaSch1
import Derived.Test.YtapnkbamilkpoaaOwn3
namespace Go.Proofs.Ytapnkbamilkpoaa
open Go.RowKit
/-- The values at places that there are. -/
def pickL (vs : List Val) (ps : List Int) : List Val := ps.map fun p => vs.getD p.toNat (0, 0, ⟨#[]⟩)
def therB (n : Nat) (p : Int) : Bool := decide (0 ≤ p) && decide (p ≤ (n : Int) - 1)
theorem rowcs_pick (vs : List Val) (ps : List Int) (p : Int) : rowcs (pickL vs (ps ++ [p])) = rowcs (pickL vs ps) ++ [.int .i64 (vs.getD p.toNat (0, 0, ⟨#[]⟩)).1, .int .i64 (vs.getD p.toNat (0, 0, ⟨#[]⟩)).2.1, .string (vs.getD p.toNat (0, 0, ⟨#[]⟩)).2.2] := by
  unfold pickL
  rw [List.map_append]
  exact rowcs_snoc _ _
set_option maxRecDepth 100000 in
set_option maxHeartbeats 2000000 in
theorem pick_any (a : Option Addr) (m c : Nat) (vs : List Val) (a' : Option Addr) (m' c' : Nat) (ps : List Int) (w : World) (hl : vs.length = m) (hm : m ≤ 281474976710656) (hv : Vals w a vs) (hl' : ps.length = m') (hm' : m' ≤ 1048576) (hp : Ints .i64 w a' ps) :
    Calls Try.prog 26 #[.slice a m c, .slice a' m' c'] w fun e w' => RowRet w.heap.size (if ps.all (therB m) = true then pickL vs ps else []) e w' ∧ Below w.heap.size w w' := by
  obtain ⟨i0, hi, iz0, iz1, iz2⟩ := info_parts info3_val
  obtain ⟨R, hR⟩ : ∃ R, R = if ps.all (therB m) = true then pickL vs ps else [] := ⟨_, rfl⟩
  rw [← hR]
  have hw1 : IntKind.i64.wrap ((m : Int) - 1) = (m : Int) - 1 := by simp [IntKind.wrap, IntKind.bits, IntKind.signed]; omega
  have HR := Lib.hid hR
  have HL := Lib.hid hl
  have HV := Lib.hid hv
  have HL' := Lib.hid hl'
  have HP := Lib.hid hp
  clear hR hl hv hl' hp
  go_enter Try.func26, Try.ntmps26
  go_wp2
  go_loopw [5, 10] (fun sl iv wr => ∃ (k : Nat) (oa : Option Addr) (oc : Nat), k ≤ m' ∧ iv = .int .i64 (k : Int) ∧ sl = .slice oa k oc ∧ wr.ownsRow w.heap.size 55 3 (.slice oa k oc) k (rowcs (pickL vs (ps.take k))) ∧ Hid ((ps.take k).all (therB m) = true) ∧ Below w.heap.size w wr) (fun _ iv _ => m' - (intOf iv).toNat)
  case atStart => exact ⟨0, none, 0, Nat.zero_le _, rfl, rfl, by rw [List.take_zero]; exact World.ownsRow_nil _ _ _ _, Lib.hid (by simp), Below.refl _ _⟩
  case round =>
    obtain ⟨k, oa, oc, hk, rfl, rfl, hown, hall, hbel⟩ := hrel
    have hsz := hbel.size
    by_cases hlt : k < m'
    · have hlt' : decide ((k : Int) < (m' : Int)) = true := decide_eq_true (by omega)
      rcases HP.out with hv0 | ⟨hnn, bs, o, rfl, hbs, hcz⟩
      · have := HL'.out
        rw [hv0] at this
        simp at this
        omega
      have hc := (hbel.cell (p := ⟨bs, o + k, none⟩) hbs).trans (hcz k (by rw [HL'.out]; exact hlt))
      have htk : ps.take (k + 1) = ps.take k ++ [ps.getD k 0] := take_snocD ps k (by rw [HL'.out]; exact hlt)
      have hmem : ps.getD k 0 ∈ ps := by
        have h3 : ps[k]? = some (ps.getD k 0) := by rw [List.getD_eq_getElem?_getD, List.getElem?_eq_getElem (by rw [HL'.out]; exact hlt)]; rfl
        exact List.mem_of_getElem? h3
      generalize ps.getD k 0 = z at hc htk hmem
      have hbt := between_any 0 z ((m : Int) - 1) wr
      clear hcz
      by_cases hin : 0 ≤ z ∧ z ≤ (m : Int) - 1
      · obtain ⟨q, rfl⟩ : ∃ q : Nat, z = (q : Int) := ⟨z.toNat, by omega⟩
        rw [decide_eq_true hin.1, decide_eq_true hin.2] at hbt
        have hq : q < m := by omega
        obtain ⟨bv, ov, v, rfl, hbv, hvk, e0, e1, e2⟩ := Vals.at3 HV.out HL.out hq hbel
        have hgv : vs.getD q (0, 0, ⟨#[]⟩) = v := by rw [List.getD_eq_getElem?_getD, hvk]; rfl
        have hall' : Hid ((ps.take (k + 1)).all (therB m) = true) := by
          show (ps.take (k + 1)).all (therB m) = true
          rw [htk, List.all_append, hall.out]
          simp [therB, hin.2]
        obtain ⟨vk, vn, vt⟩ := v
        simp only [] at e0 e1 e2
        have hrc := rowcs_pick vs (ps.take k) (q : Int)
        rw [← htk, Int.toNat_natCast, hgv] at hrc
        have HRC := Lib.hid hrc
        have HO := Lib.hid hown
        have HB := Lib.hid hbt
        have HBL := Lib.hid hbel
        have hlt4 := hown.lt
        have hq0 : (0 : Int) ≤ (q : Int) := by omega
        have hq1 : (q : Int) < (m : Int) := by omega
        clear hown hbt hbel hrc hall htk hmem hvk hgv hin
        go_wp2_with fail
        refine HB.out.mono ?_
        rintro e w4 ⟨rfl, hE⟩
        subst hE
        go_wp2_with (at_builtin; refine wpList_append_lies _ rfl (.tmp 20) (.tmp 25) 35 rfl w.heap.size 55 i0 (.agg #[.int .i64 0, .int .i64 0, .string ⟨#[]⟩]) 3 32 Try.underlying35 hi iz0 iz1 iz2 rfl (by decide) _ k (rowcs (pickL vs (ps.take k))) rfl (HO.out.alloc _) ⟨wr.heap.size, 0, none⟩ 1 1 [.int .i64 vk, .int .i64 vn, .string vt] rfl rfl (three_new _ _ _ _ _) ?c1 (by decide) ?c2 ?c3 ?c4 (wr.heap.size + 1) ?c5 ?_)
        case c1 => simp [Value.oneCell']
        case c2 => unfold maxLen; omega
        case c3 => omega
        case c4 => simp; omega
        case c5 => simp
        intro g cap w5 hown5 hgrow hat hgl
        have hB5 : Below w.heap.size w w5 := by
          have hA4 : Below wr.heap.size wr (wr.alloc (.cells #[.int .i64 vk, .int .i64 vn, .string vt] 55)) := (Below.refl _ _).alloc (Nat.le_refl _) _
          have hc0 : Chg (fun _ => False) w (wr.alloc (.cells #[.int .i64 vk, .int .i64 vn, .string vt] 55)) := (Chg.ofBelow HBL.out).thenB' hsz hA4
          have hc5 := hc0.grown hgrow (fun k hk => .inl (hlt4 k hk).1)
          exact hc5.below (Nat.le_refl _) (fun _ _ h => h.elim)
        rw [← HRC.out] at hown5
        have HO5 := Lib.hid hown5
        have HB5 := Lib.hid hB5
        clear hown5 hgrow hat hgl hB5 hlt4 HO HBL HB hc e0 e1 e2
        go_wp2
        go_roundw
        case rel => exact ⟨k + 1, some ⟨g, 0, none⟩, cap, by omega, by go_num, rfl, HO5.out, hall', HB5.out⟩
        case measure => simp [intOf]; omega
      · have hbf : (decide (0 ≤ z) && decide (z ≤ (m : Int) - 1)) = false := by
          rcases (by omega : ¬ 0 ≤ z ∨ ¬ z ≤ (m : Int) - 1) with h | h
          · rw [decide_eq_false h]; simp
          · rw [decide_eq_false h]; simp
        rw [hbf] at hbt
        have HF := Lib.hid (show R = [] by
          rw [HR.out, if_neg (by
            rw [Bool.not_eq_true]
            exact List.all_eq_false.2 ⟨z, hmem, by show ¬ therB m z = true; unfold therB; rw [hbf]; decide⟩)])
        have HB := Lib.hid hbt
        have HBL := Lib.hid hbel
        clear hown hbt hbel hall htk hmem hbf hin
        go_wp2_with fail
        refine HB.out.mono ?_
        rintro e w4 ⟨rfl, hE⟩
        subst hE
        go_wp2
        go_ret
        rw [HF.out]
        exact ⟨⟨none, 0, rfl, .inl rfl, fun h => absurd rfl h⟩, HBL.out⟩
    · have hlt' : decide ((k : Int) < (m' : Int)) = false := decide_eq_false (by omega)
      have hkm : m' = k := by omega
      have hte : ps.take k = ps := List.take_of_length_le (by rw [HL'.out]; omega)
      rw [hte] at hown hall
      have HT := Lib.hid (show R = pickL vs ps by rw [HR.out, if_pos hall.out])
      have hlp : (pickL vs ps).length = k := by unfold pickL; rw [List.length_map, HL'.out, hkm]
      have HO := Lib.hid hown
      have HLP := Lib.hid hlp
      have HBL := Lib.hid hbel
      clear hown hall hbel hte hlp
      go_wp2
      go_ret
      rw [HT.out]
      exact ⟨⟨oa, oc, by rw [HLP.out]; rfl, own3_vals HO.out, fun _ => own3_fresh HO.out⟩, HBL.out⟩
end Go.Proofs.Ytapnkbamilkpoaa
