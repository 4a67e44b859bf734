/- Contracts of the document's numbers: add, sub, less. -/
import Derived.Test.YtapnkbamilkpoaaNumA
namespace Go.Proofs.Ytapnkbamilkpoaa
open Go.RowKit
theorem _root_.Go.Proofs.Ytapnkbamilkpoaa.Digs.at {l : List Int} (h : Digs l) (k : Nat) : 0 ≤ l.getD k 0 ∧ l.getD k 0 ≤ 9 := by
  rw [List.getD_eq_getElem?_getD]
  by_cases hk : k < l.length
  · rw [List.getElem?_eq_getElem hk]; exact h _ (List.getElem_mem hk)
  · rw [List.getElem?_eq_none (by omega)]; exact ⟨Int.le_refl _, by decide⟩
theorem dval_take_succ (l : List Int) (k : Nat) : dval (l.take (k + 1)) = dval (l.take k) + pw k * l.getD k 0 := by
  by_cases hk : k < l.length
  · rw [take_getD l k hk, dval_snoc, List.length_take, Nat.min_eq_left (by omega)]
  · rw [List.take_of_length_le (by omega), List.take_of_length_le (by omega), List.getD_eq_getElem?_getD, List.getElem?_eq_none (by omega)]; simp
/-- A sum of digits, or a difference. -/
def DigRet (V : Int) (L : Nat) (w : World) (e : Ending) (w' : World) : Prop := ∃ a n c ds, e = .returned (.slice a n c) ∧ ds.length = n ∧ n ≤ c ∧ n ≤ L ∧ Ints .i64 w' a ds ∧ Digs ds ∧ dval ds = V ∧ Below w.heap.size w w' ∧ Fresh w.heap.size a
set_option maxHeartbeats 2000000 in
theorem add_dig (a1 a2 : Option Addr) (n1 n2 c1 c2 : Nat) (ds1 ds2 : List Int) (w : World) (hn1 : ds1.length = n1) (hn2 : ds2.length = n2) (hz1 : Ints .i64 w a1 ds1) (hz2 : Ints .i64 w a2 ds2) (h1 : Digs ds1) (h2 : Digs ds2)
    (M : Nat) (hM1 : n1 ≤ M) (hM2 : n2 ≤ M) (hMx : M = n1 ∨ M = n2) (hM : M ≤ 1000000) :
    Calls Try.prog 70 #[.slice a1 n1 c1, .slice a2 n2 c2] w (DigRet (dval ds1 + dval ds2) (M + 1) w) := by
  obtain ⟨i0, hi, hq0, hq1, hq2⟩ := info_parts info_int
  subst hn1
  subst hn2
  go_enter Try.func70, Try.ntmps70
  go_wp2
  go_loopw [5, 6, 7] (fun v cr i wr => ∃ (k : Nat) (l : List Int) (q : Int), i = .int .i64 k ∧ cr = .int .i64 q ∧ 0 ≤ q ∧ q ≤ 1 ∧ wr.ownsRow w.heap.size 3 1 v l.length (l.map (Value.int .i64)) ∧ l.length = k ∧ Digs l ∧
      dval l + pw k * q = dval (ds1.take k) + dval (ds2.take k) ∧ k ≤ M + 1 ∧ (k = M + 1 → q = 0) ∧ Below w.heap.size w wr) (fun _ _ i _ => M + 1 - (intOf i).toNat)
  case atStart => exact ⟨0, [], 0, rfl, rfl, by decide, by decide, World.ownsRow_nil _ _ _ _, rfl, fun _ h => (List.not_mem_nil h).elim, by simp [dval], by omega, by omega, Below.refl _ _⟩
  case round =>
    obtain ⟨k, l, q, rfl, rfl, hq, hq', hown, hlk, hd, hv, hkM, hkq, hbel⟩ := hrel
    have hr1 := hz1.below hbel
    have hr2 := hz2.below hbel
    have hsz := hbel.size
    have b0 : (0 : Int) ≤ (k : Int) := by omega
    have b1 : (k : Int) ≤ 1048576 := by omega
    have hcase : (k < ds1.length) ∨ (¬ k < ds1.length ∧ k < ds2.length) ∨ (¬ k < ds1.length ∧ ¬ k < ds2.length ∧ q = 1) ∨ (¬ k < ds1.length ∧ ¬ k < ds2.length ∧ q = 0) := by omega
    rcases hcase with hc | hc | hc | hc
    · have d1 : decide ((k : Int) < (ds1.length : Int)) = true := by simpa using hc
      have hkM' : k ≤ M := by omega
      have hx := Digs.at h1 k
      have hy := Digs.at h2 k
      have t1 := dval_take_succ ds1 k
      have t2 := dval_take_succ ds2 k
      have z1 : ds1.length ≤ k → ds1.getD k 0 = 0 := fun h => by rw [List.getD_eq_getElem?_getD, List.getElem?_eq_none h]; rfl
      have z2 : ds2.length ≤ k → ds2.getD k 0 = 0 := fun h => by rw [List.getD_eq_getElem?_getD, List.getElem?_eq_none h]; rfl
      have e1 := at_any a1 _ c1 ds1 (k : Int) wr.drew rfl hr1 (by omega) b0 b1
      have e2 := at_any a2 _ c2 ds2 (k : Int) wr.drew rfl hr2 (by omega) b0 b1
      have e1' := at_any a1 _ c1 ds1 (k : Int) wr rfl hr1 (by omega) b0 b1
      have e2' := at_any a2 _ c2 ds2 (k : Int) wr rfl hr2 (by omega) b0 b1
      simp only [Int.toNat_natCast] at e1 e2 e1' e2'
      generalize ds1.getD k 0 = x at *
      generalize ds2.getD k 0 = y at *
      obtain ⟨hx0, hx9⟩ := hx
      obtain ⟨hy0, hy9⟩ := hy
      have hv' : dval (l ++ [(x + y + q) % 10]) + pw (k + 1) * ((x + y + q) / 10) = dval (ds1.take (k + 1)) + dval (ds2.take (k + 1)) := by
        rw [dval_snoc, hlk, t1, t2, pw_succ, Int.add_assoc, Int.mul_comm 10, Int.mul_assoc, ← Int.mul_add]
        have e : (x + y + q) % 10 + 10 * ((x + y + q) / 10) = x + y + q := by omega
        rw [e, Int.mul_add, Int.mul_add]; omega
      have hd' : Digs (l ++ [(x + y + q) % 10]) := hd.snoc (by omega) (by omega)
      have hll : (l ++ [(x + y + q) % 10]).length = k + 1 := by simp [hlk]
      have hend : k + 1 = M + 1 → (x + y + q) / 10 = 0 := by
        intro e
        have := z1
        have := z2
        omega
      have HV := Lib.hid hv'
      have HLL := Lib.hid hll
      have HE := Lib.hid hend
      have E1 := Lib.hid e1
      have E2 := Lib.hid e2
      have E1' := Lib.hid e1'
      have E2' := Lib.hid e2'
      have HLK := Lib.hid hlk
      clear hv hv' t1 t2 hll hend z1 z2 e1 e2 e1' e2' hkq
      go_wp2_with fail
      refine E1'.out.mono ?_
      rintro e w' ⟨rfl, rfl⟩
      go_wp2_with fail
      refine E2'.out.mono ?_
      rintro e w' ⟨rfl, rfl⟩
      have hlen2 : l.length ≤ 1000001 := by rw [HLK.out]; omega
      go_wp2_with (at_builtin; refine wpList_append_own _ rfl _ _ 32 rfl w.heap.size 3 i0 (.int .i64 0) 1 8 Try.underlying32 hi hq0 hq1 hq2 rfl (by decide) _ _ _ rfl (hown.alloc _) ⟨wr.heap.size, 0, none⟩ 1 1 [.int .i64 ((x + y + q) % 10)] rfl rfl ?c1 ?c2 ?c3 ?c4 ?c5 ?_)
      case c1 => exact cell_one_new _ _ _
      case c2 => simp [Value.oneCell']
      case c3 => unfold maxLen; omega
      case c4 => omega
      case c5 => simp; omega
      intro v' w1 hown1 hg1 _
      have hbel1 := (hbel.alloc hsz (.cells #[.int .i64 ((x + y + q) % 10)] 3)).grown hg1 (by simp; omega) (fun k hk => (hown.lt k hk).1)
      have hdiv : ((x + y + q).tdiv 10) = (x + y + q) / 10 := Int.tdiv_eq_ediv_of_nonneg (by omega)
      go_wp2
      go_roundw
      case rel => exact ⟨k + 1, l ++ [(x + y + q) % 10], (x + y + q) / 10, by go_num, rfl, by omega, by omega, by rw [HLL.out]; simpa using hown1, HLL.out, hd', HV.out, by omega, HE.out, hbel1⟩
      case measure => simp [intOf]; omega
    · have d1 : decide ((k : Int) < (ds1.length : Int)) = false := by simp; omega
      have d2 : decide ((k : Int) < (ds2.length : Int)) = true := by simp; omega
      have hkM' : k ≤ M := by omega
      have hx := Digs.at h1 k
      have hy := Digs.at h2 k
      have t1 := dval_take_succ ds1 k
      have t2 := dval_take_succ ds2 k
      have z1 : ds1.length ≤ k → ds1.getD k 0 = 0 := fun h => by rw [List.getD_eq_getElem?_getD, List.getElem?_eq_none h]; rfl
      have z2 : ds2.length ≤ k → ds2.getD k 0 = 0 := fun h => by rw [List.getD_eq_getElem?_getD, List.getElem?_eq_none h]; rfl
      have e1 := at_any a1 _ c1 ds1 (k : Int) wr.drew rfl hr1 (by omega) b0 b1
      have e2 := at_any a2 _ c2 ds2 (k : Int) wr.drew rfl hr2 (by omega) b0 b1
      have e1' := at_any a1 _ c1 ds1 (k : Int) wr rfl hr1 (by omega) b0 b1
      have e2' := at_any a2 _ c2 ds2 (k : Int) wr rfl hr2 (by omega) b0 b1
      simp only [Int.toNat_natCast] at e1 e2 e1' e2'
      generalize ds1.getD k 0 = x at *
      generalize ds2.getD k 0 = y at *
      obtain ⟨hx0, hx9⟩ := hx
      obtain ⟨hy0, hy9⟩ := hy
      have hv' : dval (l ++ [(x + y + q) % 10]) + pw (k + 1) * ((x + y + q) / 10) = dval (ds1.take (k + 1)) + dval (ds2.take (k + 1)) := by
        rw [dval_snoc, hlk, t1, t2, pw_succ, Int.add_assoc, Int.mul_comm 10, Int.mul_assoc, ← Int.mul_add]
        have e : (x + y + q) % 10 + 10 * ((x + y + q) / 10) = x + y + q := by omega
        rw [e, Int.mul_add, Int.mul_add]; omega
      have hd' : Digs (l ++ [(x + y + q) % 10]) := hd.snoc (by omega) (by omega)
      have hll : (l ++ [(x + y + q) % 10]).length = k + 1 := by simp [hlk]
      have hend : k + 1 = M + 1 → (x + y + q) / 10 = 0 := by
        intro e
        have := z1
        have := z2
        omega
      have HV := Lib.hid hv'
      have HLL := Lib.hid hll
      have HE := Lib.hid hend
      have E1 := Lib.hid e1
      have E2 := Lib.hid e2
      have E1' := Lib.hid e1'
      have E2' := Lib.hid e2'
      have HLK := Lib.hid hlk
      clear hv hv' t1 t2 hll hend z1 z2 e1 e2 e1' e2' hkq
      go_wp2_with fail
      refine E1'.out.mono ?_
      rintro e w' ⟨rfl, rfl⟩
      go_wp2_with fail
      refine E2'.out.mono ?_
      rintro e w' ⟨rfl, rfl⟩
      have hlen2 : l.length ≤ 1000001 := by rw [HLK.out]; omega
      go_wp2_with (at_builtin; refine wpList_append_own _ rfl _ _ 32 rfl w.heap.size 3 i0 (.int .i64 0) 1 8 Try.underlying32 hi hq0 hq1 hq2 rfl (by decide) _ _ _ rfl (hown.alloc _) ⟨wr.heap.size, 0, none⟩ 1 1 [.int .i64 ((x + y + q) % 10)] rfl rfl ?c1 ?c2 ?c3 ?c4 ?c5 ?_)
      case c1 => exact cell_one_new _ _ _
      case c2 => simp [Value.oneCell']
      case c3 => unfold maxLen; omega
      case c4 => omega
      case c5 => simp; omega
      intro v' w1 hown1 hg1 _
      have hbel1 := (hbel.alloc hsz (.cells #[.int .i64 ((x + y + q) % 10)] 3)).grown hg1 (by simp; omega) (fun k hk => (hown.lt k hk).1)
      have hdiv : ((x + y + q).tdiv 10) = (x + y + q) / 10 := Int.tdiv_eq_ediv_of_nonneg (by omega)
      go_wp2
      go_roundw
      case rel => exact ⟨k + 1, l ++ [(x + y + q) % 10], (x + y + q) / 10, by go_num, rfl, by omega, by omega, by rw [HLL.out]; simpa using hown1, HLL.out, hd', HV.out, by omega, HE.out, hbel1⟩
      case measure => simp [intOf]; omega
    · have d1 : decide ((k : Int) < (ds1.length : Int)) = false := by simp; omega
      have d2 : decide ((k : Int) < (ds2.length : Int)) = false := by simp; omega
      have d3 : decide ((0 : Int) < q) = true := by simp; omega
      have hkM2 : k ≤ M := by omega
      obtain ⟨hc1, hc2, hc3⟩ := hc
      clear hc3
      have hkM' : k ≤ M := by omega
      have hx := Digs.at h1 k
      have hy := Digs.at h2 k
      have t1 := dval_take_succ ds1 k
      have t2 := dval_take_succ ds2 k
      have z1 : ds1.length ≤ k → ds1.getD k 0 = 0 := fun h => by rw [List.getD_eq_getElem?_getD, List.getElem?_eq_none h]; rfl
      have z2 : ds2.length ≤ k → ds2.getD k 0 = 0 := fun h => by rw [List.getD_eq_getElem?_getD, List.getElem?_eq_none h]; rfl
      have e1 := at_any a1 _ c1 ds1 (k : Int) wr.drew rfl hr1 (by omega) b0 b1
      have e2 := at_any a2 _ c2 ds2 (k : Int) wr.drew rfl hr2 (by omega) b0 b1
      have e1' := at_any a1 _ c1 ds1 (k : Int) wr rfl hr1 (by omega) b0 b1
      have e2' := at_any a2 _ c2 ds2 (k : Int) wr rfl hr2 (by omega) b0 b1
      simp only [Int.toNat_natCast] at e1 e2 e1' e2'
      generalize ds1.getD k 0 = x at *
      generalize ds2.getD k 0 = y at *
      obtain ⟨hx0, hx9⟩ := hx
      obtain ⟨hy0, hy9⟩ := hy
      have hv' : dval (l ++ [(x + y + q) % 10]) + pw (k + 1) * ((x + y + q) / 10) = dval (ds1.take (k + 1)) + dval (ds2.take (k + 1)) := by
        rw [dval_snoc, hlk, t1, t2, pw_succ, Int.add_assoc, Int.mul_comm 10, Int.mul_assoc, ← Int.mul_add]
        have e : (x + y + q) % 10 + 10 * ((x + y + q) / 10) = x + y + q := by omega
        rw [e, Int.mul_add, Int.mul_add]; omega
      have hd' : Digs (l ++ [(x + y + q) % 10]) := hd.snoc (by omega) (by omega)
      have hll : (l ++ [(x + y + q) % 10]).length = k + 1 := by simp [hlk]
      have hend : k + 1 = M + 1 → (x + y + q) / 10 = 0 := by
        intro e
        have := z1
        have := z2
        omega
      have HV := Lib.hid hv'
      have HLL := Lib.hid hll
      have HE := Lib.hid hend
      have E1 := Lib.hid e1
      have E2 := Lib.hid e2
      have E1' := Lib.hid e1'
      have E2' := Lib.hid e2'
      have HLK := Lib.hid hlk
      clear hv hv' t1 t2 hll hend z1 z2 e1 e2 e1' e2' hkq
      go_wp2_with fail
      refine E1'.out.mono ?_
      rintro e w' ⟨rfl, rfl⟩
      go_wp2_with fail
      refine E2'.out.mono ?_
      rintro e w' ⟨rfl, rfl⟩
      have hlen2 : l.length ≤ 1000001 := by rw [HLK.out]; omega
      go_wp2_with (at_builtin; refine wpList_append_own _ rfl _ _ 32 rfl w.heap.size 3 i0 (.int .i64 0) 1 8 Try.underlying32 hi hq0 hq1 hq2 rfl (by decide) _ _ _ rfl (hown.alloc _) ⟨wr.heap.size, 0, none⟩ 1 1 [.int .i64 ((x + y + q) % 10)] rfl rfl ?c1 ?c2 ?c3 ?c4 ?c5 ?_)
      case c1 => exact cell_one_new _ _ _
      case c2 => simp [Value.oneCell']
      case c3 => unfold maxLen; omega
      case c4 => omega
      case c5 => simp; omega
      intro v' w1 hown1 hg1 _
      have hbel1 := (hbel.alloc hsz (.cells #[.int .i64 ((x + y + q) % 10)] 3)).grown hg1 (by simp; omega) (fun k hk => (hown.lt k hk).1)
      have hdiv : ((x + y + q).tdiv 10) = (x + y + q) / 10 := Int.tdiv_eq_ediv_of_nonneg (by omega)
      go_wp2
      go_roundw
      case rel => exact ⟨k + 1, l ++ [(x + y + q) % 10], (x + y + q) / 10, by go_num, rfl, by omega, by omega, by rw [HLL.out]; simpa using hown1, HLL.out, hd', HV.out, by omega, HE.out, hbel1⟩
      case measure => simp [intOf]; omega
    · have d1 : decide ((k : Int) < (ds1.length : Int)) = false := by simp; omega
      have d2 : decide ((k : Int) < (ds2.length : Int)) = false := by simp; omega
      have d3 : decide ((0 : Int) < q) = false := by simp; omega
      have hv' : dval l = dval ds1 + dval ds2 := by
        rw [List.take_of_length_le (by omega), List.take_of_length_le (by omega), hc.2.2] at hv
        omega
      obtain ⟨a, c, rfl, hlc, hints, hfr⟩ := ints_of_owns hown
      have HV := Lib.hid hv'
      have hL : l.length ≤ M + 1 := by omega
      clear hv hv' hlk
      go_wp2
      refine bodyPost_ret (v := .slice a l.length c) (by simp [results, Try.results70, go_sem]) rfl ⟨a, _, c, l, rfl, rfl, hlc, hL, hints, hd, HV.out, hbel, hfr⟩
set_option maxHeartbeats 2000000 in
theorem sub_dig (a1 a2 : Option Addr) (n1 n2 c1 c2 : Nat) (ds1 ds2 : List Int) (w : World) (hn1 : ds1.length = n1) (hn2 : ds2.length = n2) (hz1 : Ints .i64 w a1 ds1) (hz2 : Ints .i64 w a2 ds2) (h1 : Digs ds1) (h2 : Digs ds2)
    (hM : n2 ≤ n1) (hM2 : n1 ≤ 1000000) (hge : dval ds2 ≤ dval ds1) :
    Calls Try.prog 72 #[.slice a1 n1 c1, .slice a2 n2 c2] w (DigRet (dval ds1 - dval ds2) n1 w) := by
  obtain ⟨i0, hi, hq0, hq1, hq2⟩ := info_parts info_int
  subst hn1
  subst hn2
  go_enter Try.func72, Try.ntmps72
  go_wp2
  go_loopw [5, 6, 7] (fun v cr i wr => ∃ (k : Nat) (l : List Int) (q : Int), i = .int .i64 k ∧ cr = .int .i64 q ∧ 0 ≤ q ∧ q ≤ 1 ∧ wr.ownsRow w.heap.size 3 1 v l.length (l.map (Value.int .i64)) ∧ l.length = k ∧ Digs l ∧
      dval l - pw k * q = dval (ds1.take k) - dval (ds2.take k) ∧ k ≤ ds1.length ∧ Below w.heap.size w wr) (fun _ _ i _ => ds1.length - (intOf i).toNat)
  case atStart => exact ⟨0, [], 0, rfl, rfl, by decide, by decide, World.ownsRow_nil _ _ _ _, rfl, fun _ h => (List.not_mem_nil h).elim, by simp [dval], by omega, Below.refl _ _⟩
  case round =>
    obtain ⟨k, l, q, rfl, rfl, hq, hq', hown, hlk, hd, hv, hkM, hbel⟩ := hrel
    have hr2 := hz2.below hbel
    have hsz := hbel.size
    have b0 : (0 : Int) ≤ (k : Int) := by omega
    have b1 : (k : Int) ≤ 1048576 := by omega
    by_cases hc : k < ds1.length
    · have d1 : decide ((k : Int) < (ds1.length : Int)) = true := by simpa using hc
      have hx := Digs.at h1 k
      have hy := Digs.at h2 k
      have t1 := dval_take_succ ds1 k
      have t2 := dval_take_succ ds2 k
      rcases hz1 with rfl | ⟨_, bb, oo, rfl, hbb, hzz⟩
      · simp at hc
      have hcx := hzz k hc
      rw [← hbel.cell (p := ⟨bb, oo + k, none⟩) hbb] at hcx
      have e2' := at_any a2 _ c2 ds2 (k : Int) wr.drew rfl (show Ints .i64 wr.drew a2 ds2 from hr2) (by omega) b0 b1
      simp only [Int.toNat_natCast] at e2'
      clear hzz
      generalize ds1.getD k 0 = x at *
      generalize ds2.getD k 0 = y at *
      obtain ⟨hx0, hx9⟩ := hx
      obtain ⟨hy0, hy9⟩ := hy
      have hv' : dval (l ++ [(10 + x - y - q) % 10]) - pw (k + 1) * (1 - (10 + x - y - q) / 10) = dval (ds1.take (k + 1)) - dval (ds2.take (k + 1)) := by
        rw [dval_snoc, hlk, t1, t2, pw_succ, Int.mul_comm 10, Int.mul_assoc]
        have e : (10 + x - y - q) % 10 - 10 * (1 - (10 + x - y - q) / 10) = x - y - q := by omega
        have e3 : pw k * ((10 + x - y - q) % 10) - pw k * (10 * (1 - (10 + x - y - q) / 10)) = pw k * (x - y - q) := by rw [← Int.mul_sub, e]
        have e4 : pw k * (x - y - q) = pw k * x - pw k * y - pw k * q := by rw [Int.mul_sub, Int.mul_sub]
        omega
      have hd' : Digs (l ++ [(10 + x - y - q) % 10]) := hd.snoc (by omega) (by omega)
      have hll : (l ++ [(10 + x - y - q) % 10]).length = k + 1 := by simp [hlk]
      have HV := Lib.hid hv'
      have HLL := Lib.hid hll
      have E2' := Lib.hid e2'
      have HLK := Lib.hid hlk
      have hlen2 : l.length ≤ 1000001 := by omega
      clear hv hv' t1 t2 hll e2'
      go_wp2_with fail
      go_region_held3 (fun w' => w'.cell? ⟨bb, oo + k, none⟩ = some (.int .i64 x)) (first | go_keep | assumption)
        (first | (go_at_call 83; refine E2'.out.mono ?_; rintro e w' ⟨rfl, rfl⟩))
      go_wp2_with (at_builtin; refine wpList_append_own _ rfl _ _ 32 rfl w.heap.size 3 i0 (.int .i64 0) 1 8 Try.underlying32 hi hq0 hq1 hq2 rfl (by decide) _ _ _ rfl ((hown.alloc _).drew) ⟨wr.heap.size, 0, none⟩ 1 1 [.int .i64 ((10 + x - y - q) % 10)] rfl rfl ?c1 ?c2 ?c3 ?c4 ?c5 ?_)
      case c1 => exact cell_one_new _ _ _
      case c2 => simp [Value.oneCell']
      case c3 => unfold maxLen; omega
      case c4 => omega
      case c5 => simp; omega
      intro v' w1 hown1 hg1 _
      have hbel1 := (hbel.alloc hsz (.cells #[.int .i64 ((10 + x - y - q) % 10)] 3)).drew.grown hg1 (by simp; omega) (fun k hk => (hown.lt k hk).1)
      have hdiv : ((10 + x - y - q).tdiv 10) = (10 + x - y - q) / 10 := Int.tdiv_eq_ediv_of_nonneg (by omega)
      go_wp2
      go_roundw
      case rel => exact ⟨k + 1, l ++ [(10 + x - y - q) % 10], 1 - (10 + x - y - q) / 10, by go_num, rfl, by omega, by omega, by rw [HLL.out]; simpa using hown1, HLL.out, hd', HV.out, by omega, hbel1⟩
      case measure => simp [intOf]; omega
    · have d1 : decide ((k : Int) < (ds1.length : Int)) = false := by simp; omega
      have hv' : dval l = dval ds1 - dval ds2 := by
        rw [List.take_of_length_le (by omega), List.take_of_length_le (by omega)] at hv
        have hlt := dval_lt hd
        rw [hlk] at hlt
        have hp := pw_pos k
        have hq2 : q = 0 := by
          refine Int.le_antisymm (Int.not_lt.1 fun hgt => ?_) hq
          have : q = 1 := by omega
          rw [this] at hv; omega
        rw [hq2] at hv; omega
      obtain ⟨a, c, rfl, hlc, hints, hfr⟩ := ints_of_owns hown
      have HV := Lib.hid hv'
      have hL : l.length ≤ ds1.length := by omega
      clear hv hv' hlk
      go_wp2
      refine bodyPost_ret (v := .slice a l.length c) (by simp [results, Try.results72, go_sem]) rfl ⟨a, _, c, l, rfl, rfl, hlc, hL, hints, hd, HV.out, hbel, hfr⟩
theorem all_alike {a b : List Int} (hl : a.length = b.length) (he : ∀ i, i < a.length → a.getD i 0 = b.getD i 0) : dval a = dval b := by
  have h := top_alike 0 hl (Nat.zero_le _) (fun i _ => he i)
  simpa using h
set_option maxHeartbeats 1000000 in
theorem less_dig (a1 a2 : Option Addr) (n1 n2 c1 c2 : Nat) (ds1 ds2 : List Int) (w : World) (hn1 : ds1.length = n1) (hn2 : ds2.length = n2) (hz1 : Ints .i64 w a1 ds1) (hz2 : Ints .i64 w a2 ds2) (h1 : Canon ds1) (h2 : Canon ds2) (hl1 : n1 ≤ 1000000) (hl2 : n2 ≤ 1000000) :
    Calls Try.prog 71 #[.slice a1 n1 c1, .slice a2 n2 c2] w fun e w' => e = .returned (.bool (decide (dval ds1 < dval ds2))) ∧ Below w.heap.size w w' := by
  subst hn1
  subst hn2
  by_cases hne : ds1.length = ds2.length
  · have HN := Lib.hid hne
    have d0 : ((ds1.length : Int) != (ds2.length : Int)) = false := by rw [bne_eq_false_iff_eq]; omega
    have d0' : (ds1.length != ds2.length) = false := by rw [bne_eq_false_iff_eq]; omega
    have hl2' : (ds2.length : Int) ≤ 1000000 := by omega
    clear hne
    go_enter Try.func71, Try.ntmps71
    go_wp2
    go_loopw [5] (fun i wr => ∃ k : Nat, k ≤ ds1.length ∧ i = .int .i64 ((k : Int) - 1) ∧ (∀ j, k ≤ j → j < ds1.length → ds1.getD j 0 = ds2.getD j 0) ∧ Below w.heap.size w wr) (fun i _ => (intOf i + 1).toNat)
    case atStart => exact ⟨ds1.length, Nat.le_refl _, rfl, fun j h h' => by omega, Below.refl _ _⟩
    case round =>
      obtain ⟨k, hk, rfl, he, hbel⟩ := hrel
      rcases k with _ | k
      · have HE := Lib.hid (all_alike HN.out (fun i hi => he i (Nat.zero_le _) hi))
        clear he
        go_wp2
        go_ret
        exact ⟨ret_bool (by rw [HE.out]; simp), hbel⟩
      · have hlt : k < ds1.length := by omega
        have hlt2 : k < ds2.length := by have := HN.out; omega
        rcases hz1 with rfl | ⟨_, b1, o1, rfl, hb1, z1⟩
        · simp at hlt
        rcases hz2 with rfl | ⟨_, b2, o2, rfl, hb2, z2⟩
        · simp at hlt2
        have k1 := z1 k hlt
        have k2 := z2 k hlt2
        rw [← hbel.cell (p := ⟨b1, o1 + k, none⟩) hb1] at k1
        rw [← hbel.cell (p := ⟨b2, o2 + k, none⟩) hb2] at k2
        have hp1 := fun h => part_lt h1.1 h2.1 k HN.out hlt (fun i hi hi' => he i hi hi') h
        have hp2 := fun h => part_lt h2.1 h1.1 k HN.out.symm hlt2 (fun i hi hi' => (he i hi (by have := HN.out; omega)).symm) h
        have HE := Lib.hid he
        clear he z1 z2
        generalize hxx : ds1.getD k 0 = x at *
        generalize hyy : ds2.getD k 0 = y at *
        have HX := Lib.hid hxx
        have HY := Lib.hid hyy
        have HP1 := Lib.hid hp1
        have HP2 := Lib.hid hp2
        clear hxx hyy hp1 hp2
        have i0 : (0 : Int) ≤ (k : Int) := by omega
        have i1 : (k : Int) < (ds1.length : Int) := by omega
        have i2 : (k : Int) < (ds2.length : Int) := by omega
        by_cases hxy : x = y
        · have t1 : (x != y) = false := by simp [hxy]
          have HXY := Lib.hid hxy
          clear hxy
          go_wp2_with fail
          go_quiet (fail)
          go_wp2
          refine ⟨⟨k, by omega, by go_num, ?_, bdrewN hbel _⟩, by simp [intOf]⟩
          intro j hj hj'
          rcases Nat.lt_or_ge k j with h | h
          · exact HE.out j h hj'
          · obtain rfl : j = k := by omega
            rw [HX.out, HY.out, HXY.out]
        · have t1 : (x != y) = true := by simpa using hxy
          go_wp2_with fail
          go_quiet (fail)
          go_wp2_with fail
          go_quiet (fail)
          go_wp2
          go_ret
          refine ⟨ret_bool ?_, bdrewN (bdrewN hbel _) _⟩
          have := HP1.out
          have := HP2.out
          by_cases hlt : x < y
          · rw [decide_eq_true hlt, decide_eq_true (HP1.out hlt)]
          · have := HP2.out (by omega)
            rw [decide_eq_false hlt, decide_eq_false (by omega)]
  · have d0 : ((ds1.length : Int) != (ds2.length : Int)) = true := by rw [bne_iff_ne]; omega
    have d0' : (ds1.length != ds2.length) = true := by rw [bne_iff_ne]; omega
    have e : decide (dval ds1 < dval ds2) = decide ((ds1.length : Int) < (ds2.length : Int)) := by
      rcases Nat.lt_or_gt_of_ne hne with h | h
      · rw [decide_eq_true (len_lt h1 h2 h), decide_eq_true (by omega)]
      · have := len_lt h2 h1 h
        rw [decide_eq_false (by omega), decide_eq_false (by omega)]
    have HE := Lib.hid e
    clear e hne
    go_enter Try.func71, Try.ntmps71
    go_wp2
    go_ret
    exact ⟨ret_bool (by rw [HE.out]; simp), Below.refl _ _⟩
end Go.Proofs.Ytapnkbamilkpoaa
