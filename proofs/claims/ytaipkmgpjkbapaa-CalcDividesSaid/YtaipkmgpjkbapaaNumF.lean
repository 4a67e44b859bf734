/- Contract of the document's products. -/
import Derived.Test.YtaipkmgpjkbapaaNumE
import Derived.Deep.OwnRows
namespace Go.Proofs.Ytaipkmgpjkbapaa
open Go.RowKit
/-- Block B is a row of the numbers l. -/
def Row (w : World) (B : Nat) (t : TypeId) (l : List Int) : Prop := w.heap[B]? = some (.cells (l.map (Value.int .i64)).toArray t)
theorem Row.cell {w : World} {B : Nat} {t : TypeId} {l : List Int} (h : Row w B t l) {i : Nat} (hi : i < l.length) : w.cell? ⟨B, i, none⟩ = some (.int .i64 (l.getD i 0)) ∧ w.frozen? ⟨B, i, none⟩ = false := by
  unfold Row at h
  constructor
  · simp [World.cell?, h, List.getD_eq_getElem?_getD, hi]
  · simp [World.frozen?, h]
theorem Row.set {w : World} {B : Nat} {t : TypeId} {l : List Int} (h : Row w B t l) (i : Nat) (x : Int) : Row (w.setCell ⟨B, i, none⟩ (.int .i64 x)) B t (l.set i x) := by
  unfold Row at h ⊢
  simp [World.setCell, Array.getElem?_modify, h, List.map_set]
theorem Row.made (w : World) (n : Nat) (t : TypeId) : Row (w.alloc (.cells (madeCells #[.int .i64 0] n) t)) w.heap.size t (List.replicate n 0) := by
  unfold Row
  rw [(MapKept.heap_alloc w _).1]
  congr 2
  apply Array.toList_inj.1
  rw [toList_madeCells_one]
  simp
theorem Row.drew {w : World} {B : Nat} {t : TypeId} {l : List Int} (h : Row w B t l) : Row w.drew B t l := h
theorem Row.ints {w : World} {B : Nat} {t : TypeId} {l : List Int} (h : Row w B t l) : Ints .i64 w (some ⟨B, 0, none⟩) l := by
  by_cases hn : l = []
  · exact .inl hn
  · exact .inr ⟨hn, B, 0, rfl, blk_lt h, fun i hi => by simpa using (h.cell hi).1⟩
theorem dval_set (l : List Int) (i : Nat) (x : Int) (h : i < l.length) : dval (l.set i x) = dval l + pw i * (x - l.getD i 0) := by
  induction l generalizing i with
  | nil => simp at h
  | cons d r ih =>
    rcases i with _ | i
    · simp [dval, pw_zero]; omega
    · have := ih i (by simpa using h)
      simp only [List.set_cons_succ, dval, this, pw_succ, List.getD_cons_succ, Int.mul_add, Int.mul_assoc]; omega
theorem getD_set (l : List Int) (i j : Nat) (x : Int) (h : i < l.length) : (l.set i x).getD j 0 = if j = i then x else l.getD j 0 := by
  rw [List.getD_eq_getElem?_getD, List.getD_eq_getElem?_getD, List.getElem?_set]
  by_cases hj : i = j
  · subst hj; simp [h]
  · have : ¬ j = i := fun e => hj e.symm
    simp [hj, this]
theorem pw_add (a b : Nat) : pw (a + b) = pw a * pw b := by unfold pw; rw [Int.pow_add]
theorem dval_repl (n : Nat) : dval (List.replicate n 0) = 0 := by
  induction n with
  | zero => rfl
  | succ n ih => simp [List.replicate_succ, dval, ih]
set_option maxRecDepth 100000 in
set_option maxHeartbeats 4000000 in
theorem times_num (x y : Bool) (a a' : Option Addr) (n c n' c' : Nat) (V U : Int) (w : World) (h : NumP w x a n c V) (k : NumP w y a' n' c' U) (hl : n ≤ 2000) (hl' : n' ≤ 2000) :
    Calls Try.prog 21 #[.agg #[.bool x, .slice a n c], .agg #[.bool y, .slice a' n' c']] w (NumRet (Fresh w.heap.size) (V * U) w) := by
  obtain ⟨hx, ds, hn, hc, hz, hcn, hv⟩ := h
  obtain ⟨hx', ds', hn', hc', hz', hcn', hv'⟩ := k
  subst hn
  subst hn'
  have HX := Lib.hid hx
  have HX' := Lib.hid hx'
  have HV := Lib.hid hv
  have HV' := Lib.hid hv'
  clear hx hx' hv hv'
  have hmk := fun wx => run_make_row' (P := Try.prog) 30 3 (.int .i64 0) 8 Try.underlying30 info_int rfl .i64 .i64 (ds.length + ds'.length + 1) (by omega) (by omega) wx
  have ec : ((ds.length + ds'.length + 1 : Nat) : Int) = (ds.length : Int) + ds'.length + 1 := by omega
  rw [ec] at hmk
  clear ec
  obtain ⟨W3, hW3⟩ : ∃ W3, W3 = (((w.alloc (.cells #[.bool x, .slice a ds.length c] 32)).alloc (.cells #[.bool y, .slice a' ds'.length c'] 32)).alloc (.cells #[.bool false, .slice none 0 0] 32)) := ⟨_, rfl⟩
  have HW3 := Lib.hid hW3
  have hW : Below w.heap.size w W3 := by rw [hW3]; exact (((Below.refl _ _).alloc (Nat.le_refl _) _).alloc (by simp) _).alloc (by simp; omega) _
  have hs3 : W3.heap.size = w.heap.size + 1 + 1 + 1 := by rw [hW3]; simp
  have b0 : W3.cell? ⟨w.heap.size, 1, none⟩ = some (.slice a ds.length c) := by rw [hW3]; go_simp
  have b1 : W3.cell? ⟨w.heap.size + 1, 1, none⟩ = some (.slice a' ds'.length c') := by rw [hW3]; go_simp
  have b2 : W3.cell? ⟨w.heap.size, 0, none⟩ = some (.bool x) := by rw [hW3]; go_simp
  have b3 : W3.cell? ⟨w.heap.size + 1, 0, none⟩ = some (.bool y) := by rw [hW3]; go_simp
  have HS3 := Lib.hid hs3
  have B0 := Lib.hid b0
  have B1 := Lib.hid b1
  have B2 := Lib.hid b2
  have B3 := Lib.hid b3
  have hz3 := hz.below hW
  have hz3' := hz'.below hW
  have hrow := Row.made W3 (ds.length + ds'.length + 1) 3
  rw [hs3, hW3] at hrow
  have hbl0 : Below (w.heap.size + 1 + 1 + 1) W3 (W3.alloc (.cells (madeCells #[.int .i64 0] (ds.length + ds'.length + 1)) 3)) := (Below.refl _ _).alloc (by omega) _
  rw [hW3] at hbl0
  clear hs3 b0 b1 b2 b3 hW3 hz hz'
  go_enter Try.func21, Try.ntmps21
  go_wp2_with fail
  go_loopw [6, 7] (fun i _k wr => ∃ (i' : Nat) (l : List Int), i' ≤ ds.length ∧ i = .int .i64 i' ∧ Row wr (w.heap.size + 1 + 1 + 1) 3 l ∧ l.length = ds.length + ds'.length + 1 ∧
      dval l = dval (ds.take i') * dval ds' ∧ (∀ j, 0 ≤ l.getD j 0 ∧ l.getD j 0 ≤ 81 * ((i' * ds'.length : Nat) : Int)) ∧ Below (w.heap.size + 1 + 1 + 1) W3 wr) (fun i _ _ => ds.length - (intOf i).toNat)
  case atStart =>
    have hbl1 := hbl0
    rw [← HW3.out] at hbl1
    exact ⟨0, List.replicate (ds.length + ds'.length + 1) 0, Nat.zero_le _, rfl, hrow, by simp, by rw [dval_repl]; simp [dval], fun j => by rw [List.getD_eq_getElem?_getD, List.getElem?_replicate]; split <;> simp, by rw [← HW3.out] at hbl0; rw [← HW3.out]; exact hbl0⟩
  case round =>
    obtain ⟨i', l, hi', rfl, hR, hll, hdl, hbd, hbel⟩ := hrel
    have c0 := (hbel.cell (p := ⟨w.heap.size, 1, none⟩) (show w.heap.size < _ by omega)).trans B0.out
    have c1 := (hbel.cell (p := ⟨w.heap.size + 1, 1, none⟩) (show w.heap.size + 1 < _ by omega)).trans B1.out
    have hlen : (ds.length : Int) ≤ 2000 := by omega
    have hlen' : (ds'.length : Int) ≤ 2000 := by omega
    have HR := Lib.hid hR
    have HLL := Lib.hid hll
    have HDL := Lib.hid hdl
    have HBD := Lib.hid hbd
    clear hR hll hdl hbd
    by_cases hlt : i' < ds.length
    · have hla : ((i' : Int)) < (ds.length : Int) := by omega
      obtain ⟨wo, rfl⟩ : ∃ wo : World, wo = wr := ⟨_, rfl⟩
      go_wp2_with fail
      go_loopw [7] (fun kk wk => ∃ (k' : Nat) (m : List Int), k' ≤ ds'.length ∧ kk = .int .i64 k' ∧ Row wk (w.heap.size + 1 + 1 + 1) 3 m ∧ m.length = ds.length + ds'.length + 1 ∧
        dval m = dval (ds.take i') * dval ds' + pw i' * (ds.getD i' 0 * dval (ds'.take k')) ∧ (∀ j, 0 ≤ m.getD j 0 ∧ m.getD j 0 ≤ 81 * ((i' * ds'.length + k' : Nat) : Int)) ∧ Below (w.heap.size + 1 + 1 + 1) W3 wk) (fun kk _ => ds'.length - (intOf kk).toNat)
      case atStart => exact ⟨0, l, Nat.zero_le _, rfl, HR.out, HLL.out, by rw [HDL.out]; simp [dval], HBD.out, hbel⟩
      case round =>
        obtain ⟨k', m, hk', rfl, hR', hml, hdm, hbm, hbel'⟩ := hrel
        have c0' := (hbel'.cell (p := ⟨w.heap.size, 1, none⟩) (show w.heap.size < _ by omega)).trans B0.out
        have c1' := (hbel'.cell (p := ⟨w.heap.size + 1, 1, none⟩) (show w.heap.size + 1 < _ by omega)).trans B1.out
        by_cases hlt' : k' < ds'.length
        · have hba : ∃ ba oa, a = some ⟨ba, oa, none⟩ ∧ ba < W3.heap.size ∧ W3.cell? ⟨ba, oa + i', none⟩ = some (.int .i64 (ds.getD i' 0)) := by
            rcases hz3 with rfl | ⟨_, b, o, rfl, hb, hzz⟩
            · simp at hlt
            · exact ⟨b, o, rfl, hb, hzz i' hlt⟩
          have hbb : ∃ bb ob, a' = some ⟨bb, ob, none⟩ ∧ bb < W3.heap.size ∧ W3.cell? ⟨bb, ob + k', none⟩ = some (.int .i64 (ds'.getD k' 0)) := by
            rcases hz3' with rfl | ⟨_, b, o, rfl, hb, hzz⟩
            · simp at hlt'
            · exact ⟨b, o, rfl, hb, hzz k' hlt'⟩
          obtain ⟨ba, oa, rfl, hb1, ca⟩ := hba
          obtain ⟨bb, ob, rfl, hb2, cb⟩ := hbb
          have hs3 := HS3.out
          have ca' := (hbel'.cell (p := ⟨ba, oa + i', none⟩) (show ba < _ by omega)).trans ca
          have cb' := (hbel'.cell (p := ⟨bb, ob + k', none⟩) (show bb < _ by omega)).trans cb
          obtain ⟨co, fo⟩ := hR'.cell (i := i' + k') (by omega)
          have hdg := Digs.at hcn.1 i'
          have heg := Digs.at hcn'.1 k'
          have hts := dval_take_succ ds' k'
          have hvb := hbm (i' + k')
          generalize hdd : ds.getD i' 0 = d at *
          generalize ds'.getD k' 0 = e at *
          generalize hvv : m.getD (i' + k') 0 = v at *
          obtain ⟨hd0, hd9⟩ := hdg
          obtain ⟨he0, he9⟩ := heg
          obtain ⟨hv0, hv9⟩ := hvb
          have hmu0 : 0 ≤ d * e := Int.mul_nonneg hd0 he0
          have hmu9 : d * e ≤ 81 := Int.le_trans (Int.mul_le_mul_of_nonneg_right hd9 he0) (by omega)
          have hcnt : i' * ds'.length + k' ≤ 4100000 := by
            have : i' * ds'.length ≤ 2000 * ds'.length := Nat.mul_le_mul_right _ (by omega)
            omega
          have hv8 : v ≤ 81 * 4100000 := by omega
          have hlk : (k' : Int) < (ds'.length : Int) := by omega
          have hi0 : (0 : Int) ≤ (i' : Int) := by omega
          have hk0 : (0 : Int) ≤ (k' : Int) := by omega
          have hik : ((i' : Int) + (k' : Int)) < (ds.length : Int) + ds'.length + 1 := by omega
          have hset : dval (m.set (i' + k') (v + d * e)) = dval (ds.take i') * dval ds' + pw i' * (d * dval (ds'.take (k' + 1))) := by
            rw [dval_set m _ _ (by omega), hvv, hdm, hts, pw_add]
            grind
          have hbn : ∀ j, 0 ≤ (m.set (i' + k') (v + d * e)).getD j 0 ∧ (m.set (i' + k') (v + d * e)).getD j 0 ≤ 81 * ((i' * ds'.length + (k' + 1) : Nat) : Int) := by
            intro j
            rw [getD_set m _ _ _ (by omega)]
            have := hbm j
            split <;> omega
          have hRn := hR'.set (i' + k') (v + d * e)
          have HSET := Lib.hid hset
          have HBN := Lib.hid hbn
          have HML := Lib.hid hml
          clear hset hbn hml hdm hbm hts hv9 hcnt hs3 hvv hdd
          go_wp2_with fail
          go_region
          all_goals
            go_wp2
            go_roundw
            case rel => exact ⟨k' + 1, m.set (i' + k') (v + d * e), by omega, by go_num, by first | exact hRn | exact hRn.drew, by rw [List.length_set]; exact HML.out, HSET.out, HBN.out, by first | exact (hbel'.setCell (Nat.le_refl _) _).drew | exact hbel'.drew.setCell (Nat.le_refl _) _⟩
            case measure => simp [intOf]; omega
        · obtain rfl : k' = ds'.length := by omega
          have hs : dval m = dval (ds.take (i' + 1)) * dval ds' := by
            rw [hdm, List.take_length, dval_take_succ ds i']
            grind
          have hb' : ∀ j, 0 ≤ m.getD j 0 ∧ m.getD j 0 ≤ 81 * (((i' + 1) * ds'.length : Nat) : Int) := by
            intro j
            have := hbm j
            rw [Nat.add_mul, Nat.one_mul]
            exact this
          have HS := Lib.hid hs
          have HB := Lib.hid hb'
          have HML := Lib.hid hml
          clear hs hb' hdm hbm hml hlt'
          go_wp2
          go_roundw
          case rel => exact ⟨i' + 1, m, by omega, by go_num, hR', HML.out, HS.out, HB.out, hbel'⟩
          case measure => simp [intOf]; omega
    · obtain rfl : i' = ds.length := by omega
      have hla : ((ds.length : Int) < (ds.length : Int)) = False := by simp
      clear hla
      have hdl2 : dval l = dval ds * dval ds' := by rw [HDL.out, List.take_length]
      have hbd2 : ∀ j, 0 ≤ l.getD j 0 ∧ l.getD j 0 ≤ 400000000 := by
        intro j
        have := HBD.out j
        have h2 : ds.length * ds'.length ≤ 2000 * ds'.length := Nat.mul_le_mul_right _ (by omega)
        omega
      have HDL2 := Lib.hid hdl2
      have HBD2 := Lib.hid hbd2
      clear hdl2 hbd2 hlt
      obtain ⟨wo, rfl⟩ : ∃ wo : World, wo = wr := ⟨_, rfl⟩
      go_wp2_with fail
      go_loopw [8] (fun i wk => ∃ (i' : Nat) (m : List Int), i' + 1 ≤ ds.length + ds'.length + 1 ∧ i = .int .i64 i' ∧ Row wk (w.heap.size + 1 + 1 + 1) 3 m ∧ m.length = ds.length + ds'.length + 1 ∧ dval m = dval ds * dval ds' ∧
        (∀ j, j < i' → m.getD j 0 ≤ 9) ∧ (∀ j, 0 ≤ m.getD j 0 ∧ m.getD j 0 ≤ 800000000) ∧ (∀ j, i' < j → m.getD j 0 ≤ 400000000) ∧ Below (w.heap.size + 1 + 1 + 1) W3 wk) (fun i _ => ds.length + ds'.length + 1 - (intOf i).toNat)
      case atStart => exact ⟨0, l, by omega, rfl, HR.out, HLL.out, HDL2.out, fun j hj => by omega, fun j => ⟨(HBD2.out j).1, by have := (HBD2.out j).2; omega⟩, fun j _ => (HBD2.out j).2, hbel⟩
      case round =>
        obtain ⟨i', m, hi2, rfl, hR', hml, hdm, h9, h8, h4, hbel'⟩ := hrel
        by_cases hlt : i' + 1 < ds.length + ds'.length + 1
        · obtain ⟨cu, fu⟩ := hR'.cell (i := i' + 1) (by omega)
          obtain ⟨cv, fv⟩ := hR'.cell (i := i') (by omega)
          have hu := h8 (i' + 1)
          have hu4 := h4 (i' + 1) (by omega)
          have hv := h8 i'
          have H9 := Lib.hid h9
          have H8 := Lib.hid h8
          have H4 := Lib.hid h4
          clear h9 h8 h4
          generalize huu : m.getD (i' + 1) 0 = u at *
          generalize hvv : m.getD i' 0 = v at *
          obtain ⟨hu0, hu8⟩ := hu
          obtain ⟨hv0, hv8⟩ := hv
          have hq : v.tdiv 10 = v / 10 := Int.tdiv_eq_ediv_of_nonneg hv0
          have hi0 : (0 : Int) ≤ (i' : Int) := by omega
          have hi1 : ((i' : Int) + 1) < (ds.length : Int) + ds'.length + 1 := by omega
          have hset : dval ((m.set (i' + 1) (u + v / 10)).set i' (v % 10)) = dval ds * dval ds' := by
            rw [dval_set _ _ _ (by rw [List.length_set]; omega), dval_set m _ _ (by omega), getD_set m _ _ _ (by omega), if_neg (by omega), huu, hvv, hdm, pw_succ]
            have : v % 10 - v = -(10 * (v / 10)) := by omega
            rw [this]
            grind
          have hbn : ∀ j, ((m.set (i' + 1) (u + v / 10)).set i' (v % 10)).getD j 0 = if j = i' then v % 10 else if j = i' + 1 then u + v / 10 else m.getD j 0 := by
            intro j
            rw [getD_set _ _ _ _ (by rw [List.length_set]; omega), getD_set m _ _ _ (by omega)]
          have hRn := (hR'.set (i' + 1) (u + v / 10)).set i' (v % 10)
          have HSET := Lib.hid hset
          have HBN := Lib.hid hbn
          have HML := Lib.hid hml
          clear hset hbn hml hdm huu hvv
          go_wp2_with fail
          go_region
          all_goals
            go_wp2
            go_roundw
            case rel =>
              refine ⟨i' + 1, (m.set (i' + 1) (u + v / 10)).set i' (v % 10), by omega, by go_num, by first | exact hRn | exact hRn.drew, by rw [List.length_set, List.length_set]; exact HML.out, HSET.out, ?_, ?_, ?_, by first | exact ((hbel'.setCell (Nat.le_refl _) _).setCell (Nat.le_refl _) _).drew | exact (hbel'.drew.setCell (Nat.le_refl _) _).setCell (Nat.le_refl _) _⟩
              · intro j hj
                rw [HBN.out]
                have := H9.out j
                split
                · omega
                · split <;> omega
              · intro j
                rw [HBN.out]
                have := H8.out j
                split
                · omega
                · split <;> omega
              · intro j hj
                rw [HBN.out]
                have := H4.out j
                split
                · omega
                · split <;> omega
            case measure => simp [intOf]; omega
        · have hi3 : i' = ds.length + ds'.length := by omega
          have hdg : Digs m := by
            intro d hd
            obtain ⟨j, hj, rfl⟩ := List.mem_iff_getElem.1 hd
            have e : m.getD j 0 = m[j] := by rw [List.getD_eq_getElem?_getD, List.getElem?_eq_getElem hj]; rfl
            rw [← e]
            refine ⟨(h8 j).1, ?_⟩
            rcases Nat.lt_or_ge j i' with h | h
            · exact h9 j h
            · obtain rfl : j = ds.length + ds'.length := by omega
              have ht : m = m.take (ds.length + ds'.length) ++ [m.getD (ds.length + ds'.length) 0] := by
                rw [← take_getD m _ hj, List.take_of_length_le (by omega)]
              have h1 := dval_snoc (m.take (ds.length + ds'.length)) (m.getD (ds.length + ds'.length) 0)
              rw [← ht, List.length_take, Nat.min_eq_left (by omega), hdm] at h1
              have hdt : Digs (m.take (ds.length + ds'.length)) := by
                intro d hd
                obtain ⟨q, hq, rfl⟩ := List.mem_iff_getElem.1 hd
                rw [List.length_take] at hq
                have e2 : m.getD q 0 = (m.take (ds.length + ds'.length))[q] := by rw [List.getD_eq_getElem?_getD, List.getElem?_eq_getElem (by omega), List.getElem_take]; rfl
                rw [← e2]
                exact ⟨(h8 q).1, h9 q (by omega)⟩
              have h2 := dval_nonneg hdt
              have h3 := dval_lt hcn.1
              have h4' := dval_lt hcn'.1
              have h5 := dval_nonneg hcn.1
              have h6 := dval_nonneg hcn'.1
              have hp1 := pw_pos ds.length
              have hp2 := pw_pos ds'.length
              have h7 : dval ds * dval ds' < pw (ds.length + ds'.length) := by
                rw [pw_add]
                have a1 : dval ds * dval ds' ≤ dval ds * pw ds'.length := Int.mul_le_mul_of_nonneg_left (by omega) h5
                have a2 : dval ds * pw ds'.length < pw ds.length * pw ds'.length := Int.mul_lt_mul_of_pos_right h3 (by omega)
                omega
              have hpp := pw_pos (ds.length + ds'.length)
              refine Int.not_lt.1 fun hgt => ?_
              have a3 : pw (ds.length + ds'.length) * 1 ≤ pw (ds.length + ds'.length) * m.getD (ds.length + ds'.length) 0 := Int.mul_le_mul_of_nonneg_left (by omega) (by omega)
              omega
          have hsg : sgnV (x != y) (dval m) = V * U := by
            rw [hdm, HV.out, HV'.out, HX.out, HX'.out]
            unfold sgnV
            by_cases hV : V < 0 <;> by_cases hU : U < 0 <;> simp [hV, hU]
            · rw [show (V.natAbs : Int) = -V from by omega, show (U.natAbs : Int) = -U from by omega]; grind
            · rw [show (V.natAbs : Int) = -V from by omega, show (U.natAbs : Int) = U from by omega]; grind
            · rw [show (V.natAbs : Int) = V from by omega, show (U.natAbs : Int) = -U from by omega]; grind
            · rw [show (V.natAbs : Int) = V from by omega, show (U.natAbs : Int) = U from by omega]
          have d0 := (hbel'.cell (p := ⟨w.heap.size, 0, none⟩) (show w.heap.size < _ by omega)).trans B2.out
          have d1 := (hbel'.cell (p := ⟨w.heap.size + 1, 0, none⟩) (show w.heap.size + 1 < _ by omega)).trans B3.out
          have HSG := Lib.hid hsg
          have HML := Lib.hid hml
          have hI := hR'.ints
          have hlt2 : ¬ ((i' : Int) + 1) < (ds.length : Int) + ds'.length + 1 := by omega
          clear hsg hdm hml h9 h8 h4 hi3
          go_wp2_with fail
          refine (sign_any (x != y) _ _ _ m _ HML.out (Nat.le_refl _) hI (by omega) hdg).mono ?_
          rintro e w2 ⟨x2, a2, n2, c2, rfl, hnum, hb2, hq2⟩
          have hBB := hbel'.trans (hb2.mono (by have := hbel'.size; have := HS3.out; omega))
          rw [HW3.out] at hBB
          obtain ⟨_, k0, k1, k2, k3⟩ := num_cell (by simp) hBB
          rw [HSG.out] at hnum
          have HQ := Lib.hid hq2
          clear hq2
          go_wp2
          obtain ⟨r1, r2⟩ := num_store (by simp) hBB hnum
          simp [bodyPost, results, Try.results21, go_sem, k0, k1]
          exact ⟨_, _, _, _, rfl, r1, (((Below.refl _ _).alloc (Nat.le_refl _) _).alloc (by simp) _).trans (r2.mono (by omega)), fun yy hy => by rw [HQ.out] at hy; cases hy; simp; omega⟩
#print axioms times_num
end Go.Proofs.Ytaipkmgpjkbapaa
