/- Contracts of schema: no two of a list of columns, of indexes are the same. -/
import Derived.Test.YtapnkbamilkpoaaSch2
import Derived.Test.YtapnkbamilkpoaaShelf
namespace Go.Proofs.Ytapnkbamilkpoaa
open Go.RowKit
/-- A column: its name and kind. -/
abbrev Col := ByteArray × Int
def Cols (w : World) (a : Option Addr) (cs : List Col) : Prop := cs = [] ∨ cs ≠ [] ∧ ∃ b o, a = some ⟨b, o, none⟩ ∧ b < w.heap.size ∧ ∀ (i : Nat) (x : Col), cs[i]? = some x → w.cell? ⟨b, o + i * 2, none⟩ = some (.string x.1) ∧ w.cell? ⟨b, o + i * 2 + 1, none⟩ = some (.int .i64 x.2)
theorem Cols.chg {S : Nat → Prop} {w w' : World} {a : Option Addr} {cs : List Col} (h : Cols w a cs) (hc : Chg S w w') (hs : cs ≠ [] → ∀ x, a = some x → ¬ S x.block) : Cols w' a cs := by
  rcases h with h | ⟨hn, b, o, rfl, hb, hz⟩
  · exact .inl h
  · refine .inr ⟨hn, b, o, rfl, Nat.lt_of_lt_of_le hb hc.size, fun i x hi => ?_⟩
    obtain ⟨z0, z1⟩ := hz i x hi
    have hS := hs hn ⟨b, o, none⟩ rfl
    exact ⟨(hc.cell (p := ⟨b, o + i * 2, none⟩) hb hS).trans z0, (hc.cell (p := ⟨b, o + i * 2 + 1, none⟩) hb hS).trans z1⟩
theorem Cols.below {w w' : World} {a : Option Addr} {cs : List Col} (h : Cols w a cs) (hb : Below w.heap.size w w') : Cols w' a cs := h.chg (S := fun _ => False) (Chg.ofBelow hb) (fun _ _ _ f => f)
theorem Cols.at {w w' : World} {a : Option Addr} {cs : List Col} {m k : Nat} (hv : Cols w a cs) (hl : cs.length = m) (hk : k < m) (hb : Below w.heap.size w w') :
    ∃ b o x, a = some ⟨b, o, none⟩ ∧ b < w.heap.size ∧ cs[k]? = some x ∧ w'.cell? ⟨b, o + k * 2, none⟩ = some (.string x.1) ∧ w'.cell? ⟨b, o + k * 2 + 1, none⟩ = some (.int .i64 x.2) := by
  rcases hv with hv | ⟨hne, b, o, rfl, hlt, hz⟩
  · rw [hv] at hl; simp at hl; omega
  · obtain ⟨x, hx⟩ : ∃ x, cs[k]? = some x := ⟨_, List.getElem?_eq_getElem (by omega)⟩
    obtain ⟨z0, z1⟩ := hz k x hx
    exact ⟨b, o, x, rfl, hlt, hx, (hb.cell (p := ⟨b, o + k * 2, none⟩) hlt).trans z0, (hb.cell (p := ⟨b, o + k * 2 + 1, none⟩) hlt).trans z1⟩
/-- An index, as it lies: its slice, its places, is it unique? -/
structure Idx where
  a : Option Addr
  n : Nat
  c : Nat
  ps : List Int
  u : Bool
def Idxs (w : World) (a : Option Addr) (xs : List Idx) : Prop := xs = [] ∨ xs ≠ [] ∧ ∃ b o, a = some ⟨b, o, none⟩ ∧ b < w.heap.size ∧ ∀ (i : Nat) (x : Idx), xs[i]? = some x → (w.cell? ⟨b, o + i * 2, none⟩ = some (.slice x.a x.n x.c) ∧ w.cell? ⟨b, o + i * 2 + 1, none⟩ = some (.bool x.u)) ∧ (Ints .i64 w x.a x.ps ∧ x.ps.length = x.n ∧ x.n ≤ x.c ∧ x.n ≤ 281474976710656)
theorem Idxs.below {w w' : World} {a : Option Addr} {xs : List Idx} (h : Idxs w a xs) (hb : Below w.heap.size w w') : Idxs w' a xs := by
  rcases h with h | ⟨hn, b, o, rfl, hlt, hz⟩
  · exact .inl h
  · refine .inr ⟨hn, b, o, rfl, Nat.lt_of_lt_of_le hlt hb.size, fun i x hi => ?_⟩
    obtain ⟨⟨z0, z1⟩, z2, z3, z4⟩ := hz i x hi
    exact ⟨⟨(hb.cell (p := ⟨b, o + i * 2, none⟩) hlt).trans z0, (hb.cell (p := ⟨b, o + i * 2 + 1, none⟩) hlt).trans z1⟩, z2.below hb, z3, z4⟩
theorem Idxs.at {w w' : World} {a : Option Addr} {xs : List Idx} {m k : Nat} (hv : Idxs w a xs) (hl : xs.length = m) (hk : k < m) (hb : Below w.heap.size w w') :
    ∃ b o x, a = some ⟨b, o, none⟩ ∧ b < w.heap.size ∧ xs[k]? = some x ∧ w'.cell? ⟨b, o + k * 2, none⟩ = some (.slice x.a x.n x.c) ∧ w'.cell? ⟨b, o + k * 2 + 1, none⟩ = some (.bool x.u) ∧ Ints .i64 w' x.a x.ps ∧ x.ps.length = x.n ∧ x.n ≤ x.c ∧ x.n ≤ 281474976710656 := by
  rcases hv with hv | ⟨hne, b, o, rfl, hlt, hz⟩
  · rw [hv] at hl; simp at hl; omega
  · obtain ⟨x, hx⟩ : ∃ x, xs[k]? = some x := ⟨_, List.getElem?_eq_getElem (by omega)⟩
    obtain ⟨⟨z0, z1⟩, z2, z3, z4⟩ := hz k x hx
    exact ⟨b, o, x, rfl, hlt, hx, (hb.cell (p := ⟨b, o + k * 2, none⟩) hlt).trans z0, (hb.cell (p := ⟨b, o + k * 2 + 1, none⟩) hlt).trans z1, z2.below hb, z3, z4⟩
theorem bstr_ne {c z : ByteArray} (h : ¬ c = z) : (c.toList == z.toList) = false := by
  refine beq_false_of_ne (fun e => ?_)
  rw [ByteArray.toList_eq, ByteArray.toList_eq] at e
  refine h ?_
  cases c; cases z
  simpa using e
set_option maxHeartbeats 1000000 in
theorem eqcol_any (x y : Col) (w : World) : Calls Try.prog 56 #[.agg #[.string x.1, .int .i64 x.2], .agg #[.string y.1, .int .i64 y.2]] w fun e w' => e = .returned (.bool (decide (x.1.data.toList = y.1.data.toList))) ∧ Below w.heap.size w w' := by
  obtain ⟨xn, xk⟩ := x
  obtain ⟨yn, yk⟩ := y
  simp only []
  by_cases h : xn = yn
  · subst h
    rw [decide_eq_true rfl]
    go_enter Try.func56, Try.ntmps56
    go_wp2
    go_ret
    exact ⟨rfl, ((Below.refl _ _).alloc (Nat.le_refl _) _).alloc (by simp) _⟩
  · have hd : ¬ xn.data.toList = yn.data.toList := fun e => h (by cases xn; cases yn; simpa using e)
    rw [decide_eq_false hd]
    have hn := bstr_ne h
    clear hd
    go_enter Try.func56, Try.ntmps56
    go_wp2
    go_ret
    exact ⟨by simp, ((Below.refl _ _).alloc (Nat.le_refl _) _).alloc (by simp) _⟩
/-- slices.Equal of two lists of numbers, whatever they are. -/
theorem equal_ints (a a' : Option Addr) (n c n' c' : Nat) (xs ys : List Int) (w : World) (hx : xs.length = n) (hy : ys.length = n') (h1 : n ≤ 281474976710656) (h2 : n' ≤ 281474976710656) (hX : Ints .i64 w a xs) (hY : Ints .i64 w a' ys) :
    Calls Try.prog 53 #[.slice a n c, .slice a' n' c'] w fun e w' => e = .returned (.bool (decide (xs = ys))) ∧ Below w.heap.size w w' := by
  by_cases hn : n = n'
  · by_cases h0 : n = 0
    · subst hn
      subst h0
      have hxe : xs = [] := List.eq_nil_of_length_eq_zero hx
      have hye : ys = [] := List.eq_nil_of_length_eq_zero hy
      subst hxe hye
      refine (Try.slices_Equal_int_empty a a' c 0 c' w (by omega)).mono fun e w' h => ⟨h.1, h.2 ▸ Below.refl _ _⟩
    · rcases hX with hX | ⟨_, b, o, rfl, hb, hcx⟩
      · rw [hX] at hx; exact absurd hx.symm h0
      rcases hY with hY | ⟨_, b', o', rfl, hb', hcy⟩
      · rw [hY] at hy; exact absurd (hn.trans hy.symm) h0
      refine (Try.slices_Equal_int b o n c b' o' n' c' xs ys w (by omega) (by omega) (by omega) (by omega) hcx hcy).mono fun e w' h => ?_
      obtain ⟨rfl, q, rfl⟩ := h
      refine ⟨?_, bdrewN (Below.refl _ _) q⟩
      rw [List.take_of_length_le (by omega), List.take_of_length_le (by omega)]
      congr 2
      rw [Bool.eq_iff_iff]
      simp
  · refine (Try.slices_Equal_int_lens a a' n c n' c' w hn).mono fun e w' h => ⟨?_, h.2 ▸ Below.refl _ _⟩
    rw [h.1, decide_eq_false (fun e => hn (by rw [← hx, ← hy, e]))]
set_option maxHeartbeats 1000000 in
theorem eqidx_any (x y : Idx) (w : World) (hx : Ints .i64 w x.a x.ps ∧ x.ps.length = x.n ∧ x.n ≤ 281474976710656) (hy : Ints .i64 w y.a y.ps ∧ y.ps.length = y.n ∧ y.n ≤ 281474976710656) :
    Calls Try.prog 59 #[.agg #[.slice x.a x.n x.c, .bool x.u], .agg #[.slice y.a y.n y.c, .bool y.u]] w fun e w' => e = .returned (.bool (decide (x.ps = y.ps))) ∧ Below w.heap.size w w' := by
  have hA : Below w.heap.size w ((w.alloc (.cells #[.slice x.a x.n x.c, .bool x.u] 34)).alloc (.cells #[.slice y.a y.n y.c, .bool y.u] 34)) := ((Below.refl _ _).alloc (Nat.le_refl _) _).alloc (by simp) _
  have HE := Lib.hid (fun W (hb : Below w.heap.size w W) => equal_ints x.a y.a x.n x.c y.n y.c x.ps y.ps W hx.2.1 hy.2.1 hx.2.2 hy.2.2 (hx.1.below hb) (hy.1.below hb))
  generalize decide (x.ps = y.ps) = r at HE ⊢
  have HA := Lib.hid hA
  clear hx hy hA
  go_enter Try.func59, Try.ntmps59
  go_wp2_with fail
  refine (HE.out _ HA.out).mono ?_
  rintro e w1 ⟨rfl, hb1⟩
  have hB := Below.thenB HA.out HA.out.size hb1
  go_wp2
  go_ret
  exact ⟨rfl, hB⟩
theorem clo_col (x y : Col) (B1 B2 : Nat) (w : World) (h1 : w.heap[B1]? = some (.cells #[.func (.func 56) #[] #[]] 87 (0, 0))) (h2 : w.heap[B2]? = some (.cells #[.string y.1, .int .i64 y.2] 29 (0, 0))) :
    Calls Try.prog 75 #[.agg #[.string x.1, .int .i64 x.2], .pointer (some ⟨B1, 0, none⟩), .pointer (some ⟨B2, 0, none⟩)] w fun e w' => e = .returned (.bool (decide (x.1.data.toList = y.1.data.toList))) ∧ Below w.heap.size w w' := by
  obtain ⟨W1, hW1⟩ : ∃ W1, W1 = w.alloc (.cells #[.string x.1, .int .i64 x.2] 29) := ⟨_, rfl⟩
  have hA1 : Below w.heap.size w W1 := by rw [hW1]; exact (Below.refl _ _).alloc (Nat.le_refl _) _
  have hk : W1.heap[w.heap.size]? = some (.cells #[.string x.1, .int .i64 x.2] 29 (0, 0)) := by rw [hW1]; exact Array.getElem?_push_size
  have l1 : B1 < w.heap.size := (Array.getElem?_eq_some_iff.1 h1).1
  have l2 : B2 < w.heap.size := (Array.getElem?_eq_some_iff.1 h2).1
  have h1' := (hA1.block B1 l1).trans h1
  have h2' := (hA1.block B2 l2).trans h2
  have d1 := Lib.cell_of_heap h1' 0
  have d20 := Lib.cell_of_heap h2' 0
  have d21 := Lib.cell_of_heap h2' 1
  have d30 := Lib.cell_of_heap hk 0
  have d31 := Lib.cell_of_heap hk 1
  have HE := Lib.hid (eqcol_any x y W1)
  have HA := Lib.hid hA1
  have HW1 := Lib.hid hW1.symm
  generalize decide (x.1.data.toList = y.1.data.toList) = r at HE ⊢
  clear h1 h2 h1' h2' hk hA1 hW1
  go_enter Try.func75, Try.ntmps75
  go_upto_region 1 with fail
  rw [HW1.out]
  clear HW1
  go_wp2_with fail
  refine HE.out.mono ?_
  rintro e w1 ⟨rfl, hb1⟩
  have hB := Below.thenB HA.out HA.out.size hb1
  go_wp2
  go_ret
  exact ⟨rfl, hB⟩
set_option maxRecDepth 100000 in
set_option maxHeartbeats 1000000 in
theorem idxf_col (a : Option Addr) (m c : Nat) (zs : List Col) (y : Col) (B1 B2 : Nat) (w : World) (hm : m ≤ zs.length) (hm2 : zs.length ≤ 1048576) (hz : Cols w a zs) (h1 : w.heap[B1]? = some (.cells #[.func (.func 56) #[] #[]] 87 (0, 0))) (h2 : w.heap[B2]? = some (.cells #[.string y.1, .int .i64 y.2] 29 (0, 0))) :
    Calls Try.prog 43 #[.slice a m c, .func (.func 75) #[] #[.pointer (some ⟨B1, 0, none⟩), .pointer (some ⟨B2, 0, none⟩)]] w fun e w' => IdxRet (decide (y.1.data.toList ∈ (zs.take m).map (fun x : Col => x.1.data.toList))) e ∧ Below w.heap.size w w' := by
  have l1 : B1 < w.heap.size := (Array.getElem?_eq_some_iff.1 h1).1
  have l2 : B2 < w.heap.size := (Array.getElem?_eq_some_iff.1 h2).1
  have HZ := Lib.hid hz
  have H1 := Lib.hid h1
  have H2 := Lib.hid h2

  clear hz h1 h2
  go_enter Try.func43, Try.ntmps43
  go_wp2
  go_loopw [8] (fun i wr => ∃ k : Nat, k ≤ m ∧ i = .int .i64 (k : Int) ∧ Hid (y.1.data.toList ∉ (zs.take k).map (fun x : Col => x.1.data.toList)) ∧ Below w.heap.size w wr) (fun i _ => m - (intOf i).toNat)
  case atStart => exact ⟨0, Nat.zero_le _, rfl, Lib.hid (by simp), Below.refl _ _⟩
  case round =>
    obtain ⟨k, hk, rfl, hno, hbel⟩ := hrel
    have hsz := hbel.size
    by_cases hlt : k < m
    · have hlt' : decide ((k : Int) < (m : Int)) = true := decide_eq_true (by omega)
      obtain ⟨bs, o, z, rfl, hbs, hzk, c0, c1⟩ := Cols.at (m := zs.length) HZ.out rfl (by omega : k < zs.length) hbel
      have htk : zs.take (k + 1) = zs.take k ++ [z] := by rw [List.take_add_one, hzk]; rfl
      have hmem : z ∈ zs.take m := List.mem_of_getElem? (i := k) (by rw [List.getElem?_take_of_lt hlt]; exact hzk)
      have HE := Lib.hid (clo_col z y B1 B2 wr ((hbel.block B1 l1).trans H1.out) ((hbel.block B2 l2).trans H2.out))
      have HBL := Lib.hid hbel
      clear hbel hzk
      by_cases he : z.1.data.toList = y.1.data.toList
      · have HT := Lib.hid (show decide (y.1.data.toList ∈ (zs.take m).map (fun x : Col => x.1.data.toList)) = true from decide_eq_true (List.mem_map.2 ⟨z, hmem, he⟩))
        rw [decide_eq_true he] at HE
        clear hmem htk hno he
        go_wp2_with fail
        refine HE.out.mono ?_
        rintro e w1 ⟨rfl, hb1⟩
        have HB1 := Lib.hid (Below.thenB HBL.out hsz hb1)
        clear hb1
        go_wp2
        go_ret
        exact ⟨⟨_, rfl, by rw [HT.out]; exact decide_eq_true (by omega)⟩, HB1.out⟩
      · have hno' : Hid (y.1.data.toList ∉ (zs.take (k + 1)).map (fun x : Col => x.1.data.toList)) := by
          show y.1.data.toList ∉ (zs.take (k + 1)).map (fun x : Col => x.1.data.toList)
          rw [htk, List.map_append]
          simp only [List.mem_append, List.map_cons, List.map_nil, List.mem_singleton, not_or]
          exact ⟨hno.out, fun h => he h.symm⟩
        rw [decide_eq_false he] at HE
        clear hmem htk hno he
        go_wp2_with fail
        refine HE.out.mono ?_
        rintro e w1 ⟨rfl, hb1⟩
        have HB1 := Lib.hid (Below.thenB HBL.out hsz hb1)
        clear hb1 c0 c1 HE HBL
        go_wp2
        go_roundw
        case rel => exact ⟨k + 1, by omega, by go_num, hno', HB1.out⟩
        case measure => simp [intOf]; omega
    · have hlt' : decide ((k : Int) < (m : Int)) = false := decide_eq_false (by omega)
      have hkm : m = k := by omega
      have HT := Lib.hid (show decide (y.1.data.toList ∈ (zs.take m).map (fun x : Col => x.1.data.toList)) = false from decide_eq_false (by rw [hkm]; exact hno.out))
      have HBL := Lib.hid hbel
      clear hno hbel
      go_wp2
      go_ret
      exact ⟨⟨_, rfl, by rw [HT.out]; rfl⟩, HBL.out⟩
set_option maxHeartbeats 1000000 in
theorem contf_col (a : Option Addr) (m c : Nat) (zs : List Col) (y : Col) (B1 B2 : Nat) (w : World) (hm : m ≤ zs.length) (hm2 : zs.length ≤ 1048576) (hz : Cols w a zs) (h1 : w.heap[B1]? = some (.cells #[.func (.func 56) #[] #[]] 87 (0, 0))) (h2 : w.heap[B2]? = some (.cells #[.string y.1, .int .i64 y.2] 29 (0, 0))) :
    Calls Try.prog 74 #[.slice a m c, .func (.func 75) #[] #[.pointer (some ⟨B1, 0, none⟩), .pointer (some ⟨B2, 0, none⟩)]] w fun e w' => e = .returned (.bool (decide (y.1.data.toList ∈ (zs.take m).map (fun x : Col => x.1.data.toList)))) ∧ Below w.heap.size w w' := by
  have HI := Lib.hid (idxf_col a m c zs y B1 B2 w hm hm2 hz h1 h2)
  generalize decide (y.1.data.toList ∈ (zs.take m).map (fun x : Col => x.1.data.toList)) = t at HI ⊢
  clear hz h1 h2
  go_enter Try.func74, Try.ntmps74
  go_wp2_with fail
  refine HI.out.mono ?_
  rintro e w1 ⟨⟨r, rfl, hr⟩, hb1⟩
  go_wp2
  go_ret
  exact ⟨rfl, hb1⟩
set_option maxRecDepth 100000 in
set_option maxHeartbeats 1000000 in
theorem unlike_col (a : Option Addr) (m c : Nat) (zs : List Col) (w : World) (hl : zs.length = m) (hmc : m ≤ c) (hm : m ≤ 1048576) (hz : Cols w a zs) :
    Calls Try.prog 55 #[.slice a m c, .func (.func 56) #[] #[]] w fun e w' => e = .returned (.bool (decide (zs.map (fun x : Col => x.1.data.toList)).Nodup)) ∧ Below w.heap.size w w' := by
  obtain ⟨R, hR⟩ : ∃ R, R = decide (zs.map (fun x : Col => x.1.data.toList)).Nodup := ⟨_, rfl⟩
  rw [← hR]
  obtain ⟨W1, hW1⟩ : ∃ W1, W1 = w.alloc (.cells #[.func (.func 56) #[] #[]] 87) := ⟨_, rfl⟩
  have hA1 : Below w.heap.size w W1 := by rw [hW1]; exact (Below.refl _ _).alloc (Nat.le_refl _) _
  have hk1 : W1.heap[w.heap.size]? = some (.cells #[.func (.func 56) #[] #[]] 87 (0, 0)) := by rw [hW1]; exact Array.getElem?_push_size
  have hs1 : w.heap.size < W1.heap.size := by rw [hW1]; simp
  have HR := Lib.hid hR
  have HL := Lib.hid hl
  have HZ := Lib.hid hz
  have HK := Lib.hid hk1
  have HA := Lib.hid hA1
  have HW1 := Lib.hid hW1.symm
  clear hR hl hz hk1 hA1 hW1
  go_enter Try.func55, Try.ntmps55
  go_upto_region 1 with fail
  rw [HW1.out]
  clear HW1
  go_wp2
  go_loopw [9] (fun i wr => ∃ k : Nat, k ≤ m ∧ i = .int .i64 (k : Int) ∧ Hid (((zs.take k).map (fun x : Col => x.1.data.toList)).Nodup) ∧ w.heap.size < wr.heap.size ∧ wr.heap[w.heap.size]? = some (.cells #[.func (.func 56) #[] #[]] 87 (0, 0)) ∧ Below w.heap.size w wr) (fun i _ => m - (intOf i).toNat)
  case atStart => exact ⟨0, Nat.zero_le _, rfl, Lib.hid (by simp), hs1, HK.out, HA.out⟩
  case round =>
    obtain ⟨k, hk, rfl, hnd, hsz, hkb, hbel⟩ := hrel
    by_cases hlt : k < m
    · have hlt' : decide ((k : Int) < (m : Int)) = true := decide_eq_true (by omega)
      have hzr := HZ.out.below hbel
      obtain ⟨bs, o, z, rfl, hbs, hzk, c0, c1⟩ := Cols.at HZ.out HL.out hlt hbel
      have htk : zs.take (k + 1) = zs.take k ++ [z] := by rw [List.take_add_one, hzk]; rfl
      obtain ⟨W2, hW2⟩ : ∃ W2, W2 = wr.alloc (.cells #[.string z.1, .int .i64 z.2] 29) := ⟨_, rfl⟩
      have hA2 : Below wr.heap.size wr W2 := by rw [hW2]; exact (Below.refl _ _).alloc (Nat.le_refl _) _
      have hk2 : W2.heap[wr.heap.size]? = some (.cells #[.string z.1, .int .i64 z.2] 29 (0, 0)) := by rw [hW2]; exact Array.getElem?_push_size
      have hcf := contf_col (some ⟨bs, o, none⟩) k c zs z w.heap.size wr.heap.size W2 (by rw [HL.out]; omega) (by rw [HL.out]; exact hm) (hzr.below hA2) ((hA2.block _ hsz).trans hkb) hk2
      have HCF := Lib.hid hcf
      have HB2 := Lib.hid (Below.thenB hbel (Nat.le_of_lt hsz) hA2)
      have HKB := Lib.hid ((hA2.block _ hsz).trans hkb)
      have hs2 : w.heap.size < W2.heap.size := Nat.lt_of_lt_of_le hsz hA2.size
      have HW2 := Lib.hid hW2.symm
      have hk0 : (0 : Int) ≤ (k : Int) := by omega
      have hkc : (k : Int) ≤ (c : Int) := by omega
      clear hbel hW2 hA2 hk2 hcf hkb hzk hzr
      by_cases he : z.1.data.toList ∈ (zs.take k).map (fun x : Col => x.1.data.toList)
      · have HF := Lib.hid (show R = false by
          rw [HR.out]
          refine decide_eq_false (fun h => ?_)
          have h2 : ((zs.take (k + 1)).map (fun x : Col => x.1.data.toList)).Nodup := h.sublist ((List.take_sublist _ _).map _)
          rw [htk, List.map_append, List.nodup_append] at h2
          exact h2.2.2 z.1.data.toList he z.1.data.toList (List.mem_singleton.2 rfl) rfl)
        rw [decide_eq_true he] at HCF
        clear htk hnd he
        go_wp2_with fail
        rw [HW2.out]
        refine HCF.out.mono ?_
        rintro e w3 ⟨rfl, hb3⟩
        have HB3 := Lib.hid (Below.thenB HB2.out (Nat.le_of_lt hs2) hb3)
        clear hb3
        go_wp2
        go_ret
        exact ⟨by rw [HF.out]; rfl, HB3.out⟩
      · have hnd' : Hid (((zs.take (k + 1)).map (fun x : Col => x.1.data.toList)).Nodup) := by
          show ((zs.take (k + 1)).map (fun x : Col => x.1.data.toList)).Nodup
          rw [htk, List.map_append, List.nodup_append]
          refine ⟨hnd.out, by simp, fun x hx y hy => ?_⟩
          have hy' : y = z.1.data.toList := by simpa using hy
          subst hy'
          rintro rfl
          exact he hx
        rw [decide_eq_false he] at HCF
        clear htk hnd he
        go_wp2_with fail
        rw [HW2.out]
        refine HCF.out.mono ?_
        rintro e w3 ⟨rfl, hb3⟩
        have HB3 := Lib.hid (Below.thenB HB2.out (Nat.le_of_lt hs2) hb3)
        have HK3 := Lib.hid ((hb3.block _ hs2).trans HKB.out)
        have hs3 : w.heap.size < w3.heap.size := Nat.lt_of_lt_of_le hs2 hb3.size
        clear hb3 HCF HB2 HKB HW2 c0 c1
        go_wp2
        go_roundw
        case rel => exact ⟨k + 1, by omega, by go_num, hnd', hs3, HK3.out, HB3.out⟩
        case measure => simp [intOf]; omega
    · have hlt' : decide ((k : Int) < (m : Int)) = false := decide_eq_false (by omega)
      have HT := Lib.hid (show R = true by
        have := hnd.out
        rw [List.take_of_length_le (by rw [HL.out]; omega)] at this
        rw [HR.out]; exact decide_eq_true this)
      have HBL := Lib.hid hbel
      clear hnd hbel hkb
      go_wp2
      go_ret
      exact ⟨by rw [HT.out]; rfl, HBL.out⟩
theorem clo_idx (x y : Idx) (B1 B2 : Nat) (w : World) (hx : Ints .i64 w x.a x.ps ∧ x.ps.length = x.n ∧ x.n ≤ 281474976710656) (hy : Ints .i64 w y.a y.ps ∧ y.ps.length = y.n ∧ y.n ≤ 281474976710656) (h1 : w.heap[B1]? = some (.cells #[.func (.func 59) #[] #[]] 70 (0, 0))) (h2 : w.heap[B2]? = some (.cells #[.slice y.a y.n y.c, .bool y.u] 34 (0, 0))) :
    Calls Try.prog 79 #[.agg #[.slice x.a x.n x.c, .bool x.u], .pointer (some ⟨B1, 0, none⟩), .pointer (some ⟨B2, 0, none⟩)] w fun e w' => e = .returned (.bool (decide (x.ps = y.ps))) ∧ Below w.heap.size w w' := by
  obtain ⟨W1, hW1⟩ : ∃ W1, W1 = w.alloc (.cells #[.slice x.a x.n x.c, .bool x.u] 34) := ⟨_, rfl⟩
  have hA1 : Below w.heap.size w W1 := by rw [hW1]; exact (Below.refl _ _).alloc (Nat.le_refl _) _
  have hk : W1.heap[w.heap.size]? = some (.cells #[.slice x.a x.n x.c, .bool x.u] 34 (0, 0)) := by rw [hW1]; exact Array.getElem?_push_size
  have l1 : B1 < w.heap.size := (Array.getElem?_eq_some_iff.1 h1).1
  have l2 : B2 < w.heap.size := (Array.getElem?_eq_some_iff.1 h2).1
  have h1' := (hA1.block B1 l1).trans h1
  have h2' := (hA1.block B2 l2).trans h2
  have d1 := Lib.cell_of_heap h1' 0
  have d20 := Lib.cell_of_heap h2' 0
  have d21 := Lib.cell_of_heap h2' 1
  have d30 := Lib.cell_of_heap hk 0
  have d31 := Lib.cell_of_heap hk 1
  have HE := Lib.hid (eqidx_any x y W1 ⟨hx.1.below hA1, hx.2⟩ ⟨hy.1.below hA1, hy.2⟩)
  have HA := Lib.hid hA1
  have HW1 := Lib.hid hW1.symm
  generalize decide (x.ps = y.ps) = r at HE ⊢
  clear h1 h2 h1' h2' hk hA1 hW1
  go_enter Try.func79, Try.ntmps79
  go_upto_region 1 with fail
  rw [HW1.out]
  clear HW1
  go_wp2_with fail
  refine HE.out.mono ?_
  rintro e w1 ⟨rfl, hb1⟩
  have hB := Below.thenB HA.out HA.out.size hb1
  go_wp2
  go_ret
  exact ⟨rfl, hB⟩
set_option maxRecDepth 100000 in
set_option maxHeartbeats 1000000 in
theorem idxf_idx (a : Option Addr) (m c : Nat) (zs : List Idx) (y : Idx) (B1 B2 : Nat) (w : World) (hm : m ≤ zs.length) (hm2 : zs.length ≤ 1048576) (hy : Ints .i64 w y.a y.ps ∧ y.ps.length = y.n ∧ y.n ≤ 281474976710656) (hz : Idxs w a zs) (h1 : w.heap[B1]? = some (.cells #[.func (.func 59) #[] #[]] 70 (0, 0))) (h2 : w.heap[B2]? = some (.cells #[.slice y.a y.n y.c, .bool y.u] 34 (0, 0))) :
    Calls Try.prog 86 #[.slice a m c, .func (.func 79) #[] #[.pointer (some ⟨B1, 0, none⟩), .pointer (some ⟨B2, 0, none⟩)]] w fun e w' => IdxRet (decide (y.ps ∈ (zs.take m).map (fun x : Idx => x.ps))) e ∧ Below w.heap.size w w' := by
  have l1 : B1 < w.heap.size := (Array.getElem?_eq_some_iff.1 h1).1
  have l2 : B2 < w.heap.size := (Array.getElem?_eq_some_iff.1 h2).1
  have HZ := Lib.hid hz
  have H1 := Lib.hid h1
  have H2 := Lib.hid h2
  have HY := Lib.hid hy
  clear hz h1 h2 hy
  go_enter Try.func86, Try.ntmps86
  go_wp2
  go_loopw [8] (fun i wr => ∃ k : Nat, k ≤ m ∧ i = .int .i64 (k : Int) ∧ Hid (y.ps ∉ (zs.take k).map (fun x : Idx => x.ps)) ∧ Below w.heap.size w wr) (fun i _ => m - (intOf i).toNat)
  case atStart => exact ⟨0, Nat.zero_le _, rfl, Lib.hid (by simp), Below.refl _ _⟩
  case round =>
    obtain ⟨k, hk, rfl, hno, hbel⟩ := hrel
    have hsz := hbel.size
    by_cases hlt : k < m
    · have hlt' : decide ((k : Int) < (m : Int)) = true := decide_eq_true (by omega)
      obtain ⟨bs, o, z, rfl, hbs, hzk, c0, c1, hzi, hzl, hzc, hzb⟩ := Idxs.at (m := zs.length) HZ.out rfl (by omega : k < zs.length) hbel
      have htk : zs.take (k + 1) = zs.take k ++ [z] := by rw [List.take_add_one, hzk]; rfl
      have hmem : z ∈ zs.take m := List.mem_of_getElem? (i := k) (by rw [List.getElem?_take_of_lt hlt]; exact hzk)
      have HE := Lib.hid (clo_idx z y B1 B2 wr ⟨hzi, hzl, hzb⟩ ⟨HY.out.1.below hbel, HY.out.2⟩ ((hbel.block B1 l1).trans H1.out) ((hbel.block B2 l2).trans H2.out))
      have HBL := Lib.hid hbel
      clear hbel hzk hzi hzl hzc hzb
      by_cases he : z.ps = y.ps
      · have HT := Lib.hid (show decide (y.ps ∈ (zs.take m).map (fun x : Idx => x.ps)) = true from decide_eq_true (List.mem_map.2 ⟨z, hmem, he⟩))
        rw [decide_eq_true he] at HE
        clear hmem htk hno he
        go_wp2_with fail
        refine HE.out.mono ?_
        rintro e w1 ⟨rfl, hb1⟩
        have HB1 := Lib.hid (Below.thenB HBL.out hsz hb1)
        clear hb1
        go_wp2
        go_ret
        exact ⟨⟨_, rfl, by rw [HT.out]; exact decide_eq_true (by omega)⟩, HB1.out⟩
      · have hno' : Hid (y.ps ∉ (zs.take (k + 1)).map (fun x : Idx => x.ps)) := by
          show y.ps ∉ (zs.take (k + 1)).map (fun x : Idx => x.ps)
          rw [htk, List.map_append]
          simp only [List.mem_append, List.map_cons, List.map_nil, List.mem_singleton, not_or]
          exact ⟨hno.out, fun h => he h.symm⟩
        rw [decide_eq_false he] at HE
        clear hmem htk hno he
        go_wp2_with fail
        refine HE.out.mono ?_
        rintro e w1 ⟨rfl, hb1⟩
        have HB1 := Lib.hid (Below.thenB HBL.out hsz hb1)
        clear hb1 c0 c1 HE HBL
        go_wp2
        go_roundw
        case rel => exact ⟨k + 1, by omega, by go_num, hno', HB1.out⟩
        case measure => simp [intOf]; omega
    · have hlt' : decide ((k : Int) < (m : Int)) = false := decide_eq_false (by omega)
      have hkm : m = k := by omega
      have HT := Lib.hid (show decide (y.ps ∈ (zs.take m).map (fun x : Idx => x.ps)) = false from decide_eq_false (by rw [hkm]; exact hno.out))
      have HBL := Lib.hid hbel
      clear hno hbel
      go_wp2
      go_ret
      exact ⟨⟨_, rfl, by rw [HT.out]; rfl⟩, HBL.out⟩
set_option maxHeartbeats 1000000 in
theorem contf_idx (a : Option Addr) (m c : Nat) (zs : List Idx) (y : Idx) (B1 B2 : Nat) (w : World) (hm : m ≤ zs.length) (hm2 : zs.length ≤ 1048576) (hy : Ints .i64 w y.a y.ps ∧ y.ps.length = y.n ∧ y.n ≤ 281474976710656) (hz : Idxs w a zs) (h1 : w.heap[B1]? = some (.cells #[.func (.func 59) #[] #[]] 70 (0, 0))) (h2 : w.heap[B2]? = some (.cells #[.slice y.a y.n y.c, .bool y.u] 34 (0, 0))) :
    Calls Try.prog 78 #[.slice a m c, .func (.func 79) #[] #[.pointer (some ⟨B1, 0, none⟩), .pointer (some ⟨B2, 0, none⟩)]] w fun e w' => e = .returned (.bool (decide (y.ps ∈ (zs.take m).map (fun x : Idx => x.ps)))) ∧ Below w.heap.size w w' := by
  have HI := Lib.hid (idxf_idx a m c zs y B1 B2 w hm hm2 hy hz h1 h2)
  generalize decide (y.ps ∈ (zs.take m).map (fun x : Idx => x.ps)) = t at HI ⊢
  clear hz h1 h2 hy
  go_enter Try.func78, Try.ntmps78
  go_wp2_with fail
  refine HI.out.mono ?_
  rintro e w1 ⟨⟨r, rfl, hr⟩, hb1⟩
  go_wp2
  go_ret
  exact ⟨rfl, hb1⟩
set_option maxRecDepth 100000 in
set_option maxHeartbeats 1000000 in
theorem unlike_idx (a : Option Addr) (m c : Nat) (zs : List Idx) (w : World) (hl : zs.length = m) (hmc : m ≤ c) (hm : m ≤ 1048576) (hz : Idxs w a zs) :
    Calls Try.prog 58 #[.slice a m c, .func (.func 59) #[] #[]] w fun e w' => e = .returned (.bool (decide (zs.map (fun x : Idx => x.ps)).Nodup)) ∧ Below w.heap.size w w' := by
  obtain ⟨R, hR⟩ : ∃ R, R = decide (zs.map (fun x : Idx => x.ps)).Nodup := ⟨_, rfl⟩
  rw [← hR]
  obtain ⟨W1, hW1⟩ : ∃ W1, W1 = w.alloc (.cells #[.func (.func 59) #[] #[]] 70) := ⟨_, rfl⟩
  have hA1 : Below w.heap.size w W1 := by rw [hW1]; exact (Below.refl _ _).alloc (Nat.le_refl _) _
  have hk1 : W1.heap[w.heap.size]? = some (.cells #[.func (.func 59) #[] #[]] 70 (0, 0)) := by rw [hW1]; exact Array.getElem?_push_size
  have hs1 : w.heap.size < W1.heap.size := by rw [hW1]; simp
  have HR := Lib.hid hR
  have HL := Lib.hid hl
  have HZ := Lib.hid hz
  have HK := Lib.hid hk1
  have HA := Lib.hid hA1
  have HW1 := Lib.hid hW1.symm
  clear hR hl hz hk1 hA1 hW1
  go_enter Try.func58, Try.ntmps58
  go_upto_region 1 with fail
  rw [HW1.out]
  clear HW1
  go_wp2
  go_loopw [9] (fun i wr => ∃ k : Nat, k ≤ m ∧ i = .int .i64 (k : Int) ∧ Hid (((zs.take k).map (fun x : Idx => x.ps)).Nodup) ∧ w.heap.size < wr.heap.size ∧ wr.heap[w.heap.size]? = some (.cells #[.func (.func 59) #[] #[]] 70 (0, 0)) ∧ Below w.heap.size w wr) (fun i _ => m - (intOf i).toNat)
  case atStart => exact ⟨0, Nat.zero_le _, rfl, Lib.hid (by simp), hs1, HK.out, HA.out⟩
  case round =>
    obtain ⟨k, hk, rfl, hnd, hsz, hkb, hbel⟩ := hrel
    by_cases hlt : k < m
    · have hlt' : decide ((k : Int) < (m : Int)) = true := decide_eq_true (by omega)
      have hzr := HZ.out.below hbel
      obtain ⟨bs, o, z, rfl, hbs, hzk, c0, c1, hzi, hzl, hzc, hzb⟩ := Idxs.at HZ.out HL.out hlt hbel
      have htk : zs.take (k + 1) = zs.take k ++ [z] := by rw [List.take_add_one, hzk]; rfl
      obtain ⟨W2, hW2⟩ : ∃ W2, W2 = wr.alloc (.cells #[.slice z.a z.n z.c, .bool z.u] 34) := ⟨_, rfl⟩
      have hA2 : Below wr.heap.size wr W2 := by rw [hW2]; exact (Below.refl _ _).alloc (Nat.le_refl _) _
      have hk2 : W2.heap[wr.heap.size]? = some (.cells #[.slice z.a z.n z.c, .bool z.u] 34 (0, 0)) := by rw [hW2]; exact Array.getElem?_push_size
      have hcf := contf_idx (some ⟨bs, o, none⟩) k c zs z w.heap.size wr.heap.size W2 (by rw [HL.out]; omega) (by rw [HL.out]; exact hm) ⟨hzi.below hA2, hzl, hzb⟩ (hzr.below hA2) ((hA2.block _ hsz).trans hkb) hk2
      have HCF := Lib.hid hcf
      have HB2 := Lib.hid (Below.thenB hbel (Nat.le_of_lt hsz) hA2)
      have HKB := Lib.hid ((hA2.block _ hsz).trans hkb)
      have hs2 : w.heap.size < W2.heap.size := Nat.lt_of_lt_of_le hsz hA2.size
      have HW2 := Lib.hid hW2.symm
      have hk0 : (0 : Int) ≤ (k : Int) := by omega
      have hkc : (k : Int) ≤ (c : Int) := by omega
      clear hbel hW2 hA2 hk2 hcf hkb hzk hzr hzi hzl hzc hzb
      by_cases he : z.ps ∈ (zs.take k).map (fun x : Idx => x.ps)
      · have HF := Lib.hid (show R = false by
          rw [HR.out]
          refine decide_eq_false (fun h => ?_)
          have h2 : ((zs.take (k + 1)).map (fun x : Idx => x.ps)).Nodup := h.sublist ((List.take_sublist _ _).map _)
          rw [htk, List.map_append, List.nodup_append] at h2
          exact h2.2.2 z.ps he z.ps (List.mem_singleton.2 rfl) rfl)
        rw [decide_eq_true he] at HCF
        clear htk hnd he
        go_wp2_with fail
        rw [HW2.out]
        refine HCF.out.mono ?_
        rintro e w3 ⟨rfl, hb3⟩
        have HB3 := Lib.hid (Below.thenB HB2.out (Nat.le_of_lt hs2) hb3)
        clear hb3
        go_wp2
        go_ret
        exact ⟨by rw [HF.out]; rfl, HB3.out⟩
      · have hnd' : Hid (((zs.take (k + 1)).map (fun x : Idx => x.ps)).Nodup) := by
          show ((zs.take (k + 1)).map (fun x : Idx => x.ps)).Nodup
          rw [htk, List.map_append, List.nodup_append]
          refine ⟨hnd.out, by simp, fun x hx y hy => ?_⟩
          have hy' : y = z.ps := by simpa using hy
          subst hy'
          rintro rfl
          exact he hx
        rw [decide_eq_false he] at HCF
        clear htk hnd he
        go_wp2_with fail
        rw [HW2.out]
        refine HCF.out.mono ?_
        rintro e w3 ⟨rfl, hb3⟩
        have HB3 := Lib.hid (Below.thenB HB2.out (Nat.le_of_lt hs2) hb3)
        have HK3 := Lib.hid ((hb3.block _ hs2).trans HKB.out)
        have hs3 : w.heap.size < w3.heap.size := Nat.lt_of_lt_of_le hs2 hb3.size
        clear hb3 HCF HB2 HKB HW2 c0 c1
        go_wp2
        go_roundw
        case rel => exact ⟨k + 1, by omega, by go_num, hnd', hs3, HK3.out, HB3.out⟩
        case measure => simp [intOf]; omega
    · have hlt' : decide ((k : Int) < (m : Int)) = false := decide_eq_false (by omega)
      have HT := Lib.hid (show R = true by
        have := hnd.out
        rw [List.take_of_length_le (by rw [HL.out]; omega)] at this
        rw [HR.out]; exact decide_eq_true this)
      have HBL := Lib.hid hbel
      clear hnd hbel hkb
      go_wp2
      go_ret
      exact ⟨by rw [HT.out]; rfl, HBL.out⟩
end Go.Proofs.Ytapnkbamilkpoaa
