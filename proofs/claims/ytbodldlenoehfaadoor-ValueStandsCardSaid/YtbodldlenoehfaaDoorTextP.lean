/- Contract of the document's Parse of numbers. -/
import Derived.Test.YtbodldlenoehfaaDoorTextR
import Derived.Deep.RegionLaw
import Derived.Deep.AppendLies
namespace Go.Proofs.YtbodldlenoehfaaDoor
open Go.RowKit
def pN : Option Int → Int
  | none => 0
  | some V => okN V
def pE : Option Int → Int
  | none => 12
  | some V => erN V
theorem parV_eq (l : List UInt8) (f : Nat) (hd : Lib.trimPrefix l [45] = l.drop f) (hn : Lib.hasPrefix l [45] = decide (f = 1)) :
    parV l = if numB (l.drop f) && !(decide (f = 1) && (l.drop f == [48])) then some (sgnV (decide (f = 1)) (dreadV 0 (l.drop f))) else none := by
  unfold parV sgnV
  rw [hd, hn]
theorem parV_bad {l : List UInt8} {f : Nat} (hd : Lib.trimPrefix l [45] = l.drop f) (hn : Lib.hasPrefix l [45] = decide (f = 1)) (h : (l.drop f).all isDig = false) : parV l = none := by
  rw [parV_eq l f hd hn]
  have : numB (l.drop f) = false := by unfold numB; rw [h, Bool.and_false]
  rw [this]; rfl
theorem parV_empty {l : List UInt8} {f : Nat} (hd : Lib.trimPrefix l [45] = l.drop f) (hn : Lib.hasPrefix l [45] = decide (f = 1)) (h : l.length = f) : parV l = none := by
  rw [parV_eq l f hd hn]
  have : l.drop f = [] := List.drop_eq_nil_of_le (by omega)
  rw [this]; rfl
theorem drop_cons' (l : List UInt8) (f : Nat) (h : f < l.length) : l.drop f = l[f] :: l.drop (f + 1) := List.drop_eq_getElem_cons h
theorem parV_nought {l : List UInt8} {f : Nat} (hd : Lib.trimPrefix l [45] = l.drop f) (hn : Lib.hasPrefix l [45] = decide (f = 1)) (hf : f ≤ 1) (h : f < l.length) (h0 : l[f] = 48) (h1 : 1 < l.length) : parV l = none := by
  rw [parV_eq l f hd hn, drop_cons' l f h, h0]
  by_cases he : l.drop (f + 1) = []
  · have : l.length ≤ f + 1 := by simpa using he
    have hf1 : f = 1 := by omega
    rw [he, hf1]; rfl
  · have e1 : ((48 : UInt8) :: l.drop (f + 1) == [48]) = false := by
      apply beq_false_of_ne
      intro e
      injection e with _ e
      exact he e
    unfold numB
    rw [e1]; rfl
theorem parV_some {l : List UInt8} {f : Nat} (hd : Lib.trimPrefix l [45] = l.drop f) (hn : Lib.hasPrefix l [45] = decide (f = 1)) (h : f < l.length) (ha : (l.drop f).all isDig = true) (h0 : l[f] ≠ 48 ∨ l.length ≤ 1) :
    parV l = some (sgnV (decide (f = 1)) (dreadV 0 (l.drop f))) := by
  rw [parV_eq l f hd hn]
  rw [drop_cons' l f h] at *
  have key : numB (l[f] :: l.drop (f + 1)) = true ∧ ((decide (f = 1) && ((l[f] :: l.drop (f + 1)) == [48])) = false) := by
    unfold numB
    rw [ha]
    rcases h0 with h0 | h0
    · have e1 : ((l[f] :: l.drop (f + 1)) == [48]) = false := by
        apply beq_false_of_ne
        intro e
        injection e with e _
        exact h0 e
      have e2 : ((l[f] :: l.drop (f + 1)).head? == some 48) = false := by
        apply beq_false_of_ne
        intro e
        injection e with e
        exact h0 e
      rw [e1, e2, Bool.and_false]
      exact ⟨rfl, rfl⟩
    · have e1 : l.drop (f + 1) = [] := List.drop_eq_nil_of_le (by omega)
      have e2 : f = 0 := by omega
      subst e2
      rw [e1]
      generalize l[0] = c
      refine ⟨?_, rfl⟩
      by_cases hc : c = 48
      · rw [hc]; rfl
      · have e2 : (([c] : List UInt8).head? == some 48) = false := by
          apply beq_false_of_ne
          intro e
          injection e with e
          exact hc e
        rw [e2]; rfl
  rw [key.1, key.2]
  rfl
theorem pre_yes (l : List UInt8) (h : 0 < l.length) (h0 : l[0] = 45) : Lib.trimPrefix l [45] = l.drop 1 ∧ Lib.hasPrefix l [45] = decide (1 = 1) := by
  cases l with
  | nil => simp at h
  | cons c r =>
    simp only [List.getElem_cons_zero] at h0
    subst h0
    simp [Lib.trimPrefix, Lib.hasPrefix, List.isPrefixOf]
theorem pre_no (l : List UInt8) (h : l = [] ∨ ∃ c r, l = c :: r ∧ c ≠ 45) : Lib.trimPrefix l [45] = l.drop 0 ∧ Lib.hasPrefix l [45] = decide (0 = 1) := by
  rcases h with rfl | ⟨c, r, rfl, h⟩
  · simp [Lib.trimPrefix, Lib.hasPrefix, List.isPrefixOf]
  · have : ((45 : UInt8) == c) = false := beq_false_of_ne (fun e => h e.symm)
    simp [Lib.trimPrefix, Lib.hasPrefix, List.isPrefixOf, this]
theorem own_far {w w1 : World} {base : Nat} {e : TypeId} {size : Nat} {v : Value} {n : Nat} {xs : List Value} (hown : w.ownsRow base e size v n xs) {o : Obj} (hg : ((w.alloc o).drew).grownBy w1 v.ownBlock) {A : Nat} (i : Nat) (hA : A < base) (hw : A < w.heap.size) :
    w1.cell? ⟨A, i, none⟩ = w.cell? ⟨A, i, none⟩ ∧ w1.frozen? ⟨A, i, none⟩ = w.frozen? ⟨A, i, none⟩ := by
  have hb : w1.heap[A]? = w.heap[A]? := by
    rw [hg.block A (by simp; omega) (fun e => by have := (hown.lt _ e.symm).1; omega)]
    exact Below.heap_alloc _ _ _ hw
  exact ⟨World.cell?_of_block hb, World.frozen?_of_block hb⟩
theorem own_set {w : World} {base : Nat} {e : TypeId} {size : Nat} {v : Value} {n : Nat} {xs : List Value} (h : w.ownsRow base e size v n xs) {A i : Nat} {u : Value} (hA : A < base) : (w.setCell ⟨A, i, none⟩ u).ownsRow base e size v n xs := by
  refine h.kept (row := some A) ⟨rfl, rfl, rfl, by simp [World.setCell], fun k _ hk => Below.heap_setCell _ _ _ _ (fun e => hk (by rw [e]))⟩ ?_
  cases hv : v.ownBlock with
  | none => exact .inl rfl
  | some g =>
    refine .inr (fun e => ?_)
    have := (h.lt g hv).1
    injection e with e
    omega
theorem not_all {l : List UInt8} {f k : Nat} {c : UInt8} {r : List UInt8} (hk : f ≤ k) (hd : l.drop k = c :: r) (hc : isDig c = false) : (l.drop f).all isDig = false := by
  rw [List.all_eq_false]
  refine ⟨c, ?_, by simp [hc]⟩
  have : l.drop k = (l.drop f).drop (k - f) := by rw [List.drop_drop]; congr 1; omega
  exact List.mem_of_mem_drop (i := k - f) (by rw [← this, hd]; simp)
theorem sgn_abs (x : Bool) {d : Int} (h : 0 ≤ d) : ((sgnV x d).natAbs : Int) = d := by
  unfold sgnV
  cases x <;> simp <;> omega
theorem fin_yes {V U : Int} (h : V = U) (hin : (!inB V) = false) : Ending.returned (.tuple #[.int .i64 (okN V), .int .i64 0]) = .returned (.tuple #[.int .i64 (pN (some U)), .int .i64 (pE (some U))]) := by
  subst h
  have : inB V = true := by simpa using hin
  have he := er_in V
  rw [this] at he
  unfold pN pE
  simp only []
  rw [he]; rfl
theorem fin_no {V U : Int} (h : V = U) (hin : (!inB V) = true) : Ending.returned (.tuple #[.int .i64 0, .int .i64 2]) = .returned (.tuple #[.int .i64 (pN (some U)), .int .i64 (pE (some U))]) := by
  subst h
  have : inB V = false := by simpa using hin
  have he := er_in V
  rw [this] at he
  have ho : okN V = 0 := by
    unfold inB at this
    unfold okN
    rw [if_neg (by simpa using this)]
  unfold pN pE
  simp only []
  rw [he, ho]; rfl
theorem byte_get (s : ByteArray) (i : Nat) (h : i < s.size) : s.data.toList[i]'(by rw [← Lib.size_eq]; exact h) = s[i] := by
  rw [Array.getElem_toList]; rfl
set_option maxRecDepth 100000 in
set_option maxHeartbeats 1000000 in
theorem rparse_any (s : ByteArray) (hs : s.size ≤ 1000) (w : World) :
    Calls Tryd.prog 12 #[.string s] w fun e w' => e = .returned (.tuple #[.int .i64 (pN (parV s.data.toList)), .int .i64 (pE (parV s.data.toList))]) ∧ Below w.heap.size w w' := by
  obtain ⟨i0, hi, hz0, hz1, hz2⟩ := info_parts info_int
  obtain ⟨l, hl⟩ : ∃ l, l = s.data.toList := ⟨_, rfl⟩
  have hll : l.length = s.size := by rw [hl, Lib.size_eq]
  rw [← hl]
  have hget : ∀ i (h : i < s.size) (h' : i < l.length), l[i] = s[i] := by subst hl; exact fun i h _ => byte_get s i h
  obtain ⟨f, hf, hpre1, hpre2, hcase⟩ : ∃ f : Nat, f ≤ 1 ∧ Lib.trimPrefix l [45] = l.drop f ∧ Lib.hasPrefix l [45] = decide (f = 1) ∧ ((s.size = 0 ∧ f = 0) ∨ ∃ h : 0 < s.size, (f = 1 ∧ s[0].toNat = 45) ∨ (f = 0 ∧ s[0].toNat ≠ 45)) := by
    by_cases h0 : s.size = 0
    · have := pre_no l (.inl (List.eq_nil_of_length_eq_zero (by omega)))
      exact ⟨0, by omega, this.1, this.2, .inl ⟨h0, rfl⟩⟩
    · have hp : 0 < s.size := by omega
      have hg := hget 0 hp (by omega)
      by_cases h45 : s[0].toNat = 45
      · have e45 : s[0] = 45 := UInt8.toNat_inj.1 h45
        have := pre_yes l (by omega) (hg.trans e45)
        exact ⟨1, by omega, this.1, this.2, .inr ⟨hp, .inl ⟨rfl, h45⟩⟩⟩
      · have := pre_no l (.inr (by
          cases l with
          | nil => simp at hll; omega
          | cons c r => exact ⟨c, r, rfl, fun e => h45 (by rw [← hg]; simp [e])⟩))
        exact ⟨0, by omega, this.1, this.2, .inr ⟨hp, .inr ⟨rfl, h45⟩⟩⟩
  have HG := Lib.hid hget
  have H1 := Lib.hid hpre1
  have H2 := Lib.hid hpre2
  have HLL := Lib.hid hll
  have HLE := Lib.hid hl
  clear hget hpre1 hpre2 hll hl
  rcases hcase with ⟨h0, rfl⟩ | ⟨hp, ⟨rfl, h45⟩ | ⟨rfl, h45⟩⟩
  · go_enter Tryd.func12, Tryd.ntmps12
    go_wp2
    go_loopw [6] (fun iv wr => ∃ (j : Nat) (v : Value), iv = .int .i64 ((j : Int) - 1) ∧ 0 ≤ j ∧ j ≤ s.size ∧ wr.cell? ⟨w.heap.size, 0, none⟩ = some (.bool false) ∧ wr.cell? ⟨w.heap.size, 1, none⟩ = some v ∧
        wr.frozen? ⟨w.heap.size, 0, none⟩ = false ∧ wr.frozen? ⟨w.heap.size, 1, none⟩ = false ∧ wr.ownsRow (w.heap.size + 1) 3 1 v (dgs (l.drop j)).length ((dgs (l.drop j)).map (Value.int .i64)) ∧ Hid ((l.drop j).all isDig = true) ∧ Below w.heap.size w wr ∧ w.heap.size + 1 ≤ wr.heap.size) (fun iv _ => (intOf iv + 1).toNat)
    case atStart =>
      refine ⟨s.size, .slice none 0 0, (by rw [h0]; rfl), by omega, Nat.le_refl _, by go_simp, by go_simp, by go_simp, by go_simp, ?_, ?_, (Below.refl _ _).alloc (Nat.le_refl _) _, by simp⟩
      · rw [List.drop_eq_nil_of_le (by rw [HLL.out]; exact Nat.le_refl _)]; exact World.ownsRow_nil _ _ _ _
      · rw [List.drop_eq_nil_of_le (by rw [HLL.out]; exact Nat.le_refl _)]; rfl
    case round =>
      obtain ⟨j, v, rfl, hfj, hjs, c0, c1, g0, g1, hown, hal, hbel, hszr⟩ := hrel
      by_cases hlt : 0 < j
      · obtain ⟨k, rfl⟩ : ∃ k, j = k + 1 := ⟨j - 1, by omega⟩
        exfalso; omega
      · obtain rfl : j = 0 := by omega
        have hge : decide ((0 : Int) ≤ ((0 : Nat) : Int) - 1) = false := by simp
        clear hlt
        obtain ⟨a, c, rfl, hlc, hints, hfr⟩ := ints_of_owns hown
        have hdl : (dgs (l.drop 0)).length ≤ 1000 := by rw [dgs_len, List.length_drop, HLL.out]; omega
        have hdg := dgs_digs _ hal.out
        have hdv := dread_val _ hal.out
        have HDV := Lib.hid hdv
        clear hdv
        clear hown
        by_cases hsf : s.size = 0
        · have d0 : ((s.size : Int) == (0 : Int)) = true := by simp [hsf]
          have hbad := Lib.hid (parV_empty H1.out H2.out (HLL.out.trans hsf))
          have hsf1 : s.size ≤ 0 := by omega
          clear hsf
          go_wp2
          go_ret2
          exact ⟨by rw [hbad.out]; rfl, hbel⟩
        · exact absurd h0 hsf
  · have hd : ((s[0].toNat : Int) == 45) = true := by simp [h45]
    clear h45
    go_enter Tryd.func12, Tryd.ntmps12
    go_wp2
    go_loopw [6] (fun iv wr => ∃ (j : Nat) (v : Value), iv = .int .i64 ((j : Int) - 1) ∧ 1 ≤ j ∧ j ≤ s.size ∧ wr.cell? ⟨w.heap.size, 0, none⟩ = some (.bool false) ∧ wr.cell? ⟨w.heap.size, 1, none⟩ = some v ∧
        wr.frozen? ⟨w.heap.size, 0, none⟩ = false ∧ wr.frozen? ⟨w.heap.size, 1, none⟩ = false ∧ wr.ownsRow (w.heap.size + 1) 3 1 v (dgs (l.drop j)).length ((dgs (l.drop j)).map (Value.int .i64)) ∧ Hid ((l.drop j).all isDig = true) ∧ Below w.heap.size w wr ∧ w.heap.size + 1 ≤ wr.heap.size) (fun iv _ => (intOf iv + 1).toNat)
    case atStart =>
      refine ⟨s.size, .slice none 0 0, rfl, by omega, Nat.le_refl _, by go_simp, by go_simp, by go_simp, by go_simp, ?_, ?_, (Below.refl _ _).alloc (Nat.le_refl _) _, by simp⟩
      · rw [List.drop_eq_nil_of_le (by rw [HLL.out]; exact Nat.le_refl _)]; exact World.ownsRow_nil _ _ _ _
      · rw [List.drop_eq_nil_of_le (by rw [HLL.out]; exact Nat.le_refl _)]; rfl
    case round =>
      obtain ⟨j, v, rfl, hfj, hjs, c0, c1, g0, g1, hown, hal, hbel, hszr⟩ := hrel
      by_cases hlt : 1 < j
      · obtain ⟨k, rfl⟩ : ∃ k, j = k + 1 := ⟨j - 1, by omega⟩
        have hks : k < s.size := by omega
        have ek : ((k + 1 : Nat) : Int) - 1 = (k : Int) := by omega
        rw [ek]
        clear ek
        have hge : decide ((1 : Int) ≤ (k : Int)) = true := decide_eq_true (by omega)
        have hdrop : l.drop k = s[k] :: l.drop (k + 1) := by
          have := drop_cons' l k (by rw [HLL.out]; exact hks)
          rw [this, HG.out k hks (by rw [HLL.out]; exact hks)]
        have HD := Lib.hid hdrop
        clear hdrop
        by_cases hdig : 48 ≤ s[k].toNat ∧ s[k].toNat ≤ 57
        · have t0 : decide ((s[k].toNat : Int) < 48) = false := by simp; omega
          have t1 : decide ((57 : Int) < (s[k].toNat : Int)) = false := by simp; omega
          obtain ⟨hdg0, hdg1⟩ := hdig
          have hw0 : IntKind.u8.wrap ((s[k].toNat : Int) - 48) = (s[k].toNat : Int) - 48 := by simp [IntKind.wrap, IntKind.bits, IntKind.signed]; omega
          have hw1 : IntKind.i64.wrap ((s[k].toNat : Int) - 48) = (s[k].toNat : Int) - 48 := by simp [IntKind.wrap, IntKind.bits, IntKind.signed]; omega
          have hlen : (dgs (l.drop (k + 1))).length ≤ 1000 := by rw [dgs_len, List.length_drop, HLL.out]; omega
          have hA1 : w.heap.size < wr.heap.size := by omega
          obtain ⟨a, c, rfl, hlc, hints, hfr⟩ := ints_of_owns hown
          have c1' : (wr.alloc (.cells #[.int .i64 ((s[k].toNat : Int) - 48)] 3)).cell? ⟨w.heap.size, 1, none⟩ = some (.slice a (dgs (l.drop (k + 1))).length c) := (World.cell?_alloc_lt _ _ _ hA1).trans c1
          go_wp2
          go_region_law (refine step_append_lies _ rfl (.tmp 37) (.tmp 43) 66 rfl (w.heap.size + 1) 3 i0 (.int .i64 0) 1 8 Tryd.underlying66 hi hz0 hz1 hz2 rfl (by decide) (.slice a (dgs (l.drop (k + 1))).length c) _ _ (by simp [Act.eval]) ((hown.alloc _).drew) ⟨wr.heap.size, 0, none⟩ 1 1 [.int .i64 ((s[k].toNat : Int) - 48)] (by simp [Act.eval]) rfl (cell_one_new _ _ _) (by simp [Value.oneCell']) (by decide) (by unfold maxLen; omega) (by omega) (by simp; omega) (wr.heap.size + 1) (by simp) ?_; intro gg cap w1 hown1 hg1 hat hgl; have k0 := (own_far hown hg1 0 (Nat.lt_succ_self _) (by omega)).1.trans c0; have m0 := (own_far hown hg1 0 (Nat.lt_succ_self _) (by omega)).2.trans g0; have k1 := (own_far hown hg1 1 (Nat.lt_succ_self _) (by omega)).1.trans c1; have m1 := (own_far hown hg1 1 (Nat.lt_succ_self _) (by omega)).2.trans g1)
          all_goals
            go_wp2
            have hisd : isDig s[k] = true := by simp [isDig, hdg0, hdg1]
            have hb1 : Below w.heap.size w w1 := (((hbel.alloc (by omega) _).drew).grown hg1 (by simp; omega) (fun k hk => by have := (hown.lt k hk).1; omega))
            have hz1' := hg1.size
            simp at hz1'
            refine ⟨⟨k, .slice (some ⟨gg, 0, none⟩) ((dgs (l.drop (k + 1))).length + 1) cap, rfl, by omega, by omega, by go_simp, by go_simp, by go_simp, by go_simp, ?_, ?_, hb1.setCell (Nat.le_refl _) _, by first | (simp; done) | (simp; omega)⟩, by simp [intOf] <;> omega⟩
            · have e := own_set (A := w.heap.size) (i := 1) (u := .slice (some ⟨gg, 0, none⟩) ((dgs (l.drop (k + 1))).length + 1) cap) hown1 (Nat.lt_succ_self _)
              rw [HD.out, dgs_cons, List.length_append, List.map_append]
              exact e
            · rw [HD.out]
              show (s[k] :: l.drop (k + 1)).all isDig = true
              rw [List.all_cons, hisd, hal.out]; rfl
        · have hnd : isDig s[k] = false := by
            by_cases h0 : 48 ≤ s[k].toNat
            · have : ¬ s[k].toNat ≤ 57 := fun h => hdig ⟨h0, h⟩
              simp [isDig, this]
            · simp [isDig, h0]
          have hbad := Lib.hid (parV_bad H1.out H2.out (not_all (by omega : 1 ≤ k) HD.out hnd))
          clear hnd
          by_cases h0 : s[k].toNat < 48
          · have t0 : decide ((s[k].toNat : Int) < 48) = true := by simp; omega
            clear hdig h0
            go_wp2
            go_ret2
            exact ⟨by rw [hbad.out]; rfl, hbel⟩
          · have t0 : decide ((s[k].toNat : Int) < 48) = false := by simp; omega
            have t1 : decide ((57 : Int) < (s[k].toNat : Int)) = true := by simp; omega
            clear hdig h0
            go_wp2
            go_ret2
            exact ⟨by rw [hbad.out]; rfl, hbel⟩
      · obtain rfl : j = 1 := by omega
        have hge : decide ((1 : Int) ≤ ((1 : Nat) : Int) - 1) = false := by simp
        clear hlt
        obtain ⟨a, c, rfl, hlc, hints, hfr⟩ := ints_of_owns hown
        have hdl : (dgs (l.drop 1)).length ≤ 1000 := by rw [dgs_len, List.length_drop, HLL.out]; omega
        have hdg := dgs_digs _ hal.out
        have hdv := dread_val _ hal.out
        have HDV := Lib.hid hdv
        clear hdv
        clear hown
        by_cases hsf : s.size = 1
        · have d0 : ((s.size : Int) == (1 : Int)) = true := by simp [hsf]
          have hbad := Lib.hid (parV_empty H1.out H2.out (HLL.out.trans hsf))
          have hsf1 : s.size ≤ 1 := by omega
          clear hsf
          go_wp2
          go_ret2
          exact ⟨by rw [hbad.out]; rfl, hbel⟩
        · have d0 : ((s.size : Int) == (1 : Int)) = false := beq_false_of_ne (by omega)
          have hfs : 1 < s.size := by omega
          have hgf := HG.out 1 hfs (by rw [HLL.out]; exact hfs)
          have HGF := Lib.hid hgf
          clear hgf
          by_cases h48 : s[1].toNat = 48 ∧ 1 < s.size
          · obtain ⟨h48, hone⟩ := h48
            have d1 : ((s[1].toNat : Int) == 48) = true := by simp [h48]
            have d2 : decide ((1 : Int) < (s.size : Int)) = true := by simp; omega
            have hbad := Lib.hid (parV_nought H1.out H2.out (by omega) (by rw [HLL.out]; exact hfs) (by rw [HGF.out]; exact UInt8.toNat_inj.1 h48) (by rw [HLL.out]; exact hone))
            clear h48 hsf
            go_wp2
            go_ret2
            exact ⟨by rw [hbad.out]; rfl, hbel⟩
          · have hsome := Lib.hid (parV_some H1.out H2.out (by rw [HLL.out]; exact hfs) hal.out (by
              rw [HGF.out, HLL.out]
              by_cases h : s[1].toNat = 48
              · exact .inr (by omega)
              · exact .inl (fun e => h (by rw [e]; rfl))))
            have hpick : ((s[1].toNat : Int) == 48) = false ∨ decide ((1 : Int) < (s.size : Int)) = false := by
              by_cases h : s[1].toNat = 48
              · exact .inr (by simp; omega)
              · exact .inl (by simp; omega)
            clear h48 hsf
            obtain ⟨D, hD⟩ : ∃ D, D = dgs (l.drop 1) := ⟨_, rfl⟩
            rw [← hD] at hints hdl hdg hlc c1
            have HDD := Lib.hid hD
            clear hD
            have hVV : Hid (sgnV true (dval D) = sgnV (decide (1 = 1)) (dreadV 0 (l.drop 1))) := by rw [HDD.out, HDV.out]; rfl
            have hnn := dval_nonneg hdg
            have hvlt : dval D < pw 1001 := by
              have h1 := dval_lt hdg
              have h2 := pw_mono (a := D.length) (b := 1001) (by omega)
              omega
            have hl0 : 0 ≤ D.length := Nat.zero_le _
            have d1 : ((s[1].toNat : Int) == 48) = false := by
              rcases hpick with h | h
              · exact h
              · exact absurd (of_decide_eq_false h) (by omega)
            all_goals
              first
                | (replace d1 : ((s[1].toNat : Int) == 48) = true := by simpa using d1)
                | skip
              first
                | (have d2 : decide ((1 : Int) < (s.size : Int)) = false := by
                    rcases hpick with h | h
                    · rw [h] at d1; cases d1
                    · exact h)
                | skip
              clear hpick
              go_wp2_with fail
              refine (sign_any _ a _ c D _ rfl hlc hints (by omega) hdg).mono ?_
              rintro e w2 ⟨x2, a2, n2, c2, rfl, hnum, hb2, hq⟩
              clear hq
              have hn2 : n2 ≤ 1001 := num_len hnum 1001 (by rw [sgn_abs _ hnn]; exact hvlt)
              go_wp2_with fail
              refine (small_any x2 a2 n2 c2 _ _ hnum (by omega)).mono ?_
              rintro e w3 ⟨rfl, hb3⟩
              have hfin : Below w.heap.size w w3 := Below.thenB (Below.thenB hbel (by omega) hb2) (Nat.le_trans (by omega) hb2.size) hb3
              go_wp2
              all_goals
                go_ret2
                refine ⟨?_, hfin⟩
                rw [hsome.out]
                first
                  | exact fin_yes (hVV.out) ‹(!inB (sgnV true (dval D))) = false›
                  | exact fin_no (hVV.out) ‹(!inB (sgnV true (dval D))) = true›
  · have hd : ((s[0].toNat : Int) == 45) = false := by simp; omega
    clear h45
    go_enter Tryd.func12, Tryd.ntmps12
    go_wp2
    go_loopw [6] (fun iv wr => ∃ (j : Nat) (v : Value), iv = .int .i64 ((j : Int) - 1) ∧ 0 ≤ j ∧ j ≤ s.size ∧ wr.cell? ⟨w.heap.size, 0, none⟩ = some (.bool false) ∧ wr.cell? ⟨w.heap.size, 1, none⟩ = some v ∧
        wr.frozen? ⟨w.heap.size, 0, none⟩ = false ∧ wr.frozen? ⟨w.heap.size, 1, none⟩ = false ∧ wr.ownsRow (w.heap.size + 1) 3 1 v (dgs (l.drop j)).length ((dgs (l.drop j)).map (Value.int .i64)) ∧ Hid ((l.drop j).all isDig = true) ∧ Below w.heap.size w wr ∧ w.heap.size + 1 ≤ wr.heap.size) (fun iv _ => (intOf iv + 1).toNat)
    case atStart =>
      refine ⟨s.size, .slice none 0 0, rfl, by omega, Nat.le_refl _, by go_simp, by go_simp, by go_simp, by go_simp, ?_, ?_, (Below.refl _ _).alloc (Nat.le_refl _) _, by simp⟩
      · rw [List.drop_eq_nil_of_le (by rw [HLL.out]; exact Nat.le_refl _)]; exact World.ownsRow_nil _ _ _ _
      · rw [List.drop_eq_nil_of_le (by rw [HLL.out]; exact Nat.le_refl _)]; rfl
    case round =>
      obtain ⟨j, v, rfl, hfj, hjs, c0, c1, g0, g1, hown, hal, hbel, hszr⟩ := hrel
      by_cases hlt : 0 < j
      · obtain ⟨k, rfl⟩ : ∃ k, j = k + 1 := ⟨j - 1, by omega⟩
        have hks : k < s.size := by omega
        have ek : ((k + 1 : Nat) : Int) - 1 = (k : Int) := by omega
        rw [ek]
        clear ek
        have hge : decide ((0 : Int) ≤ (k : Int)) = true := decide_eq_true (by omega)
        have hdrop : l.drop k = s[k] :: l.drop (k + 1) := by
          have := drop_cons' l k (by rw [HLL.out]; exact hks)
          rw [this, HG.out k hks (by rw [HLL.out]; exact hks)]
        have HD := Lib.hid hdrop
        clear hdrop
        by_cases hdig : 48 ≤ s[k].toNat ∧ s[k].toNat ≤ 57
        · have t0 : decide ((s[k].toNat : Int) < 48) = false := by simp; omega
          have t1 : decide ((57 : Int) < (s[k].toNat : Int)) = false := by simp; omega
          obtain ⟨hdg0, hdg1⟩ := hdig
          have hw0 : IntKind.u8.wrap ((s[k].toNat : Int) - 48) = (s[k].toNat : Int) - 48 := by simp [IntKind.wrap, IntKind.bits, IntKind.signed]; omega
          have hw1 : IntKind.i64.wrap ((s[k].toNat : Int) - 48) = (s[k].toNat : Int) - 48 := by simp [IntKind.wrap, IntKind.bits, IntKind.signed]; omega
          have hlen : (dgs (l.drop (k + 1))).length ≤ 1000 := by rw [dgs_len, List.length_drop, HLL.out]; omega
          have hA1 : w.heap.size < wr.heap.size := by omega
          obtain ⟨a, c, rfl, hlc, hints, hfr⟩ := ints_of_owns hown
          have c1' : (wr.alloc (.cells #[.int .i64 ((s[k].toNat : Int) - 48)] 3)).cell? ⟨w.heap.size, 1, none⟩ = some (.slice a (dgs (l.drop (k + 1))).length c) := (World.cell?_alloc_lt _ _ _ hA1).trans c1
          go_wp2
          go_region_law (refine step_append_lies _ rfl (.tmp 37) (.tmp 43) 66 rfl (w.heap.size + 1) 3 i0 (.int .i64 0) 1 8 Tryd.underlying66 hi hz0 hz1 hz2 rfl (by decide) (.slice a (dgs (l.drop (k + 1))).length c) _ _ (by simp [Act.eval]) ((hown.alloc _).drew) ⟨wr.heap.size, 0, none⟩ 1 1 [.int .i64 ((s[k].toNat : Int) - 48)] (by simp [Act.eval]) rfl (cell_one_new _ _ _) (by simp [Value.oneCell']) (by decide) (by unfold maxLen; omega) (by omega) (by simp; omega) (wr.heap.size + 1) (by simp) ?_; intro gg cap w1 hown1 hg1 hat hgl; have k0 := (own_far hown hg1 0 (Nat.lt_succ_self _) (by omega)).1.trans c0; have m0 := (own_far hown hg1 0 (Nat.lt_succ_self _) (by omega)).2.trans g0; have k1 := (own_far hown hg1 1 (Nat.lt_succ_self _) (by omega)).1.trans c1; have m1 := (own_far hown hg1 1 (Nat.lt_succ_self _) (by omega)).2.trans g1)
          all_goals
            go_wp2
            have hisd : isDig s[k] = true := by simp [isDig, hdg0, hdg1]
            have hb1 : Below w.heap.size w w1 := (((hbel.alloc (by omega) _).drew).grown hg1 (by simp; omega) (fun k hk => by have := (hown.lt k hk).1; omega))
            have hz1' := hg1.size
            simp at hz1'
            refine ⟨⟨k, .slice (some ⟨gg, 0, none⟩) ((dgs (l.drop (k + 1))).length + 1) cap, rfl, by omega, by omega, by go_simp, by go_simp, by go_simp, by go_simp, ?_, ?_, hb1.setCell (Nat.le_refl _) _, by first | (simp; done) | (simp; omega)⟩, by simp [intOf] <;> omega⟩
            · have e := own_set (A := w.heap.size) (i := 1) (u := .slice (some ⟨gg, 0, none⟩) ((dgs (l.drop (k + 1))).length + 1) cap) hown1 (Nat.lt_succ_self _)
              rw [HD.out, dgs_cons, List.length_append, List.map_append]
              exact e
            · rw [HD.out]
              show (s[k] :: l.drop (k + 1)).all isDig = true
              rw [List.all_cons, hisd, hal.out]; rfl
        · have hnd : isDig s[k] = false := by
            by_cases h0 : 48 ≤ s[k].toNat
            · have : ¬ s[k].toNat ≤ 57 := fun h => hdig ⟨h0, h⟩
              simp [isDig, this]
            · simp [isDig, h0]
          have hbad := Lib.hid (parV_bad H1.out H2.out (not_all (by omega : 0 ≤ k) HD.out hnd))
          clear hnd
          by_cases h0 : s[k].toNat < 48
          · have t0 : decide ((s[k].toNat : Int) < 48) = true := by simp; omega
            clear hdig h0
            go_wp2
            go_ret2
            exact ⟨by rw [hbad.out]; rfl, hbel⟩
          · have t0 : decide ((s[k].toNat : Int) < 48) = false := by simp; omega
            have t1 : decide ((57 : Int) < (s[k].toNat : Int)) = true := by simp; omega
            clear hdig h0
            go_wp2
            go_ret2
            exact ⟨by rw [hbad.out]; rfl, hbel⟩
      · obtain rfl : j = 0 := by omega
        have hge : decide ((0 : Int) ≤ ((0 : Nat) : Int) - 1) = false := by simp
        clear hlt
        obtain ⟨a, c, rfl, hlc, hints, hfr⟩ := ints_of_owns hown
        have hdl : (dgs (l.drop 0)).length ≤ 1000 := by rw [dgs_len, List.length_drop, HLL.out]; omega
        have hdg := dgs_digs _ hal.out
        have hdv := dread_val _ hal.out
        have HDV := Lib.hid hdv
        clear hdv
        clear hown
        by_cases hsf : s.size = 0
        · have d0 : ((s.size : Int) == (0 : Int)) = true := by simp [hsf]
          have hbad := Lib.hid (parV_empty H1.out H2.out (HLL.out.trans hsf))
          have hsf1 : s.size ≤ 0 := by omega
          clear hsf
          go_wp2
          go_ret2
          exact ⟨by rw [hbad.out]; rfl, hbel⟩
        · have d0 : ((s.size : Int) == (0 : Int)) = false := beq_false_of_ne (by omega)
          have hfs : 0 < s.size := by omega
          have hgf := HG.out 0 hfs (by rw [HLL.out]; exact hfs)
          have HGF := Lib.hid hgf
          clear hgf
          by_cases h48 : s[0].toNat = 48 ∧ 1 < s.size
          · obtain ⟨h48, hone⟩ := h48
            have d1 : ((s[0].toNat : Int) == 48) = true := by simp [h48]
            have d2 : decide ((1 : Int) < (s.size : Int)) = true := by simp; omega
            have hbad := Lib.hid (parV_nought H1.out H2.out (by omega) (by rw [HLL.out]; exact hfs) (by rw [HGF.out]; exact UInt8.toNat_inj.1 h48) (by rw [HLL.out]; exact hone))
            clear h48 hsf
            go_wp2
            go_ret2
            exact ⟨by rw [hbad.out]; rfl, hbel⟩
          · have hsome := Lib.hid (parV_some H1.out H2.out (by rw [HLL.out]; exact hfs) hal.out (by
              rw [HGF.out, HLL.out]
              by_cases h : s[0].toNat = 48
              · exact .inr (by omega)
              · exact .inl (fun e => h (by rw [e]; rfl))))
            have hpick : ((s[0].toNat : Int) == 48) = false ∨ decide ((1 : Int) < (s.size : Int)) = false := by
              by_cases h : s[0].toNat = 48
              · exact .inr (by simp; omega)
              · exact .inl (by simp; omega)
            clear h48 hsf
            obtain ⟨D, hD⟩ : ∃ D, D = dgs (l.drop 0) := ⟨_, rfl⟩
            rw [← hD] at hints hdl hdg hlc c1
            have HDD := Lib.hid hD
            clear hD
            have hVV : Hid (sgnV false (dval D) = sgnV (decide (0 = 1)) (dreadV 0 (l.drop 0))) := by rw [HDD.out, HDV.out]; rfl
            have hnn := dval_nonneg hdg
            have hvlt : dval D < pw 1001 := by
              have h1 := dval_lt hdg
              have h2 := pw_mono (a := D.length) (b := 1001) (by omega)
              omega
            have hl0 : 0 ≤ D.length := Nat.zero_le _
            by_cases d1 : ((s[0].toNat : Int) == 48) = false
            all_goals
              first
                | (replace d1 : ((s[0].toNat : Int) == 48) = true := by simpa using d1)
                | skip
              first
                | (have d2 : decide ((1 : Int) < (s.size : Int)) = false := by
                    rcases hpick with h | h
                    · rw [h] at d1; cases d1
                    · exact h)
                | skip
              clear hpick
              go_wp2_with fail
              refine (sign_any _ a _ c D _ rfl hlc hints (by omega) hdg).mono ?_
              rintro e w2 ⟨x2, a2, n2, c2, rfl, hnum, hb2, hq⟩
              clear hq
              have hn2 : n2 ≤ 1001 := num_len hnum 1001 (by rw [sgn_abs _ hnn]; exact hvlt)
              go_wp2_with fail
              refine (small_any x2 a2 n2 c2 _ _ hnum (by omega)).mono ?_
              rintro e w3 ⟨rfl, hb3⟩
              have hfin : Below w.heap.size w w3 := Below.thenB (Below.thenB hbel (by omega) hb2) (Nat.le_trans (by omega) hb2.size) hb3
              go_wp2
              all_goals
                go_ret2
                refine ⟨?_, hfin⟩
                rw [hsome.out]
                first
                  | exact fin_yes (hVV.out) ‹(!inB (sgnV false (dval D))) = false›
                  | exact fin_no (hVV.out) ‹(!inB (sgnV false (dval D))) = true›
end Go.Proofs.YtbodldlenoehfaaDoor
