/- Contract of the document's Spread. -/
import Derived.Test.YtapnkbamilkpoaaSpread
import Derived.Test.YtapnkbamilkpoaaNumE
import Derived.Deep.RegionWith
namespace Go.Proofs.Ytapnkbamilkpoaa
open Go.RowKit
theorem neg_emod' (u n : Int) (hn : 0 < n) : (-u) % n = if 0 < u % n then n - u % n else 0 := by
  have h0 := Int.emod_nonneg u (b := n) (by omega)
  have h1 := Int.emod_lt_of_pos u hn
  have h2 := Int.emod_add_mul_ediv u n
  generalize u % n = r at *
  generalize u / n = q at *
  by_cases hr : 0 < r
  · rw [if_pos hr]
    have e : -u = (n - r) + n * (-q - 1) := by rw [← h2]; grind
    rw [e, Int.add_mul_emod_self_left]
    exact Int.emod_eq_of_lt (by omega) (by omega)
  · have hr0 : r = 0 := by omega
    rw [if_neg hr]
    have e : -u = 0 + n * (-q) := by rw [← h2, hr0]; grind
    rw [e, Int.add_mul_emod_self_left]; rfl
theorem wsum_le (l : List UInt8) : wsum l ≤ 255 * ((l.length : Int) + 1) * ((l.length : Int) + 1) := by
  suffices h : ∀ k, k ≤ l.length → wsum (l.take k) ≤ 255 * ((k : Int) + 1) * ((l.length : Int) + 1) by
    have := h l.length (Nat.le_refl _)
    rwa [List.take_length] at this
  intro k
  induction k with
  | zero => intro _; simp [wsum]; omega
  | succ k ih =>
    intro hk
    have := ih (by omega)
    rw [List.take_succ_eq_append_getElem (by omega), wsum_snoc, List.length_take, Nat.min_eq_left (by omega)]
    have hc : ((l[k]).toNat : Int) ≤ 255 := by have := (l[k]).toNat_lt; omega
    have h2 : ((k : Int) + 1) * (l[k].toNat : Int) ≤ ((l.length : Int) + 1) * 255 := Int.mul_le_mul (by omega) hc (by omega) (by omega)
    grind
set_option maxRecDepth 100000 in
set_option maxHeartbeats 4000000 in
theorem rspread_num (k V : Int) (s : ByteArray) (n : Nat) (hn0 : 1 ≤ n) (hn1 : n ≤ 1000000) (w : World) (hk : k ≠ 2) (h0 : -9223372036854775808 ≤ V) (h1 : V ≤ 9223372036854775807) :
    Calls Try.prog 25 #[.agg #[.int .i64 k, .int .i64 V, .string s], .int .i64 (n : Int)] w fun e w' => e = .returned (.int .i64 (V % (n : Int))) ∧ Below w.heap.size w w' := by
  have hkd : (k == 2) = false := beq_false_of_ne hk
  clear hk
  go_enter Try.func25, Try.ntmps25
  go_wp2_with fail
  refine (of_any V _ h0 h1).mono ?_
  rintro e w1 ⟨x, a, m, c, rfl, hnum, hb1, hfr⟩
  obtain ⟨hc1, hf1⟩ := bcell hb1
  have hz1 := hb1.size
  simp at hz1
  have b0 : w1.cell? ⟨w.heap.size, 0, none⟩ = some (.int .i64 k) := (hc1 w.heap.size 0 (by simp)).trans (by go_simp)
  have b2 : w1.cell? ⟨w.heap.size, 2, none⟩ = some (.string s) := (hc1 w.heap.size 2 (by simp)).trans (by go_simp)
  clear hc1 hf1
  go_wp2
  go_loopw [6] (fun i wr => i = .int .i64 0 ∧ wr = w1.alloc (.cells #[.bool x, .slice a m c] 81)) (fun i _ => 0)
  case atStart => exact ⟨rfl, rfl⟩
  case round =>
    obtain ⟨rfl, hwr⟩ := hrel
    have hsb : wr.heap[w1.heap.size]? = some (.cells #[.bool x, .slice a m c] 81) := by rw [hwr]; exact (MapKept.heap_alloc w1 _).1
    have hP0 : NumP wr x a m c V := by rw [hwr]; exact hnum.below ((Below.refl _ _).alloc (Nat.le_refl _) _)
    have hbelF : Below w.heap.size w wr := by rw [hwr]; exact (Below.thenB ((Below.refl _ _).alloc (Nat.le_refl _) _) (by simp) hb1).alloc (by omega) _
    have b0' : wr.cell? ⟨w.heap.size, 0, none⟩ = some (.int .i64 k) := by rw [hwr, World.cell?_alloc_lt _ _ _ (by show w.heap.size < w1.heap.size; omega)]; exact b0
    have b2' : wr.cell? ⟨w.heap.size, 2, none⟩ = some (.string s) := by rw [hwr, World.cell?_alloc_lt _ _ _ (by show w.heap.size < w1.heap.size; omega)]; exact b2
    clear hwr hnum b0 b2
    have hmm := num_len hP0 30 (by rw [pw30]; omega)
    obtain ⟨s0, s1, s2, s3⟩ := num_has hsb
    by_cases hlt : 0 < s.size
    · have hd : decide (0 < s.size) = true := decide_eq_true hlt
      clear hlt
      have hP := hP0
      clear hP0
      obtain ⟨hx, ds, hl, hc, hz, hcn, hv⟩ := hP
      have hdd := dval_nonneg hcn.1
      have HX := Lib.hid hx
      have HV := Lib.hid hv
      have HL := Lib.hid hl
      clear hx hv hl
      go_wp2
      go_loopw [7, 8] (fun lv iv wr' => ∃ j : Nat, j ≤ m ∧ iv = .int .i64 ((j : Int) - 1) ∧ lv = .int .i64 (dval (ds.drop j) % (n : Int)) ∧ wr' = wr) (fun _ iv _ => (intOf iv + 1).toNat)
      case atStart => exact ⟨m, Nat.le_refl _, rfl, by rw [List.drop_eq_nil_of_le (by rw [HL.out]; exact Nat.le_refl _)]; simp [dval], rfl⟩
      case round =>
        obtain ⟨j', hj', rfl, rfl, rfl⟩ := hrel
        have hm0 := Int.emod_nonneg (dval (ds.drop j')) (b := (n : Int)) (by omega)
        have hm1 := Int.emod_lt_of_pos (dval (ds.drop j')) (b := (n : Int)) (by omega)
        by_cases hlt2 : 0 < j'
        · obtain ⟨k', rfl⟩ : ∃ k', j' = k' + 1 := ⟨j' - 1, by omega⟩
          have ek : ((k' + 1 : Nat) : Int) - 1 = (k' : Int) := by omega
          rw [ek]
          clear ek
          have hge : decide ((0 : Int) ≤ (k' : Int)) = true := decide_eq_true (by omega)
          have hkl : k' < ds.length := by rw [HL.out]; omega
          rcases hz with hz | ⟨hne, b, o, rfl, hb, hz⟩
          · rw [hz] at hkl; simp at hkl
          have hzk := hz k' hkl
          clear hz
          have hdg := hcn.1 (ds.getD k' 0) (by rw [List.getD_eq_getElem?_getD, List.getElem?_eq_getElem hkl]; simp)
          have hdv := drop_getD ds k' hkl
          generalize ds.getD k' 0 = d at *
          obtain ⟨hd0, hd1⟩ := hdg
          obtain ⟨M, hM⟩ : ∃ M, M = dval (ds.drop (k' + 1)) % (n : Int) := ⟨_, rfl⟩
          rw [← hM] at hm0 hm1 ⊢
          have hfin : (10 * M + d) % (n : Int) = dval (ds.drop k') % (n : Int) := by
            rw [hdv, hM, Int.add_comm d, Int.add_emod (10 * (_ % _)), Int.mul_emod, Int.emod_emod, ← Int.mul_emod, ← Int.add_emod]
          have hfb0 := Int.emod_nonneg (dval (ds.drop k')) (b := (n : Int)) (by omega)
          have hfb1 := Int.emod_lt_of_pos (dval (ds.drop k')) (b := (n : Int)) (by omega)
          have HF := Lib.hid hfin
          clear hdv hM hfin hkl
          have hk'm : k' < m := by omega
          go_wp2
          go_roundw
          case rel => exact ⟨k', by omega, rfl, by rw [HF.out], trivial⟩
          case measure => simp [intOf] <;> omega
        · obtain rfl : j' = 0 := by omega
          have hge : decide ((0 : Int) ≤ ((0 : Nat) : Int) - 1) = false := by simp
          clear hlt2
          have hB : Below w.heap.size w wr := hbelF
          have hq : V % (n : Int) = if x = true then (if 0 < dval (ds.drop 0) % (n : Int) then n - dval (ds.drop 0) % (n : Int) else 0) else dval (ds.drop 0) % (n : Int) := by
            rw [List.drop_zero, HV.out]
            by_cases hneg : V < 0
            · have hx1 : x = true := by rw [HX.out]; exact decide_eq_true hneg
              have hnab : V = -((V.natAbs : Int)) := by omega
              rw [if_pos hx1, ← neg_emod' _ _ (by omega), ← hnab]
            · have hx1 : x = false := by rw [HX.out]; exact decide_eq_false hneg
              have hnab : (V.natAbs : Int) = V := by omega
              rw [if_neg (by rw [hx1]; decide), hnab]
          generalize dval (ds.drop 0) % (n : Int) = L at *
          have HQ := Lib.hid hq
          clear hq HX HV HL
          cases x with
          | false =>
            go_wp2
            go_ret
            exact ⟨ret_int (by rw [HQ.out]; simp), hB⟩
          | true =>
            by_cases hL : 0 < L
            · have hd : decide ((0 : Int) < L) = true := decide_eq_true hL
              go_wp2
              go_ret
              exact ⟨ret_int (by rw [HQ.out]; simp [hL]), hB⟩
            · have hd : decide ((0 : Int) < L) = false := decide_eq_false hL
              have hL0 : L = 0 := by omega
              subst hL0
              go_wp2
              go_ret
              exact ⟨ret_int (by rw [HQ.out]; simp), hB⟩
    · have hd : decide (0 < s.size) = false := decide_eq_false hlt
      clear hlt
      have hP := hP0
      clear hP0
      obtain ⟨hx, ds, hl, hc, hz, hcn, hv⟩ := hP
      have hdd := dval_nonneg hcn.1
      have HX := Lib.hid hx
      have HV := Lib.hid hv
      have HL := Lib.hid hl
      clear hx hv hl
      go_wp2
      go_loopw [7, 8] (fun lv iv wr' => ∃ j : Nat, j ≤ m ∧ iv = .int .i64 ((j : Int) - 1) ∧ lv = .int .i64 (dval (ds.drop j) % (n : Int)) ∧ wr' = wr) (fun _ iv _ => (intOf iv + 1).toNat)
      case atStart => exact ⟨m, Nat.le_refl _, rfl, by rw [List.drop_eq_nil_of_le (by rw [HL.out]; exact Nat.le_refl _)]; simp [dval], rfl⟩
      case round =>
        obtain ⟨j', hj', rfl, rfl, rfl⟩ := hrel
        have hm0 := Int.emod_nonneg (dval (ds.drop j')) (b := (n : Int)) (by omega)
        have hm1 := Int.emod_lt_of_pos (dval (ds.drop j')) (b := (n : Int)) (by omega)
        by_cases hlt2 : 0 < j'
        · obtain ⟨k', rfl⟩ : ∃ k', j' = k' + 1 := ⟨j' - 1, by omega⟩
          have ek : ((k' + 1 : Nat) : Int) - 1 = (k' : Int) := by omega
          rw [ek]
          clear ek
          have hge : decide ((0 : Int) ≤ (k' : Int)) = true := decide_eq_true (by omega)
          have hkl : k' < ds.length := by rw [HL.out]; omega
          rcases hz with hz | ⟨hne, b, o, rfl, hb, hz⟩
          · rw [hz] at hkl; simp at hkl
          have hzk := hz k' hkl
          clear hz
          have hdg := hcn.1 (ds.getD k' 0) (by rw [List.getD_eq_getElem?_getD, List.getElem?_eq_getElem hkl]; simp)
          have hdv := drop_getD ds k' hkl
          generalize ds.getD k' 0 = d at *
          obtain ⟨hd0, hd1⟩ := hdg
          obtain ⟨M, hM⟩ : ∃ M, M = dval (ds.drop (k' + 1)) % (n : Int) := ⟨_, rfl⟩
          rw [← hM] at hm0 hm1 ⊢
          have hfin : (10 * M + d) % (n : Int) = dval (ds.drop k') % (n : Int) := by
            rw [hdv, hM, Int.add_comm d, Int.add_emod (10 * (_ % _)), Int.mul_emod, Int.emod_emod, ← Int.mul_emod, ← Int.add_emod]
          have hfb0 := Int.emod_nonneg (dval (ds.drop k')) (b := (n : Int)) (by omega)
          have hfb1 := Int.emod_lt_of_pos (dval (ds.drop k')) (b := (n : Int)) (by omega)
          have HF := Lib.hid hfin
          clear hdv hM hfin hkl
          have hk'm : k' < m := by omega
          go_wp2
          go_roundw
          case rel => exact ⟨k', by omega, rfl, by rw [HF.out], trivial⟩
          case measure => simp [intOf] <;> omega
        · obtain rfl : j' = 0 := by omega
          have hge : decide ((0 : Int) ≤ ((0 : Nat) : Int) - 1) = false := by simp
          clear hlt2
          have hB : Below w.heap.size w wr := hbelF
          have hq : V % (n : Int) = if x = true then (if 0 < dval (ds.drop 0) % (n : Int) then n - dval (ds.drop 0) % (n : Int) else 0) else dval (ds.drop 0) % (n : Int) := by
            rw [List.drop_zero, HV.out]
            by_cases hneg : V < 0
            · have hx1 : x = true := by rw [HX.out]; exact decide_eq_true hneg
              have hnab : V = -((V.natAbs : Int)) := by omega
              rw [if_pos hx1, ← neg_emod' _ _ (by omega), ← hnab]
            · have hx1 : x = false := by rw [HX.out]; exact decide_eq_false hneg
              have hnab : (V.natAbs : Int) = V := by omega
              rw [if_neg (by rw [hx1]; decide), hnab]
          generalize dval (ds.drop 0) % (n : Int) = L at *
          have HQ := Lib.hid hq
          clear hq HX HV HL
          cases x with
          | false =>
            go_wp2
            go_ret
            exact ⟨ret_int (by rw [HQ.out]; simp), hB⟩
          | true =>
            by_cases hL : 0 < L
            · have hd : decide ((0 : Int) < L) = true := decide_eq_true hL
              go_wp2
              go_ret
              exact ⟨ret_int (by rw [HQ.out]; simp [hL]), hB⟩
            · have hd : decide ((0 : Int) < L) = false := decide_eq_false hL
              have hL0 : L = 0 := by omega
              subst hL0
              go_wp2
              go_ret
              exact ⟨ret_int (by rw [HQ.out]; simp), hB⟩
set_option maxRecDepth 100000 in
set_option maxHeartbeats 4000000 in
theorem rspread_txt (s : ByteArray) (n : Nat) (hn0 : 1 ≤ n) (hn1 : n ≤ 1000000) (w : World) (hs : s.size ≤ 200) :
    Calls Try.prog 25 #[.agg #[.int .i64 2, .int .i64 0, .string s], .int .i64 (n : Int)] w fun e w' => e = .returned (.int .i64 (wsum s.data.toList % (n : Int))) ∧ Below w.heap.size w w' := by
  have h0 : (-9223372036854775808 : Int) ≤ 0 := by decide
  have h1 : (0 : Int) ≤ 9223372036854775807 := by decide
  obtain ⟨l, hl⟩ : ∃ l, l = s.data.toList := ⟨_, rfl⟩
  have hll : l.length = s.size := by rw [hl, Lib.size_eq]
  have hget : ∀ i (h : i < s.size) (h' : i < l.length), l[i] = s[i] := by subst hl; exact fun i h _ => by rw [Array.getElem_toList]; rfl
  rw [← hl]
  have HLL := Lib.hid hll
  have HGET := Lib.hid hget
  clear hl hll hget
  go_enter Try.func25, Try.ntmps25
  go_wp2_with fail
  refine (of_any 0 _ h0 h1).mono ?_
  rintro e w1 ⟨x0, a0, m0, c0, rfl, hnum, hb1, hfr⟩
  obtain ⟨hc1, hf1⟩ := bcell hb1
  have hz1 := hb1.size
  simp at hz1
  have b0 : w1.cell? ⟨w.heap.size, 0, none⟩ = some (.int .i64 2) := (hc1 w.heap.size 0 (by simp)).trans (by go_simp)
  have b2 : w1.cell? ⟨w.heap.size, 2, none⟩ = some (.string s) := (hc1 w.heap.size 2 (by simp)).trans (by go_simp)
  clear hc1 hf1
  go_wp2
  go_loopw [6] (fun i wr => ∃ (j : Nat) (x : Bool) (a : Option Addr) (m c : Nat), j ≤ s.size ∧ i = .int .i64 (j : Int) ∧ wr.heap[w1.heap.size]? = some (.cells #[.bool x, .slice a m c] 81) ∧ NumP wr x a m c (wsum (l.take j)) ∧ Below w1.heap.size w1 wr) (fun i _ => s.size - (intOf i).toNat)
  case atStart => exact ⟨0, x0, a0, m0, c0, Nat.zero_le _, rfl, (MapKept.heap_alloc w1 _).1, by simpa [wsum] using hnum.below ((Below.refl _ _).alloc (Nat.le_refl _) _), (Below.refl _ _).alloc (Nat.le_refl _) _⟩
  case round =>
    obtain ⟨j, x, a, m, c, hj, rfl, hsb, hP0, hbel⟩ := hrel
    have hszr := blk_lt hsb
    have b0' := (hbel.cell (p := ⟨w.heap.size, 0, none⟩) (by show w.heap.size < _; omega)).trans b0
    have b2' := (hbel.cell (p := ⟨w.heap.size, 2, none⟩) (by show w.heap.size < _; omega)).trans b2
    have hbelF : Below w.heap.size w wr := Below.thenB (Below.thenB ((Below.refl _ _).alloc (Nat.le_refl _) _) (by simp) hb1) (by omega) hbel
    have hwb0 := wsum_nonneg (l.take j)
    have hwb1 := wsum_le (l.take j)
    have htl : (l.take j).length ≤ 200 := by rw [List.length_take, HLL.out]; omega
    have hwb2 : wsum (l.take j) ≤ 10302255 := by
      refine Int.le_trans hwb1 ?_
      have : 255 * (((l.take j).length : Int) + 1) ≤ 255 * 201 := by omega
      exact Int.le_trans (Int.mul_le_mul this (by omega : ((l.take j).length : Int) + 1 ≤ 201) (by omega) (by omega)) (by decide)
    clear hwb1 htl
    have hmm := num_len hP0 30 (by rw [pw30]; omega)
    obtain ⟨s0, s1, s2, s3⟩ := num_has hsb
    by_cases hlt : j < s.size
    · have hd : decide ((j : Int) < (s.size : Int)) = true := decide_eq_true (by omega)
      have hg := HGET.out j hlt (by rw [HLL.out]; exact hlt)
      have hts : wsum (l.take (j + 1)) = wsum (l.take j) + ((j : Int) + 1) * (s[j].toNat : Int) := by
        rw [List.take_succ_eq_append_getElem (by rw [HLL.out]; exact hlt), wsum_snoc, hg, List.length_take, Nat.min_eq_left (by rw [HLL.out]; exact hj)]
      have hc1 : (s[j].toNat : Int) ≤ 255 := by have := s[j].toNat_lt; omega
      have hp0 : 0 ≤ ((j : Int) + 1) * (s[j].toNat : Int) := Int.mul_nonneg (by omega) (by omega)
      have hp1 : ((j : Int) + 1) * (s[j].toNat : Int) ≤ 200 * 255 := Int.mul_le_mul (by omega) hc1 (by omega) (by omega)
      have hw1 : IntKind.i64.wrap ((j : Int) + 1) = (j : Int) + 1 := by simp [IntKind.wrap, IntKind.bits, IntKind.signed]; omega
      have hw2 : IntKind.i64.wrap (((j : Int) + 1) * (s[j].toNat : Int)) = ((j : Int) + 1) * (s[j].toNat : Int) := by simp [IntKind.wrap, IntKind.bits, IntKind.signed]; omega
      have hw3 : IntKind.i64.wrap (s[j].toNat : Int) = (s[j].toNat : Int) := by simp [IntKind.wrap, IntKind.bits, IntKind.signed]; omega
      have HT := Lib.hid hts
      clear hts hg
      generalize hVV : wsum (l.take j) = V at *
      generalize hPP : ((j : Int) + 1) * (s[j].toNat : Int) = P at *
      clear hVV
      go_wp2
      go_region_with
        (first
          | (go_at_call 50; refine (of_any P _ (by omega) (by omega)).mono ?_; rintro e w2 ⟨x3, a3, n3, c3, rfl, hnum3, hb2, hfr2⟩; obtain ⟨hc2, hf2⟩ := bcell hb2; have sb2 := (hb2.block w1.heap.size (by exact hszr)).trans (by exact hsb); obtain ⟨t0, t1, t2, t3⟩ := num_has sb2; have hP2 := (NumP.drew hP0).below hb2; have hn3 := num_len hnum3 30 (by rw [pw30]; omega); have z0 := (hc2 w.heap.size 2 (by show w.heap.size < wr.heap.size; omega)).trans b2'; clear hc2 hf2)
          | (go_at_call 51; refine (plus_num x x3 a a3 m c n3 c3 _ _ _ hP2 hnum3 (by omega) (by omega)).mono ?_; rintro e w4 ⟨x5, a5, n5, c5, rfl, hnum5, hb4, hfr4⟩; have sb4 := (hb4.block w1.heap.size (blk_lt sb2)).trans sb2; obtain ⟨g0, g1, g2, g3⟩ := num_has sb4))
      all_goals
        obtain ⟨r1, r2⟩ := num_set sb4 hnum5
        have hz24 := hb2.size
        have hF : Below w1.heap.size w1 w4 := Below.thenB (Below.thenB (hbel.drew) (by show w1.heap.size ≤ wr.heap.size; omega) hb2) (by have : wr.heap.size ≤ w2.heap.size := hb2.size; omega) hb4
        go_wp2
        go_roundw
        case rel => exact ⟨j + 1, x5, a5, n5, c5, by omega, by go_num, r2, by rw [HT.out]; exact r1, (hF.setCell (Nat.le_refl _) _).setCell (Nat.le_refl _) _⟩
        case measure => simp [intOf]; omega
    · have hd : decide ((j : Int) < (s.size : Int)) = false := decide_eq_false (by omega)
      have hkm : l.take j = l := List.take_of_length_le (by rw [HLL.out]; omega)
      rw [hkm] at hP0
      have hP := hP0
      clear hP0 hkm
      obtain ⟨hx, ds, hl, hc, hz, hcn, hv⟩ := hP
      have hdd := dval_nonneg hcn.1
      have HX := Lib.hid hx
      have HV := Lib.hid hv
      have HL := Lib.hid hl
      clear hx hv hl
      go_wp2
      go_loopw [7, 8] (fun lv iv wr' => ∃ j : Nat, j ≤ m ∧ iv = .int .i64 ((j : Int) - 1) ∧ lv = .int .i64 (dval (ds.drop j) % (n : Int)) ∧ wr' = wr) (fun _ iv _ => (intOf iv + 1).toNat)
      case atStart => exact ⟨m, Nat.le_refl _, rfl, by rw [List.drop_eq_nil_of_le (by rw [HL.out]; exact Nat.le_refl _)]; simp [dval], rfl⟩
      case round =>
        obtain ⟨j', hj', rfl, rfl, rfl⟩ := hrel
        have hm0 := Int.emod_nonneg (dval (ds.drop j')) (b := (n : Int)) (by omega)
        have hm1 := Int.emod_lt_of_pos (dval (ds.drop j')) (b := (n : Int)) (by omega)
        by_cases hlt2 : 0 < j'
        · obtain ⟨k', rfl⟩ : ∃ k', j' = k' + 1 := ⟨j' - 1, by omega⟩
          have ek : ((k' + 1 : Nat) : Int) - 1 = (k' : Int) := by omega
          rw [ek]
          clear ek
          have hge : decide ((0 : Int) ≤ (k' : Int)) = true := decide_eq_true (by omega)
          have hkl : k' < ds.length := by rw [HL.out]; omega
          rcases hz with hz | ⟨hne, b, o, rfl, hb, hz⟩
          · rw [hz] at hkl; simp at hkl
          have hzk := hz k' hkl
          clear hz
          have hdg := hcn.1 (ds.getD k' 0) (by rw [List.getD_eq_getElem?_getD, List.getElem?_eq_getElem hkl]; simp)
          have hdv := drop_getD ds k' hkl
          generalize ds.getD k' 0 = d at *
          obtain ⟨hd0, hd1⟩ := hdg
          obtain ⟨M, hM⟩ : ∃ M, M = dval (ds.drop (k' + 1)) % (n : Int) := ⟨_, rfl⟩
          rw [← hM] at hm0 hm1 ⊢
          have hfin : (10 * M + d) % (n : Int) = dval (ds.drop k') % (n : Int) := by
            rw [hdv, hM, Int.add_comm d, Int.add_emod (10 * (_ % _)), Int.mul_emod, Int.emod_emod, ← Int.mul_emod, ← Int.add_emod]
          have hfb0 := Int.emod_nonneg (dval (ds.drop k')) (b := (n : Int)) (by omega)
          have hfb1 := Int.emod_lt_of_pos (dval (ds.drop k')) (b := (n : Int)) (by omega)
          have HF := Lib.hid hfin
          clear hdv hM hfin hkl
          have hk'm : k' < m := by omega
          go_wp2
          go_roundw
          case rel => exact ⟨k', by omega, rfl, by rw [HF.out], trivial⟩
          case measure => simp [intOf] <;> omega
        · obtain rfl : j' = 0 := by omega
          have hge : decide ((0 : Int) ≤ ((0 : Nat) : Int) - 1) = false := by simp
          clear hlt2
          have hB : Below w.heap.size w wr := hbelF
          have hq : (wsum l) % (n : Int) = if x = true then (if 0 < dval (ds.drop 0) % (n : Int) then n - dval (ds.drop 0) % (n : Int) else 0) else dval (ds.drop 0) % (n : Int) := by
            rw [List.drop_zero, HV.out]
            by_cases hneg : (wsum l) < 0
            · have hx1 : x = true := by rw [HX.out]; exact decide_eq_true hneg
              have hnab : (wsum l) = -(((wsum l).natAbs : Int)) := by omega
              rw [if_pos hx1, ← neg_emod' _ _ (by omega), ← hnab]
            · have hx1 : x = false := by rw [HX.out]; exact decide_eq_false hneg
              have hnab : ((wsum l).natAbs : Int) = (wsum l) := by omega
              rw [if_neg (by rw [hx1]; decide), hnab]
          generalize dval (ds.drop 0) % (n : Int) = L at *
          have HQ := Lib.hid hq
          clear hq HX HV HL
          cases x with
          | false =>
            go_wp2
            go_ret
            exact ⟨ret_int (by rw [HQ.out]; simp), hB⟩
          | true =>
            by_cases hL : 0 < L
            · have hd : decide ((0 : Int) < L) = true := decide_eq_true hL
              go_wp2
              go_ret
              exact ⟨ret_int (by rw [HQ.out]; simp [hL]), hB⟩
            · have hd : decide ((0 : Int) < L) = false := decide_eq_false hL
              have hL0 : L = 0 := by omega
              subst hL0
              go_wp2
              go_ret
              exact ⟨ret_int (by rw [HQ.out]; simp), hB⟩
theorem rspread_any (v : Val) (hv : vright v = true) (hb : -9223372036854775808 ≤ v.2.1 ∧ v.2.1 ≤ 9223372036854775807) (n : Nat) (hn0 : 1 ≤ n) (hn1 : n ≤ 1000000) (w : World) :
    Calls Try.prog 25 #[vagg v, .int .i64 (n : Int)] w fun e w' => e = .returned (.int .i64 (vsum v % (n : Int))) ∧ Below w.heap.size w w' := by
  obtain ⟨k, m, s⟩ := v
  obtain ⟨h0, h1⟩ := hb
  rcases right_kinds hv with ⟨h, h'⟩ | ⟨h, h', h''⟩ | ⟨h, h', h''⟩
  · simp only [] at h; subst h; exact rspread_num 1 m s n hn0 hn1 w (by decide) h0 h1
  · simp only [] at h h' h''; subst h h'; exact rspread_txt s n hn0 hn1 w h''
  · simp only [] at h; subst h; exact rspread_num 3 m s n hn0 hn1 w (by decide) h0 h1
end Go.Proofs.Ytapnkbamilkpoaa
