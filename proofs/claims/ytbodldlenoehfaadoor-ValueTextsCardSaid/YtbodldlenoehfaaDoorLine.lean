/- Contract of Line. -/
import Derived.Test.YtbodldlenoehfaaDoorLawVBack
import Derived.Laws.MakeOwn
import Derived.Laws.Entries
import Derived.Lib.Join
import Derived.Deep.OwnRows
import Derived.Test.YtbodldlenoehfaaDoorRowsC
namespace Go.Proofs.YtbodldlenoehfaaDoor
open Go.RowKit
def line (ps : List (List UInt8)) : List UInt8 := Lib.join ps [44, 32]
theorem line_nil : line [] = [] := rfl
theorem line_one (p : List UInt8) : line [p] = p := by simp [line, Lib.join, List.intercalate]
theorem line_cons (p q : List UInt8) (r : List (List UInt8)) : line (p :: q :: r) = p ++ [44, 32] ++ line (q :: r) := by simp [line, Lib.join, List.intercalate]
theorem line_snoc : ∀ (ps : List (List UInt8)) (p : List UInt8), line (ps ++ [p]) = if ps = [] then p else line ps ++ [44, 32] ++ p
  | [], p => by rw [if_pos rfl]; exact line_one p
  | [x], p => by
    rw [if_neg (by simp)]
    show line [x, p] = _
    rw [line_cons, line_one, line_one]
  | x :: y :: r, p => by
    rw [if_neg (by simp)]
    have ih := line_snoc (y :: r) p
    rw [if_neg (by simp)] at ih
    show line (x :: y :: (r ++ [p])) = _
    rw [line_cons, line_cons]
    have e : (y :: (r ++ [p])) = (y :: r) ++ [p] := rfl
    rw [e, ih]
    simp
theorem line_len {ps : List (List UInt8)} {N : Nat} (h : ∀ p ∈ ps, p.length ≤ N) : (line ps).length ≤ ps.length * (N + 2) := by
  induction ps with
  | nil => simp [line_nil]
  | cons p r ih =>
    have h1 := h p (by simp)
    have h2 := ih (fun q hq => h q (List.mem_cons_of_mem _ hq))
    cases r with
    | nil => rw [line_one]; simp; omega
    | cons q r =>
      rw [line_cons, List.length_append, List.length_append, show (p :: q :: r).length = (q :: r).length + 1 from rfl, Nat.succ_mul]
      generalize (q :: r).length * (N + 2) = M at *
      generalize (line (q :: r)).length = K at *
      simp
      omega
theorem printOf_len (v : Val) (h0 : -9223372036854775808 ≤ v.2.1) (h1 : v.2.1 ≤ 9223372036854775807) : (printOf v).length ≤ 500 := by
  unfold printOf
  cases hr : vright v with
  | true => rw [if_pos rfl]; exact vprint_len v hr h0 h1
  | false => simp
def bprint (v : Val) : ByteArray := ⟨(printOf v).toArray⟩
theorem info_str : (Tryd.prog.info? 9).map (fun i => (i.zero, i.size, i.bytes)) = some (some (.string ⟨#[]⟩), 1, 16) := by kernel_rfl
theorem run_make_rowN {P : Program} (t e : TypeId) (i : TypeInfo) (z : Value) (ht : P.underlying t = some (.slice e)) (hi : P.info? e = some i) (hz : i.zero = some z)
    (kl kc : IntKind) (n c : Nat) (hnc : n ≤ c) (hbytes : i.bytes * c ≤ 281474976710656) (h63 : c ≤ 9223372036854775807) (w : World) :
    (Instr.makeSlice t (.int kl (n : Int)) (.int kc (c : Int))).run P w = .ok (.slice (some ⟨w.heap.size, 0, none⟩) n c) (w.alloc (.cells (madeCells z.cells (c * i.size)) e)) := by
  have hb : (i.bytes : Int) * (c : Int) ≤ 281474976710656 := by
    have h : ((i.bytes * c : Nat) : Int) ≤ 281474976710656 := by omega
    rwa [Int.natCast_mul] at h
  have hr := run_make (P := P) w t e i z ht hi hz kl kc n c (by omega) (by omega) hb (by omega)
  simp only [Int.toNat_natCast] at hr
  exact hr
set_option maxRecDepth 100000 in
set_option maxHeartbeats 2000000 in
theorem line_any (a : Option Addr) (m c : Nat) (vs : List Val) (w : World) (hl : vs.length = m) (hm : m ≤ 1000) (hv : Vals w a vs) (hok : ValsOk vs) (htab : Lib.TabIs Tryd.prog w "internal/strconv.uint64pow10" .u64 Lib.pow10Tab) (hmx : IntCell w 3) :
    Calls Tryd.prog 36 #[.slice a m c] w fun e w' => e = .returned (.string ⟨(line (vs.map printOf)).toArray⟩) ∧ Below w.heap.size w w' := by
  obtain ⟨i0, hi, hz0, hz1, hz2⟩ := info_parts info_str
  have hmk := run_make_rowN (P := Tryd.prog) 86 9 i0 _ Tryd.underlying86 hi hz0 .i64 .i64 m m (Nat.le_refl _) (by rw [hz2]; omega) (by omega) w
  rw [hz1, Nat.mul_one] at hmk
  have HL := Lib.hid hl
  have HOK := Lib.hid hok
  have HT := Lib.hid htab
  have HM := Lib.hid hmx
  have HV := Lib.hid hv
  clear hl hok htab hmx hv
  go_enter Tryd.func36, Tryd.ntmps36
  go_wp2
  clear hmk
  obtain ⟨bp, hbp⟩ : ∃ bp : Nat → ByteArray, ∀ j v, vs[j]? = some v → bp j = bprint v := ⟨fun j => (vs[j]?.map bprint).getD ⟨#[]⟩, fun j v h => by simp [h]⟩
  have HBP := Lib.hid hbp
  clear hbp
  have hA : Below w.heap.size w (w.alloc (.cells (madeCells #[.string ⟨#[]⟩] m) 9)) := (Below.refl _ _).alloc (Nat.le_refl _) _
  go_loopw [11] (fun i wr => ∃ k : Nat, k ≤ m ∧ i = .int .i64 (k : Int) ∧ wr.rowIs w.heap.size 9 m (fun j => if j < k then .string (bp j) else .string ⟨#[]⟩) ∧ Below w.heap.size w wr) (fun i _ => m - (intOf i).toNat)
  case atStart => exact ⟨0, Nat.zero_le _, rfl, (World.rowIs_made w (.string ⟨#[]⟩) m 9).congr (fun i _ => by simp), hA⟩
  case round =>
    obtain ⟨k, hk, rfl, hrow, hbel⟩ := hrel
    have hszr := hbel.size
    have hBl := hrow.lt
    by_cases hlt : k < m
    · have hlt' : decide ((k : Int) < (m : Int)) = true := decide_eq_true (by omega)
      obtain ⟨b, o, v, rfl, hb, hvk, c0, c1, c2⟩ := Vals.at3 HV.out HL.out hlt hbel
      have hmem := HOK.out v (List.mem_of_getElem? hvk)
      obtain ⟨_, ⟨hn0, hn1⟩, _⟩ := hmem
      have hbk := HBP.out k v hvk
      have HBK := Lib.hid hbk
      have hC : Below wr.heap.size wr (wr.alloc (.cells #[.int .i64 v.1, .int .i64 v.2.1, .string v.2.2] 34)) := (Below.refl _ _).alloc (Nat.le_refl _) _
      have HRW := Lib.hid hrow
      clear hvk hbk hrow
      go_wp2_with fail
      refine (vprint_any v hn0 hn1 _ (tab_below (tab_below HT.out hbel) hC) ((HM.out.below hbel).below hC)).mono ?_
      rintro e w1 ⟨rfl, hb1⟩
      have hz1 := hb1.size
      simp at hz1
      have hrow1 := (HRW.out.alloc (.cells #[.int .i64 v.1, .int .i64 v.2.1, .string v.2.2] 34)).of_block (hb1.block w.heap.size (by simp; omega))
      have s0 := hrow1.cell hlt
      have s1 := hrow1.frozen k
      simp only [Nat.lt_irrefl, if_false] at s0
      have HR1 := Lib.hid hrow1
      have hB1 : Below w.heap.size w w1 := Below.thenB (hbel.alloc hszr _) (by simp; omega) hb1
      clear hrow1
      go_wp2
      go_roundw
      case rel =>
        refine ⟨k + 1, by omega, by go_num, ?_, hB1.setCell (Nat.le_refl _) _⟩
        refine (HR1.out.set k (.string ⟨(printOf v).toArray⟩)).congr (fun j _ => ?_)
        by_cases hj : j = k
        · subst hj
          rw [if_pos rfl, if_pos (by omega), HBK.out]; rfl
        · rw [if_neg hj]
          by_cases hj2 : j < k
          · rw [if_pos hj2, if_pos (by omega)]
          · rw [if_neg hj2, if_neg (by omega)]
      case measure => simp [intOf]; omega
    · have hlt' : decide ((k : Int) < (m : Int)) = false := decide_eq_false (by omega)
      obtain rfl : k = m := by omega
      have hxs : (vs.map bprint).length = k := by rw [List.length_map]; exact HL.out
      have hdat : (vs.map bprint).map (·.data.toList) = vs.map printOf := by rw [List.map_map]; rfl
      have hlen : (line (vs.map printOf)).length ≤ 502000 := by
        have h1 := line_len (ps := vs.map printOf) (N := 500) (fun p hp => by
          obtain ⟨v, hv, rfl⟩ := List.mem_map.1 hp
          obtain ⟨_, ⟨hn0, hn1⟩, _⟩ := HOK.out v hv
          exact printOf_len v hn0 hn1)
        rw [List.length_map, HL.out] at h1
        have : k * (500 + 2) ≤ 1000 * 502 := Nat.mul_le_mul hm (Nat.le_refl _)
        omega
      have hcl : ∀ (j : Nat) x, (vs.map bprint)[j]? = some x → wr.cell? ⟨w.heap.size, 0 + j, none⟩ = some (.string x) := by
        intro j x hx
        rw [Nat.zero_add]
        rw [List.getElem?_map] at hx
        obtain ⟨v, hv, rfl⟩ := Option.map_eq_some_iff.1 hx
        have hjm : j < k := by rw [← HL.out]; exact (List.getElem?_eq_some_iff.1 hv).1
        have := hrow.cell hjm
        rw [if_pos hjm, HBP.out j v hv] at this
        exact this
      have HX := Lib.hid hxs
      have HD := Lib.hid hdat
      have HCL := Lib.hid hcl
      clear hxs hdat hcl hrow
      go_wp2_with fail
      have hj := Tryd.strings_Join w.heap.size 0 k (vs.map bprint) ⟨#[44, 32]⟩ wr HCL.out hBl (by rw [HX.out]; omega) (by rw [HX.out]; exact Nat.le_refl _) (by rw [HD.out]; show (line (vs.map printOf)).length ≤ _; omega)
      rw [HX.out, HD.out] at hj
      refine hj.mono ?_
      rintro e w1 ⟨rfl, hb1⟩
      clear hj
      go_wp2
      go_ret
      exact ⟨rfl, Below.thenB hbel hszr hb1⟩
end Go.Proofs.YtbodldlenoehfaaDoor
